import Derived.Test.YtkdigjpejnebkaaGreatGP25
import Derived.Lib.Repeat
import Derived.Test.YtkdigjpejnebkaaGreatGP20
import Derived.Test.YtkdigjpejnebkaaGreatGP06
import Derived.Deep.RegionLaw
import Derived.Test.YtkdigjpejnebkaaGreatGP01
set_option linter.unusedVariables false
set_option maxRecDepth 100000
set_option linter.unusedSimpArgs false
namespace Go.Proofs.YtkdigjpejnebkaaGreat
namespace LW
open Go.RowKit Go.WideMaps Go.Maps
open W (hideC)
theorem row_grown {w w' : World} {base : Nat} {e : TypeId} {size : Nat} {v : Value} {n : Nat} {xs : List Value} (h : w.ownsRow base e size v n xs) (hb : Below w.heap.size w w') : w'.ownsRow base e size v n xs := by
 refine ⟨h.1,?_⟩
 rcases h.2 with h2 | ⟨g,cap,cur,hv,hbg,hg,rest⟩
 · exact .inl h2
 · exact .inr ⟨g,cap,cur,hv,hbg,(hb.block g (B.isLt hg)).trans hg,rest⟩
set_option maxHeartbeats 6000000 in
theorem gather_any (all : List LM.Li) (m : Nat) (D : DataW Value) (w : World) (hg : Gi all m D w) : Calls Tryz.prog 100 #[LM.imgV (LM.liAt all 0),.map (some m)] w (OutG all (LM.gat all all.length 0 [0]) w) := by
 have HG := hideC hg
 have hpos := hg.pos
 have hfew := hg.few
 clear hg
 obtain ⟨R,hR⟩ : ∃ R,R = LM.gat all all.length 0 [0] := ⟨_,rfl⟩
 have HR := hideC hR
 rw [<- hR]
 clear hR
 have HX0 : Hid (LM.OkIx all [0]) := ⟨by simp,by simp,fun j hj => by simp at hj;omega⟩
 have HO0 : Hid ((LM.obsFrom all 1 [0]).flatMap LM.cellO = LM.cellO ⟨(LM.liAt all 0).i,(LM.liAt all 0).a,1⟩) := by
  show _ = _
  simp [LM.obsFrom]
 obtain ⟨x,hx⟩ : ∃ x,x = LM.liAt all 0 := ⟨_,rfl⟩
 rw [<- hx] at HO0
 rw [<- hx]
 clear hx
 obtain ⟨⟨nm,ns,gs,ys,rs,en⟩,⟨an,cn,ag,cg,ay,cy,ar,cr⟩⟩ := x
 simp only [LM.imgV,M.cellsI]
 simp only at HO0
 have HB0 := hideC ((Below.refl w.heap.size w).alloc (Nat.le_refl _) (.cells #[.string nm,.slice an ns.length cn,.slice ag gs.length cg,.slice ay ys.length cy,.slice ar rs.length cr,.int .i64 en] 135))
 have HB1 := hideC (HB0.out.alloc HB0.out.size (.cells #[.string nm,.slice an ns.length cn,.slice ag gs.length cg,.slice ay ys.length cy,.slice ar rs.length cr,.int .i64 en,.int .i64 1] 178))
 have HOW0 : Hid (((w.alloc (.cells #[.string nm,.slice an ns.length cn,.slice ag gs.length cg,.slice ay ys.length cy,.slice ar rs.length cr,.int .i64 en] 135)).alloc (.cells #[.string nm,.slice an ns.length cn,.slice ag gs.length cg,.slice ay ys.length cy,.slice ar rs.length cr,.int .i64 en,.int .i64 1] 178)).ownsRow (w.heap.size + 1) 178 7 (.slice (some ⟨w.heap.size + 1,0,none⟩) 1 1) 1 ((LM.obsFrom all 1 [0]).flatMap LM.cellO)) := by
  show World.ownsRow _ _ _ _ _ _ _
  rw [HO0.out]
  have h := World.ownsRow_lit (base := w.heap.size + 1) (e := 178) (size := 7) (w.alloc (.cells #[.string nm,.slice an ns.length cn,.slice ag gs.length cg,.slice ay ys.length cy,.slice ar rs.length cr,.int .i64 en] 135)) #[.string nm,.slice an ns.length cn,.slice ag gs.length cg,.slice ay ys.length cy,.slice ar rs.length cr,.int .i64 en,.int .i64 1] 1 (by simp) (by unfold maxLen;omega) rfl
  rw [show (w.alloc (.cells #[.string nm,.slice an ns.length cn,.slice ag gs.length cg,.slice ay ys.length cy,.slice ar rs.length cr,.int .i64 en] 135)).heap.size = w.heap.size + 1 by simp] at h
  exact h
 clear HO0
 obtain ⟨i0,hi,hz0,hz1,hz2⟩ := info_parts infoOb
 go_enter Tryz.func100,Tryz.ntmps100
 go_wp2
 go_loopw [7,6] (fun nx v wr => ∃ (n : Nat) (ix : List Nat),nx = .int .i64 n /\ LM.OkIx all ix /\ n <= ix.length /\ LM.gat all (all.length - n) n ix = R /\ wr.ownsRow (w.heap.size + 1) 178 7 v ix.length ((LM.obsFrom all 1 ix).flatMap LM.cellO) /\ Below w.heap.size w wr) (fun nx _ _ => all.length - (intOf nx).toNat)
 case atStart => exact ⟨0,[0],rfl,HX0.out,by simp,HR.out.symm,HOW0.out,HB1.out⟩
 case round =>
  obtain ⟨n,ix,rfl,hx,hnx,hgt,hown,hb⟩ := hrel
  have HX := hideC hx
  have HGT := hideC hgt
  have HOW := hideC hown
  have HBr := hideC hb
  have hle := hx.le
  have hps := hx.pos
  have HGr := hideC (HG.out.below hb)
  obtain ⟨g,cap,hv,hbg,hgl,hnc,hlie⟩ := row_ob (by rw [LM.obsFrom_length];exact hown) (by rw [LM.obsFrom_length];exact hps) (HGr.out.ims hx 1)
  rw [LM.obsFrom_length] at hv hnc
  subst hv
  by_cases hlt : n < ix.length
  · have hat := LM.obsFrom_at all ix 1 n hlt
    have hjl := hx.lt _ (LM.getD_mem ix n hlt)
    obtain ⟨⟨_,c1,_,_,_,_,_⟩,-⟩ := hlie n (by rw [LM.obsFrom_length];exact hlt)
    rw [hat.1,hat.2.1,Nat.zero_add] at c1
    have HFI := hideC (HG.out.fit _ hjl)
    have HIM := hideC (HG.out.im _ hjl).needs
    obtain ⟨f,hf⟩ : ∃ f,all.length - n = f + 1 := ⟨all.length - n - 1,by omega⟩
    have HF : Hid (all.length - (n + 1) = f) := by show _ = _;omega
    rw [hf] at HGT
    have HSOME : Hid (∀ ix',LM.ordTo all ix (LM.liAt all (ix.getD n 0)).i.needs (LM.liAt all (ix.getD n 0)).i.needs.length = some ix' -> LM.gat all f (n + 1) ix' = R) := fun ix' h => by
     rw [<- HGT.out]
     exact (LM.gat_some all f n ix ix' hlt h).symm
    have HNONE : Hid (LM.ordTo all ix (LM.liAt all (ix.getD n 0)).i.needs (LM.liAt all (ix.getD n 0)).i.needs.length = none -> R = none) := fun h => by
     rw [<- HGT.out]
     exact LM.gat_none all f n ix hlt h
    obtain ⟨q,hq⟩ : ∃ q,q = LM.liAt all (ix.getD n 0) := ⟨_,rfl⟩
    rw [<- hq] at c1 HFI HIM HSOME HNONE
    clear hq hat hjl hf hlie hgt hown hb hx
    obtain ⟨⟨nmq,nd,gsq,ysq,rsq,enq⟩,⟨anq,cnq,agq,cgq,ayq,cyq,arq,crq⟩⟩ := q
    simp only at c1 HSOME HNONE HIM
    have hnd : nd.length <= 140737488351232 := HFI.out.needs
    have HND : Hid (∀ k,k < nd.length -> M.Short (M.strAt nd k).size) := HFI.out.need
    clear HFI
    go_wp2
    go_loopw [28,6] (fun kx v wi => ∃ (k : Nat) (ix' : List Nat),kx = .int .i64 k /\ k <= nd.length /\ LM.ordTo all ix nd k = some ix' /\ LM.OkIx all ix' /\ ix.length <= ix'.length /\ wi.ownsRow (w.heap.size + 1) 178 7 v ix'.length ((LM.obsFrom all 1 ix').flatMap LM.cellO) /\ Below w.heap.size w wi) (fun kx _ _ => nd.length - (intOf kx).toNat)
    case atStart => exact ⟨0,ix,rfl,by omega,rfl,HX.out,Nat.le_refl _,HOW.out,HBr.out⟩
    case round =>
     obtain ⟨k,jx,rfl,hk,hord,hox,hlx,hown,hb⟩ := hrel
     have HORD := hideC hord
     have HOX := hideC hox
     have HOWi := hideC hown
     have HBi := hideC hb
     have hsz := hb.size
     have HGi := hideC (HG.out.below hb)
     have hle2 := hox.le
     have hps2 := hox.pos
     obtain ⟨g2,cap2,hv2,hbg2,hgl2,hnc2,hlie2⟩ := row_ob (by rw [LM.obsFrom_length];exact hown) (by rw [LM.obsFrom_length];exact hps2) (HGi.out.ims hox 1)
     rw [LM.obsFrom_length] at hv2 hnc2
     subst hv2
     have HLIE2 := hideC hlie2
     clear hord hown hox hlie2
     by_cases hkl : k < nd.length
     · obtain ⟨bn,offn,han,hbnl,hlien⟩ := HIM.out (by omega)
       subst han
       have cs := M.lieS hb hbnl hlien k hkl
       have hss := HND.out k hkl
       obtain ⟨s,hse⟩ : ∃ s,s = M.strAt nd k := ⟨_,rfl⟩
       rw [<- hse] at cs hss
       have HSE := hideC hse
       clear hse hb hlien
       have HBA := hideC (HBi.out.alloc HBi.out.size (.cells #[.string s] 9))
       have hba1 := hideC ((Below.refl wr.heap.size wr).alloc (Nat.le_refl _) (.cells #[.string s] 9))
       obtain ⟨x,hrun,hxv⟩ := (HGi.out.below hba1.out).look hss
       cases e : LM.ixOf all s with
       | none =>
        rw [e] at hrun hxv
        simp only at hxv
        subst hxv
        have HRN : Hid (R = none) := HNONE.out (LM.ordTo_none (LM.ordTo_miss HORD.out (by rw [<- HSE.out];exact e)) nd.length (by omega))
        simp only [Option.isSome_none,LM.zImg] at hrun
        clear e
        go_wp2
        go_ret2
        show OutG all R w _ _
        rw [HRN.out]
        exact ⟨HBA.out.alloc HBA.out.size _,rfl⟩
       | some j =>
        rw [e] at hrun hxv
        simp only at hxv
        subst hxv
        simp only [Option.isSome_some] at hrun
        have HSTEP : Hid (LM.ordTo all ix nd (k + 1) = some (LM.addIx jx j)) := LM.ordTo_step HORD.out (by rw [<- HSE.out];exact e)
        obtain ⟨hjl,-⟩ := LM.ixOf_some e
        have HOXA := hideC (HOX.out.add hjl)
        have HHN := hideC (has_iff HG.out.once HOX.out.lt e 1)
        have HSN : Hid (LM.obsFrom all 1 (jx ++ [j]) = LM.obsFrom all 1 jx ++ [⟨(LM.liAt all j).i,(LM.liAt all j).a,LM.endFrom all 1 jx⟩]) := LM.obsFrom_snoc all j jx 1
        obtain ⟨y,hy⟩ : ∃ y,y = LM.liAt all j := ⟨_,rfl⟩
        rw [<- hy] at hrun HSN
        clear hy e
        obtain ⟨⟨nm2,ns2,gs2,ys2,rs2,en2⟩,⟨an2,cn2,ag2,cg2,ay2,cy2,ar2,cr2⟩⟩ := y
        simp only [LM.imgV,M.cellsI] at hrun
        simp only at HSN
        have HB2 := hideC (HBA.out.alloc HBA.out.size (.cells #[.string nm2,.slice an2 ns2.length cn2,.slice ag2 gs2.length cg2,.slice ay2 ys2.length cy2,.slice ar2 rs2.length cr2,.int .i64 en2] 135))
        have hba2 := hideC (hba1.out.alloc (by simp) (.cells #[.string nm2,.slice an2 ns2.length cn2,.slice ag2 gs2.length cg2,.slice ay2 ys2.length cy2,.slice ar2 rs2.length cr2,.int .i64 en2] 135))
        have HCT : Hid (Calls Tryz.prog 116 #[.slice (some ⟨g2,0,none⟩) jx.length cap2,.func (.func 117) #[] #[.pointer (some ⟨wr.heap.size,0,none⟩)]] ((wr.alloc (.cells #[.string s] 9)).alloc (.cells #[.string nm2,.slice an2 ns2.length cn2,.slice ag2 gs2.length cg2,.slice ay2 ys2.length cy2,.slice ar2 rs2.length cr2,.int .i64 en2] 135)) fun e w' => e = .returned (.bool (jx.contains j)) /\ Below ((wr.alloc (.cells #[.string s] 9)).alloc (.cells #[.string nm2,.slice an2 ns2.length cn2,.slice ag2 gs2.length cg2,.slice ay2 ys2.length cy2,.slice ar2 rs2.length cr2,.int .i64 en2] 135)).heap.size ((wr.alloc (.cells #[.string s] 9)).alloc (.cells #[.string nm2,.slice an2 ns2.length cn2,.slice ag2 gs2.length cg2,.slice ay2 ys2.length cy2,.slice ar2 rs2.length cr2,.int .i64 en2] 135)) w') := by
         have h := contains_any (LM.obsFrom all 1 jx) (some ⟨g2,0,none⟩) cap2 wr.heap.size s ((wr.alloc (.cells #[.string s] 9)).alloc (.cells #[.string nm2,.slice an2 ns2.length cn2,.slice ag2 gs2.length cg2,.slice ay2 ys2.length cy2,.slice ar2 rs2.length cr2,.int .i64 en2] 135)) (fun _ => ⟨g2,0,rfl,Nat.lt_of_lt_of_le hgl2 hba2.out.size,LM.lieO hba2.out hgl2 HLIE2.out⟩) (by unfold M.Short;rw [LM.obsFrom_length];omega) (fun k hk => by
          rw [LM.obsFrom_length] at hk
          rw [(LM.obsFrom_at all jx 1 k hk).1]
          exact (HG.out.fit _ (HOX.out.lt _ (LM.getD_mem jx k hk))).name) (B.cell (B.alloc (B.new wr #[.string s] 9) _) 0 rfl) hss
         rw [LM.obsFrom_length,HHN.out] at h
         exact h
        cases hcj : jx.contains j with
        | true =>
         rw [hcj] at HCT
         have HAE : Hid (LM.addIx jx j = jx) := by show _ = _;unfold LM.addIx;rw [if_pos hcj]
         rw [HAE.out] at HSTEP
         clear hcj
         go_wp2_with (go_at_call 116;refine HCT.out.mono ?_;rintro e w4 ⟨rfl,hb⟩;have HB4 := hideC (HB2.out.trans (hb.mono HB2.out.size));have HOW4 := hideC (row_grown HOWi.out ((hba2.out.trans (hb.mono hba2.out.size))));clear hb)
         go_roundw
         case rel => exact ⟨k + 1,jx,by go_num,by omega,HSTEP.out,HOX.out,hlx,HOW4.out,HB4.out⟩
         case measure => simp [intOf];omega
        | false =>
         rw [hcj] at HCT
         have HAE : Hid (LM.addIx jx j = jx ++ [j]) := by show _ = _;unfold LM.addIx;rw [if_neg (by rw [hcj];decide)]
         rw [HAE.out] at HSTEP HOXA
         clear hcj
         have hlast : jx.length - 1 < jx.length := by omega
         have hlast2 : jx.length - 1 < (LM.obsFrom all 1 jx).length := by rw [LM.obsFrom_length];exact hlast
         have hat2 := LM.obsFrom_at all jx 1 (jx.length - 1) hlast
         have hjo := HOX.out.lt _ (LM.getD_mem jx (jx.length - 1) hlast)
         have hbd := LM.endFrom_bounds all HG.out.chk (jx.take (jx.length - 1)) 1 (fun j hj => HOX.out.lt j (List.mem_of_mem_take hj))
         have htl : (jx.take (jx.length - 1)).length = jx.length - 1 := by rw [List.length_take];omega
         rw [htl] at hbd
         have hend := LM.obsFrom_last all jx 1 hps2
         have HCK : Hid (M.chkN (LM.obAt (LM.obsFrom all 1 jx) (jx.length - 1)).i = 0) := by show _ = _;rw [hat2.1];exact HG.out.chk _ hjo
         have hb0 : 0 <= (LM.obAt (LM.obsFrom all 1 jx) (jx.length - 1)).base /\ (LM.obAt (LM.obsFrom all 1 jx) (jx.length - 1)).base <= 100000 := by rw [hat2.2.2];omega
         have HLI := hideC (HLIE2.out (jx.length - 1) hlast2)
         rw [Nat.zero_add] at HLI
         rw [<- hend] at HSN
         obtain ⟨o,ho⟩ : ∃ o,o = LM.obAt (LM.obsFrom all 1 jx) (jx.length - 1) := ⟨_,rfl⟩
         rw [<- ho] at HCK hb0 HLI HSN
         obtain ⟨eo,heo⟩ : ∃ eo,eo = LM.endO o := ⟨_,rfl⟩
         have HCE : Hid (∀ V,M.HasIm V o.a o.i -> Calls Tryz.prog 101 #[.agg #[.string o.i.name,.slice o.a.an o.i.needs.length o.a.cn,.slice o.a.ag o.i.segs.length o.a.cg,.slice o.a.ay o.i.syms.length o.a.cy,.slice o.a.ar o.i.rels.length o.a.cr,.int .i64 o.i.entry,.int .i64 o.base]] V fun e w' => e = .returned (.int .i64 eo) /\ Below V.heap.size V w') := fun V h => by
          rw [heo]
          exact end_any o V h HCK.out hb0.1 hb0.2
         rw [<- heo] at HSN
         clear ho heo hend hat2 hjo hbd htl HCK hb0 hlast2
         have hj1 : (1 : Int) <= (jx.length : Int) := by omega
         have hj2 : 0 < jx.length := by omega
         have hwr : IntKind.i64.wrap ((jx.length : Int) - 1) = ((jx.length - 1 : Nat) : Int) := by rw [IntWalk.i64_in _ (by omega)];omega
         go_wp2_with (go_at_call 116;refine HCT.out.mono ?_;rintro e w4 ⟨rfl,hb⟩;have HB4 := hideC (HB2.out.trans (hb.mono HB2.out.size));have HBw := hideC (hba2.out.trans (hb.mono hba2.out.size));have HOW4 := hideC (row_grown HOWi.out HBw.out);have BI4 : Hid (w4.heap[wr.heap.size + 1]? = some (.cells #[.string nm2,.slice an2 ns2.length cn2,.slice ag2 gs2.length cg2,.slice ay2 ys2.length cy2,.slice ar2 rs2.length cr2,.int .i64 en2] 135 (0,0))) := (by have h := B.new (wr.alloc (.cells #[.string s] 9)) #[.string nm2,.slice an2 ns2.length cn2,.slice ag2 gs2.length cg2,.slice ay2 ys2.length cy2,.slice ar2 rs2.length cr2,.int .i64 en2] 135;rw [show (wr.alloc (.cells #[.string s] 9)).heap.size = wr.heap.size + 1 by simp] at h;exact B.below h hb (B.isLt h));have HIM4 := hideC (HLI.out.2.below HBw.out);have HL4 := HLI.out.1;clear hb)
         have hbd4 := hideC (below_drew w4)
         have hgl4 : g2 < w4.heap.size := Nat.lt_of_lt_of_le hgl2 HBw.out.size
         obtain ⟨l0,l1,l2,l3,l4,l5,l6⟩ := HL4
         have d0 := (HBw.out.cell (p := ⟨g2,_,none⟩) hgl2).trans l0
         have d1 := (HBw.out.cell (p := ⟨g2,_,none⟩) hgl2).trans l1
         have d2 := (HBw.out.cell (p := ⟨g2,_,none⟩) hgl2).trans l2
         have d3 := (HBw.out.cell (p := ⟨g2,_,none⟩) hgl2).trans l3
         have d4 := (HBw.out.cell (p := ⟨g2,_,none⟩) hgl2).trans l4
         have d5 := (HBw.out.cell (p := ⟨g2,_,none⟩) hgl2).trans l5
         have d6 := (HBw.out.cell (p := ⟨g2,_,none⟩) hgl2).trans l6
         have i0' := B.cell BI4.out 0 rfl
         have i1' := B.cell BI4.out 1 rfl
         have i2' := B.cell BI4.out 2 rfl
         have i3' := B.cell BI4.out 3 rfl
         have i4' := B.cell BI4.out 4 rfl
         have i5' := B.cell BI4.out 5 rfl
         clear l0 l1 l2 l3 l4 l5 l6
         go_region_law (first
          | (refine step_append_lies _ rfl _ _ 174 rfl (w.heap.size + 1) 178 i0 (.agg #[.string ⟨#[]⟩,.slice none 0 0,.slice none 0 0,.slice none 0 0,.slice none 0 0,.int .i64 0,.int .i64 0]) 7 128 Tryz.underlying174 hi hz0 hz1 hz2 rfl (by decide) _ _ _ rfl HOW5.out ⟨w5.heap.size,0,none⟩ 1 1 [.string nm2,.slice an2 ns2.length cn2,.slice ag2 gs2.length cg2,.slice ay2 ys2.length cy2,.slice ar2 rs2.length cr2,.int .i64 en2,.int .i64 eo] rfl rfl (B.news HN5.out) (by intro u hu;simp at hu;rcases hu with rfl | rfl | rfl | rfl | rfl | rfl | rfl <;> rfl) (by decide) (by unfold maxLen;omega) (by omega) (by have := HB5.out.size;simp;omega) (w5.heap.size + 1) (by simp) ?_;intro gg capg w6 hown6 hgrow hatt hlt6;have HOW6 := hideC hown6;have HB6 := hideC ((HB5.out.alloc HB5.out.size (.cells #[.string nm2,.slice an2 ns2.length cn2,.slice ag2 gs2.length cg2,.slice ay2 ys2.length cy2,.slice ar2 rs2.length cr2,.int .i64 en2,.int .i64 eo] 178)).grown hgrow (by have := HB5.out.size;simp;omega) (fun q hq => by have := hrow5.out _ hq;omega));clear hown6 hgrow hatt)
          | (go_simp;go_at_call 101;refine (HCE.out _ (HIM4.out.below hbd4.out)).mono ?_;rintro e w5 ⟨rfl,hb5⟩;have HB5 := hideC ((HB4.out.trans (hbd4.out.mono HB4.out.size)).trans (hb5.mono (HB4.out.trans (hbd4.out.mono HB4.out.size)).size));have HBw5 := hideC (hbd4.out.trans hb5);have HOW5 := hideC ((row_grown HOW4.out HBw5.out).alloc (.cells #[.string nm2,.slice an2 ns2.length cn2,.slice ag2 gs2.length cg2,.slice ay2 ys2.length cy2,.slice ar2 rs2.length cr2,.int .i64 en2,.int .i64 eo] 178));have hrow5 : Hid (∀ q,(Value.slice (some ⟨g2,0,none⟩) jx.length cap2).ownBlock = some q -> w.heap.size + 1 <= q /\ q < (w5.alloc (.cells #[.string nm2,.slice an2 ns2.length cn2,.slice ag2 gs2.length cg2,.slice ay2 ys2.length cy2,.slice ar2 rs2.length cr2,.int .i64 en2,.int .i64 eo] 178)).heap.size) := HOW5.out.lt;have HN5 := hideC (B.new w5 #[.string nm2,.slice an2 ns2.length cn2,.slice ag2 gs2.length cg2,.slice ay2 ys2.length cy2,.slice ar2 rs2.length cr2,.int .i64 en2,.int .i64 eo] 178);have BI5 := hideC (B.below BI4.out HBw5.out (B.isLt BI4.out));have j0 := B.cell BI5.out 0 rfl;have j1 := B.cell BI5.out 1 rfl;have j2 := B.cell BI5.out 2 rfl;have j3 := B.cell BI5.out 3 rfl;have j4 := B.cell BI5.out 4 rfl;have j5 := B.cell BI5.out 5 rfl;clear hb5;go_simp))
         all_goals
          go_wp2
          go_roundw
          case rel => exact ⟨k + 1,jx ++ [j],by go_num,by omega,HSTEP.out,HOXA.out,by rw [List.length_append];omega,by rw [HSN.out,List.flatMap_append,List.length_append];exact HOW6.out,HB6.out⟩
          case measure => simp [intOf];omega
     · obtain rfl : k = nd.length := by omega
       have HE := hideC (HSOME.out jx HORD.out)
       clear hb
       go_wp2
       go_roundw
       case rel => exact ⟨n + 1,jx,by go_num,HOX.out,by omega,by rw [HF.out];exact HE.out,HOWi.out,HBi.out⟩
       case measure => simp [intOf];omega
  · obtain rfl : n = ix.length := by omega
    have HE : Hid (R = some ix) := by
     show _ = _
     rw [<- HGT.out]
     exact LM.gat_end all _ _ ix (by omega)
    have HHO : Hid (LM.HasO wr (some ⟨g,0,none⟩) (LM.obsFrom all 1 ix)) := fun _ => ⟨g,0,rfl,hgl,hlie⟩
    clear hx hgt hown hb hlie
    go_wp2
    go_ret2
    show OutG all R w _ _
    rw [HE.out]
    exact ⟨HBr.out,HX.out,some ⟨g,0,none⟩,cap,rfl,HHO.out⟩
end LW
namespace LM
open Go.RowKit
def zeros16 : ByteArray := ⟨(Lib.repeatL [0] 16).toArray⟩
theorem zeros16_size : zeros16.size = 16 := rfl
def pageN (s : M.Sg) (n : Nat) : ByteArray := CL.over zeros16 0 (s.data.extract (min (n * 16) s.data.size) (min (min (n * 16) s.data.size + 16) s.data.size))
theorem extract_size (s : ByteArray) (a b : Nat) (h1 : a <= b) (h2 : b <= s.size) : (s.extract a b).size = b - a := by
 rw [ByteArray.size_extract]
 omega
structure Pt where
 pos : Int
 bytes : ByteArray
def pt0 : Pt := ⟨0,⟨#[]⟩⟩
def ptAt (l : List Pt) (k : Nat) : Pt := l.getD k pt0
def LieP (w : World) (b off : Nat) (l : List Pt) : Prop := ∀ i,i < l.length -> w.cell? ⟨b,off + i * 2,none⟩ = some (.int .i64 (ptAt l i).pos) /\ w.cell? ⟨b,off + i * 2 + 1,none⟩ = some (.string (ptAt l i).bytes)
theorem lieP {w w' : World} {b off : Nat} {l : List Pt} (hb : Below w.heap.size w w') (hlt : b < w.heap.size) (h : LieP w b off l) : LieP w' b off l := fun i hi => by
 obtain ⟨c0,c1⟩ := h i hi
 exact ⟨(M.below_cell hb hlt).trans c0,(M.below_cell hb hlt).trans c1⟩
def HasP (w : World) (ao : Option Addr) (l : List Pt) : Prop := M.HasBy LieP w ao l
theorem HasP.below {w w' : World} {ao : Option Addr} {l : List Pt} (h : HasP w ao l) (hb : Below w.heap.size w w') : HasP w' ao l := M.HasBy.below (lie := LieP) (fun hb hlt h => lieP hb hlt h) h hb
def cellP (p : Pt) : List Value := [.int .i64 p.pos,.string p.bytes]
def cellF (f : Fx) : List Value := [.int .i64 f.off,.string f.bytes]
def FitP (p : Pt) : Prop := 0 <= p.pos /\ p.pos <= 1000000 /\ p.bytes.size = 8
def cutP (page : Int) (p : Pt) : List Fx := if max (page * 16) p.pos < min (page * 16 + 16) (p.pos + 8) then [⟨max (page * 16) p.pos - page * 16,p.bytes.extract (max (page * 16) p.pos - p.pos).toNat (max (page * 16) p.pos - p.pos + (min (page * 16 + 16) (p.pos + 8) - max (page * 16) p.pos)).toNat⟩] else []
def fixesN (page : Int) (ps : List Pt) : List Fx := ps.flatMap (cutP page)
theorem take_snoc {α : Type} (l : List α) (d : α) (k : Nat) (h : k < l.length) : l.take (k + 1) = l.take k ++ [l.getD k d] := by
 rw [List.take_succ_eq_append_getElem h,List.getD_eq_getElem?_getD,List.getElem?_eq_getElem h]
 rfl
theorem cut_len (page : Int) (p : Pt) : (cutP page p).length <= 1 := by
 unfold cutP
 split <;> simp
theorem fixes_len (page : Int) : ∀ ps : List Pt,(fixesN page ps).length <= ps.length
 | [] => by simp [fixesN]
 | p :: r => by
  have h1 := fixes_len page r
  have h2 := cut_len page p
  unfold fixesN at h1 ⊢
  rw [List.flatMap_cons,List.length_append,List.length_cons]
  omega
theorem fixesN_snoc (page : Int) (l : List Pt) (p : Pt) : fixesN page (l ++ [p]) = fixesN page l ++ cutP page p := by
 unfold fixesN
 rw [List.flatMap_append]
 simp
end LM
namespace LW
open Go.RowKit
open W (hideC)
theorem calls_kin {P : Program} {f : FuncId} {args : Array Value} {v : Value} {w : World} (x : Q.Kin w.heap.size w) (h : ∀ W,Below w.heap.size w W -> Calls P f args W fun e w' => e = .returned v /\ Below W.heap.size W w') :
  Calls P f args x.world fun e w'' => e = .returned v /\ ∃ y : Q.Kin w.heap.size w,w'' = y.world :=
 (h x.world x.keeps).mono fun e w'' ⟨he,hb⟩ => ⟨he,⟨w'',x.keeps.trans (hb.mono x.keeps.size)⟩,rfl⟩
end LW
end Go.Proofs.YtkdigjpejnebkaaGreat
