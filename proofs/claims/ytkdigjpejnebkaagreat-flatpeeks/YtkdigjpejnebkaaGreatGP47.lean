import Derived.Test.YtkdigjpejnebkaaGreatGP46
import Derived.Test.YtkdigjpejnebkaaGreatGP40
import Derived.Test.YtkdigjpejnebkaaGreatGP32
set_option linter.unusedVariables false
set_option maxRecDepth 100000
set_option linter.unusedSimpArgs false
namespace Go.Proofs.YtkdigjpejnebkaaGreat
namespace LW
open Go.RowKit Go.WideMaps Go.Maps
open W (hideC)
def OutL (all : List LM.Li) (w : World) (e : Ending) (w' : World) : Prop := Below w.heap.size w w' /\
 if LM.linkErr all = 0 then ∃ (ix : List Nat) (E : List LM.Sp) (r : Value) (hs : List LM.Sh) (ao : Option Addr) (cap : Nat),LM.gat all all.length 0 [0] = some ix /\ LM.sheetsN (LM.obsFrom all 1 ix) = some E /\ hs.map LM.plain = E /\
  e = .returned (.tuple #[.agg #[r,.slice ao hs.length cap,.int .i64 (LM.addrO (LM.obAt (LM.obsFrom all 1 ix) 0) (LM.liAt all 0).i.entry)],.int .i64 0]) /\ AW.Own w.heap.size w' r (LM.areasN (LM.obsFrom all 1 ix)) /\ LM.HasH w' ao hs /\ hs.length <= cap
 else e = .returned (.tuple #[.agg #[.slice none 0 0,.slice none 0 0,.int .i64 0],.int .i64 (LM.linkErr all)])
theorem cell_set3 (V : World) (rb b j : Nat) (u0 u1 u2 : Value) (h : b ≠ rb) : (((V.setCell ⟨rb,0,none⟩ u0).setCell ⟨rb,1,none⟩ u1).setCell ⟨rb,2,none⟩ u2).cell? ⟨b,j,none⟩ = V.cell? ⟨b,j,none⟩ := by
 rw [World.cell?_setCell_far _ ⟨rb,2,none⟩ ⟨b,j,none⟩ u2 (Ne.symm h),World.cell?_setCell_far _ ⟨rb,1,none⟩ ⟨b,j,none⟩ u1 (Ne.symm h),World.cell?_setCell_far _ ⟨rb,0,none⟩ ⟨b,j,none⟩ u0 (Ne.symm h)]
def set3 (V : World) (rb : Nat) (u0 u1 u2 : Value) : World := ((V.setCell ⟨rb,0,none⟩ u0).setCell ⟨rb,1,none⟩ u1).setCell ⟨rb,2,none⟩ u2
theorem set3_size (V : World) (rb : Nat) (u0 u1 u2 : Value) : (set3 V rb u0 u1 u2).heap.size = V.heap.size := by simp [set3]
theorem no_is {V : World} {rb b off : Nat} {t : TypeId} {x : Int} {y : ByteArray} (h : V.heap[rb]? = some (.cells #[.slice none 0 0,.slice none 0 0,.int .i64 0] t (0,0))) (c0 : V.cell? ⟨b,off,none⟩ = some (.int .i64 x)) (c1 : V.cell? ⟨b,off + 1,none⟩ = some (.string y)) : b ≠ rb := fun e => by
 rw [e] at c0 c1
 simp only [World.cell?,h] at c0 c1
 match off with
 | 0 => simp at c0
 | 1 => simp at c0
 | 2 => simp at c1
 | n + 3 => simp at c0
theorem hasF_set3 {V : World} {rb : Nat} {t : TypeId} (h : V.heap[rb]? = some (.cells #[.slice none 0 0,.slice none 0 0,.int .i64 0] t (0,0))) {ao : Option Addr} {l : List LM.Fx} (g : LM.HasF V ao l) (u0 u1 u2 : Value) : LM.HasF (set3 V rb u0 u1 u2) ao l := fun hl => by
 obtain ⟨b,off,e,hb,hlie⟩ := g hl
 obtain ⟨c0,c1⟩ := hlie 0 hl
 have hne := no_is h c0 c1
 refine ⟨b,off,e,by rw [set3_size];exact hb,fun k hk => ?_⟩
 obtain ⟨d0,d1⟩ := hlie k hk
 exact ⟨(cell_set3 V rb b _ u0 u1 u2 hne).trans d0,(cell_set3 V rb b _ u0 u1 u2 hne).trans d1⟩
theorem hasH_set3 {V : World} {rb : Nat} {t : TypeId} (h : V.heap[rb]? = some (.cells #[.slice none 0 0,.slice none 0 0,.int .i64 0] t (0,0))) {ao : Option Addr} {l : List LM.Sh} (g : LM.HasH V ao l) (u0 u1 u2 : Value) : LM.HasH (set3 V rb u0 u1 u2) ao l := fun hl => by
 obtain ⟨b,off,e,hb,hlie⟩ := g hl
 obtain ⟨c0,c1,_,_⟩ := hlie 0 hl
 have hne := no_is h c0 c1
 refine ⟨b,off,e,by rw [set3_size];exact hb,fun k hk => ?_⟩
 obtain ⟨d0,d1,d2,d3⟩ := hlie k hk
 exact ⟨(cell_set3 V rb b _ u0 u1 u2 hne).trans d0,(cell_set3 V rb b _ u0 u1 u2 hne).trans d1,(cell_set3 V rb b _ u0 u1 u2 hne).trans d2,hasF_set3 h d3 u0 u1 u2⟩
theorem own_set3 {V : World} {rb lo : Nat} {v : Value} {l : List AM.Ar} (h : AW.Own lo V v l) (hlt : rb < lo) (u0 u1 u2 : Value) : AW.Own lo (set3 V rb u0 u1 u2) v l :=
 ownsRow_setCell_below (ownsRow_setCell_below (ownsRow_setCell_below h hlt _) hlt _) hlt _
set_option maxHeartbeats 6000000 in
theorem link_any (p : LM.Li) (libs : List LM.Li) (ao : Option Addr) (cap : Nat) (w : World) (hp : M.HasIm w p.a p.i) (h : LM.HasI w ao libs) (hfp : M.Fit p.i) (hf : LM.FitI libs) :
  Calls Tryz.prog 72 #[LM.imgV p,.slice ao libs.length cap] w (OutL (p :: libs) w) := by
 have hsl : libs.length <= 140737488351232 := hf.1
 have HP := hideC hp
 have HL := hideC h
 have HIM : Hid (∀ V,Below w.heap.size w V -> ∀ k,k < (p :: libs).length -> M.HasIm V (LM.liAt (p :: libs) k).a (LM.liAt (p :: libs) k).i) := fun V hb k hk => by
  cases k with
  | zero => exact hp.below hb
  | succ k =>
   have hk' : k < libs.length := by simpa using hk
   obtain ⟨b,off,_,_,hl⟩ := h (by omega)
   exact (hl k hk').2.below hb
 have HFA : Hid (∀ k,k < (p :: libs).length -> M.Fit (LM.liAt (p :: libs) k).i) := fun k hk => by
  cases k with
  | zero => exact hfp
  | succ k => exact hf.2 k (by simpa using hk)
 clear hp h hfp hf
 have HBB := hideC (((Below.refl w.heap.size w).alloc (Nat.le_refl _) (.cells (M.cellsI p.a p.i) 135)).alloc (by simp) (.cells #[.slice none 0 0,.slice none 0 0,.int .i64 0] 25))
 have BM := hideC (B.alloc (B.new w (M.cellsI p.a p.i) 135) (.cells #[.slice none 0 0,.slice none 0 0,.int .i64 0] 25))
 have BR0 := B.new (w.alloc (.cells (M.cellsI p.a p.i) 135)) #[.slice none 0 0,.slice none 0 0,.int .i64 0] 25
 rw [World.size_alloc] at BR0
 have BR := hideC BR0
 clear BR0
 unfold LM.imgV
 go_enter Tryz.func72,Tryz.ntmps72
 by_cases h6 : 6 < libs.length
 · have HE : Hid (LM.linkErr (p :: libs) = 2) := by
    show _ = _
    unfold LM.linkErr
    rw [if_pos (by simp;omega)]
   clear BM BR
   simp only [M.cellsI] at HBB ⊢
   go_wp2
   exact bodyPost_ret (v := .tuple #[.agg #[.slice none 0 0,.slice none 0 0,.int .i64 0],.int .i64 2]) (by simp [results,Tryz.results72,go_sem]) rfl ⟨HBB.out,by rw [HE.out];simp⟩
 · have h7 : (p :: libs).length <= 7 := by simp;omega
   have HOW0 : Hid ((((w.alloc (.cells (M.cellsI p.a p.i) 135)).alloc (.cells #[.slice none 0 0,.slice none 0 0,.int .i64 0] 25)).alloc (.cells (M.cellsI p.a p.i) 135)).ownsRow (w.heap.size + 2) 135 6 (.slice (some ⟨w.heap.size + 2,0,none⟩) 1 1) 1 (LM.cellI p)) := by
    have h := World.ownsRow_lit (base := w.heap.size + 2) (e := 135) (size := 6) ((w.alloc (.cells (M.cellsI p.a p.i) 135)).alloc (.cells #[.slice none 0 0,.slice none 0 0,.int .i64 0] 25)) (M.cellsI p.a p.i) 1 (by simp) (by decide) rfl
    have e : ((w.alloc (.cells (M.cellsI p.a p.i) 135)).alloc (.cells #[.slice none 0 0,.slice none 0 0,.int .i64 0] 25)).heap.size = w.heap.size + 2 := by simp
    rw [e] at h
    exact h
   have HB3 := hideC (HBB.out.alloc (by simp;omega) (.cells (M.cellsI p.a p.i) 135))
   have BM3 := hideC (B.alloc BM.out (.cells (M.cellsI p.a p.i) 135))
   have BR3 := hideC (B.alloc BR.out (.cells (M.cellsI p.a p.i) 135))
   clear BM BR HBB
   simp only [M.cellsI] at HOW0 HB3 BM3 BR3 ⊢
   go_wp2_with (at_builtin;refine wpList_append_libs rfl _ _ rfl (w.heap.size + 2) p (w.heap.size + 2) (by first | rfl | simp) HOW0.out ao cap libs rfl (HL.out.below HB3.out) (by omega) (by simp) ?_;intro gg capg w1 hown hgrow hlt;have HB1 := hideC (HB3.out.grown hgrow (by simp;omega) (fun q hq => by injection hq with hq;omega));have BM1 := hideC (B.grown BM3.out hgrow (by simp));have BR1 := hideC (B.grown BR3.out hgrow (by simp));have HI1 := hideC (row_im (l := p :: libs) hown hlt (HIM.out _ HB1.out));clear hown hgrow hlt)
   obtain ⟨all,hall⟩ : ∃ all,all = p :: libs := ⟨_,rfl⟩
   have HLI : Hid (LM.liAt all 0 = p) := by rw [hall];rfl
   have hlen : libs.length + 1 = all.length := by rw [hall];rfl
   rw [<- hall] at HI1 HIM HFA h7
   rw [<- hall,hlen]
   clear HOW0 HB3 BM3 BR3 HL
   have HALL := hideC hall
   clear hall
   refine (byName_any all _ _ _ HI1.out ⟨by unfold M.Short;omega,HFA.out⟩).mono ?_
   rintro e w2 ⟨hb,hout⟩
   have HB2 := hideC (HB1.out.trans (hb.mono HB1.out.size))
   have BM2 := hideC (B.below BM1.out hb (B.isLt BM1.out))
   have BR2 := hideC (B.below BR1.out hb (B.isLt BR1.out))
   clear hb BM1 BR1 HB1 HI1
   by_cases hby : LM.byErr all = 0
   · rw [if_pos hby] at hout
     obtain ⟨m,D,rfl,hmap,hnm⟩ := hout
     obtain ⟨hck,honce⟩ := LM.byErr_zero hby
     have HGI : Hid (Gi all m D w2) := ⟨by omega,h7,hck,HFA.out,honce,HIM.out _ HB2.out,hmap,hnm⟩
     have HCK := hideC hck
     clear hmap hnm honce hck
     have m0 := B.cell BM2.out 0 rfl
     have m1 := B.cell BM2.out 1 rfl
     have m2 := B.cell BM2.out 2 rfl
     have m3 := B.cell BM2.out 3 rfl
     have m4 := B.cell BM2.out 4 rfl
     have m5 := B.cell BM2.out 5 rfl
     have HBY := hideC hby
     clear hby
     go_wp2_with fail
     have HGA := hideC (gather_any all m D w2 HGI.out)
     rw [HLI.out] at HGA
     refine Calls.mono (P := Tryz.prog) HGA.out ?_
     rintro e w3 ⟨hb,hout⟩
     have HB3 := hideC (HB2.out.trans (hb.mono HB2.out.size))
     have BM3 := hideC (B.below BM2.out hb (B.isLt BM2.out))
     have BR3 := hideC (B.below BR2.out hb (B.isLt BR2.out))
     clear hb BM2 BR2 HGA m0 m1 m2 m3 m4 m5
     have r0 := B.cell BR3.out 0 rfl
     have r1 := B.cell BR3.out 1 rfl
     have r2 := B.cell BR3.out 2 rfl
     have rf := B.free BR3.out
     have rl := B.isLt BR3.out
     cases eg : LM.gat all all.length 0 [0] with
     | none =>
      rw [eg] at hout
      obtain rfl := hout
      have HE : Hid (LM.linkErr all = 6) := by
       show _ = _
       unfold LM.linkErr
       rw [if_neg (by omega),if_pos HBY.out,eg]
      clear eg
      go_wp2
      exact bodyPost_ret (v := .tuple #[.agg #[.slice none 0 0,.slice none 0 0,.int .i64 0],.int .i64 6]) (by simp [results,Tryz.results72,go_sem,r0,r1,r2]) rfl ⟨((HB3.out.setCell (by simp) _).setCell (by simp) _).setCell (by simp) _,by rw [<- HALL.out,HE.out];simp⟩
     | some ix =>
      rw [eg] at hout
      obtain ⟨hok,ao2,cap2,rfl,hO⟩ := hout
      have hpos := hok.pos
      have hle := hok.le
      have HLE : Hid (LM.endO (LM.obAt (LM.obsFrom all 1 ix) (ix.length - 1)) = LM.endFrom all 1 ix) := LM.obsFrom_last all ix 1 hpos
      have HOI : Hid (Oi (LM.obsFrom all 1 ix) ao2 w3) := by
       refine ⟨hO,by rw [LM.obsFrom_length];omega,fun k hk => ?_,fun k hk => ?_,LM.obs_base HCK.out h7 hok⟩
       · rw [LM.obsFrom_length] at hk
         rw [(LM.obsFrom_at all ix 1 k hk).1]
         exact HCK.out _ (hok.lt _ (LM.getD_mem ix k hk))
       · rw [LM.obsFrom_length] at hk
         rw [(LM.obsFrom_at all ix 1 k hk).1]
         exact HFA.out _ (hok.lt _ (LM.getD_mem ix k hk))
      have hxl : ix.length = (LM.obsFrom all 1 ix).length := (LM.obsFrom_length all ix 1).symm
      have HERR : Hid (LM.linkErr all = if 256 < LM.endFrom all 1 ix then 3 else match LM.sheetsN (LM.obsFrom all 1 ix) with
        | none => 7
        | some _ => 0) := by
       show _ = _
       unfold LM.linkErr
       rw [if_neg (by omega),if_pos HBY.out,eg]
       dsimp only
       cases LM.sheetsN (LM.obsFrom all 1 ix) <;> rfl
      have HEG := hideC eg
      obtain ⟨EN,hEN⟩ : ∃ EN,EN = LM.endFrom all 1 ix := ⟨_,rfl⟩
      rw [<- hEN] at HLE HERR
      obtain ⟨obs,hobs⟩ : ∃ obs,obs = LM.obsFrom all 1 ix := ⟨_,rfl⟩
      rw [<- hobs] at HOI HERR HLE hO hxl
      have HOB := hideC hobs
      rw [hxl] at HLE hpos hle
      rw [hxl]
      clear hEN hobs eg hok hxl HGI HBY
      obtain ⟨b,off,hao2,hbl,hlie⟩ := hO hpos
      subst hao2
      obtain ⟨k1,hk1⟩ : ∃ k1,k1 = obs.length - 1 := ⟨_,rfl⟩
      have hk1l : k1 < obs.length := by omega
      rw [<- hk1] at HLE
      obtain ⟨⟨c0,c1,c2,c3,c4,c5,c6⟩,him⟩ := hlie k1 hk1l
      have HEN := hideC (fun V hb => end_any (LM.obAt obs k1) V (him.below hb) (HOI.out.chk k1 hk1l) (by have := HOI.out.base k1 hk1l;omega) (by have := HOI.out.base k1 hk1l;omega))
      obtain ⟨o,ho⟩ : ∃ o,o = LM.obAt obs k1 := ⟨_,rfl⟩
      rw [<- ho] at c0 c1 c2 c3 c4 c5 c6 HEN HLE
      simp only [LM.cellsO] at HEN
      rw [HLE.out] at HEN
      have hwr : IntKind.i64.wrap ((obs.length : Int) - 1) = (k1 : Int) := by rw [IntWalk.i64_in _ (by omega)];omega
      clear ho hlie hO him HLE hk1 hlen HP HIM HFA
      by_cases h256 : 256 < EN
      · have HE : Hid (LM.linkErr all = 3) := by
         show _ = _
         rw [HERR.out,if_pos h256]
        clear HERR
        go_wp2_with (go_at_call 101;refine (HEN.out _ (Below.refl _ _)).mono ?_;rintro e w4 ⟨rfl,hb⟩;have HB4 := hideC (HB3.out.trans (hb.mono HB3.out.size));have BR4 := hideC (B.below BR3.out hb (B.isLt BR3.out));have s0 := B.cell BR4.out 0 rfl;have s1 := B.cell BR4.out 1 rfl;have s2 := B.cell BR4.out 2 rfl;have sf := B.free BR4.out;have sl := B.isLt BR4.out;clear hb)
        exact bodyPost_ret (v := .tuple #[.agg #[.slice none 0 0,.slice none 0 0,.int .i64 0],.int .i64 3]) (by simp [results,Tryz.results72,go_sem,s0,s1,s2]) rfl ⟨((HB4.out.setCell (by simp) _).setCell (by simp) _).setCell (by simp) _,by rw [<- HALL.out,HE.out];simp⟩
      · have HSH : Hid (∀ V,Oi obs (some ⟨b,off,none⟩) V -> Calls Tryz.prog 102 #[.slice (some ⟨b,off,none⟩) obs.length cap2] V (OutSh (LM.sheetsN obs) V)) := fun V hV => sheetsOf_any obs _ cap2 V hV (by omega)
        cases es : LM.sheetsN obs with
        | none =>
         have HE : Hid (LM.linkErr all = 7) := by
          show _ = _
          rw [HERR.out,if_neg h256,es]
         rw [es] at HSH
         clear HERR es
         go_wp2_with (first
          | (go_at_call 101;refine (HEN.out _ (Below.refl _ _)).mono ?_;rintro e w4 ⟨rfl,hb⟩;have HB4 := hideC (HB3.out.trans (hb.mono HB3.out.size));have BR4 := hideC (B.below BR3.out hb (B.isLt BR3.out));have BM4 := hideC (B.below BM3.out hb (B.isLt BM3.out));have HOI4 := hideC (HOI.out.below hb);clear hb)
          | (go_at_call 102;refine (HSH.out _ HOI4.out).mono ?_;rintro e w5 ⟨hb,rfl⟩;have HB5 := hideC (HB4.out.trans (hb.mono HB4.out.size));have BR5 := hideC (B.below BR4.out hb (B.isLt BR4.out));have s0 := B.cell BR5.out 0 rfl;have s1 := B.cell BR5.out 1 rfl;have s2 := B.cell BR5.out 2 rfl;have sf := B.free BR5.out;have sl := B.isLt BR5.out;clear hb))
         exact bodyPost_ret (v := .tuple #[.agg #[.slice none 0 0,.slice none 0 0,.int .i64 0],.int .i64 7]) (by simp [results,Tryz.results72,go_sem,s0,s1,s2]) rfl ⟨((HB5.out.setCell (by simp) _).setCell (by simp) _).setCell (by simp) _,by rw [<- HALL.out,HE.out];simp⟩
        | some E =>
         have HE : Hid (LM.linkErr all = 0) := by
          show _ = _
          rw [HERR.out,if_neg h256,es]
         have HES := hideC es
         rw [es] at HSH
         clear HERR es
         go_wp2_with (first
          | (go_at_call 101;refine (HEN.out _ (Below.refl _ _)).mono ?_;rintro e w4 ⟨rfl,hb⟩;have HB4 := hideC (HB3.out.trans (hb.mono HB3.out.size));have BR4 := hideC (B.below BR3.out hb (B.isLt BR3.out));have BM4 := hideC (B.below BM3.out hb (B.isLt BM3.out));have HOI4 := hideC (HOI.out.below hb);clear hb)
          | (go_at_call 102;refine (HSH.out _ HOI4.out).mono ?_;rintro e w5 ⟨hb,hs,ah,ch,hme,rfl,hhh,hcc⟩;have HB5 := hideC (HB4.out.trans (hb.mono HB4.out.size));have BR5 := hideC (B.below BR4.out hb (B.isLt BR4.out));have BM5 := hideC (B.below BM4.out hb (B.isLt BM4.out));have HOI5 := hideC (HOI4.out.below hb);have HME := hideC hme;have HHH := hideC hhh;clear hb hme hhh))
         clear HSH HEN HOI HOI4 BR3 BR4 BM3 BM4 HB3 r0 r1 r2 rf rl c0 c1 c2 c3 c4 c5 c6 hwr hbl hk1l
         obtain ⟨b5,off5,hbe,hbl5,hlie5⟩ := HOI5.out.has hpos
         obtain ⟨⟨d0,d1,d2,d3,d4,d5,d6⟩,dim⟩ := hlie5 0 hpos
         have hbe1 : b = b5 := by injection hbe with hbe;injection hbe
         have hbe2 : off = off5 := by injection hbe with hbe;injection hbe
         rw [<- hbe1,<- hbe2] at d0 d1 d2 d3 d4 d5 d6
         rw [<- hbe1] at hbl5
         simp only [Nat.zero_mul,Nat.add_zero] at d0 d1 d2 d3 d4 d5 d6
         have hbs0 := HOI5.out.base 0 hpos
         have hen : 0 <= p.i.entry /\ p.i.entry < 4080 := by
          have h := LM.entry_bounds (HCK.out 0 (by omega))
          rw [HLI.out] at h
          exact h
         have HEA : Hid ((LM.liAt all 0).i.entry = p.i.entry) := by rw [HLI.out];rfl
         have HAR : Hid (∀ V,Below w5.heap.size w5 V -> Calls Tryz.prog 103 #[.slice (some ⟨b,off,none⟩) obs.length cap2] V fun e w' => ∃ r,e = .returned r /\ AW.Own V.heap.size w' r (LM.areasN obs) /\ Below V.heap.size V w') := fun V hb => areasOf_any obs _ cap2 V (HOI5.out.below hb) (by omega)
         have HAD := hideC (fun V => address_any (LM.obAt obs 0) p.i.entry V (by omega) (by omega) hen.1 (by omega))
         obtain ⟨o0,ho0⟩ : ∃ o0,o0 = LM.obAt obs 0 := ⟨_,rfl⟩
         have HO0 := hideC ho0
         rw [<- ho0] at d0 d1 d2 d3 d4 d5 d6 HAD
         simp only [LM.cellsO] at HAD
         have hne : b ≠ w.heap.size + 1 := fun e => by
          rw [e] at d6
          have h := BR5.out
          simp [World.cell?,h] at d6
         have HS : Hid (∀ V,Below w5.heap.size w5 V -> V.cell? ⟨b,off,none⟩ = some (.string o0.i.name) /\ V.cell? ⟨b,off + 1,none⟩ = some (.slice o0.a.an o0.i.needs.length o0.a.cn) /\ V.cell? ⟨b,off + 2,none⟩ = some (.slice o0.a.ag o0.i.segs.length o0.a.cg) /\ V.cell? ⟨b,off + 3,none⟩ = some (.slice o0.a.ay o0.i.syms.length o0.a.cy) /\ V.cell? ⟨b,off + 4,none⟩ = some (.slice o0.a.ar o0.i.rels.length o0.a.cr) /\ V.cell? ⟨b,off + 5,none⟩ = some (.int .i64 o0.i.entry) /\ V.cell? ⟨b,off + 6,none⟩ = some (.int .i64 o0.base) /\ V.cell? ⟨w.heap.size,5,none⟩ = some (.int .i64 p.i.entry)) := fun V hb => ⟨(M.below_cell hb hbl5).trans d0,(M.below_cell hb hbl5).trans d1,(M.below_cell hb hbl5).trans d2,(M.below_cell hb hbl5).trans d3,(M.below_cell hb hbl5).trans d4,(M.below_cell hb hbl5).trans d5,(M.below_cell hb hbl5).trans d6,B.cell (B.below BM5.out hb (B.isLt BM5.out)) 5 rfl⟩
         obtain ⟨AD,hAD⟩ : ∃ AD,AD = LM.addrO o0 p.i.entry := ⟨_,rfl⟩
         rw [<- hAD] at HAD
         have HADE := hideC hAD
         clear ho0 hAD d0 d1 d2 d3 d4 d5 d6 dim hlie5 hbe hbe1 hbe2
         have HK0 := hideC (Below.refl w5.heap.size w5).drew
         have HS0 := hideC (HS.out _ HK0.out)
         go_region_held3 (fun V => V.cell? ⟨b,off,none⟩ = some (.string o0.i.name) /\ V.cell? ⟨b,off + 1,none⟩ = some (.slice o0.a.an o0.i.needs.length o0.a.cn) /\ V.cell? ⟨b,off + 2,none⟩ = some (.slice o0.a.ag o0.i.segs.length o0.a.cg) /\ V.cell? ⟨b,off + 3,none⟩ = some (.slice o0.a.ay o0.i.syms.length o0.a.cy) /\ V.cell? ⟨b,off + 4,none⟩ = some (.slice o0.a.ar o0.i.rels.length o0.a.cr) /\ V.cell? ⟨b,off + 5,none⟩ = some (.int .i64 o0.i.entry) /\ V.cell? ⟨b,off + 6,none⟩ = some (.int .i64 o0.base) /\ V.cell? ⟨w.heap.size,5,none⟩ = some (.int .i64 p.i.entry)) (first | exact HS7.out | exact HS6.out | exact HS0.out | exact HSX.out _ _ _)
          (first
           | (go_at_call 103;refine (HAR.out _ HK0.out).mono ?_;rintro e w6 ⟨v8,rfl,hrw,hb⟩;obtain ⟨ar,cr,hrv,hrg⟩ := own_slice hrw;subst hrv;have HRW := hideC hrw;have HK6 := hideC (HK0.out.trans (hb.mono HK0.out.size));have HS6 := hideC (HS.out _ HK6.out);clear hb hrw hrg)
           | (go_at_call 104;refine (HAD.out _).mono ?_;rintro e w7 ⟨rfl,hb⟩;have HK7 := hideC (HK6.out.trans (hb.mono HK6.out.size));have HS7 := hideC (HS.out _ HK7.out);have HRW7 := hideC (own_below HRW.out hb);have BR7 := hideC (B.below BR5.out HK7.out (B.isLt BR5.out));have s0 := B.cell BR7.out 0 rfl;have s1 := B.cell BR7.out 1 rfl;have s2 := B.cell BR7.out 2 rfl;have sf := B.free BR7.out;have sl := B.isLt BR7.out;have HSX : Hid (∀ u0 u1 u2,(fun V : World => V.cell? ⟨b,off,none⟩ = some (.string o0.i.name) /\ V.cell? ⟨b,off + 1,none⟩ = some (.slice o0.a.an o0.i.needs.length o0.a.cn) /\ V.cell? ⟨b,off + 2,none⟩ = some (.slice o0.a.ag o0.i.segs.length o0.a.cg) /\ V.cell? ⟨b,off + 3,none⟩ = some (.slice o0.a.ay o0.i.syms.length o0.a.cy) /\ V.cell? ⟨b,off + 4,none⟩ = some (.slice o0.a.ar o0.i.rels.length o0.a.cr) /\ V.cell? ⟨b,off + 5,none⟩ = some (.int .i64 o0.i.entry) /\ V.cell? ⟨b,off + 6,none⟩ = some (.int .i64 o0.base) /\ V.cell? ⟨w.heap.size,5,none⟩ = some (.int .i64 p.i.entry)) (((w7.setCell ⟨w.heap.size + 1,0,none⟩ u0).setCell ⟨w.heap.size + 1,1,none⟩ u1).setCell ⟨w.heap.size + 1,2,none⟩ u2)) := (fun u0 u1 u2 => by have h := HS7.out;have hw : w.heap.size ≠ w.heap.size + 1 := (by omega);simp only [cell_set3 _ _ _ _ _ _ _ hne,cell_set3 _ _ _ _ _ _ _ hw];exact h);clear hb))
         have HHH7 := hideC (hasH_set3 BR7.out (HHH.out.below HK7.out) (.slice ar (LM.areasN obs).length cr) (.slice ah hs.length ch) (.int .i64 AD))
         have HOWN7 := hideC (own_set3 (rb := w.heap.size + 1) HRW7.out (Nat.lt_of_lt_of_le (B.isLt BR5.out) HK0.out.size) (.slice ar (LM.areasN obs).length cr) (.slice ah hs.length ch) (.int .i64 AD))
         have HB7 := hideC ((((HB5.out.trans (HK7.out.mono HB5.out.size)).setCell (p := ⟨w.heap.size + 1,0,none⟩) (by simp) (.slice ar (LM.areasN obs).length cr)).setCell (p := ⟨w.heap.size + 1,1,none⟩) (by simp) (.slice ah hs.length ch)).setCell (p := ⟨w.heap.size + 1,2,none⟩) (by simp) (.int .i64 AD))
         go_wp2
         refine bodyPost_ret (v := .tuple #[.agg #[.slice ar (LM.areasN obs).length cr,.slice ah hs.length ch,.int .i64 AD],.int .i64 0]) (by simp [results,Tryz.results72,go_sem,s0,s1,s2]) rfl ⟨HB7.out,?_⟩
         rw [<- HALL.out,HE.out,if_pos rfl]
         refine ⟨ix,E,.slice ar (LM.areasN obs).length cr,hs,ah,ch,HEG.out,by rw [<- HOB.out];exact HES.out,HME.out,?_,?_,HHH7.out,hcc⟩
         · rw [HEA.out,<- HOB.out,<- HO0.out,<- HADE.out]
         · rw [<- HOB.out]
           exact HOWN7.out.mono (Nat.le_trans HB5.out.size HK0.out.size)
   · rw [if_neg hby] at hout
     subst hout
     have HE : Hid (LM.linkErr all = LM.byErr all) := by
      show _ = _
      unfold LM.linkErr
      rw [if_neg (by omega),if_neg hby]
     obtain ⟨er,her⟩ : ∃ er,er = LM.byErr all := ⟨_,rfl⟩
     rw [<- her] at HE hby
     rw [<- her]
     have hbz : (er == 0) = false := by simpa using hby
     have r0 := B.cell BR2.out 0 rfl
     have r1 := B.cell BR2.out 1 rfl
     have r2 := B.cell BR2.out 2 rfl
     have rf := B.free BR2.out
     have rl := B.isLt BR2.out
     clear her
     go_wp2
     exact bodyPost_ret (v := .tuple #[.agg #[.slice none 0 0,.slice none 0 0,.int .i64 0],.int .i64 er]) (by simp [results,Tryz.results72,go_sem,r0,r1,r2]) rfl ⟨((HB2.out.setCell (by simp) _).setCell (by simp) _).setCell (by simp) _,by rw [<- HALL.out,HE.out,if_neg hby]⟩
end LW
namespace GB
open Go.RowKit
def i0 : PM.Ins := ⟨0,0,0,0,0⟩
def cis : List PM.Ins := [⟨16,0,0,0,5⟩,⟨11,1,0,0,40⟩,⟨10,0,1,8,0⟩,⟨9,0,1,1,0⟩,⟨16,0,0,0,1⟩,⟨16,0,0,0,6⟩]
def insTo : Nat -> ByteArray
 | 0 => ⟨#[]⟩
 | k + 1 => insTo k ++ (cis.getD k i0).bytes
theorem insTo_size : ∀ k,(insTo k).size = k * 8
 | 0 => rfl
 | k + 1 => by
  show (insTo k ++ (cis.getD k i0).bytes).size = _
  rw [ByteArray.size_append,insTo_size k,PM.bytes_size]
  omega
def p1 : ByteArray := ⟨#[16,0,0,0,5,0,0,0,11,1,0,0,40,0,0,0]⟩
def p2 : ByteArray := ⟨#[10,0,1,8,0,0,0,0,9,0,1,1,0,0,0,0]⟩
def p3 : ByteArray := ⟨#[16,0,0,0,1,0,0,0,16,0,0,0,6,0,0,0]⟩
def p4 : ByteArray := ⟨#[0,0,0,0,0,0,0,0,0,0,0,0,0,0,0,0]⟩
def cntD : ByteArray := ⟨#[16,0,0,0,5,0,0,0,11,1,0,0,40,0,0,0,10,0,1,8,0,0,0,0,9,0,1,1,0,0,0,0,16,0,0,0,1,0,0,0,16,0,0,0,6,0,0,0]⟩
theorem insTo_all : insTo 6 = cntD := by kernel_rfl
def cntI : M.Im := ⟨⟨#[116]⟩,[],[⟨0,4,cntD,true,true⟩],[],[],0⟩
theorem cnt_fit : M.Fit cntI := by
 refine ⟨by unfold M.Short cntI;decide,by unfold M.Short cntI;decide,fun k hk => absurd hk (by unfold cntI;simp),by unfold M.Short cntI;decide,fun k hk => ?_,by unfold M.Short cntI;decide,fun k hk => absurd hk (by unfold cntI;simp),by unfold M.Short cntI;decide,fun k hk => absurd hk (by unfold cntI;simp),by unfold M.I64 cntI;decide⟩
 have : k = 0 := by unfold cntI at hk;simp at hk;omega
 subst this
 exact ⟨by unfold M.I64 cntI M.sgAt;decide,by unfold M.I64 cntI M.sgAt;decide,by unfold M.Short;show (48 : Nat) <= _;decide⟩
theorem cnt_err (a : M.At) : LM.linkErr [⟨cntI,a⟩] = 0 := by kernel_rfl
theorem cnt_gat (a : M.At) : LM.gat [⟨cntI,a⟩] [(⟨cntI,a⟩ : LM.Li)].length 0 [0] = some [0] := by kernel_rfl
theorem cnt_obs (a : M.At) : LM.obsFrom [⟨cntI,a⟩] 1 [0] = [⟨cntI,a,1⟩] := by kernel_rfl
def cntE : List LM.Sp := [⟨1,p1,[]⟩,⟨2,p2,[]⟩,⟨3,p3,[]⟩,⟨4,p4,[]⟩]
theorem cnt_sheets (a : M.At) : LM.sheetsN [⟨cntI,a,1⟩] = some cntE := by kernel_rfl
def cntA : List AM.Ar := [⟨1,4,3,false⟩]
theorem cnt_areas (a : M.At) : LM.areasN [⟨cntI,a,1⟩] = cntA := by kernel_rfl
theorem cnt_entry (a : M.At) : LM.addrO (LM.obAt [⟨cntI,a,1⟩] 0) (LM.liAt [⟨cntI,a⟩] 0).i.entry = 16 := by kernel_rfl
def cntH (a1 a2 a3 a4 : Option Addr) (c1 c2 c3 c4 : Nat) : List LM.Sh := [⟨1,p1,[],a1,c1⟩,⟨2,p2,[],a2,c2⟩,⟨3,p3,[],a3,c3⟩,⟨4,p4,[],a4,c4⟩]
theorem cnt_of {hs : List LM.Sh} (h : hs.map LM.plain = cntE) : ∃ a1 a2 a3 a4 c1 c2 c3 c4,hs = cntH a1 a2 a3 a4 c1 c2 c3 c4 := by
 match hs,h with
 | [⟨g1,d1,f1,a1,c1⟩,⟨g2,d2,f2,a2,c2⟩,⟨g3,d3,f3,a3,c3⟩,⟨g4,d4,f4,a4,c4⟩],h =>
  simp only [List.map_cons,List.map_nil,LM.plain,cntE,List.cons.injEq,LM.Sp.mk.injEq,and_true] at h
  obtain ⟨⟨rfl,rfl,rfl⟩,⟨rfl,rfl,rfl⟩,⟨rfl,rfl,rfl⟩,rfl,rfl,rfl⟩ := h
  exact ⟨a1,a2,a3,a4,c1,c2,c3,c4,rfl⟩
 | [],h => cases congrArg List.length h
 | [_],h => cases congrArg List.length h
 | [_,_],h => cases congrArg List.length h
 | [_,_,_],h => cases congrArg List.length h
 | _ :: _ :: _ :: _ :: _ :: _,h =>
  have := congrArg List.length h
  simp [cntE] at this
theorem cnt_fitA : AW.AllFit cntA := AM.fits_of_check _ (by kernel_rfl)
theorem cnt_fitH (a1 a2 a3 a4 : Option Addr) (c1 c2 c3 c4 : Nat) : LM.FitHs (cntH a1 a2 a3 a4 c1 c2 c3 c4) := by
 have one : ∀ (g : Int) (d : ByteArray) (a : Option Addr) (c : Nat),M.I64 g -> d.size <= 140737488351232 -> LM.FitH ⟨g,d,[],a,c⟩ := fun g d a c h1 h2 => ⟨h1,h2,by unfold M.Short;show 0 <= _;exact Nat.zero_le _,fun k hk => absurd hk (Nat.not_lt_zero _)⟩
 refine ⟨by unfold M.Short cntH;show (4 : Nat) <= _;decide,fun k hk => ?_⟩
 match k,hk with
 | 0,_ => exact one 1 p1 a1 c1 (by unfold M.I64;decide) (by show (16 : Nat) <= _;decide)
 | 1,_ => exact one 2 p2 a2 c2 (by unfold M.I64;decide) (by show (16 : Nat) <= _;decide)
 | 2,_ => exact one 3 p3 a3 c3 (by unfold M.I64;decide) (by show (16 : Nat) <= _;decide)
 | 3,_ => exact one 4 p4 a4 c4 (by unfold M.I64;decide) (by show (16 : Nat) <= _;decide)
 | k + 4,h => exact absurd h (by unfold cntH;simp)
def cntF : FM.Fl := ⟨8,[⟨true,cntA,[⟨1,p1⟩,⟨2,p2⟩,⟨3,p3⟩,⟨4,p4⟩]⟩],[FW.beginN 16],[]⟩
theorem cnt_new (a1 a2 a3 a4 : Option Addr) (c1 c2 c3 c4 : Nat) : GH.newF cntA (cntH a1 a2 a3 a4 c1 c2 c3 c4) 16 8 = (cntF,0) := by kernel_rfl
theorem cnt_fitP : GH.FitPs cntF.procs := GH.fit_begin (by unfold M.I64;decide)
theorem cnt_fitS : FW.FitFl cntF := by
 refine ⟨by unfold M.I64 cntF;decide,⟨by unfold M.Short;show (1 : Nat) <= _;decide,fun k hk => ?_⟩,by unfold M.Short;show (1 : Nat) <= _;decide,by unfold M.Short;show (0 : Nat) <= _;decide⟩
 obtain rfl : k = 0 := by have : k < 1 := hk;omega
 refine ⟨cnt_fitA,by unfold M.Short;show (4 : Nat) <= _;decide,fun j hj => ?_⟩
 match j,hj with
 | 0,_ => exact ⟨by show M.I64 1;unfold M.I64;decide,by unfold M.Short;show (16 : Nat) <= _;decide⟩
 | 1,_ => exact ⟨by show M.I64 2;unfold M.I64;decide,by unfold M.Short;show (16 : Nat) <= _;decide⟩
 | 2,_ => exact ⟨by show M.I64 3;unfold M.I64;decide,by unfold M.Short;show (16 : Nat) <= _;decide⟩
 | 3,_ => exact ⟨by show M.I64 4;unfold M.I64;decide,by unfold M.Short;show (16 : Nat) <= _;decide⟩
 | k + 4,h => exact absurd h (by show ¬ k + 4 < 4;omega)
def picks : List Int := [0,1,0,1,0,1,0,1,0,1,0,1,0,1]
theorem run_err : (GH.runF cntF picks).2 = 0 := by kernel_rfl
theorem run_procs : (GH.runF cntF picks).1.procs.length = 2 := by kernel_rfl
theorem run_out : (GH.runF cntF picks).1.out.length = 2 := by kernel_rfl
theorem run_v0 : (FM.wdAt (GH.runF cntF picks).1.out 0).value = 0 := by kernel_rfl
theorem run_v1 : (FM.wdAt (GH.runF cntF picks).1.out 1).value = 1 := by kernel_rfl
theorem run_st : (FM.prAt (GH.runF cntF picks).1.procs 0).st = 2 := by kernel_rfl
theorem run_cd : (FM.prAt (GH.runF cntF picks).1.procs 0).cd = 1 := by kernel_rfl
end GB
namespace PW
open Go.RowKit
set_option maxHeartbeats 1500000 in
theorem instr_any (i : PM.Ins) (w : World) : Calls Tryz.prog 71 #[.agg i.cells] w fun e w' => e = .returned (.string i.bytes) /\ Below w.heap.size w w' := by
 obtain ⟨o,a,b,c,m⟩ := i
 unfold PM.Ins.cells PM.Ins.bytes
 simp only
 have HB0 := hideC ((Below.refl w.heap.size w).alloc (Nat.le_refl _) (.cells #[.int .i64 o,.int .i64 a,.int .i64 b,.int .i64 c,.int .i64 m] 99))
 have BX := hideC (B.new w #[.int .i64 o,.int .i64 a,.int .i64 b,.int .i64 c,.int .i64 m] 99)
 obtain ⟨W,hW⟩ : ∃ W,W = w.alloc (.cells #[.int .i64 o,.int .i64 a,.int .i64 b,.int .i64 c,.int .i64 m] 99) := ⟨_,rfl⟩
 have HW := hideC hW
 rw [<- hW] at HB0 BX
 have hkin := Q.kin_some W
 have hwl := B.isLt BX.out
 have k0 : ∀ x : Q.Kin W.heap.size W,x.world.cell? ⟨w.heap.size,0,none⟩ = some (.int .i64 o) := fun x => by rw [Q.cell_kin x _ _ hwl];exact B.cell BX.out 0 rfl
 have k1 : ∀ x : Q.Kin W.heap.size W,x.world.cell? ⟨w.heap.size,1,none⟩ = some (.int .i64 a) := fun x => by rw [Q.cell_kin x _ _ hwl];exact B.cell BX.out 1 rfl
 have k2 : ∀ x : Q.Kin W.heap.size W,x.world.cell? ⟨w.heap.size,2,none⟩ = some (.int .i64 b) := fun x => by rw [Q.cell_kin x _ _ hwl];exact B.cell BX.out 2 rfl
 have k3 : ∀ x : Q.Kin W.heap.size W,x.world.cell? ⟨w.heap.size,3,none⟩ = some (.int .i64 c) := fun x => by rw [Q.cell_kin x _ _ hwl];exact B.cell BX.out 3 rfl
 have k4 : ∀ x : Q.Kin W.heap.size W,x.world.cell? ⟨w.heap.size,4,none⟩ = some (.int .i64 m) := fun x => by rw [Q.cell_kin x _ _ hwl];exact B.cell BX.out 4 rfl
 have HA : Hid (∀ n V,Calls Tryz.prog 55 #[.int .i64 n,.int .i64 1] V fun e w' => e = .returned (.string (PM.le 1 n)) /\ Below V.heap.size V w') := fun n U => CW.bytes_any n 1 U (by omega)
 have HM : Hid (∀ V,Calls Tryz.prog 55 #[.int .i64 m,.int .i64 4] V fun e w' => e = .returned (.string (PM.le 4 m)) /\ Below V.heap.size V w') := fun U => CW.bytes_any m 4 U (by omega)
 have s1 := PM.le_size 1 o
 have s2 := PM.le_size 1 a
 have s3 := PM.le_size 1 b
 have s4 := PM.le_size 1 c
 have s5 := PM.le_size 4 m
 have t1 : (PM.le 1 o ++ PM.le 1 a).size = 2 := by rw [ByteArray.size_append,s1,s2]
 have t2 : (PM.le 1 o ++ PM.le 1 a ++ PM.le 1 b).size = 3 := by rw [ByteArray.size_append,t1,s3]
 have t3 : (PM.le 1 o ++ PM.le 1 a ++ PM.le 1 b ++ PM.le 1 c).size = 4 := by rw [ByteArray.size_append,t2,s4]
 clear hW
 go_enter Tryz.func71,Tryz.ntmps71
 go_wp2
 rw [<- HW.out]
 refine Q.region_kin (by kernel_rfl) (by kernel_rfl) ?_
 repeat (first | go_big_quiet_step ((go_at_call 55;first | with_reducible exact Q.calls_kin (HA.out _) _ | with_reducible exact Q.calls_kin HM.out _)) | quiet_step ((go_at_call 55;first | with_reducible exact Q.calls_kin (HA.out _) _ | with_reducible exact Q.calls_kin HM.out _)))
 refine wpQuiet_nil ?_
 intro _ hw'
 obtain ⟨x,hw''⟩ := hw'
 subst hw''
 go_wp2
 go_ret
 exact ⟨rfl,HB0.out.trans (x.keeps.mono HB0.out.size)⟩
end PW
end Go.Proofs.YtkdigjpejnebkaaGreat
