import Derived.Test.YtkdigjpejnebkaaGreatGS46
import Derived.Test.YtkdigjpejnebkaaGreatGS47
set_option linter.unusedVariables false
set_option maxRecDepth 100000
set_option linter.unusedSimpArgs false
namespace Go.Proofs.YtkdigjpejnebkaaGreat
namespace LW
open Go.RowKit Go.WideMaps Go.Maps
open W (hideC)
set_option maxHeartbeats 6000000 in
theorem link_with (p : LM.Li) (libs : List LM.Li) (ao : Option Addr) (cap : Nat) (w : World) (hp : M.HasIm w p.a p.i) (h : LM.HasI w ao libs) (hfp : M.Fit p.i) (hf : LM.FitI libs)
  (hck : ∀ k,k < (p :: libs).length -> ∀ V,Below w.heap.size w V -> Calls Tryz.prog 115 #[.agg (M.cellsI (LM.liAt (p :: libs) k).a (LM.liAt (p :: libs) k).i)] V fun e w'=>e = .returned (.int .i64 (M.chkN (LM.liAt (p :: libs) k).i)) /\ Below V.heap.size V w')
  (hga : ∀ m D V,Gi (p :: libs) m D V -> Calls Tryz.prog 100 #[LM.imgV (LM.liAt (p :: libs) 0),.map (some m)] V (OutG (p :: libs) (LM.gat (p :: libs) (p :: libs).length 0 [0]) V))
  (hpx : ∀ ix ao cap k V,k < (LM.obsFrom (p :: libs) 1 ix).length -> Calls Tryz.prog 118 #[.agg (LM.cellsO (LM.obAt (LM.obsFrom (p :: libs) 1 ix) k)),.slice ao (LM.obsFrom (p :: libs) 1 ix).length cap] V (OutPt (LM.patN (LM.obsFrom (p :: libs) 1 ix) (LM.obAt (LM.obsFrom (p :: libs) 1 ix) k)) V)) :
  Calls Tryz.prog 72 #[LM.imgV p,.slice ao libs.length cap] w (OutL (p :: libs) w):=by
 have hsl : libs.length <= 140737488351232:=hf.1
 have HP:=hideC hp
 have HCKP:=hideC hck
 have HGAP:=hideC hga
 have HPXP:=hideC hpx
 have HL:=hideC h
 have HIM : Hid (∀ V,Below w.heap.size w V -> ∀ k,k < (p :: libs).length -> M.HasIm V (LM.liAt (p :: libs) k).a (LM.liAt (p :: libs) k).i):=fun V hb k hk=>by
  cases k with
  | zero=>exact hp.below hb
  | succ k =>
   have hk' : k < libs.length:=by simpa using hk
   obtain ⟨b,off,_,_,hl⟩:=h (by omega)
   exact (hl k hk').2.below hb
 have HFA : Hid (∀ k,k < (p :: libs).length -> M.Fit (LM.liAt (p :: libs) k).i):=fun k hk=>by
  cases k with
  | zero=>exact hfp
  | succ k=>exact hf.2 k (by simpa using hk)
 clear hp h hfp hf hck hga hpx
 have HBB:=hideC (((Below.refl w.heap.size w).alloc (Nat.le_refl _) (.cells (M.cellsI p.a p.i) 135)).alloc (by simp) (.cells #[.slice none 0 0,.slice none 0 0,.int .i64 0] 25))
 have BM:=hideC (B.alloc (B.new w (M.cellsI p.a p.i) 135) (.cells #[.slice none 0 0,.slice none 0 0,.int .i64 0] 25))
 have BR0:=B.new (w.alloc (.cells (M.cellsI p.a p.i) 135)) #[.slice none 0 0,.slice none 0 0,.int .i64 0] 25
 rw [World.size_alloc] at BR0
 have BR:=hideC BR0
 clear BR0
 unfold LM.imgV
 go_enter Tryz.func72,Tryz.ntmps72
 by_cases h6 : 6 < libs.length
 · have HE : Hid (LM.linkErr (p :: libs) = 2):=by
    show _ = _
    unfold LM.linkErr
    rw [if_pos (by simp;omega)]
   clear BM BR
   simp only [M.cellsI] at HBB ⊢
   go_wp2
   exact bodyPost_ret (v:=.tuple #[.agg #[.slice none 0 0,.slice none 0 0,.int .i64 0],.int .i64 2]) (by simp [results,Tryz.results72,go_sem]) rfl ⟨HBB.out,by rw [HE.out];simp⟩
 · have h7 : (p :: libs).length <= 7:=by simp;omega
   have HOW0 : Hid ((((w.alloc (.cells (M.cellsI p.a p.i) 135)).alloc (.cells #[.slice none 0 0,.slice none 0 0,.int .i64 0] 25)).alloc (.cells (M.cellsI p.a p.i) 135)).ownsRow (w.heap.size + 2) 135 6 (.slice (some ⟨w.heap.size + 2,0,none⟩) 1 1) 1 (LM.cellI p)):=by
    have h:=World.ownsRow_lit (base:=w.heap.size + 2) (e:=135) (size:=6) ((w.alloc (.cells (M.cellsI p.a p.i) 135)).alloc (.cells #[.slice none 0 0,.slice none 0 0,.int .i64 0] 25)) (M.cellsI p.a p.i) 1 (by simp) (by decide) rfl
    have e : ((w.alloc (.cells (M.cellsI p.a p.i) 135)).alloc (.cells #[.slice none 0 0,.slice none 0 0,.int .i64 0] 25)).heap.size = w.heap.size + 2:=by simp
    rw [e] at h
    exact h
   have HB3:=hideC (HBB.out.alloc (by simp;omega) (.cells (M.cellsI p.a p.i) 135))
   have BM3:=hideC (B.alloc BM.out (.cells (M.cellsI p.a p.i) 135))
   have BR3:=hideC (B.alloc BR.out (.cells (M.cellsI p.a p.i) 135))
   clear BM BR HBB
   simp only [M.cellsI] at HOW0 HB3 BM3 BR3 ⊢
   go_wp2_with (at_builtin;refine wpList_append_libs rfl _ _ rfl (w.heap.size + 2) p (w.heap.size + 2) (by first | rfl | simp) HOW0.out ao cap libs rfl (HL.out.below HB3.out) (by omega) (by simp) ?_;intro gg capg w1 hown hgrow hlt;have HB1:=hideC (HB3.out.grown hgrow (by simp;omega) (fun q hq=>by injection hq with hq;omega));have BM1:=hideC (B.grown BM3.out hgrow (by simp));have BR1:=hideC (B.grown BR3.out hgrow (by simp));have HI1:=hideC (row_im (l:=p :: libs) hown hlt (HIM.out _ HB1.out));clear hown hgrow hlt)
   obtain ⟨all,hall⟩ : ∃ all,all = p :: libs:=⟨_,rfl⟩
   have HLI : Hid (LM.liAt all 0 = p):=by rw [hall];rfl
   have hlen : libs.length + 1 = all.length:=by rw [hall];rfl
   rw [<- hall] at HI1 HIM HFA h7 HCKP HGAP HPXP
   rw [<- hall,hlen]
   clear HOW0 HB3 BM3 BR3 HL
   have HALL:=hideC hall
   clear hall
   refine (byName_with all _ _ _ HI1.out ⟨by unfold M.Short;omega,HFA.out⟩ (fun k hk V hV=>HCKP.out k hk V (HB1.out.trans (hV.mono HB1.out.size)))).mono ?_
   rintro e w2 ⟨hb,hout⟩
   have HB2:=hideC (HB1.out.trans (hb.mono HB1.out.size))
   have BM2:=hideC (B.below BM1.out hb (B.isLt BM1.out))
   have BR2:=hideC (B.below BR1.out hb (B.isLt BR1.out))
   clear hb BM1 BR1 HB1 HI1
   by_cases hby : LM.byErr all = 0
   · rw [if_pos hby] at hout
     obtain ⟨m,D,rfl,hmap,hnm⟩:=hout
     obtain ⟨hck,honce⟩:=LM.byErr_zero hby
     have HGI : Hid (Gi all m D w2):=⟨by omega,h7,hck,HFA.out,honce,HIM.out _ HB2.out,hmap,hnm⟩
     have HCK:=hideC hck
     clear hmap hnm honce hck
     have m0:=B.cell BM2.out 0 rfl
     have m1:=B.cell BM2.out 1 rfl
     have m2:=B.cell BM2.out 2 rfl
     have m3:=B.cell BM2.out 3 rfl
     have m4:=B.cell BM2.out 4 rfl
     have m5:=B.cell BM2.out 5 rfl
     have HBY:=hideC hby
     clear hby
     go_wp2_with fail
     have HGA:=hideC (HGAP.out m D w2 HGI.out)
     rw [HLI.out] at HGA
     refine Calls.mono (P:=Tryz.prog) HGA.out ?_
     rintro e w3 ⟨hb,hout⟩
     have HB3:=hideC (HB2.out.trans (hb.mono HB2.out.size))
     have BM3:=hideC (B.below BM2.out hb (B.isLt BM2.out))
     have BR3:=hideC (B.below BR2.out hb (B.isLt BR2.out))
     clear hb BM2 BR2 HGA m0 m1 m2 m3 m4 m5
     have r0:=B.cell BR3.out 0 rfl
     have r1:=B.cell BR3.out 1 rfl
     have r2:=B.cell BR3.out 2 rfl
     have rf:=B.free BR3.out
     have rl:=B.isLt BR3.out
     cases eg : LM.gat all all.length 0 [0] with
     | none =>
      rw [eg] at hout
      obtain rfl:=hout
      have HE : Hid (LM.linkErr all = 6):=by
       show _ = _
       unfold LM.linkErr
       rw [if_neg (by omega),if_pos HBY.out,eg]
      clear eg
      go_wp2
      exact bodyPost_ret (v:=.tuple #[.agg #[.slice none 0 0,.slice none 0 0,.int .i64 0],.int .i64 6]) (by simp [results,Tryz.results72,go_sem,r0,r1,r2]) rfl ⟨((HB3.out.setCell (by simp) _).setCell (by simp) _).setCell (by simp) _,by rw [<- HALL.out,HE.out];simp⟩
     | some ix =>
      rw [eg] at hout
      obtain ⟨hok,ao2,cap2,rfl,hO⟩:=hout
      have hpos:=hok.pos
      have hle:=hok.le
      have HLE : Hid (LM.endO (LM.obAt (LM.obsFrom all 1 ix) (ix.length - 1)) = LM.endFrom all 1 ix):=LM.obsFrom_last all ix 1 hpos
      have HOI : Hid (Oi (LM.obsFrom all 1 ix) ao2 w3):=by
       refine ⟨hO,by rw [LM.obsFrom_length];omega,fun k hk=>?_,fun k hk=>?_,LM.obs_base HCK.out h7 hok⟩
       · rw [LM.obsFrom_length] at hk
         rw [(LM.obsFrom_at all ix 1 k hk).1]
         exact HCK.out _ (hok.lt _ (LM.getD_mem ix k hk))
       · rw [LM.obsFrom_length] at hk
         rw [(LM.obsFrom_at all ix 1 k hk).1]
         exact HFA.out _ (hok.lt _ (LM.getD_mem ix k hk))
      have hxl : ix.length = (LM.obsFrom all 1 ix).length:=(LM.obsFrom_length all ix 1).symm
      have HERR : Hid (LM.linkErr all = if 256 < LM.endFrom all 1 ix then 3 else match LM.sheetsN (LM.obsFrom all 1 ix) with
        | none=>7
        | some _=>0):=by
       show _ = _
       unfold LM.linkErr
       rw [if_neg (by omega),if_pos HBY.out,eg]
       dsimp only
       cases LM.sheetsN (LM.obsFrom all 1 ix) <;> rfl
      have HEG:=hideC eg
      obtain ⟨EN,hEN⟩ : ∃ EN,EN = LM.endFrom all 1 ix:=⟨_,rfl⟩
      rw [<- hEN] at HLE HERR
      have HPX2:=hideC (HPXP.out ix)
      obtain ⟨obs,hobs⟩ : ∃ obs,obs = LM.obsFrom all 1 ix:=⟨_,rfl⟩
      rw [<- hobs] at HOI HERR HLE hO hxl HPX2
      have HOB:=hideC hobs
      rw [hxl] at HLE hpos hle
      rw [hxl]
      clear hEN hobs eg hok hxl HGI HBY
      obtain ⟨b,off,hao2,hbl,hlie⟩:=hO hpos
      subst hao2
      obtain ⟨k1,hk1⟩ : ∃ k1,k1 = obs.length - 1:=⟨_,rfl⟩
      have hk1l : k1 < obs.length:=by omega
      rw [<- hk1] at HLE
      obtain ⟨⟨c0,c1,c2,c3,c4,c5,c6⟩,him⟩:=hlie k1 hk1l
      have HEN:=hideC (fun V hb=>end_any (LM.obAt obs k1) V (him.below hb) (HOI.out.chk k1 hk1l) (by have:=HOI.out.base k1 hk1l;omega) (by have:=HOI.out.base k1 hk1l;omega))
      obtain ⟨o,ho⟩ : ∃ o,o = LM.obAt obs k1:=⟨_,rfl⟩
      rw [<- ho] at c0 c1 c2 c3 c4 c5 c6 HEN HLE
      simp only [LM.cellsO] at HEN
      rw [HLE.out] at HEN
      have hwr : IntKind.i64.wrap ((obs.length : Int) - 1) = (k1 : Int):=by rw [IntWalk.i64_in _ (by omega)];omega
      clear ho hlie hO him HLE hk1 hlen HP HIM HFA
      by_cases h256 : 256 < EN
      · have HE : Hid (LM.linkErr all = 3):=by
         show _ = _
         rw [HERR.out,if_pos h256]
        clear HERR
        go_wp2_with (go_at_call 101;refine (HEN.out _ (Below.refl _ _)).mono ?_;rintro e w4 ⟨rfl,hb⟩;have HB4:=hideC (HB3.out.trans (hb.mono HB3.out.size));have BR4:=hideC (B.below BR3.out hb (B.isLt BR3.out));have s0:=B.cell BR4.out 0 rfl;have s1:=B.cell BR4.out 1 rfl;have s2:=B.cell BR4.out 2 rfl;have sf:=B.free BR4.out;have sl:=B.isLt BR4.out;clear hb)
        exact bodyPost_ret (v:=.tuple #[.agg #[.slice none 0 0,.slice none 0 0,.int .i64 0],.int .i64 3]) (by simp [results,Tryz.results72,go_sem,s0,s1,s2]) rfl ⟨((HB4.out.setCell (by simp) _).setCell (by simp) _).setCell (by simp) _,by rw [<- HALL.out,HE.out];simp⟩
      · have HSH : Hid (∀ V,Oi obs (some ⟨b,off,none⟩) V -> Calls Tryz.prog 102 #[.slice (some ⟨b,off,none⟩) obs.length cap2] V (OutSh (LM.sheetsN obs) V)):=fun V hV=>sheetsOf_with obs _ cap2 V hV (by omega) (fun k hk V' hV'=>HPX2.out _ cap2 k V' hk)
        cases es : LM.sheetsN obs with
        | none =>
         have HE : Hid (LM.linkErr all = 7):=by
          show _ = _
          rw [HERR.out,if_neg h256,es]
         rw [es] at HSH
         clear HERR es
         go_wp2_with (first
          | (go_at_call 101;refine (HEN.out _ (Below.refl _ _)).mono ?_;rintro e w4 ⟨rfl,hb⟩;have HB4:=hideC (HB3.out.trans (hb.mono HB3.out.size));have BR4:=hideC (B.below BR3.out hb (B.isLt BR3.out));have BM4:=hideC (B.below BM3.out hb (B.isLt BM3.out));have HOI4:=hideC (HOI.out.below hb);clear hb)
          | (go_at_call 102;refine (HSH.out _ HOI4.out).mono ?_;rintro e w5 ⟨hb,rfl⟩;have HB5:=hideC (HB4.out.trans (hb.mono HB4.out.size));have BR5:=hideC (B.below BR4.out hb (B.isLt BR4.out));have s0:=B.cell BR5.out 0 rfl;have s1:=B.cell BR5.out 1 rfl;have s2:=B.cell BR5.out 2 rfl;have sf:=B.free BR5.out;have sl:=B.isLt BR5.out;clear hb))
         exact bodyPost_ret (v:=.tuple #[.agg #[.slice none 0 0,.slice none 0 0,.int .i64 0],.int .i64 7]) (by simp [results,Tryz.results72,go_sem,s0,s1,s2]) rfl ⟨((HB5.out.setCell (by simp) _).setCell (by simp) _).setCell (by simp) _,by rw [<- HALL.out,HE.out];simp⟩
        | some E =>
         have HE : Hid (LM.linkErr all = 0):=by
          show _ = _
          rw [HERR.out,if_neg h256,es]
         have HES:=hideC es
         rw [es] at HSH
         clear HERR es
         go_wp2_with (first
          | (go_at_call 101;refine (HEN.out _ (Below.refl _ _)).mono ?_;rintro e w4 ⟨rfl,hb⟩;have HB4:=hideC (HB3.out.trans (hb.mono HB3.out.size));have BR4:=hideC (B.below BR3.out hb (B.isLt BR3.out));have BM4:=hideC (B.below BM3.out hb (B.isLt BM3.out));have HOI4:=hideC (HOI.out.below hb);clear hb)
          | (go_at_call 102;refine (HSH.out _ HOI4.out).mono ?_;rintro e w5 ⟨hb,hs,ah,ch,hme,rfl,hhh,hcc⟩;have HB5:=hideC (HB4.out.trans (hb.mono HB4.out.size));have BR5:=hideC (B.below BR4.out hb (B.isLt BR4.out));have BM5:=hideC (B.below BM4.out hb (B.isLt BM4.out));have HOI5:=hideC (HOI4.out.below hb);have HME:=hideC hme;have HHH:=hideC hhh;clear hb hme hhh))
         clear HSH HEN HOI HOI4 BR3 BR4 BM3 BM4 HB3 r0 r1 r2 rf rl c0 c1 c2 c3 c4 c5 c6 hwr hbl hk1l
         obtain ⟨b5,off5,hbe,hbl5,hlie5⟩:=HOI5.out.has hpos
         obtain ⟨⟨d0,d1,d2,d3,d4,d5,d6⟩,dim⟩:=hlie5 0 hpos
         have hbe1 : b = b5:=by injection hbe with hbe;injection hbe
         have hbe2 : off = off5:=by injection hbe with hbe;injection hbe
         rw [<- hbe1,<- hbe2] at d0 d1 d2 d3 d4 d5 d6
         rw [<- hbe1] at hbl5
         simp only [Nat.zero_mul,Nat.add_zero] at d0 d1 d2 d3 d4 d5 d6
         have hbs0:=HOI5.out.base 0 hpos
         have hen : 0 <= p.i.entry /\ p.i.entry < 4080:=by
          have h:=LM.entry_bounds (HCK.out 0 (by omega))
          rw [HLI.out] at h
          exact h
         have HEA : Hid ((LM.liAt all 0).i.entry = p.i.entry):=by rw [HLI.out];rfl
         have HAR : Hid (∀ V,Below w5.heap.size w5 V -> Calls Tryz.prog 103 #[.slice (some ⟨b,off,none⟩) obs.length cap2] V fun e w'=>∃ r,e = .returned r /\ AW.Own V.heap.size w' r (LM.areasN obs) /\ Below V.heap.size V w'):=fun V hb=>areasOf_any obs _ cap2 V (HOI5.out.below hb) (by omega)
         have HAD:=hideC (fun V=>address_any (LM.obAt obs 0) p.i.entry V (by omega) (by omega) hen.1 (by omega))
         obtain ⟨o0,ho0⟩ : ∃ o0,o0 = LM.obAt obs 0:=⟨_,rfl⟩
         have HO0:=hideC ho0
         rw [<- ho0] at d0 d1 d2 d3 d4 d5 d6 HAD
         simp only [LM.cellsO] at HAD
         have hne : b ≠ w.heap.size + 1:=fun e=>by
          rw [e] at d6
          have h:=BR5.out
          simp [World.cell?,h] at d6
         have HS : Hid (∀ V,Below w5.heap.size w5 V -> V.cell? ⟨b,off,none⟩ = some (.string o0.i.name) /\ V.cell? ⟨b,off + 1,none⟩ = some (.slice o0.a.an o0.i.needs.length o0.a.cn) /\ V.cell? ⟨b,off + 2,none⟩ = some (.slice o0.a.ag o0.i.segs.length o0.a.cg) /\ V.cell? ⟨b,off + 3,none⟩ = some (.slice o0.a.ay o0.i.syms.length o0.a.cy) /\ V.cell? ⟨b,off + 4,none⟩ = some (.slice o0.a.ar o0.i.rels.length o0.a.cr) /\ V.cell? ⟨b,off + 5,none⟩ = some (.int .i64 o0.i.entry) /\ V.cell? ⟨b,off + 6,none⟩ = some (.int .i64 o0.base) /\ V.cell? ⟨w.heap.size,5,none⟩ = some (.int .i64 p.i.entry)):=fun V hb=>⟨(M.below_cell hb hbl5).trans d0,(M.below_cell hb hbl5).trans d1,(M.below_cell hb hbl5).trans d2,(M.below_cell hb hbl5).trans d3,(M.below_cell hb hbl5).trans d4,(M.below_cell hb hbl5).trans d5,(M.below_cell hb hbl5).trans d6,B.cell (B.below BM5.out hb (B.isLt BM5.out)) 5 rfl⟩
         obtain ⟨AD,hAD⟩ : ∃ AD,AD = LM.addrO o0 p.i.entry:=⟨_,rfl⟩
         rw [<- hAD] at HAD
         have HADE:=hideC hAD
         clear ho0 hAD d0 d1 d2 d3 d4 d5 d6 dim hlie5 hbe hbe1 hbe2
         have HK0:=hideC (Below.refl w5.heap.size w5).drew
         have HS0:=hideC (HS.out _ HK0.out)
         go_region_held3 (fun V=>V.cell? ⟨b,off,none⟩ = some (.string o0.i.name) /\ V.cell? ⟨b,off + 1,none⟩ = some (.slice o0.a.an o0.i.needs.length o0.a.cn) /\ V.cell? ⟨b,off + 2,none⟩ = some (.slice o0.a.ag o0.i.segs.length o0.a.cg) /\ V.cell? ⟨b,off + 3,none⟩ = some (.slice o0.a.ay o0.i.syms.length o0.a.cy) /\ V.cell? ⟨b,off + 4,none⟩ = some (.slice o0.a.ar o0.i.rels.length o0.a.cr) /\ V.cell? ⟨b,off + 5,none⟩ = some (.int .i64 o0.i.entry) /\ V.cell? ⟨b,off + 6,none⟩ = some (.int .i64 o0.base) /\ V.cell? ⟨w.heap.size,5,none⟩ = some (.int .i64 p.i.entry)) (first | exact HS7.out | exact HS6.out | exact HS0.out | exact HSX.out _ _ _)
          (first
           | (go_at_call 103;refine (HAR.out _ HK0.out).mono ?_;rintro e w6 ⟨v8,rfl,hrw,hb⟩;obtain ⟨ar,cr,hrv,hrg⟩:=own_slice hrw;subst hrv;have HRW:=hideC hrw;have HK6:=hideC (HK0.out.trans (hb.mono HK0.out.size));have HS6:=hideC (HS.out _ HK6.out);clear hb hrw hrg)
           | (go_at_call 104;refine (HAD.out _).mono ?_;rintro e w7 ⟨rfl,hb⟩;have HK7:=hideC (HK6.out.trans (hb.mono HK6.out.size));have HS7:=hideC (HS.out _ HK7.out);have HRW7:=hideC (own_below HRW.out hb);have BR7:=hideC (B.below BR5.out HK7.out (B.isLt BR5.out));have s0:=B.cell BR7.out 0 rfl;have s1:=B.cell BR7.out 1 rfl;have s2:=B.cell BR7.out 2 rfl;have sf:=B.free BR7.out;have sl:=B.isLt BR7.out;have HSX : Hid (∀ u0 u1 u2,(fun V : World=>V.cell? ⟨b,off,none⟩ = some (.string o0.i.name) /\ V.cell? ⟨b,off + 1,none⟩ = some (.slice o0.a.an o0.i.needs.length o0.a.cn) /\ V.cell? ⟨b,off + 2,none⟩ = some (.slice o0.a.ag o0.i.segs.length o0.a.cg) /\ V.cell? ⟨b,off + 3,none⟩ = some (.slice o0.a.ay o0.i.syms.length o0.a.cy) /\ V.cell? ⟨b,off + 4,none⟩ = some (.slice o0.a.ar o0.i.rels.length o0.a.cr) /\ V.cell? ⟨b,off + 5,none⟩ = some (.int .i64 o0.i.entry) /\ V.cell? ⟨b,off + 6,none⟩ = some (.int .i64 o0.base) /\ V.cell? ⟨w.heap.size,5,none⟩ = some (.int .i64 p.i.entry)) (((w7.setCell ⟨w.heap.size + 1,0,none⟩ u0).setCell ⟨w.heap.size + 1,1,none⟩ u1).setCell ⟨w.heap.size + 1,2,none⟩ u2)):=(fun u0 u1 u2=>by have h:=HS7.out;have hw : w.heap.size ≠ w.heap.size + 1:=(by omega);simp only [cell_set3 _ _ _ _ _ _ _ hne,cell_set3 _ _ _ _ _ _ _ hw];exact h);clear hb))
         have HHH7:=hideC (hasH_set3 BR7.out (HHH.out.below HK7.out) (.slice ar (LM.areasN obs).length cr) (.slice ah hs.length ch) (.int .i64 AD))
         have HOWN7:=hideC (own_set3 (rb:=w.heap.size + 1) HRW7.out (Nat.lt_of_lt_of_le (B.isLt BR5.out) HK0.out.size) (.slice ar (LM.areasN obs).length cr) (.slice ah hs.length ch) (.int .i64 AD))
         have HB7:=hideC ((((HB5.out.trans (HK7.out.mono HB5.out.size)).setCell (p:=⟨w.heap.size + 1,0,none⟩) (by simp) (.slice ar (LM.areasN obs).length cr)).setCell (p:=⟨w.heap.size + 1,1,none⟩) (by simp) (.slice ah hs.length ch)).setCell (p:=⟨w.heap.size + 1,2,none⟩) (by simp) (.int .i64 AD))
         go_wp2
         refine bodyPost_ret (v:=.tuple #[.agg #[.slice ar (LM.areasN obs).length cr,.slice ah hs.length ch,.int .i64 AD],.int .i64 0]) (by simp [results,Tryz.results72,go_sem,s0,s1,s2]) rfl ⟨HB7.out,?_⟩
         rw [<- HALL.out,HE.out,if_pos rfl]
         refine ⟨ix,E,.slice ar (LM.areasN obs).length cr,hs,ah,ch,HEG.out,by rw [<- HOB.out];exact HES.out,HME.out,?_,?_,HHH7.out,hcc⟩
         · rw [HEA.out,<- HOB.out,<- HO0.out,<- HADE.out]
         · rw [<- HOB.out]
           exact HOWN7.out.mono (Nat.le_trans HB5.out.size HK0.out.size)
   · rw [if_neg hby] at hout
     subst hout
     have HE : Hid (LM.linkErr all = LM.byErr all):=by
      show _ = _
      unfold LM.linkErr
      rw [if_neg (by omega),if_neg hby]
     obtain ⟨er,her⟩ : ∃ er,er = LM.byErr all:=⟨_,rfl⟩
     rw [<- her] at HE hby
     rw [<- her]
     have hbz : (er == 0) = false:=by simpa using hby
     have r0:=B.cell BR2.out 0 rfl
     have r1:=B.cell BR2.out 1 rfl
     have r2:=B.cell BR2.out 2 rfl
     have rf:=B.free BR2.out
     have rl:=B.isLt BR2.out
     clear her
     go_wp2
     exact bodyPost_ret (v:=.tuple #[.agg #[.slice none 0 0,.slice none 0 0,.int .i64 0],.int .i64 er]) (by simp [results,Tryz.results72,go_sem,r0,r1,r2]) rfl ⟨((HB2.out.setCell (by simp) _).setCell (by simp) _).setCell (by simp) _,by rw [<- HALL.out,HE.out,if_neg hby]⟩
end LW
namespace LW
open Go.RowKit
open W (hideC)
set_option maxHeartbeats 1000000 in
theorem patches0 (l : List LM.Ob) (ao : Option Addr) (cap : Nat) (o : LM.Ob) (w : World) (hr : o.i.rels = []) : Calls Tryz.prog 118 #[.agg (LM.cellsO o),.slice ao l.length cap] w (OutPt (LM.patN l o) w):=by
 have e : LM.patN l o = some []:=by unfold LM.patN;rw [hr];rfl
 rw [e]
 unfold LM.cellsO
 rw [hr]
 obtain ⟨⟨nm,ns,gs,ys,rs,en⟩,⟨an,cn,ag,cg,ay,cy,ar,cr⟩,bs⟩:=o
 simp only at hr ⊢
 clear hr e
 obtain ⟨n1,h1⟩ : ∃ n,n = ns.length:=⟨_,rfl⟩
 obtain ⟨n2,h2⟩ : ∃ n,n = gs.length:=⟨_,rfl⟩
 obtain ⟨n3,h3⟩ : ∃ n,n = ys.length:=⟨_,rfl⟩
 rw [<- h1,<- h2,<- h3]
 clear h1 h2 h3
 have HB:=hideC ((Below.refl w.heap.size w).alloc (Nat.le_refl _) (.cells #[.string nm,.slice an n1 cn,.slice ag n2 cg,.slice ay n3 cy,.slice ar 0 cr,.int .i64 en,.int .i64 bs] 178))
 have HFIN : Hid (∀ w',Below w.heap.size w w' -> OutPt (some []) w (.returned (.tuple #[.slice none 0 0,.bool true])) w'):=fun w' hb=>⟨hb,_,rfl,World.ownsRow_nil _ _ _ _⟩
 obtain ⟨P,hP⟩ : ∃ P,P = OutPt (some []) w:=⟨_,rfl⟩
 rw [<- hP] at HFIN ⊢
 clear hP
 simp only [List.length_nil]
 go_enter Tryz.func118,Tryz.ntmps118
 go_wp2
 go_loopw [6,17] (fun sv iv wr=>sv = .slice none 0 0 /\ iv = .int .i64 0 /\ Below w.heap.size w wr) (fun _ _ _=>0)
 case atStart=>exact ⟨rfl,rfl,HB.out⟩
 case round =>
  obtain ⟨rfl,rfl,hb⟩:=hrel
  have HB2:=hideC hb
  clear hb
  go_wp2
  exact HFIN.out _ HB2.out
set_option maxHeartbeats 2000000 in
theorem gather0 (p : LM.Li) (m : Nat) (w : World) (hn : p.i.needs = []) (him : M.HasIm w p.a p.i) : Calls Tryz.prog 100 #[LM.imgV p,.map (some m)] w (OutG [p] (some [0]) w):=by
 have HFIN : Hid (∀ (w' : World) g,w'.heap[g]? = some (.cells #[.string p.i.name,.slice p.a.an p.i.needs.length p.a.cn,.slice p.a.ag p.i.segs.length p.a.cg,.slice p.a.ay p.i.syms.length p.a.cy,.slice p.a.ar p.i.rels.length p.a.cr,.int .i64 p.i.entry,.int .i64 1] 178 (0,0)) -> Below w.heap.size w w' -> OutG [p] (some [0]) w (.returned (.tuple #[.slice (some ⟨g,0,none⟩) 1 1,.bool true])) w'):=fun w' g h1 h2=>by
  refine ⟨h2,⟨by decide,by decide,fun j hj=>?_⟩,some ⟨g,0,none⟩,1,rfl,fun _=>⟨g,0,rfl,B.isLt h1,fun k hk=>?_⟩⟩
  · simp at hj;subst hj;exact Nat.zero_lt_one
  · obtain rfl : k = 0:=by have : k < 1:=hk;omega
    exact ⟨⟨B.cell h1 0 rfl,B.cell h1 1 rfl,B.cell h1 2 rfl,B.cell h1 3 rfl,B.cell h1 4 rfl,B.cell h1 5 rfl,B.cell h1 6 rfl⟩,him.below h2⟩
 obtain ⟨P,hP⟩ : ∃ P,P = OutG [p] (some [0]) w:=⟨_,rfl⟩
 rw [<- hP] at HFIN ⊢
 clear hP him
 unfold LM.imgV M.cellsI
 rw [hn] at HFIN ⊢
 obtain ⟨⟨nm,ns,gs,ys,rs,en⟩,⟨an,cn,ag,cg,ay,cy,ar,cr⟩⟩:=p
 simp only at HFIN ⊢
 clear hn
 obtain ⟨n2,h2⟩ : ∃ n,n = gs.length:=⟨_,rfl⟩
 obtain ⟨n3,h3⟩ : ∃ n,n = ys.length:=⟨_,rfl⟩
 obtain ⟨n4,h4⟩ : ∃ n,n = rs.length:=⟨_,rfl⟩
 rw [<- h2,<- h3,<- h4] at HFIN ⊢
 simp only [List.length_nil] at HFIN ⊢
 clear h2 h3 h4
 have HB:=hideC (((Below.refl w.heap.size w).alloc (Nat.le_refl _) (.cells #[.string nm,.slice an 0 cn,.slice ag n2 cg,.slice ay n3 cy,.slice ar n4 cr,.int .i64 en] 135)).alloc (by simp) (.cells #[.string nm,.slice an 0 cn,.slice ag n2 cg,.slice ay n3 cy,.slice ar n4 cr,.int .i64 en,.int .i64 1] 178))
 have HX : Hid (((w.alloc (.cells #[.string nm,.slice an 0 cn,.slice ag n2 cg,.slice ay n3 cy,.slice ar n4 cr,.int .i64 en] 135)).alloc (.cells #[.string nm,.slice an 0 cn,.slice ag n2 cg,.slice ay n3 cy,.slice ar n4 cr,.int .i64 en,.int .i64 1] 178)).heap[w.heap.size + 1]? = some (.cells #[.string nm,.slice an 0 cn,.slice ag n2 cg,.slice ay n3 cy,.slice ar n4 cr,.int .i64 en,.int .i64 1] 178 (0,0))):=by
  have:=B.new (w.alloc (.cells #[.string nm,.slice an 0 cn,.slice ag n2 cg,.slice ay n3 cy,.slice ar n4 cr,.int .i64 en] 135)) #[.string nm,.slice an 0 cn,.slice ag n2 cg,.slice ay n3 cy,.slice ar n4 cr,.int .i64 en,.int .i64 1] 178
  rw [World.size_alloc] at this
  exact this
 go_enter Tryz.func100,Tryz.ntmps100
 go_wp2
 obtain ⟨g,hg⟩ : ∃ g,g = w.heap.size + 1:=⟨_,rfl⟩
 rw [<- hg] at HX ⊢
 clear hg
 go_loopw [6,7] (fun sv iv wr=>sv = .slice (some ⟨g,0,none⟩) 1 1 /\ (∃ k : Nat,k <= 1 /\ iv = .int .i64 (k : Int)) /\ wr.heap[g]? = some (.cells #[.string nm,.slice an 0 cn,.slice ag n2 cg,.slice ay n3 cy,.slice ar n4 cr,.int .i64 en,.int .i64 1] 178 (0,0)) /\ Below w.heap.size w wr) (fun _ iv _=>1 - (intOf iv).toNat)
 case atStart=>exact ⟨rfl,⟨0,by omega,rfl⟩,HX.out,HB.out⟩
 case round =>
  obtain ⟨rfl,⟨k,hk,rfl⟩,hx,hb⟩:=hrel
  have HX2:=hideC hx
  have HB2:=hideC hb
  have x1 : wr.cell? ⟨g,1,none⟩ = some (.slice an 0 cn):=B.cell hx 1 rfl
  clear hx hb HX HB
  by_cases h0 : k = 0
  · subst h0
    go_wp2
    clear x1
    go_loopw [6,28] (fun sv iv wi=>sv = .slice (some ⟨g,0,none⟩) 1 1 /\ iv = .int .i64 0 /\ wi.heap[g]? = some (.cells #[.string nm,.slice an 0 cn,.slice ag n2 cg,.slice ay n3 cy,.slice ar n4 cr,.int .i64 en,.int .i64 1] 178 (0,0)) /\ Below w.heap.size w wi) (fun _ _ _=>0)
    case atStart=>exact ⟨rfl,rfl,HX2.out,HB2.out⟩
    case round =>
     obtain ⟨rfl,rfl,hx,hb⟩:=hrel
     have HX3:=hideC hx
     have HB3:=hideC hb
     clear hx hb HX2 HB2
     go_wp2
     go_roundw
     case rel=>exact ⟨rfl,⟨1,by omega,by first | rfl | go_num⟩,HX3.out,HB3.out⟩
     case measure=>simp [intOf]
  · obtain rfl : k = 1:=by omega
    go_wp2
    exact HFIN.out _ _ HX2.out HB2.out
end LW
end Go.Proofs.YtkdigjpejnebkaaGreat
