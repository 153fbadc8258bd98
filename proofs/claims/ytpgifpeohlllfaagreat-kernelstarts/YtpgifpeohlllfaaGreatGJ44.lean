import Derived.Test.YtpgifpeohlllfaaGreatGJ43
import Derived.Test.YtpgifpeohlllfaaGreatGJ42
import Derived.Test.YtpgifpeohlllfaaGreatGJ30
import Derived.Test.YtpgifpeohlllfaaGreatGJ12
set_option maxHeartbeats 20000000
set_option linter.unusedVariables false
set_option maxRecDepth 100000
set_option linter.unusedSimpArgs false
namespace Go.Proofs.YtpgifpeohlllfaaGreat
namespace LW
open Go.RowKit Go.WideMaps Go.Maps
open W (hideC)
set_option maxHeartbeats 6000000 in
theorem link_with (p : LM.Li) (libs : List LM.Li) (ao : Option Addr) (cap : Nat) (w : World) (hp : M.HasIm w p.a p.i) (h : LM.HasI w ao libs) (hfp : M.Fit p.i) (hf : LM.FitI libs)
  (hck : ∀ k,k < (p :: libs).length -> ∀ V,Below w.heap.size w V -> Calls Tryz.prog 158 #[.agg (M.cellsI (LM.liAt (p :: libs) k).a (LM.liAt (p :: libs) k).i)] V fun e w'=>e = .returned (.int .i64 (M.chkN (LM.liAt (p :: libs) k).i)) /\ Below V.heap.size V w')
  (hga : ∀ m D V,Gi (p :: libs) m D V -> Calls Tryz.prog 133 #[LM.imgV (LM.liAt (p :: libs) 0),.map (some m)] V (OutG (p :: libs) (LM.gat (p :: libs) (p :: libs).length 0 [0]) V))
  (hpx : ∀ ix ao cap k V,k < (LM.obsFrom (p :: libs) 1 ix).length -> Calls Tryz.prog 161 #[.agg (LM.cellsO (LM.obAt (LM.obsFrom (p :: libs) 1 ix) k)),.slice ao (LM.obsFrom (p :: libs) 1 ix).length cap] V (OutPt (LM.patN (LM.obsFrom (p :: libs) 1 ix) (LM.obAt (LM.obsFrom (p :: libs) 1 ix) k)) V)) :
  Calls Tryz.prog 93 #[LM.imgV p,.slice ao libs.length cap] w (OutL (p :: libs) w):=by
 have hsl : libs.length <= 140737488351232:=hf.1
 have HP:=hideC hp
 have HCKP:=hideC hck
 have HGAP:=hideC hga
 have HPXP:=hideC hpx
 have HL:=hideC h
 have HIM : Hid (∀ V,Below w.heap.size w V -> ∀ k,k < (p :: libs).length -> M.HasIm V (LM.liAt (p :: libs) k).a (LM.liAt (p :: libs) k).i):=fun V hb k hk=>by
  cases k with
  | zero=>exact hp.below hb
  | succ k =>
   have hk' : k < libs.length:=by simpa using hk
   obtain ⟨b,off,_,_,hl⟩:=h (by omega)
   exact (hl k hk').2.below hb
 have HFA : Hid (∀ k,k < (p :: libs).length -> M.Fit (LM.liAt (p :: libs) k).i):=fun k hk=>by
  cases k with
  | zero=>exact hfp
  | succ k=>exact hf.2 k (by simpa using hk)
 clear hp h hfp hf hck hga hpx
 have HBB:=hideC (((Below.refl w.heap.size w).alloc (Nat.le_refl _) (.cells (M.cellsI p.a p.i) 151)).alloc (by simp) (.cells #[.slice none 0 0,.slice none 0 0,.int .i64 0] 30))
 have BM:=hideC (B.alloc (B.new w (M.cellsI p.a p.i) 151) (.cells #[.slice none 0 0,.slice none 0 0,.int .i64 0] 30))
 have BR0:=B.new (w.alloc (.cells (M.cellsI p.a p.i) 151)) #[.slice none 0 0,.slice none 0 0,.int .i64 0] 30
 rw [World.size_alloc] at BR0
 have BR:=hideC BR0
 clear BR0
 unfold LM.imgV
 go_enter Tryz.func93,Tryz.ntmps93
 by_cases h6 : 6 < libs.length
 · have HE : Hid (LM.linkErr (p :: libs) = 2):=by
    show _ = _
    unfold LM.linkErr
    rw [if_pos (by simp;omega)]
   clear BM BR
   simp only [M.cellsI] at HBB ⊢
   go_wp2
   exact bodyPost_ret (v:=.tuple #[.agg #[.slice none 0 0,.slice none 0 0,.int .i64 0],.int .i64 2]) (by simp [results,Tryz.results93,go_sem]) rfl ⟨HBB.out,by rw [HE.out];simp⟩
 · have h7 : (p :: libs).length <= 7:=by simp;omega
   have HOW0 : Hid ((((w.alloc (.cells (M.cellsI p.a p.i) 151)).alloc (.cells #[.slice none 0 0,.slice none 0 0,.int .i64 0] 30)).alloc (.cells (M.cellsI p.a p.i) 151)).ownsRow (w.heap.size + 2) 151 6 (.slice (some ⟨w.heap.size + 2,0,none⟩) 1 1) 1 (LM.cellI p)):=by
    have h:=World.ownsRow_lit (base:=w.heap.size + 2) (e:=151) (size:=6) ((w.alloc (.cells (M.cellsI p.a p.i) 151)).alloc (.cells #[.slice none 0 0,.slice none 0 0,.int .i64 0] 30)) (M.cellsI p.a p.i) 1 (by simp) (by decide) rfl
    have e : ((w.alloc (.cells (M.cellsI p.a p.i) 151)).alloc (.cells #[.slice none 0 0,.slice none 0 0,.int .i64 0] 30)).heap.size = w.heap.size + 2:=by simp
    rw [e] at h
    exact h
   have HB3:=hideC (HBB.out.alloc (by simp;omega) (.cells (M.cellsI p.a p.i) 151))
   have BM3:=hideC (B.alloc BM.out (.cells (M.cellsI p.a p.i) 151))
   have BR3:=hideC (B.alloc BR.out (.cells (M.cellsI p.a p.i) 151))
   clear BM BR HBB
   simp only [M.cellsI] at HOW0 HB3 BM3 BR3 ⊢
   go_wp2_with (at_builtin;refine wpList_append_libs rfl _ _ rfl (w.heap.size + 2) p (w.heap.size + 2) (by first | rfl | simp) HOW0.out ao cap libs rfl (HL.out.below HB3.out) (by omega) (by simp) ?_;intro gg capg w1 hown hgrow hlt;have HB1:=hideC (HB3.out.grown hgrow (by simp;omega) (fun q hq=>by injection hq with hq;omega));have BM1:=hideC (B.grown BM3.out hgrow (by simp));have BR1:=hideC (B.grown BR3.out hgrow (by simp));have HI1:=hideC (row_im (l:=p :: libs) hown hlt (HIM.out _ HB1.out));clear hown hgrow hlt)
   obtain ⟨all,hall⟩ : ∃ all,all = p :: libs:=⟨_,rfl⟩
   have HLI : Hid (LM.liAt all 0 = p):=by rw [hall];rfl
   have hlen : libs.length + 1 = all.length:=by rw [hall];rfl
   rw [<- hall] at HI1 HIM HFA h7 HCKP HGAP HPXP
   rw [<- hall,hlen]
   clear HOW0 HB3 BM3 BR3 HL
   have HALL:=hideC hall
   clear hall
   refine (byName_with all _ _ _ HI1.out ⟨by unfold M.Short;omega,HFA.out⟩ (fun k hk V hV=>HCKP.out k hk V (HB1.out.trans (hV.mono HB1.out.size)))).mono ?_
   rintro e w2 ⟨hb,hout⟩
   have HB2:=hideC (HB1.out.trans (hb.mono HB1.out.size))
   have BM2:=hideC (B.below BM1.out hb (B.isLt BM1.out))
   have BR2:=hideC (B.below BR1.out hb (B.isLt BR1.out))
   clear hb BM1 BR1 HB1 HI1
   by_cases hby : LM.byErr all = 0
   · rw [if_pos hby] at hout
     obtain ⟨m,D,rfl,hmap,hnm⟩:=hout
     obtain ⟨hck,honce⟩:=LM.byErr_zero hby
     have HGI : Hid (Gi all m D w2):=⟨by omega,h7,hck,HFA.out,honce,HIM.out _ HB2.out,hmap,hnm⟩
     have HCK:=hideC hck
     clear hmap hnm honce hck
     have m0:=B.cell BM2.out 0 rfl
     have m1:=B.cell BM2.out 1 rfl
     have m2:=B.cell BM2.out 2 rfl
     have m3:=B.cell BM2.out 3 rfl
     have m4:=B.cell BM2.out 4 rfl
     have m5:=B.cell BM2.out 5 rfl
     have HBY:=hideC hby
     clear hby
     go_wp2_with fail
     have HGA:=hideC (HGAP.out m D w2 HGI.out)
     rw [HLI.out] at HGA
     refine Calls.mono (P:=Tryz.prog) HGA.out ?_
     rintro e w3 ⟨hb,hout⟩
     have HB3:=hideC (HB2.out.trans (hb.mono HB2.out.size))
     have BM3:=hideC (B.below BM2.out hb (B.isLt BM2.out))
     have BR3:=hideC (B.below BR2.out hb (B.isLt BR2.out))
     clear hb BM2 BR2 HGA m0 m1 m2 m3 m4 m5
     have r0:=B.cell BR3.out 0 rfl
     have r1:=B.cell BR3.out 1 rfl
     have r2:=B.cell BR3.out 2 rfl
     have rf:=B.free BR3.out
     have rl:=B.isLt BR3.out
     cases eg : LM.gat all all.length 0 [0] with
     | none =>
      rw [eg] at hout
      obtain rfl:=hout
      have HE : Hid (LM.linkErr all = 6):=by
       show _ = _
       unfold LM.linkErr
       rw [if_neg (by omega),if_pos HBY.out,eg]
      clear eg
      go_wp2
      exact bodyPost_ret (v:=.tuple #[.agg #[.slice none 0 0,.slice none 0 0,.int .i64 0],.int .i64 6]) (by simp [results,Tryz.results93,go_sem,r0,r1,r2]) rfl ⟨((HB3.out.setCell (by simp) _).setCell (by simp) _).setCell (by simp) _,by rw [<- HALL.out,HE.out];simp⟩
     | some ix =>
      rw [eg] at hout
      obtain ⟨hok,ao2,cap2,rfl,hO⟩:=hout
      have hpos:=hok.pos
      have hle:=hok.le
      have HLE : Hid (LM.endO (LM.obAt (LM.obsFrom all 1 ix) (ix.length - 1)) = LM.endFrom all 1 ix):=LM.obsFrom_last all ix 1 hpos
      have HOI : Hid (Oi (LM.obsFrom all 1 ix) ao2 w3):=by
       refine ⟨hO,by rw [LM.obsFrom_length];omega,fun k hk=>?_,fun k hk=>?_,LM.obs_base HCK.out h7 hok⟩
       · rw [LM.obsFrom_length] at hk
         rw [(LM.obsFrom_at all ix 1 k hk).1]
         exact HCK.out _ (hok.lt _ (LM.getD_mem ix k hk))
       · rw [LM.obsFrom_length] at hk
         rw [(LM.obsFrom_at all ix 1 k hk).1]
         exact HFA.out _ (hok.lt _ (LM.getD_mem ix k hk))
      have hxl : ix.length = (LM.obsFrom all 1 ix).length:=(LM.obsFrom_length all ix 1).symm
      have HERR : Hid (LM.linkErr all = if 256 < LM.endFrom all 1 ix then 3 else match LM.sheetsN (LM.obsFrom all 1 ix) with
        | none=>7
        | some _=>0):=by
       show _ = _
       unfold LM.linkErr
       rw [if_neg (by omega),if_pos HBY.out,eg]
       dsimp only
       cases LM.sheetsN (LM.obsFrom all 1 ix) <;> rfl
      have HEG:=hideC eg
      obtain ⟨EN,hEN⟩ : ∃ EN,EN = LM.endFrom all 1 ix:=⟨_,rfl⟩
      rw [<- hEN] at HLE HERR
      have HPX2:=hideC (HPXP.out ix)
      obtain ⟨obs,hobs⟩ : ∃ obs,obs = LM.obsFrom all 1 ix:=⟨_,rfl⟩
      rw [<- hobs] at HOI HERR HLE hO hxl HPX2
      have HOB:=hideC hobs
      rw [hxl] at HLE hpos hle
      rw [hxl]
      clear hEN hobs eg hok hxl HGI HBY
      obtain ⟨b,off,hao2,hbl,hlie⟩:=hO hpos
      subst hao2
      obtain ⟨k1,hk1⟩ : ∃ k1,k1 = obs.length - 1:=⟨_,rfl⟩
      have hk1l : k1 < obs.length:=by omega
      rw [<- hk1] at HLE
      obtain ⟨⟨c0,c1,c2,c3,c4,c5,c6⟩,him⟩:=hlie k1 hk1l
      have HEN:=hideC (fun V hb=>end_any (LM.obAt obs k1) V (him.below hb) (HOI.out.chk k1 hk1l) (by have:=HOI.out.base k1 hk1l;omega) (by have:=HOI.out.base k1 hk1l;omega))
      obtain ⟨o,ho⟩ : ∃ o,o = LM.obAt obs k1:=⟨_,rfl⟩
      rw [<- ho] at c0 c1 c2 c3 c4 c5 c6 HEN HLE
      simp only [LM.cellsO] at HEN
      rw [HLE.out] at HEN
      have hwr : IntKind.i64.wrap ((obs.length : Int) - 1) = (k1 : Int):=by rw [IntWalk.i64_in _ (by omega)];omega
      clear ho hlie hO him HLE hk1 hlen HP HIM HFA
      by_cases h256 : 256 < EN
      · have HE : Hid (LM.linkErr all = 3):=by
         show _ = _
         rw [HERR.out,if_pos h256]
        clear HERR
        go_wp2_with (go_at_call 134;refine (HEN.out _ (Below.refl _ _)).mono ?_;rintro e w4 ⟨rfl,hb⟩;have HB4:=hideC (HB3.out.trans (hb.mono HB3.out.size));have BR4:=hideC (B.below BR3.out hb (B.isLt BR3.out));have s0:=B.cell BR4.out 0 rfl;have s1:=B.cell BR4.out 1 rfl;have s2:=B.cell BR4.out 2 rfl;have sf:=B.free BR4.out;have sl:=B.isLt BR4.out;clear hb)
        exact bodyPost_ret (v:=.tuple #[.agg #[.slice none 0 0,.slice none 0 0,.int .i64 0],.int .i64 3]) (by simp [results,Tryz.results93,go_sem,s0,s1,s2]) rfl ⟨((HB4.out.setCell (by simp) _).setCell (by simp) _).setCell (by simp) _,by rw [<- HALL.out,HE.out];simp⟩
      · have HSH : Hid (∀ V,Oi obs (some ⟨b,off,none⟩) V -> Calls Tryz.prog 135 #[.slice (some ⟨b,off,none⟩) obs.length cap2] V (OutSh (LM.sheetsN obs) V)):=fun V hV=>sheetsOf_with obs _ cap2 V hV (by omega) (fun k hk V' hV'=>HPX2.out _ cap2 k V' hk)
        cases es : LM.sheetsN obs with
        | none =>
         have HE : Hid (LM.linkErr all = 7):=by
          show _ = _
          rw [HERR.out,if_neg h256,es]
         rw [es] at HSH
         clear HERR es
         go_wp2_with (first
          | (go_at_call 134;refine (HEN.out _ (Below.refl _ _)).mono ?_;rintro e w4 ⟨rfl,hb⟩;have HB4:=hideC (HB3.out.trans (hb.mono HB3.out.size));have BR4:=hideC (B.below BR3.out hb (B.isLt BR3.out));have BM4:=hideC (B.below BM3.out hb (B.isLt BM3.out));have HOI4:=hideC (HOI.out.below hb);clear hb)
          | (go_at_call 135;refine (HSH.out _ HOI4.out).mono ?_;rintro e w5 ⟨hb,rfl⟩;have HB5:=hideC (HB4.out.trans (hb.mono HB4.out.size));have BR5:=hideC (B.below BR4.out hb (B.isLt BR4.out));have s0:=B.cell BR5.out 0 rfl;have s1:=B.cell BR5.out 1 rfl;have s2:=B.cell BR5.out 2 rfl;have sf:=B.free BR5.out;have sl:=B.isLt BR5.out;clear hb))
         exact bodyPost_ret (v:=.tuple #[.agg #[.slice none 0 0,.slice none 0 0,.int .i64 0],.int .i64 7]) (by simp [results,Tryz.results93,go_sem,s0,s1,s2]) rfl ⟨((HB5.out.setCell (by simp) _).setCell (by simp) _).setCell (by simp) _,by rw [<- HALL.out,HE.out];simp⟩
        | some E =>
         have HE : Hid (LM.linkErr all = 0):=by
          show _ = _
          rw [HERR.out,if_neg h256,es]
         have HES:=hideC es
         rw [es] at HSH
         clear HERR es
         go_wp2_with (first
          | (go_at_call 134;refine (HEN.out _ (Below.refl _ _)).mono ?_;rintro e w4 ⟨rfl,hb⟩;have HB4:=hideC (HB3.out.trans (hb.mono HB3.out.size));have BR4:=hideC (B.below BR3.out hb (B.isLt BR3.out));have BM4:=hideC (B.below BM3.out hb (B.isLt BM3.out));have HOI4:=hideC (HOI.out.below hb);clear hb)
          | (go_at_call 135;refine (HSH.out _ HOI4.out).mono ?_;rintro e w5 ⟨hb,hs,ah,ch,hme,rfl,hhh,hcc⟩;have HB5:=hideC (HB4.out.trans (hb.mono HB4.out.size));have BR5:=hideC (B.below BR4.out hb (B.isLt BR4.out));have BM5:=hideC (B.below BM4.out hb (B.isLt BM4.out));have HOI5:=hideC (HOI4.out.below hb);have HME:=hideC hme;have HHH:=hideC hhh;clear hb hme hhh))
         clear HSH HEN HOI HOI4 BR3 BR4 BM3 BM4 HB3 r0 r1 r2 rf rl c0 c1 c2 c3 c4 c5 c6 hwr hbl hk1l
         obtain ⟨b5,off5,hbe,hbl5,hlie5⟩:=HOI5.out.has hpos
         obtain ⟨⟨d0,d1,d2,d3,d4,d5,d6⟩,dim⟩:=hlie5 0 hpos
         have hbe1 : b = b5:=by injection hbe with hbe;injection hbe
         have hbe2 : off = off5:=by injection hbe with hbe;injection hbe
         rw [<- hbe1,<- hbe2] at d0 d1 d2 d3 d4 d5 d6
         rw [<- hbe1] at hbl5
         simp only [Nat.zero_mul,Nat.add_zero] at d0 d1 d2 d3 d4 d5 d6
         have hbs0:=HOI5.out.base 0 hpos
         have hen : 0 <= p.i.entry /\ p.i.entry < 4080:=by
          have h:=LM.entry_bounds (HCK.out 0 (by omega))
          rw [HLI.out] at h
          exact h
         have HEA : Hid ((LM.liAt all 0).i.entry = p.i.entry):=by rw [HLI.out];rfl
         have HAR : Hid (∀ V,Below w5.heap.size w5 V -> Calls Tryz.prog 136 #[.slice (some ⟨b,off,none⟩) obs.length cap2] V fun e w'=>∃ r,e = .returned r /\ AW.Own V.heap.size w' r (LM.areasN obs) /\ Below V.heap.size V w'):=fun V hb=>areasOf_any obs _ cap2 V (HOI5.out.below hb) (by omega)
         have HAD:=hideC (fun V=>address_any (LM.obAt obs 0) p.i.entry V (by omega) (by omega) hen.1 (by omega))
         obtain ⟨o0,ho0⟩ : ∃ o0,o0 = LM.obAt obs 0:=⟨_,rfl⟩
         have HO0:=hideC ho0
         rw [<- ho0] at d0 d1 d2 d3 d4 d5 d6 HAD
         simp only [LM.cellsO] at HAD
         have hne : b ≠ w.heap.size + 1:=fun e=>by
          rw [e] at d6
          have h:=BR5.out
          simp [World.cell?,h] at d6
         have HS : Hid (∀ V,Below w5.heap.size w5 V -> V.cell? ⟨b,off,none⟩ = some (.string o0.i.name) /\ V.cell? ⟨b,off + 1,none⟩ = some (.slice o0.a.an o0.i.needs.length o0.a.cn) /\ V.cell? ⟨b,off + 2,none⟩ = some (.slice o0.a.ag o0.i.segs.length o0.a.cg) /\ V.cell? ⟨b,off + 3,none⟩ = some (.slice o0.a.ay o0.i.syms.length o0.a.cy) /\ V.cell? ⟨b,off + 4,none⟩ = some (.slice o0.a.ar o0.i.rels.length o0.a.cr) /\ V.cell? ⟨b,off + 5,none⟩ = some (.int .i64 o0.i.entry) /\ V.cell? ⟨b,off + 6,none⟩ = some (.int .i64 o0.base) /\ V.cell? ⟨w.heap.size,5,none⟩ = some (.int .i64 p.i.entry)):=fun V hb=>⟨(M.below_cell hb hbl5).trans d0,(M.below_cell hb hbl5).trans d1,(M.below_cell hb hbl5).trans d2,(M.below_cell hb hbl5).trans d3,(M.below_cell hb hbl5).trans d4,(M.below_cell hb hbl5).trans d5,(M.below_cell hb hbl5).trans d6,B.cell (B.below BM5.out hb (B.isLt BM5.out)) 5 rfl⟩
         obtain ⟨AD,hAD⟩ : ∃ AD,AD = LM.addrO o0 p.i.entry:=⟨_,rfl⟩
         rw [<- hAD] at HAD
         have HADE:=hideC hAD
         clear ho0 hAD d0 d1 d2 d3 d4 d5 d6 dim hlie5 hbe hbe1 hbe2
         have HK0:=hideC (Below.refl w5.heap.size w5).drew
         have HS0:=hideC (HS.out _ HK0.out)
         go_region_held3 (fun V=>V.cell? ⟨b,off,none⟩ = some (.string o0.i.name) /\ V.cell? ⟨b,off + 1,none⟩ = some (.slice o0.a.an o0.i.needs.length o0.a.cn) /\ V.cell? ⟨b,off + 2,none⟩ = some (.slice o0.a.ag o0.i.segs.length o0.a.cg) /\ V.cell? ⟨b,off + 3,none⟩ = some (.slice o0.a.ay o0.i.syms.length o0.a.cy) /\ V.cell? ⟨b,off + 4,none⟩ = some (.slice o0.a.ar o0.i.rels.length o0.a.cr) /\ V.cell? ⟨b,off + 5,none⟩ = some (.int .i64 o0.i.entry) /\ V.cell? ⟨b,off + 6,none⟩ = some (.int .i64 o0.base) /\ V.cell? ⟨w.heap.size,5,none⟩ = some (.int .i64 p.i.entry)) (first | exact HS7.out | exact HS6.out | exact HS0.out | exact HSX.out _ _ _)
          (first
           | (go_at_call 136;refine (HAR.out _ HK0.out).mono ?_;rintro e w6 ⟨v8,rfl,hrw,hb⟩;obtain ⟨ar,cr,hrv,hrg⟩:=own_slice hrw;subst hrv;have HRW:=hideC hrw;have HK6:=hideC (HK0.out.trans (hb.mono HK0.out.size));have HS6:=hideC (HS.out _ HK6.out);clear hb hrw hrg)
           | (go_at_call 137;refine (HAD.out _).mono ?_;rintro e w7 ⟨rfl,hb⟩;have HK7:=hideC (HK6.out.trans (hb.mono HK6.out.size));have HS7:=hideC (HS.out _ HK7.out);have HRW7:=hideC (own_below HRW.out hb);have BR7:=hideC (B.below BR5.out HK7.out (B.isLt BR5.out));have s0:=B.cell BR7.out 0 rfl;have s1:=B.cell BR7.out 1 rfl;have s2:=B.cell BR7.out 2 rfl;have sf:=B.free BR7.out;have sl:=B.isLt BR7.out;have HSX : Hid (∀ u0 u1 u2,(fun V : World=>V.cell? ⟨b,off,none⟩ = some (.string o0.i.name) /\ V.cell? ⟨b,off + 1,none⟩ = some (.slice o0.a.an o0.i.needs.length o0.a.cn) /\ V.cell? ⟨b,off + 2,none⟩ = some (.slice o0.a.ag o0.i.segs.length o0.a.cg) /\ V.cell? ⟨b,off + 3,none⟩ = some (.slice o0.a.ay o0.i.syms.length o0.a.cy) /\ V.cell? ⟨b,off + 4,none⟩ = some (.slice o0.a.ar o0.i.rels.length o0.a.cr) /\ V.cell? ⟨b,off + 5,none⟩ = some (.int .i64 o0.i.entry) /\ V.cell? ⟨b,off + 6,none⟩ = some (.int .i64 o0.base) /\ V.cell? ⟨w.heap.size,5,none⟩ = some (.int .i64 p.i.entry)) (((w7.setCell ⟨w.heap.size + 1,0,none⟩ u0).setCell ⟨w.heap.size + 1,1,none⟩ u1).setCell ⟨w.heap.size + 1,2,none⟩ u2)):=(fun u0 u1 u2=>by have h:=HS7.out;have hw : w.heap.size ≠ w.heap.size + 1:=(by omega);simp only [cell_set3 _ _ _ _ _ _ _ hne,cell_set3 _ _ _ _ _ _ _ hw];exact h);clear hb))
         have HHH7:=hideC (hasH_set3 BR7.out (HHH.out.below HK7.out) (.slice ar (LM.areasN obs).length cr) (.slice ah hs.length ch) (.int .i64 AD))
         have HOWN7:=hideC (own_set3 (rb:=w.heap.size + 1) HRW7.out (Nat.lt_of_lt_of_le (B.isLt BR5.out) HK0.out.size) (.slice ar (LM.areasN obs).length cr) (.slice ah hs.length ch) (.int .i64 AD))
         have HB7:=hideC ((((HB5.out.trans (HK7.out.mono HB5.out.size)).setCell (p:=⟨w.heap.size + 1,0,none⟩) (by simp) (.slice ar (LM.areasN obs).length cr)).setCell (p:=⟨w.heap.size + 1,1,none⟩) (by simp) (.slice ah hs.length ch)).setCell (p:=⟨w.heap.size + 1,2,none⟩) (by simp) (.int .i64 AD))
         go_wp2
         refine bodyPost_ret (v:=.tuple #[.agg #[.slice ar (LM.areasN obs).length cr,.slice ah hs.length ch,.int .i64 AD],.int .i64 0]) (by simp [results,Tryz.results93,go_sem,s0,s1,s2]) rfl ⟨HB7.out,?_⟩
         rw [<- HALL.out,HE.out,if_pos rfl]
         refine ⟨ix,E,.slice ar (LM.areasN obs).length cr,hs,ah,ch,HEG.out,by rw [<- HOB.out];exact HES.out,HME.out,?_,?_,HHH7.out,hcc⟩
         · rw [HEA.out,<- HOB.out,<- HO0.out,<- HADE.out]
         · rw [<- HOB.out]
           exact HOWN7.out.mono (Nat.le_trans HB5.out.size HK0.out.size)
   · rw [if_neg hby] at hout
     subst hout
     have HE : Hid (LM.linkErr all = LM.byErr all):=by
      show _ = _
      unfold LM.linkErr
      rw [if_neg (by omega),if_neg hby]
     obtain ⟨er,her⟩ : ∃ er,er = LM.byErr all:=⟨_,rfl⟩
     rw [<- her] at HE hby
     rw [<- her]
     have hbz : (er == 0) = false:=by simpa using hby
     have r0:=B.cell BR2.out 0 rfl
     have r1:=B.cell BR2.out 1 rfl
     have r2:=B.cell BR2.out 2 rfl
     have rf:=B.free BR2.out
     have rl:=B.isLt BR2.out
     clear her
     go_wp2
     exact bodyPost_ret (v:=.tuple #[.agg #[.slice none 0 0,.slice none 0 0,.int .i64 0],.int .i64 er]) (by simp [results,Tryz.results93,go_sem,r0,r1,r2]) rfl ⟨((HB2.out.setCell (by simp) _).setCell (by simp) _).setCell (by simp) _,by rw [<- HALL.out,HE.out,if_neg hby]⟩
end LW
namespace LW
open Go.RowKit
open W (hideC)
set_option maxHeartbeats 1000000 in
theorem patches0 (l : List LM.Ob) (ao : Option Addr) (cap : Nat) (o : LM.Ob) (w : World) (hr : o.i.rels = []) : Calls Tryz.prog 161 #[.agg (LM.cellsO o),.slice ao l.length cap] w (OutPt (LM.patN l o) w):=by
 have e : LM.patN l o = some []:=by unfold LM.patN;rw [hr];rfl
 rw [e]
 unfold LM.cellsO
 rw [hr]
 obtain ⟨⟨nm,ns,gs,ys,rs,en⟩,⟨an,cn,ag,cg,ay,cy,ar,cr⟩,bs⟩:=o
 simp only at hr ⊢
 clear hr e
 obtain ⟨n1,h1⟩ : ∃ n,n = ns.length:=⟨_,rfl⟩
 obtain ⟨n2,h2⟩ : ∃ n,n = gs.length:=⟨_,rfl⟩
 obtain ⟨n3,h3⟩ : ∃ n,n = ys.length:=⟨_,rfl⟩
 rw [<- h1,<- h2,<- h3]
 clear h1 h2 h3
 have HB:=hideC ((Below.refl w.heap.size w).alloc (Nat.le_refl _) (.cells #[.string nm,.slice an n1 cn,.slice ag n2 cg,.slice ay n3 cy,.slice ar 0 cr,.int .i64 en,.int .i64 bs] 195))
 have HFIN : Hid (∀ w',Below w.heap.size w w' -> OutPt (some []) w (.returned (.tuple #[.slice none 0 0,.bool true])) w'):=fun w' hb=>⟨hb,_,rfl,World.ownsRow_nil _ _ _ _⟩
 obtain ⟨P,hP⟩ : ∃ P,P = OutPt (some []) w:=⟨_,rfl⟩
 rw [<- hP] at HFIN ⊢
 clear hP
 simp only [List.length_nil]
 go_enter Tryz.func161,Tryz.ntmps161
 go_wp2
 go_loopw [6,17] (fun sv iv wr=>sv = .slice none 0 0 /\ iv = .int .i64 0 /\ Below w.heap.size w wr) (fun _ _ _=>0)
 case atStart=>exact ⟨rfl,rfl,HB.out⟩
 case round =>
  obtain ⟨rfl,rfl,hb⟩:=hrel
  have HB2:=hideC hb
  clear hb
  go_wp2
  exact HFIN.out _ HB2.out
set_option maxHeartbeats 2000000 in
theorem gather0 (p : LM.Li) (m : Nat) (w : World) (hn : p.i.needs = []) (him : M.HasIm w p.a p.i) : Calls Tryz.prog 133 #[LM.imgV p,.map (some m)] w (OutG [p] (some [0]) w):=by
 have HFIN : Hid (∀ (w' : World) g,w'.heap[g]? = some (.cells #[.string p.i.name,.slice p.a.an p.i.needs.length p.a.cn,.slice p.a.ag p.i.segs.length p.a.cg,.slice p.a.ay p.i.syms.length p.a.cy,.slice p.a.ar p.i.rels.length p.a.cr,.int .i64 p.i.entry,.int .i64 1] 195 (0,0)) -> Below w.heap.size w w' -> OutG [p] (some [0]) w (.returned (.tuple #[.slice (some ⟨g,0,none⟩) 1 1,.bool true])) w'):=fun w' g h1 h2=>by
  refine ⟨h2,⟨by decide,by decide,fun j hj=>?_⟩,some ⟨g,0,none⟩,1,rfl,fun _=>⟨g,0,rfl,B.isLt h1,fun k hk=>?_⟩⟩
  · simp at hj;subst hj;exact Nat.zero_lt_one
  · obtain rfl : k = 0:=by have : k < 1:=hk;omega
    exact ⟨⟨B.cell h1 0 rfl,B.cell h1 1 rfl,B.cell h1 2 rfl,B.cell h1 3 rfl,B.cell h1 4 rfl,B.cell h1 5 rfl,B.cell h1 6 rfl⟩,him.below h2⟩
 obtain ⟨P,hP⟩ : ∃ P,P = OutG [p] (some [0]) w:=⟨_,rfl⟩
 rw [<- hP] at HFIN ⊢
 clear hP him
 unfold LM.imgV M.cellsI
 rw [hn] at HFIN ⊢
 obtain ⟨⟨nm,ns,gs,ys,rs,en⟩,⟨an,cn,ag,cg,ay,cy,ar,cr⟩⟩:=p
 simp only at HFIN ⊢
 clear hn
 obtain ⟨n2,h2⟩ : ∃ n,n = gs.length:=⟨_,rfl⟩
 obtain ⟨n3,h3⟩ : ∃ n,n = ys.length:=⟨_,rfl⟩
 obtain ⟨n4,h4⟩ : ∃ n,n = rs.length:=⟨_,rfl⟩
 rw [<- h2,<- h3,<- h4] at HFIN ⊢
 simp only [List.length_nil] at HFIN ⊢
 clear h2 h3 h4
 have HB:=hideC (((Below.refl w.heap.size w).alloc (Nat.le_refl _) (.cells #[.string nm,.slice an 0 cn,.slice ag n2 cg,.slice ay n3 cy,.slice ar n4 cr,.int .i64 en] 151)).alloc (by simp) (.cells #[.string nm,.slice an 0 cn,.slice ag n2 cg,.slice ay n3 cy,.slice ar n4 cr,.int .i64 en,.int .i64 1] 195))
 have HX : Hid (((w.alloc (.cells #[.string nm,.slice an 0 cn,.slice ag n2 cg,.slice ay n3 cy,.slice ar n4 cr,.int .i64 en] 151)).alloc (.cells #[.string nm,.slice an 0 cn,.slice ag n2 cg,.slice ay n3 cy,.slice ar n4 cr,.int .i64 en,.int .i64 1] 195)).heap[w.heap.size + 1]? = some (.cells #[.string nm,.slice an 0 cn,.slice ag n2 cg,.slice ay n3 cy,.slice ar n4 cr,.int .i64 en,.int .i64 1] 195 (0,0))):=by
  have:=B.new (w.alloc (.cells #[.string nm,.slice an 0 cn,.slice ag n2 cg,.slice ay n3 cy,.slice ar n4 cr,.int .i64 en] 151)) #[.string nm,.slice an 0 cn,.slice ag n2 cg,.slice ay n3 cy,.slice ar n4 cr,.int .i64 en,.int .i64 1] 195
  rw [World.size_alloc] at this
  exact this
 go_enter Tryz.func133,Tryz.ntmps133
 go_wp2
 obtain ⟨g,hg⟩ : ∃ g,g = w.heap.size + 1:=⟨_,rfl⟩
 rw [<- hg] at HX ⊢
 clear hg
 go_loopw [6,7] (fun sv iv wr=>sv = .slice (some ⟨g,0,none⟩) 1 1 /\ (∃ k : Nat,k <= 1 /\ iv = .int .i64 (k : Int)) /\ wr.heap[g]? = some (.cells #[.string nm,.slice an 0 cn,.slice ag n2 cg,.slice ay n3 cy,.slice ar n4 cr,.int .i64 en,.int .i64 1] 195 (0,0)) /\ Below w.heap.size w wr) (fun _ iv _=>1 - (intOf iv).toNat)
 case atStart=>exact ⟨rfl,⟨0,by omega,rfl⟩,HX.out,HB.out⟩
 case round =>
  obtain ⟨rfl,⟨k,hk,rfl⟩,hx,hb⟩:=hrel
  have HX2:=hideC hx
  have HB2:=hideC hb
  have x1 : wr.cell? ⟨g,1,none⟩ = some (.slice an 0 cn):=B.cell hx 1 rfl
  clear hx hb HX HB
  by_cases h0 : k = 0
  · subst h0
    go_wp2
    clear x1
    go_loopw [6,28] (fun sv iv wi=>sv = .slice (some ⟨g,0,none⟩) 1 1 /\ iv = .int .i64 0 /\ wi.heap[g]? = some (.cells #[.string nm,.slice an 0 cn,.slice ag n2 cg,.slice ay n3 cy,.slice ar n4 cr,.int .i64 en,.int .i64 1] 195 (0,0)) /\ Below w.heap.size w wi) (fun _ _ _=>0)
    case atStart=>exact ⟨rfl,rfl,HX2.out,HB2.out⟩
    case round =>
     obtain ⟨rfl,rfl,hx,hb⟩:=hrel
     have HX3:=hideC hx
     have HB3:=hideC hb
     clear hx hb HX2 HB2
     go_wp2
     go_roundw
     case rel=>exact ⟨rfl,⟨1,by omega,by first | rfl | go_num⟩,HX3.out,HB3.out⟩
     case measure=>simp [intOf]
  · obtain rfl : k = 1:=by omega
    go_wp2
    exact HFIN.out _ _ HX2.out HB2.out
end LW
namespace KG
open Go.RowKit GK
open FW (hideC add_below)
def OutTh (w : World) (e : Ending) (w' : World) : Prop:=∃ ar cr ah ch a1 a2 a3 c1 c2 c3,e = .returned (.agg #[.slice ar 2 cr,.slice ah 3 ch,.int .i64 16]) /\ AW.Has w' (.slice ar 2 cr) thA /\ LM.HasH w' ah (thH a1 a2 a3 c1 c2 c3) /\ 3 <= ch /\ Below w.heap.size w w'
theorem out_of {a : M.At} {w w' : World} {e : Ending} (h : LW.OutL [⟨thI,a⟩] w e w') : ∃ ar cr ah ch a1 a2 a3 c1 c2 c3,e = .returned (.tuple #[.agg #[.slice ar 2 cr,.slice ah 3 ch,.int .i64 16],.int .i64 0]) /\ AW.Own w.heap.size w' (.slice ar 2 cr) thA /\ LM.HasH w' ah (thH a1 a2 a3 c1 c2 c3) /\ 3 <= ch /\ Below w.heap.size w w':=by
 obtain ⟨hb,h2⟩:=h
 rw [if_pos (th_err a)] at h2
 obtain ⟨ix,E,r,hs,ao,cap,h3,h4,h5,h6,h7,h8,h9⟩:=h2
 rw [th_gat] at h3
 injection h3 with h3
 subst h3
 rw [th_obs] at h4 h6 h7
 rw [th_sheets] at h4
 injection h4 with h4
 subst h4
 rw [th_areas] at h7
 rw [th_entry] at h6
 obtain ⟨a1,a2,a3,c1,c2,c3,rfl⟩:=th_of h5
 obtain ⟨ar,cr,hr,_⟩:=LW.own_slice h7
 subst hr
 exact ⟨ar,cr,ao,cap,a1,a2,a3,c1,c2,c3,h6,h7,h8,h9,hb⟩
theorem hasH_set {V U : World} {g : Nat} {x y : Value} {n : Int} {ah : Option Addr} {a1 a2 a3 : Option Addr} {c1 c2 c3 : Nat} (h : LM.HasH V ah (thH a1 a2 a3 c1 c2 c3)) (hg : V.heap[g]? = some (.cells #[x,y,.int .i64 n] 30 (0,0))) (hx : ∀ k i,x ≠ .int k i) (hy : ∀ k i,y ≠ .int k i) (hk : ∀ b j v,b ≠ g -> V.cell? ⟨b,j,none⟩ = some v -> U.cell? ⟨b,j,none⟩ = some v) (hs : V.heap.size <= U.heap.size) : LM.HasH U ah (thH a1 a2 a3 c1 c2 c3):=fun hl=>by
 obtain ⟨b,off,rfl,hb,hlie⟩:=h hl
 have hne : b ≠ g:=fun e=>by
  subst e
  obtain ⟨d0,d1,_,_⟩:=hlie 0 (by unfold thH;simp)
  rw [Nat.zero_mul,Nat.add_zero] at d0 d1
  match off,d0,d1 with
  | 0,d0,_ =>
   rw [B.cell hg 0 (v:=x) rfl] at d0
   injection d0 with d0
   exact hx _ _ d0
  | 1,d0,_ =>
   rw [B.cell hg 1 (v:=y) rfl] at d0
   injection d0 with d0
   exact hy _ _ d0
  | 2,_,d1 =>
   have : V.cell? ⟨b,3,none⟩ = none:=by simp [World.cell?,hg]
   rw [this] at d1
   cases d1
  | k + 3,d0,_ =>
   have : V.cell? ⟨b,k + 3,none⟩ = none:=by simp [World.cell?,hg]
   rw [this] at d0
   cases d0
 refine ⟨b,off,rfl,by omega,fun i hi=>?_⟩
 obtain ⟨d0,d1,d2,_⟩:=hlie i hi
 refine ⟨hk _ _ _ hne d0,hk _ _ _ hne d1,hk _ _ _ hne d2,fun h0=>?_⟩
 exfalso
 match i,hi,h0 with
 | 0,_,h0=>exact Nat.not_lt_zero _ h0
 | 1,_,h0=>exact Nat.not_lt_zero _ h0
 | 2,_,h0=>exact Nat.not_lt_zero _ h0
 | i + 3,h,_=>exact absurd h (by unfold thH;simp)
set_option maxHeartbeats 4000000 in
theorem three_any (w : World) : Calls Tryz.prog 50 #[] w (OutTh w):=by
 have HFIN : Hid (∀ ar cr ah ch a1 a2 a3 c1 c2 c3 (w' : World),AW.Has w' (.slice ar 2 cr) thA -> LM.HasH w' ah (thH a1 a2 a3 c1 c2 c3) -> 3 <= ch -> Below w.heap.size w w' -> OutTh w (.returned (.agg #[.slice ar 2 cr,.slice ah 3 ch,.int .i64 16])) w'):=fun ar cr ah ch a1 a2 a3 c1 c2 c3 w' h1 h2 h3 h4=>⟨ar,cr,ah,ch,a1,a2,a3,c1,c2,c3,rfl,h1,h2,h3,h4⟩
 obtain ⟨P,hP⟩ : ∃ P,P = OutTh w:=⟨_,rfl⟩
 rw [<- hP] at HFIN ⊢
 clear hP
 have HIN : Hid (∀ V,Calls Tryz.prog 94 #[.agg #[.int .i64 12,.int .i64 0,.int .i64 0,.int .i64 0,.int .i64 0]] V fun e w'=>e = .returned (.string jmpD) /\ Below V.heap.size V w'):=fun V=>by
  have:=PW.instr_any ⟨12,0,0,0,0⟩ V
  rw [jmp_bytes] at this
  exact this
 have HLK : Hid (∀ wb V,V.heap[wb]? = some (.cells #[.int .i64 0,.int .i64 1,.string jmpD,.bool false,.bool true,.int .i64 1,.int .i64 2,.string ⟨#[97,98,99]⟩,.bool true,.bool false] 145 (0,0)) -> Calls Tryz.prog 93 #[.agg #[.string ⟨#[116]⟩,.slice none 0 0,.slice (some ⟨wb,0,none⟩) 2 2,.slice none 0 0,.slice none 0 0,.int .i64 0],.slice none 0 0] V fun e w'=>∃ ar cr ah ch a1 a2 a3 c1 c2 c3,e = .returned (.tuple #[.agg #[.slice ar 2 cr,.slice ah 3 ch,.int .i64 16],.int .i64 0]) /\ AW.Own V.heap.size w' (.slice ar 2 cr) thA /\ LM.HasH w' ah (thH a1 a2 a3 c1 c2 c3) /\ 3 <= ch /\ Below V.heap.size V w'):=fun wb V hV=>by
  have him : M.HasIm V ⟨none,0,some ⟨wb,0,none⟩,2,none,0,none,0⟩ thI:=⟨fun h=>absurd h (Nat.not_lt_zero _),fun _=>⟨wb,0,rfl,B.isLt hV,fun i hi=>by
   have : i < 2:=hi
   rcases (show i = 0 ∨ i = 1 by omega) with rfl | rfl
   · exact ⟨B.cell hV 0 rfl,B.cell hV 1 rfl,B.cell hV 2 rfl,B.cell hV 3 rfl,B.cell hV 4 rfl⟩
   · exact ⟨B.cell hV 5 rfl,B.cell hV 6 rfl,B.cell hV 7 rfl,B.cell hV 8 rfl,B.cell hV 9 rfl⟩⟩,fun h=>absurd h (Nat.not_lt_zero _),fun h=>absurd h (Nat.not_lt_zero _)⟩
  refine (LW.link_with ⟨thI,⟨none,0,some ⟨wb,0,none⟩,2,none,0,none,0⟩⟩ [] none 0 V him (fun h=>absurd h (by simp)) th_fit ⟨by unfold M.Short;decide,fun k hk=>absurd hk (by simp)⟩ (fun k hk U hU=>?_) (fun m D U hG=>?_) (fun ix ao cap k U hk=>?_)).mono fun e w' h=>out_of h
  · obtain rfl : k = 0:=by
     have : k < 1:=hk
     omega
    refine (W.check0 ⟨#[116]⟩ [⟨0,1,jmpD,false,true⟩,⟨1,2,abcD,true,false⟩] 0 none (some ⟨wb,0,none⟩) none none 0 2 0 0 U (him.below hU) th_fit (by kernel_rfl) (by kernel_rfl) (by kernel_rfl) (by kernel_rfl) (by kernel_rfl)).mono ?_
    rintro e w' ⟨rfl,hb⟩
    exact ⟨by rw [show M.chkN (LM.liAt [⟨thI,⟨none,0,some ⟨wb,0,none⟩,2,none,0,none,0⟩⟩] 0).i = 0 by kernel_rfl],hb⟩
  · rw [th_gat]
    exact LW.gather0 _ m U rfl (hG.im 0 hG.pos)
  · refine LW.patches0 _ ao cap _ U ?_
    rw [LM.obsFrom_length] at hk
    rw [(LM.obsFrom_at _ ix 1 k hk).1]
    cases ix.getD k 0 <;> rfl
 obtain ⟨D,hD⟩ : ∃ D,D = jmpD:=⟨_,rfl⟩
 rw [<- hD] at HLK HIN
 clear hD
 have HB0:=hideC ((Below.refl w.heap.size w).alloc (Nat.le_refl _) (.cells #[.slice none 0 0,.slice none 0 0,.int .i64 0] 30))
 have X0:=hideC (B.new w #[.slice none 0 0,.slice none 0 0,.int .i64 0] 30)
 obtain ⟨WA,hWA⟩ : ∃ WA,WA = w.alloc (.cells #[.slice none 0 0,.slice none 0 0,.int .i64 0] 30):=⟨_,rfl⟩
 rw [<- hWA] at HB0 X0
 have HWA:=hideC hWA
 have hxl:=B.isLt X0.out
 clear hWA
 go_enter Tryz.func50,Tryz.ntmps50
 go_upto_region 1 with fail
 rw [<- HWA.out]
 go_upto_region 2 with (first
  | (go_at_call 94;refine (HIN.out _).mono ?_;rintro e w1 ⟨rfl,hb1⟩;have HB1:=hideC (HB0.out.trans (hb1.mono HB0.out.size));have X1:=hideC (B.below X0.out hb1 (B.isLt X0.out));clear hb1)
  | (go_at_call 93;refine (HLK.out _ _ (B.new w1 _ _)).mono ?_;rintro e w2 ⟨ar,cr,ah,ch,a1,a2,a3,c1,c2,c3,rfl,h1,h2,h3,h4⟩;have HO:=hideC h1;have HH:=hideC h2;have HB2:=hideC h4;clear h1 h2 h4))
 have HX2:=hideC (B.below (B.alloc X1.out (.cells #[.int .i64 0,.int .i64 1,.string D,.bool false,.bool true,.int .i64 1,.int .i64 2,.string ⟨#[97,98,99]⟩,.bool true,.bool false] 145)) HB2.out (by have:=B.isLt X1.out;simp;omega))
 have HBS:=hideC (HB1.out.alloc HB1.out.size (.cells #[.int .i64 0,.int .i64 1,.string D,.bool false,.bool true,.int .i64 1,.int .i64 2,.string ⟨#[97,98,99]⟩,.bool true,.bool false] 145))
 have HB3:=hideC (HBS.out.trans (HB2.out.mono HBS.out.size))
 have HX3:=hideC (B.alloc HX2.out (.cells #[.slice ar 2 cr,.slice ah 3 ch,.int .i64 16] 30))
 have HL3:=hideC (B.new w2 #[.slice ar 2 cr,.slice ah 3 ch,.int .i64 16] 30)
 have HK3 : Hid (GK.Kp (fun b=>b = w.heap.size) w2 (w2.alloc (.cells #[.slice ar 2 cr,.slice ah 3 ch,.int .i64 16] 30))):=GK.Kp.alloc _ _ _
 have HOW : Hid (∀ b,KS.blk (.slice ar 2 cr) b -> b ≠ w.heap.size):=(show ∀ b,KS.blk (.slice ar 2 cr) b -> b ≠ w.heap.size from fun b hb e=>by have:=(HO.out.lt b hb).1;rw [World.size_alloc] at this;have:=B.isLt X1.out;omega)
 obtain ⟨W4,hW4⟩ : ∃ W4,W4 = w2.alloc (.cells #[.slice ar 2 cr,.slice ah 3 ch,.int .i64 16] 30):=⟨_,rfl⟩
 obtain ⟨lb,hlb⟩ : ∃ lb,lb = w2.heap.size:=⟨_,rfl⟩
 rw [<- hW4] at HX3 HL3 HK3 ⊢
 rw [<- hlb] at HL3 ⊢
 clear hW4 hlb hxl
 obtain ⟨l0,l1,l2⟩:=B.c3 HL3.out
 obtain ⟨y0,y1,y2⟩:=B.c3 HX3.out
 have f0:=B.free HX3.out 0
 have f1:=B.free HX3.out 1
 have f2:=B.free HX3.out 2
 have HKU:=hideC (HK3.out.trans (GK.kp_set3 (D:=fun b=>b = w.heap.size) _ w.heap.size 0 1 2 (.slice ar 2 cr) (.slice ah 3 ch) (.int .i64 16) rfl) (fun _ _ g=>g))
 have HRR:=hideC (B.set (B.set (B.set HX3.out 0 (.slice ar 2 cr)) 1 (.slice ah 3 ch)) 2 (.int .i64 16))
 go_wp2
 obtain ⟨y0,y1,y2⟩:=B.c3 HRR.out
 refine bodyPost_ret (v:=.agg #[.slice ar 2 cr,.slice ah 3 ch,.int .i64 16]) (by simp [results,Tryz.results50,go_sem,y0,y1,y2]) rfl (HFIN.out _ _ _ _ a1 a2 a3 c1 c2 c3 _ ?_ ?_ h3 ?_)
 · exact AW.Own.has (HKU.out.row HO.out (fun b hb e=>HOW.out b hb e))
 · exact hasH_set HH.out HX2.out (fun _ _ h=>nomatch h) (fun _ _ h=>nomatch h) (fun b j v hne hc=>HKU.out.cell hc hne) HKU.out.size
 · exact GK.Kp.below HB3.out HKU.out HB3.out.size (fun b hb=>by rw [hb];exact Nat.le_refl _)
end KG
namespace KZ
open Go.RowKit GK KO
open FW (hideC add_below)
open KS (blk)
end KZ
namespace KZ
open Go.RowKit GK KO
open FW (hideC add_below)
open KW (cellFr cellSl cellEn HasRow KAt HasK cellsK aggEn cellI memK FitK liveK OutOpen kinC)
open KS (Lc cellLc lc0 lcAt blk SpOwn)
open KX (FilX Held ids)
open KY (CopyK tailK forErr OutFor)
end KZ
end Go.Proofs.YtpgifpeohlllfaaGreat
