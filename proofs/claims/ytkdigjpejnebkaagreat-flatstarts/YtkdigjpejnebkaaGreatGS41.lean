import Derived.Test.YtkdigjpejnebkaaGreatGS10
import Derived.ChangeKeysEq
import Derived.Test.YtkdigjpejnebkaaGreatGS37
import Derived.Deep.RegionLaw
import Derived.Deep.DeepCutAuto
set_option linter.unusedVariables false
set_option maxRecDepth 100000
set_option linter.unusedSimpArgs false
namespace Go.Proofs.YtkdigjpejnebkaaGreat
namespace FW
open Go.RowKit
theorem eqWord (a b : Int) (V : World) : (Op.equalIn 10000 78 (.agg #[.int .i64 a,.int .i64 b]) (.agg #[.int .i64 a,.int .i64 b])).run Tryz.prog V = .ok true V:=by
 simp [go_sem]
set_option maxHeartbeats 2000000 in
theorem sameWords_yes (o : List FM.Wd) (a1 a2 : Option Addr) (c1 c2 : Nat) (w : World) (h1 : HasW w a1 o) (h2 : HasW w a2 o) (hn : o.length <= 140737488351232) :
  Calls Tryz.prog 34 #[.slice a1 o.length c1,.slice a2 o.length c2] w fun e w'=>e = .returned (.bool true) /\ Below w.heap.size w w':=by
 have H1:=hideC h1
 have H2:=hideC h2
 clear h1 h2
 go_enter Tryz.func34,Tryz.ntmps34
 go_wp2
 go_loopw [5] (fun iv wr=>∃ j : Nat,j <= o.length /\ iv = .int .i64 (j : Int) /\ Below w.heap.size w wr) (fun iv _=>o.length - (intOf iv).toNat)
 case atStart=>exact ⟨0,by omega,rfl,Below.refl _ _⟩
 case round =>
  obtain ⟨j,hj,rfl,hb⟩:=hrel
  have HB:=hideC hb
  by_cases hlt : j < o.length
  · obtain ⟨b,off,hao,hbl,hlie⟩:=(H1.out.below hb) (by omega)
    obtain ⟨b',off',hao',hbl',hlie'⟩:=(H2.out.below hb) (by omega)
    subst hao
    subst hao'
    obtain ⟨d0,d1⟩:=hlie j hlt
    obtain ⟨e0,e1⟩:=hlie' j hlt
    obtain ⟨⟨wp,wv⟩,hq⟩ : ∃ q,q = FM.wdAt o j:=⟨_,rfl⟩
    rw [<- hq] at d0 d1 e0 e1
    simp only at d0 d1 e0 e1
    have hEQ:=eqWord wp wv
    clear hq hlie hlie' hb
    go_wp2
    go_quiet (fail)
    go_wp2
    go_roundw
    case rel=>exact ⟨j + 1,by omega,by go_num,below_drewN HB.out _⟩
    case measure=>simp [intOf];omega
  · obtain rfl : j = o.length:=by omega
    clear hb
    go_wp2
    go_ret
    exact ⟨rfl,HB.out⟩
theorem info3 : (Tryz.prog.info? 3).map (fun i=>i.size) = some 1:=by kernel_rfl
theorem equal8 (a0 a1 a2 a3 a4 a5 a6 a7 : Int) (V : World) : (Op.equalIn 9999 66 (.agg #[.int .i64 a0,.int .i64 a1,.int .i64 a2,.int .i64 a3,.int .i64 a4,.int .i64 a5,.int .i64 a6,.int .i64 a7]) (.agg #[.int .i64 a0,.int .i64 a1,.int .i64 a2,.int .i64 a3,.int .i64 a4,.int .i64 a5,.int .i64 a6,.int .i64 a7])).run Tryz.prog V = .ok true V:=by
 obtain ⟨i,hi,hs⟩ : ∃ i,Tryz.prog.info? 3 = some i /\ i.size = 1:=by
  have h:=info3
  cases hq : Tryz.prog.info? 3 with
  | none=>rw [hq] at h;cases h
  | some i=>rw [hq] at h;exact ⟨i,rfl,Option.some.inj h⟩
 rw [run_equalIn_array (w:=V) 9998 _ _ Tryz.underlying66 hi]
 have hc : Tryz.prog.cellsOf 3 = 1:=by kernel_rfl
 have hpt : ∀ (xs : Array Value) (o : Nat) (v : Value) (U : World),xs[o]? = some v -> (part 3 xs o).run Tryz.prog U = .ok v U:=fun xs o v U h=>by simp [part,go_sem,h]
 have hei : ∀ (x : Int) (U : World),(Op.equalIn 9998 3 (.int .i64 x) (.int .i64 x)).run Tryz.prog U = .ok true U:=fun x U=>by simpa using run_equalIn_int U 9997 3 .i64 .i64 x x Tryz.underlying3
 rw [hc]
 simp [Op.eqItems,hpt,hei,List.range_succ]
set_option maxHeartbeats 4000000 in
theorem sameProcs_yes (o : List PM.Pr) (a1 a2 : Option Addr) (c1 c2 : Nat) (w : World) (h1 : HasR w a1 o) (h2 : HasR w a2 o) (hn : o.length <= 140737488351232) :
  Calls Tryz.prog 33 #[.slice a1 o.length c1,.slice a2 o.length c2] w fun e w'=>e = .returned (.bool true) /\ Below w.heap.size w w':=by
 have H1:=hideC h1
 have H2:=hideC h2
 clear h1 h2
 go_enter Tryz.func33,Tryz.ntmps33
 go_wp2
 go_loopw [5] (fun iv wr=>∃ j : Nat,j <= o.length /\ iv = .int .i64 (j : Int) /\ Below w.heap.size w wr) (fun iv _=>o.length - (intOf iv).toNat)
 case atStart=>exact ⟨0,by omega,rfl,Below.refl _ _⟩
 case round =>
  obtain ⟨j,hj,rfl,hb⟩:=hrel
  have HB:=hideC hb
  by_cases hlt : j < o.length
  · obtain ⟨b,off,hao,hbl,hlie⟩:=(H1.out.below hb) (by omega)
    obtain ⟨b',off',hao',hbl',hlie'⟩:=(H2.out.below hb) (by omega)
    subst hao
    subst hao'
    obtain ⟨d0,d1,d2,d3,d4,d5,d6,d7,d8,d9,d10,d11,d12⟩:=hlie j hlt
    obtain ⟨e0,e1,e2,e3,e4,e5,e6,e7,e8,e9,e10,e11,e12⟩:=hlie' j hlt
    obtain ⟨q,hq⟩ : ∃ q,q = FM.prAt o j:=⟨_,rfl⟩
    rw [<- hq] at d0 d1 d2 d3 d4 d5 d6 d7 d8 d9 d10 d11 d12 e0 e1 e2 e3 e4 e5 e6 e7 e8 e9 e10 e11 e12
    have hE8:=equal8 (q.r 0) (q.r 1) (q.r 2) (q.r 3) (q.r 4) (q.r 5) (q.r 6) (q.r 7)
    clear hq hlie hlie' hb
    go_wp2
    go_quiet (fail)
    go_wp2
    go_roundw
    case rel=>exact ⟨j + 1,by omega,by go_num,below_drewN HB.out _⟩
    case measure=>simp [intOf];omega
  · obtain rfl : j = o.length:=by omega
    clear hb
    go_wp2
    go_ret
    exact ⟨rfl,HB.out⟩
theorem eqPage (a : Int) (d : ByteArray) (V : World) : (Op.equalIn 10000 65 (.agg #[.int .i64 a,.string d]) (.agg #[.int .i64 a,.string d])).run Tryz.prog V = .ok true V:=by
 simp [go_sem]
set_option maxHeartbeats 8000000 in
theorem sameFlats_yes (f : FM.Fl) (a1 r1 o1 a2 r2 o2 : Option Addr) (c1 c2 c3 d1 d2 d3 : Nat) (w : World) (h1 : HasFl w f a1 r1 o1) (h2 : HasFl w f a2 r2 o2) (hf : FitFl f) :
  Calls Tryz.prog 11 #[.agg (flCells f a1 r1 o1 c1 c2 c3),.agg (flCells f a2 r2 o2 d1 d2 d3)] w fun e w'=>e = .returned (.bool true) /\ Below w.heap.size w w':=by
 have H1:=hideC h1
 have H2:=hideC h2
 have HF:=hideC hf
 have HSP:=hideC (fun V (hV : Below w.heap.size w V)=>sameProcs_yes f.procs r1 r2 c2 d2 V (h1.procs.below hV) (h2.procs.below hV) hf.procs)
 have HSW:=hideC (fun V (hV : Below w.heap.size w V)=>sameWords_yes f.out o1 o2 c3 d3 V (h1.out.below hV) (h2.out.below hV) hf.out)
 have hns : f.spaces.length <= 140737488351232:=hf.spaces.1
 unfold flCells
 obtain ⟨sl,ss,ps,os⟩:=f
 simp only at HSP HSW hns ⊢
 obtain ⟨nr,hnr⟩ : ∃ nr,nr = ps.length:=⟨_,rfl⟩
 obtain ⟨no,hno⟩ : ∃ no,no = os.length:=⟨_,rfl⟩
 rw [<- hnr] at HSP ⊢
 rw [<- hno] at HSW ⊢
 clear h1 h2 hf hnr hno
 have HB0:=hideC (((Below.refl w.heap.size w).alloc (Nat.le_refl _) (.cells #[.int .i64 sl,.slice a1 ss.length c1,.slice r1 nr c2,.slice o1 no c3] 30)).alloc (by simp) (.cells #[.int .i64 sl,.slice a2 ss.length d1,.slice r2 nr d2,.slice o2 no d3] 30))
 have X0:=hideC (B.alloc (B.new w #[.int .i64 sl,.slice a1 ss.length c1,.slice r1 nr c2,.slice o1 no c3] 30) (.cells #[.int .i64 sl,.slice a2 ss.length d1,.slice r2 nr d2,.slice o2 no d3] 30))
 have Y0 : Hid (((w.alloc (.cells #[.int .i64 sl,.slice a1 ss.length c1,.slice r1 nr c2,.slice o1 no c3] 30)).alloc (.cells #[.int .i64 sl,.slice a2 ss.length d1,.slice r2 nr d2,.slice o2 no d3] 30)).heap[w.heap.size + 1]? = some (.cells #[.int .i64 sl,.slice a2 ss.length d1,.slice r2 nr d2,.slice o2 no d3] 30 (0,0))):=by
  have:=B.new (w.alloc (.cells #[.int .i64 sl,.slice a1 ss.length c1,.slice r1 nr c2,.slice o1 no c3] 30)) #[.int .i64 sl,.slice a2 ss.length d1,.slice r2 nr d2,.slice o2 no d3] 30
  rw [World.size_alloc] at this
  exact this
 go_enter Tryz.func11,Tryz.ntmps11
 go_wp2_with (first
  | (go_at_call 33;refine (HSP.out _ HB0.out).mono ?_;rintro e w1 ⟨rfl,hb1⟩;have HB1:=hideC (add_below HB0.out hb1);have X1:=hideC (B.below X0.out hb1 (B.isLt X0.out));have Y1:=hideC (B.below Y0.out hb1 (B.isLt Y0.out));clear hb1;have x3 : w1.cell? ⟨w.heap.size,3,none⟩ = some (.slice o1 no c3):=B.cell X1.out 3 rfl;have y3 : w1.cell? ⟨w.heap.size + 1,3,none⟩ = some (.slice o2 no d3):=B.cell Y1.out 3 rfl)
  | (go_at_call 34;refine (HSW.out _ HB1.out).mono ?_;rintro e w2 ⟨rfl,hb2⟩;have HB2:=hideC (add_below HB1.out hb2);have X2:=hideC (B.below X1.out hb2 (B.isLt X1.out));have Y2:=hideC (B.below Y1.out hb2 (B.isLt Y1.out));clear hb2))
 go_loopw [5] (fun iv wr=>∃ k : Nat,k <= ss.length /\ iv = .int .i64 (k : Int) /\ wr.heap[w.heap.size]? = some (.cells #[.int .i64 sl,.slice a1 ss.length c1,.slice r1 nr c2,.slice o1 no c3] 30 (0,0)) /\ wr.heap[w.heap.size + 1]? = some (.cells #[.int .i64 sl,.slice a2 ss.length d1,.slice r2 nr d2,.slice o2 no d3] 30 (0,0)) /\ Below w.heap.size w wr) (fun iv _=>ss.length - (intOf iv).toNat)
 case atStart=>exact ⟨0,by omega,rfl,X2.out,Y2.out,HB2.out⟩
 case round =>
  obtain ⟨k,hk,rfl,hx,hy,hb⟩:=hrel
  have HB:=hideC hb
  have HX:=hideC hx
  have HY:=hideC hy
  have x1 : wr.cell? ⟨w.heap.size,1,none⟩ = some (.slice a1 ss.length c1):=B.cell hx 1 rfl
  have y1 : wr.cell? ⟨w.heap.size + 1,1,none⟩ = some (.slice a2 ss.length d1):=B.cell hy 1 rfl
  clear hx hy X0 Y0 X1 Y1 X2 Y2 HB0 HB1 HB2 x3 y3
  by_cases hlt : k < ss.length
  · obtain ⟨b,off,hao,hbl,hlie⟩:=(H1.out.below hb).spaces (show 0 < ss.length by omega)
    obtain ⟨b',off',hao',hbl',hlie'⟩:=(H2.out.below hb).spaces (show 0 < ss.length by omega)
    subst hao hao'
    obtain ⟨va,ap,cp,e0,e1,e2,e3,e4,e5⟩:=hlie k hlt
    obtain ⟨vb,aq,cq,g0,g1,g2,g3,g4,g5⟩:=hlie' k hlt
    have hfk:=HF.out.spaces.2 k hlt
    have hfk : FitS (FM.spAt ss k):=hfk
    obtain ⟨s,hs⟩ : ∃ s,s = FM.spAt ss k:=⟨_,rfl⟩
    rw [<- hs] at e0 e2 e3 e4 e5 g0 g2 g3 g4 g5 hfk
    obtain ⟨lv,ars,pgs⟩:=s
    simp only at e0 e2 e3 e4 e5 g0 g2 g3 g4 g5
    obtain ⟨aa,na,ca,rfl⟩:=isSl e3
    obtain ⟨ab,nb,cb,rfl⟩:=isSl g3
    have HE3:=hideC e3
    have HE4:=hideC e4
    have HG3:=hideC g3
    have HG4:=hideC g4
    have HFK:=hideC hfk
    have hki : (k : Int) < (ss.length : Int):=by omega
    have l1:=B.isLt HY.out
    have l0:=B.isLt HX.out
    have l2 : ¬ w.heap.size = wr.heap.size:=by omega
    have l3 : ¬ w.heap.size + 1 = wr.heap.size:=by omega
    have l4 : ¬ b = wr.heap.size:=by omega
    have l5 : ¬ b' = wr.heap.size:=by omega
    clear e3 e4 e5 g3 g4 g5 hlie hlie' hs hfk hb
    have q1 : Hid (((wr.alloc (.cells #[.bool lv,.slice aa na ca,.slice ap pgs.length cp] 53)).alloc (.cells #[.bool lv,.slice ab nb cb,.slice aq pgs.length cq] 53)).heap[wr.heap.size]? = some (.cells #[.bool lv,.slice aa na ca,.slice ap pgs.length cp] 53 (0,0))):=B.alloc (B.new wr #[.bool lv,.slice aa na ca,.slice ap pgs.length cp] 53) _
    have q2 : Hid (((wr.alloc (.cells #[.bool lv,.slice aa na ca,.slice ap pgs.length cp] 53)).alloc (.cells #[.bool lv,.slice ab nb cb,.slice aq pgs.length cq] 53)).heap[wr.heap.size + 1]? = some (.cells #[.bool lv,.slice ab nb cb,.slice aq pgs.length cq] 53 (0,0))):=by
     have:=B.new (wr.alloc (.cells #[.bool lv,.slice aa na ca,.slice ap pgs.length cp] 53)) #[.bool lv,.slice ab nb cb,.slice aq pgs.length cq] 53
     rw [World.size_alloc] at this
     exact this
    have q3 : Hid (((wr.alloc (.cells #[.bool lv,.slice ab nb cb,.slice aq pgs.length cq] 53)).alloc (.cells #[.bool lv,.slice aa na ca,.slice ap pgs.length cp] 53)).heap[wr.heap.size]? = some (.cells #[.bool lv,.slice ab nb cb,.slice aq pgs.length cq] 53 (0,0))):=B.alloc (B.new wr #[.bool lv,.slice ab nb cb,.slice aq pgs.length cq] 53) _
    have q4 : Hid (((wr.alloc (.cells #[.bool lv,.slice ab nb cb,.slice aq pgs.length cq] 53)).alloc (.cells #[.bool lv,.slice aa na ca,.slice ap pgs.length cp] 53)).heap[wr.heap.size + 1]? = some (.cells #[.bool lv,.slice aa na ca,.slice ap pgs.length cp] 53 (0,0))):=by
     have:=B.new (wr.alloc (.cells #[.bool lv,.slice ab nb cb,.slice aq pgs.length cq] 53)) #[.bool lv,.slice aa na ca,.slice ap pgs.length cp] 53
     rw [World.size_alloc] at this
     exact this
    have q5 : Hid (Below wr.heap.size wr ((wr.alloc (.cells #[.bool lv,.slice aa na ca,.slice ap pgs.length cp] 53)).alloc (.cells #[.bool lv,.slice ab nb cb,.slice aq pgs.length cq] 53)).drew):=below_drewN (((Below.refl wr.heap.size wr).alloc (Nat.le_refl _) (.cells #[.bool lv,.slice aa na ca,.slice ap pgs.length cp] 53)).alloc (by simp) (.cells #[.bool lv,.slice ab nb cb,.slice aq pgs.length cq] 53)) 1
    have q6 : Hid (Below wr.heap.size wr ((wr.alloc (.cells #[.bool lv,.slice ab nb cb,.slice aq pgs.length cq] 53)).alloc (.cells #[.bool lv,.slice aa na ca,.slice ap pgs.length cp] 53)).drew):=below_drewN (((Below.refl wr.heap.size wr).alloc (Nat.le_refl _) (.cells #[.bool lv,.slice ab nb cb,.slice aq pgs.length cq] 53)).alloc (by simp) (.cells #[.bool lv,.slice aa na ca,.slice ap pgs.length cp] 53)) 1
    go_upto_region 6 with fail
    go_cut [6,7] (fun x6 x7 wx=>∃ g h : Nat,x6 = .pointer (some ⟨g,0,none⟩) /\ x7 = .pointer (some ⟨h,0,none⟩) /\ wx.heap[g]? = some (.cells #[.bool lv,.slice aa na ca,.slice ap pgs.length cp] 53 (0,0)) /\ wx.heap[h]? = some (.cells #[.bool lv,.slice ab nb cb,.slice aq pgs.length cq] 53 (0,0)) /\ Below wr.heap.size wr wx)
    case first =>
     go_region
     all_goals
      go_wp2_with fail
      go_meet
      case rel=>first | exact ⟨_,_,rfl,rfl,q1.out,q2.out,q5.out⟩ | exact ⟨_,_,rfl,rfl,q4.out,q3.out,q6.out⟩
    case rest =>
     obtain ⟨g,h,rfl,rfl,hg,hh,hbc⟩:=hcut
     obtain ⟨WR,hWR⟩ : ∃ WR,WR = wr:=⟨_,rfl⟩
     subst hWR
     have HSA : Hid (∀ V,Below WR.heap.size WR V -> Calls Tryz.prog 35 #[.slice aa na ca,.slice ab nb cb] V fun e w'=>e = .returned (.bool true) /\ Below V.heap.size V w'):=fun V hV=>(AW.same_any ars ars _ _ V (HE3.out.below hV) (HG3.out.below hV) HFK.out.areas.2 HFK.out.areas.2).mono fun e w' ⟨r,h1,h2,h3⟩=>by
      obtain rfl : r = true:=h2.2 rfl
      exact ⟨h1,h3⟩
     have hlp : pgs.length <= 140737488351232:=HFK.out.pages
     have HBC:=hideC hbc
     have HBB:=hideC (HB.out.trans (hbc.mono HB.out.size))
     have HXC:=hideC (B.below HX.out hbc (B.isLt HX.out))
     have HYC:=hideC (B.below HY.out hbc (B.isLt HY.out))
     have HGC:=hideC hg
     have HHC:=hideC hh
     have f0 : wc.cell? ⟨g,0,none⟩ = some (.bool lv):=B.cell hg 0 rfl
     have f1 : wc.cell? ⟨g,1,none⟩ = some (.slice aa na ca):=B.cell hg 1 rfl
     have f2 : wc.cell? ⟨g,2,none⟩ = some (.slice ap pgs.length cp):=B.cell hg 2 rfl
     have f3 : wc.cell? ⟨h,0,none⟩ = some (.bool lv):=B.cell hh 0 rfl
     have f4 : wc.cell? ⟨h,1,none⟩ = some (.slice ab nb cb):=B.cell hh 1 rfl
     have f5 : wc.cell? ⟨h,2,none⟩ = some (.slice aq pgs.length cq):=B.cell hh 2 rfl
     clear hg hh hbc q1 q2 q3 q4 q5 q6 e0 e1 e2 g0 g1 g2 l1 l0 l2 l3 l4 l5 x1 y1
     go_wp2_with (go_at_call 35;refine (HSA.out _ HBC.out).mono ?_;rintro e w3 ⟨rfl,hb3⟩;have HB3:=hideC (HBC.out.trans (hb3.mono HBC.out.size));have HG3':=hideC (B.below HGC.out hb3 (B.isLt HGC.out));have HH3':=hideC (B.below HHC.out hb3 (B.isLt HHC.out));have HX3:=hideC (B.below HXC.out hb3 (B.isLt HXC.out));have HY3:=hideC (B.below HYC.out hb3 (B.isLt HYC.out));clear hb3;have f6 : w3.cell? ⟨g,2,none⟩ = some (.slice ap pgs.length cp):=B.cell HG3'.out 2 rfl;have f7 : w3.cell? ⟨h,2,none⟩ = some (.slice aq pgs.length cq):=B.cell HH3'.out 2 rfl)
     clear f0 f1 f2 f3 f4 f5
     go_loopw [8] (fun iv wi=>∃ m : Nat,m <= pgs.length /\ iv = .int .i64 (m : Int) /\ wi.heap[g]? = some (.cells #[.bool lv,.slice aa na ca,.slice ap pgs.length cp] 53 (0,0)) /\ wi.heap[h]? = some (.cells #[.bool lv,.slice ab nb cb,.slice aq pgs.length cq] 53 (0,0)) /\ wi.heap[w.heap.size]? = some (.cells #[.int .i64 sl,.slice (some ⟨b,off,none⟩) ss.length c1,.slice r1 nr c2,.slice o1 no c3] 30 (0,0)) /\ wi.heap[w.heap.size + 1]? = some (.cells #[.int .i64 sl,.slice (some ⟨b',off',none⟩) ss.length d1,.slice r2 nr d2,.slice o2 no d3] 30 (0,0)) /\ Below WR.heap.size WR wi) (fun iv _=>pgs.length - (intOf iv).toNat)
     case atStart=>exact ⟨0,by omega,rfl,HG3'.out,HH3'.out,HX3.out,HY3.out,HB3.out⟩
     case round =>
      obtain ⟨m,hm,rfl,hg,hh,hx,hy,hbi⟩:=hrel
      have HGi:=hideC hg
      have HHi:=hideC hh
      have HXi:=hideC hx
      have HYi:=hideC hy
      have HBi:=hideC hbi
      have f2 : wr.cell? ⟨g,2,none⟩ = some (.slice ap pgs.length cp):=B.cell hg 2 rfl
      have f5 : wr.cell? ⟨h,2,none⟩ = some (.slice aq pgs.length cq):=B.cell hh 2 rfl
      clear hg hh hx hy HSA HG3' HH3' HX3 HY3 HB3 f6 f7
      by_cases hmt : m < pgs.length
      · obtain ⟨bp,offp,hap,hbpl,hlp1⟩:=(HE4.out.below hbi) (show 0 < pgs.length by omega)
        obtain ⟨bq,offq,haq,hbql,hlp2⟩:=(HG4.out.below hbi) (show 0 < pgs.length by omega)
        subst hap haq
        obtain ⟨k0,k1⟩:=hlp1 m hmt
        obtain ⟨k2,k3⟩:=hlp2 m hmt
        obtain ⟨z,hz⟩ : ∃ z,z = FM.pgAt pgs m:=⟨_,rfl⟩
        rw [<- hz] at k0 k1 k2 k3
        have hEP:=eqPage z.page z.data
        have hmi : (m : Int) < (pgs.length : Int):=by omega
        clear hz hlp1 hlp2 hbi
        go_wp2
        go_quiet (fail)
        go_wp2
        go_roundw
        case rel=>exact ⟨m + 1,by omega,by go_num,HGi.out,HHi.out,HXi.out,HYi.out,below_drewN HBi.out _⟩
        case measure=>simp [intOf];omega
      · obtain rfl : m = pgs.length:=by omega
        have HBT:=hideC (HB.out.trans (hbi.mono HB.out.size))
        clear hbi
        go_wp2
        go_roundw
        case rel=>exact ⟨k + 1,by omega,by go_num,HXi.out,HYi.out,HBT.out⟩
        case measure=>simp [intOf];omega
  · obtain rfl : k = ss.length:=by omega
    clear hb
    go_wp2
    go_ret
    exact ⟨rfl,HB.out⟩
end FW
end Go.Proofs.YtkdigjpejnebkaaGreat
