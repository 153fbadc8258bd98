import Derived.Test.YtpgifpeohlllfaaGreatGJ10
import Derived.Test.YtpgifpeohlllfaaGreatGJ07
import Derived.Test.YtpgifpeohlllfaaGreatGJ00
import Derived.Maps.Own
import Derived.Maps.OwnSet
import Derived.Maps.Views
import Derived.Deep.AppendLies
set_option maxHeartbeats 20000000
set_option linter.unusedVariables false
set_option maxRecDepth 100000
set_option linter.unusedSimpArgs false
namespace Go.Proofs.YtpgifpeohlllfaaGreat
namespace LW
open Go.RowKit
open W (hideC)
set_option maxHeartbeats 1000000 in
theorem end_any (o : LM.Ob) (w : World) (h : M.HasIm w o.a o.i) (hc : M.chkN o.i = 0) (h0 : 0 <= o.base) (h1 : o.base <= 100000) :
  Calls Tryz.prog 134 #[.agg (LM.cellsO o)] w fun e w'=>e = .returned (.int .i64 (LM.endO o)) /\ Below w.heap.size w w':=by
 have hl:=LM.last_bounds hc
 have hn:=LM.counts_of hc
 have HS:=h.segs
 obtain ⟨⟨nm,ns,gs,ys,rs,en⟩,⟨an,cn,ag,cg,ay,cy,ar,cr⟩,ba⟩:=o
 simp only [LM.cellsO]
 simp only at HS hn h0 h1
 obtain ⟨b,off,hag,hbl,hlie⟩:=HS (by omega)
 subst hag
 have E : Hid (LM.endO ⟨⟨nm,ns,gs,ys,rs,en⟩,⟨an,cn,some ⟨b,off,none⟩,cg,ay,cy,ar,cr⟩,ba⟩ = ba + (M.sgAt gs (gs.length - 1)).page + (M.sgAt gs (gs.length - 1)).pages):=rfl
 have hl' : 0 <= (M.sgAt gs (gs.length - 1)).page /\ 1 <= (M.sgAt gs (gs.length - 1)).pages /\ (M.sgAt gs (gs.length - 1)).page + (M.sgAt gs (gs.length - 1)).pages <= 255:=hl
 obtain ⟨c0,c1,c2,c3,c4⟩:=hlie (gs.length - 1) (by omega)
 rw [E.out]
 obtain ⟨s,hs⟩ : ∃ s,s = M.sgAt gs (gs.length - 1):=⟨_,rfl⟩
 rw [<- hs] at c0 c1 c2 c3 c4 hl'
 rw [<- hs]
 clear hs hl hlie HS h E
 obtain ⟨G,hG⟩ : ∃ G,G = gs.length:=⟨_,rfl⟩
 rw [<- hG] at c0 c1 c2 c3 c4 hn
 rw [<- hG]
 clear hG hc
 have hG1 : (1 : Int) <= (G : Int):=by omega
 have hG2 : 0 < G:=by omega
 have HB:=hideC ((Below.refl w.heap.size w).alloc (Nat.le_refl _) (.cells #[.string nm,.slice an ns.length cn,.slice (some ⟨b,off,none⟩) G cg,.slice ay ys.length cy,.slice ar rs.length cr,.int .i64 en,.int .i64 ba] 195))
 go_enter Tryz.func134,Tryz.ntmps134
 go_wp2
 go_ret
 exact ⟨rfl,HB.out.alloc HB.out.size _⟩
theorem address_any (o : LM.Ob) (at' : Int) (w : World) (h0 : 0 <= o.base) (h1 : o.base <= 100000) (h2 : 0 <= at') (h3 : at' <= 100000) :
  Calls Tryz.prog 137 #[.agg (LM.cellsO o),.int .i64 at'] w fun e w'=>e = .returned (.int .i64 (LM.addrO o at')) /\ Below w.heap.size w w':=by
 obtain ⟨⟨nm,ns,gs,ys,rs,en⟩,⟨an,cn,ag,cg,ay,cy,ar,cr⟩,ba⟩:=o
 simp only [LM.cellsO,LM.addrO]
 simp only at h0 h1
 go_enter Tryz.func137,Tryz.ntmps137
 go_wp2
 go_ret
 exact ⟨rfl,(Below.refl _ _).alloc (Nat.le_refl _) _⟩
theorem prot_any (s : M.Sg) (w : World) :
  Calls Tryz.prog 164 #[.agg #[.int .i64 s.page,.int .i64 s.pages,.string s.data,.bool s.wr,.bool s.ex]] w fun e w'=>e = .returned (.int .i64 (LM.protN s)) /\ Below w.heap.size w w':=by
 obtain ⟨pg,pn,dt,wr,ex⟩:=s
 have b1 : bits BinOp.or IntKind.i64 0 1 = 1:=by decide
 have b2 : bits BinOp.or IntKind.i64 0 2 = 2:=by decide
 have b3 : bits BinOp.or IntKind.i64 1 2 = 3:=by decide
 cases wr <;> cases ex
 all_goals
  go_enter Tryz.func164,Tryz.ntmps164
  go_wp2
  go_ret
  exact ⟨ret_int (by first | rfl | simp [LM.protN,b1,b2,b3]),(Below.refl _ _).alloc (Nat.le_refl _) _⟩
end LW
namespace W
open Go.RowKit
set_option maxHeartbeats 2000000 in
theorem rightCounts_any (i : M.Im) (a : M.At) (w : World) (hf : M.Fit i) : Calls Tryz.prog 176 #[.agg (M.cellsI a i)] w fun e w'=>e = .returned (.bool (M.countsB i)) /\ Below w.heap.size w w':=by
 obtain ⟨an,cn,ag,cg,ay,cy,ar,cr⟩:=a
 obtain ⟨nm,ns,gs,ys,rs,en⟩:=i
 obtain ⟨f1,f2,f3,f4,f5,f6,f7,f8,f9,f10⟩:=hf
 simp only at f2 f4 f6 f8
 unfold M.Short at f2 f4 f6 f8
 simp only [M.cellsI,M.countsB]
 have HB0 : ∀ o,Hid (Below w.heap.size w (w.alloc o)):=fun o=>(Below.refl w.heap.size w).alloc (Nat.le_refl _) o
 obtain ⟨r,hr⟩ : ∃ r,r = decide (1 <= gs.length /\ gs.length <= 6 /\ ns.length <= 4 /\ ys.length <= 12 /\ rs.length <= 16):=⟨_,rfl⟩
 rw [<- hr]
 have HR:=hideC hr
 clear hr f1 f3 f5 f7 f9 f10
 obtain ⟨ln,hln⟩ : ∃ n,n = ns.length:=⟨_,rfl⟩
 obtain ⟨lg,hlg⟩ : ∃ n,n = gs.length:=⟨_,rfl⟩
 obtain ⟨ly,hly⟩ : ∃ n,n = ys.length:=⟨_,rfl⟩
 obtain ⟨lr,hlr⟩ : ∃ n,n = rs.length:=⟨_,rfl⟩
 rw [<- hln,<- hlg,<- hly,<- hlr] at HR
 rw [<- hln,<- hlg,<- hly,<- hlr]
 rw [<- hln] at f2
 rw [<- hlg] at f4
 rw [<- hly] at f6
 rw [<- hlr] at f8
 clear hln hlg hly hlr
 by_cases d1 : 1 <= (lg : Int)
 · by_cases d2 : (lg : Int) <= 6
   · by_cases d3 : (ln : Int) <= 4
     · by_cases d4 : (ly : Int) <= 12
       · by_cases d5 : (lr : Int) <= 16
         · have e : r = true:=by rw [HR.out];exact decide_eq_true (by omega)
           subst e
           have q1 : 1 <= lg:=by omega
           have q2 : lg <= 6:=by omega
           have q3 : ln <= 4:=by omega
           have q4 : ly <= 12:=by omega
           have q5 : lr <= 16:=by omega
           go_enter Tryz.func176,Tryz.ntmps176
           go_wp2
           go_ret
           exact ⟨rfl,(HB0 _).out⟩
         · have e : r = false:=by rw [HR.out];exact decide_eq_false (by omega)
           subst e
           have q1 : 1 <= lg:=by omega
           have q2 : lg <= 6:=by omega
           have q3 : ln <= 4:=by omega
           have q4 : ly <= 12:=by omega
           have q5 : decide ((lr : Int) <= 16) = false:=decide_eq_false d5
           have q6 : decide (lr <= 16) = false:=decide_eq_false (by omega)
           have q7 : ¬ lr <= 16:=by omega
           go_enter Tryz.func176,Tryz.ntmps176
           go_wp2
           go_ret
           exact ⟨rfl,(HB0 _).out⟩
       · have e : r = false:=by rw [HR.out];exact decide_eq_false (by omega)
         subst e
         have q1 : 1 <= lg:=by omega
         have q2 : lg <= 6:=by omega
         have q3 : ln <= 4:=by omega
         have q4 : decide ((ly : Int) <= 12) = false:=decide_eq_false d4
         have q6 : decide (ly <= 12) = false:=decide_eq_false (by omega)
         have q7 : ¬ ly <= 12:=by omega
         go_enter Tryz.func176,Tryz.ntmps176
         go_wp2
         go_ret
         exact ⟨rfl,(HB0 _).out⟩
     · have e : r = false:=by rw [HR.out];exact decide_eq_false (by omega)
       subst e
       have q1 : 1 <= lg:=by omega
       have q2 : lg <= 6:=by omega
       have q4 : decide ((ln : Int) <= 4) = false:=decide_eq_false d3
       have q6 : decide (ln <= 4) = false:=decide_eq_false (by omega)
       have q7 : ¬ ln <= 4:=by omega
       go_enter Tryz.func176,Tryz.ntmps176
       go_wp2
       go_ret
       exact ⟨rfl,(HB0 _).out⟩
   · have e : r = false:=by rw [HR.out];exact decide_eq_false (by omega)
     subst e
     have q1 : 1 <= lg:=by omega
     have q4 : decide ((lg : Int) <= 6) = false:=decide_eq_false d2
     have q6 : decide (lg <= 6) = false:=decide_eq_false (by omega)
     have q7 : ¬ lg <= 6:=by omega
     go_enter Tryz.func176,Tryz.ntmps176
     go_wp2
     go_ret
     exact ⟨rfl,(HB0 _).out⟩
 · have e : r = false:=by rw [HR.out];exact decide_eq_false (by omega)
   subst e
   have q4 : decide ((1 : Int) <= (lg : Int)) = false:=decide_eq_false d1
   obtain rfl : lg = 0:=by omega
   go_enter Tryz.func176,Tryz.ntmps176
   go_wp2
   go_ret
   exact ⟨rfl,(HB0 _).out⟩
set_option maxHeartbeats 4000000 in
theorem rightRanges_any (l : List M.Sg) (ao : Option Addr) (cap : Nat) (w : World) (h : M.HasBy M.LieG w ao l) (hn : M.Short l.length) (hf : ∀ k,k < l.length -> M.FitG (M.sgAt l k)) :
  Calls Tryz.prog 177 #[.slice ao l.length cap] w fun e w'=>e = .returned (.bool (l.all M.rangeB)) /\ Below w.heap.size w w':=by
 unfold M.Short at hn
 have H:=hideC h
 have F:=hideC hf
 clear h hf
 go_enter Tryz.func177,Tryz.ntmps177
 go_wp2
 go_loopw [7] (fun i wr=>∃ k : Nat,k <= l.length /\ i = .int .i64 k /\ (∀ j,j < k -> M.rangeB (M.sgAt l j) = true) /\ Below w.heap.size w wr) (fun i _=>l.length - (intOf i).toNat)
 case atStart=>exact ⟨0,by omega,rfl,fun j h=>by omega,Below.refl _ _⟩
 case round =>
  obtain ⟨k,hk,rfl,hall,hb⟩:=hrel
  have HA:=hideC hall
  have HB:=hideC hb
  clear hall
  by_cases hlt : k < l.length
  · obtain ⟨b,off,hao,hbl,hl⟩:=H.out (by omega)
    subst hao
    obtain ⟨c0,c1,c2,c3,c4⟩:=M.lieG hb hbl hl k hlt
    obtain ⟨g1,g2,g3⟩:=F.out k hlt
    obtain ⟨s,hs⟩ : ∃ s,s = M.sgAt l k:=⟨_,rfl⟩
    rw [<- hs] at c0 c1 c2 c3 c4 g1 g2 g3
    have HS:=hideC hs
    clear hs hb hl
    obtain ⟨p,n,d,x,y⟩:=s
    simp only at c0 c1 c2 c3 c4 g1 g2 g3
    unfold M.I64 at g1 g2
    unfold M.Short at g3
    have hml : d.size <= maxLen:=by unfold maxLen;omega
    have hli : (k : Int) < (l.length : Int):=by omega
    have hbad : Hid (¬ (0 <= p /\ 1 <= n /\ p + n <= 255 /\ (d.size : Int) <= n * 16) -> l.all M.rangeB = false):=fun hx =>
     M.all_false M.rangeB M.sg0 l k hlt (by show M.rangeB (M.sgAt l k) = false;rw [<- HS.out];exact decide_eq_false hx)
    by_cases d1 : 0 <= p
    · have d1' : ¬ p < 0:=by omega
      by_cases d2 : 1 <= n
      · have d2' : ¬ n < 1:=by omega
        by_cases d3 : p + n <= 255
        · have d3' : ¬ 255 - p < n:=by omega
          by_cases d4 : (d.size : Int) <= n * 16
          · have d4' : ¬ n * 16 < (d.size : Int):=by omega
            have hgood : Hid (M.rangeB ⟨p,n,d,x,y⟩ = true):=decide_eq_true ⟨d1,d2,d3,d4⟩
            go_wp2
            go_roundw
            case rel=>exact ⟨k + 1,by omega,by go_num,fun j h=>if e : j = k then by rw [e,<- HS.out];exact hgood.out else HA.out j (by omega),HB.out.alloc HB.out.size _⟩
            case measure=>simp [intOf];omega
          · have d4' : n * 16 < (d.size : Int):=by omega
            have HR:=hideC (hbad.out (by omega))
            go_wp2
            go_ret
            exact ⟨ret_bool HR.out.symm,HB.out.alloc HB.out.size _⟩
        · have d3' : 255 - p < n:=by omega
          have HR:=hideC (hbad.out (by omega))
          go_wp2
          go_ret
          exact ⟨ret_bool HR.out.symm,HB.out.alloc HB.out.size _⟩
      · have d2' : n < 1:=by omega
        have HR:=hideC (hbad.out (by omega))
        go_wp2
        go_ret
        exact ⟨ret_bool HR.out.symm,HB.out.alloc HB.out.size _⟩
    · have d1' : p < 0:=by omega
      have HR:=hideC (hbad.out (by omega))
      go_wp2
      go_ret
      exact ⟨ret_bool HR.out.symm,HB.out.alloc HB.out.size _⟩
  · obtain rfl : k = l.length:=by omega
    have HR:=hideC (M.all_true M.rangeB M.sg0 l (fun j hj=>HA.out j hj))
    clear hb
    go_wp2
    go_ret
    exact ⟨ret_bool HR.out.symm,HB.out⟩
theorem over_mono (l : List M.Sg) (k n : Nat) (h : M.overTo l k = false) (hk : k <= n) : M.overTo l n = false:=by
 induction n with
 | zero => obtain rfl : k = 0 := by omega
           exact h
 | succ n ih =>
  rcases Nat.lt_or_ge n k with g | g
  · obtain rfl : k = n + 1:=by omega
    exact h
  · simp only [M.overTo]
    rw [ih g];rfl
theorem apart_no (l : List M.Sg) (k : Nat) (hk : k < l.length) (h : M.overTo l (k + 1) = false) : M.apartB l = false:=over_mono l (k + 1) l.length h hk
set_option maxHeartbeats 4000000 in
theorem overlap_any (l : List M.Sg) (ao : Option Addr) (cap : Nat) (w : World) (h : M.HasBy M.LieG w ao l) (hn : M.Short l.length) (hr : l.all M.rangeB = true) :
  Calls Tryz.prog 178 #[.slice ao l.length cap] w fun e w'=>e = .returned (.bool (!M.apartB l)) /\ Below w.heap.size w w':=by
 unfold M.Short at hn
 have H:=hideC h
 have F:=hideC hr
 clear h hr
 go_enter Tryz.func178,Tryz.ntmps178
 go_wp2
 go_loopw [3] (fun i wr=>∃ k : Nat,1 <= k /\ (k <= l.length ∨ k = 1) /\ i = .int .i64 k /\ M.overTo l k = true /\ Below w.heap.size w wr) (fun i _=>l.length - (intOf i).toNat)
 case atStart=>exact ⟨1,by omega,.inr rfl,rfl,rfl,Below.refl _ _⟩
 case round =>
  obtain ⟨k,hk1,hk,rfl,hall,hb⟩:=hrel
  have HA:=hideC hall
  have HB:=hideC hb
  clear hall
  by_cases hlt : k < l.length
  · obtain ⟨b,off,hao,hbl,hl⟩:=H.out (by omega)
    subst hao
    obtain ⟨c0,c1,c2,c3,c4⟩:=M.lieG hb hbl hl k hlt
    obtain ⟨e0,e1,e2,e3,e4⟩:=M.lieG hb hbl hl (k - 1) (by omega)
    have g1 : 0 <= (M.sgAt l (k - 1)).page /\ 1 <= (M.sgAt l (k - 1)).pages /\ (M.sgAt l (k - 1)).page + (M.sgAt l (k - 1)).pages <= 255 /\ _:=of_decide_eq_true (M.all_at M.rangeB M.sg0 l (k - 1) (by omega) F.out)
    have hov : Hid (M.overTo l (k + 1) = decide ((M.sgAt l (k - 1)).page + (M.sgAt l (k - 1)).pages <= (M.sgAt l k).page)):=by
     show _ = _
     simp only [M.overTo,HA.out,Bool.true_and,M.overAt]
     rw [show (k == 0) = false from by simp;omega,Bool.false_or]
    obtain ⟨s,hs⟩ : ∃ s,s = M.sgAt l k:=⟨_,rfl⟩
    obtain ⟨t,ht⟩ : ∃ t,t = M.sgAt l (k - 1):=⟨_,rfl⟩
    rw [<- hs] at c0 c1 c2 c3 c4 hov
    rw [<- ht] at e0 e1 e2 e3 e4 g1 hov
    clear hs ht hb hl
    obtain ⟨sp,sn,sd,sx,sy⟩:=s
    obtain ⟨tp,tn,td,tx,ty⟩:=t
    simp only at c0 c1 c2 c3 c4 e0 e1 e2 e3 e4 g1 hov
    obtain ⟨g1,g2,g3,g4⟩:=g1
    clear c1 c2 c3 c4 e2 e3 e4 g4
    have hli : (k : Int) < (l.length : Int):=by omega
    have hkin:=Q.kin_some wr
    have hkc:=@Q.cell_kin wr
    have hbr : b < wr.heap.size:=Nat.lt_of_lt_of_le hbl HB.out.size
    have k0 : ∀ x : Q.Kin wr.heap.size wr,x.world.cell? ⟨b,off + k * 5,none⟩ = some (.int .i64 sp):=fun x=>by rw [hkc x _ _ hbr,c0]
    have k1 : ∀ x : Q.Kin wr.heap.size wr,x.world.cell? ⟨b,off + (k - 1) * 5,none⟩ = some (.int .i64 tp):=fun x=>by rw [hkc x _ _ hbr,e0]
    have k2 : ∀ x : Q.Kin wr.heap.size wr,x.world.cell? ⟨b,off + (k - 1) * 5 + 1,none⟩ = some (.int .i64 tn):=fun x=>by rw [hkc x _ _ hbr,e1]
    clear hkc c0 e0 e1
    by_cases d : sp < tp + tn
    · have hno : Hid (M.overTo l (k + 1) = false):=by show _ = _;rw [hov.out];exact decide_eq_false (by omega)
      go_wp2
      refine Q.region_kin (by kernel_rfl) (by kernel_rfl) ?_
      repeat (first | go_big_quiet_step (fail) | quiet_step (fail))
      refine wpQuiet_nil ?_
      intro _ hw'
      obtain ⟨x,hw''⟩:=hw'
      subst hw''
      go_wp2
      go_ret
      exact ⟨ret_bool (by rw [apart_no l k hlt hno.out];rfl),HB.out.trans (x.keeps.mono HB.out.size)⟩
    · have hyes : Hid (M.overTo l (k + 1) = true):=by show _ = _;rw [hov.out];exact decide_eq_true (by omega)
      go_wp2
      refine Q.region_kin (by kernel_rfl) (by kernel_rfl) ?_
      repeat (first | go_big_quiet_step (fail) | quiet_step (fail))
      refine wpQuiet_nil ?_
      intro _ hw'
      obtain ⟨x,hw''⟩:=hw'
      subst hw''
      go_wp2
      go_roundw
      case rel=>exact ⟨k + 1,by omega,.inl (by omega),by go_num,hyes.out,HB.out.trans (x.keeps.mono HB.out.size)⟩
      case measure=>simp [intOf];omega
  · have HR : Hid (M.apartB l = true):=by
     show _ = _
     unfold M.apartB
     rcases hk with hk | hk
     · rw [show l.length = k by omega];exact HA.out
     · rcases Nat.lt_or_ge l.length 1 with h0 | h0
       · rw [show l.length = 0 by omega];rfl
       · rw [show l.length = k by omega];exact HA.out
    have hge : ¬ (k : Int) < (l.length : Int):=by omega
    clear hb
    go_wp2
    go_ret
    exact ⟨ret_bool (by rw [HR.out];rfl),HB.out⟩
def cellsG (s : M.Sg) : Array Value:=#[.int .i64 s.page,.int .i64 s.pages,.string s.data,.bool s.wr,.bool s.ex]
def segOr (l : List M.Sg) (a : Int) : M.Sg:=(M.segIn l a).getD M.sg0
theorem segIn_none : ∀ (l : List M.Sg) (a : Int),(∀ j,j < l.length -> M.inSeg (M.sgAt l j) a = false) -> M.segIn l a = none
 | [],_,_=>rfl
 | s :: r,a,h=>by
  have h0 : M.inSeg s a = false:=h 0 (by simp)
  unfold M.segIn
  rw [h0,if_neg (by simp)]
  exact segIn_none r a (fun j hj=>h (j + 1) (by simpa using hj))
theorem segIn_some : ∀ (l : List M.Sg) (a : Int) (k : Nat),k < l.length -> (∀ j,j < k -> M.inSeg (M.sgAt l j) a = false) -> M.inSeg (M.sgAt l k) a = true -> M.segIn l a = some (M.sgAt l k)
 | s :: r,a,0,_,_,h=>by
  have h0 : M.inSeg s a = true:=h
  unfold M.segIn
  rw [h0,if_pos rfl]
  rfl
 | s :: r,a,k + 1,hk,hj,h=>by
  have h0 : M.inSeg s a = false:=hj 0 (by omega)
  unfold M.segIn
  rw [h0,if_neg (by simp)]
  exact segIn_some r a k (by simpa using hk) (fun j h=>hj (j + 1) (by omega)) h
theorem range_at {l : List M.Sg} (h : l.all M.rangeB = true) (k : Nat) (hk : k < l.length) : 0 <= (M.sgAt l k).page /\ 1 <= (M.sgAt l k).pages /\ (M.sgAt l k).page + (M.sgAt l k).pages <= 255 /\ ((M.sgAt l k).data.size : Int) <= (M.sgAt l k).pages * 16 :=
 of_decide_eq_true (M.all_at M.rangeB M.sg0 l k hk h)
theorem segIn_neg {l : List M.Sg} (h : l.all M.rangeB = true) (a : Int) (ha : a < 0) : M.segIn l a = none :=
 segIn_none l a (fun j hj=>by
  have:=range_at h j hj
  exact decide_eq_false (by omega))
theorem ret_seg {a b : M.Sg} {x y : Bool} (h : a = b) (g : x = y) : Ending.returned (.tuple #[.agg (cellsG a),.bool x]) = .returned (.tuple #[.agg (cellsG b),.bool y]):=by rw [h,g]
set_option maxHeartbeats 4000000 in
theorem segAt_any (l : List M.Sg) (ao : Option Addr) (cap : Nat) (a : Int) (w : World) (h : M.HasBy M.LieG w ao l) (hn : M.Short l.length) (hr : l.all M.rangeB = true) (ha : M.I64 a) :
  Calls Tryz.prog 199 #[.slice ao l.length cap,.int .i64 a] w fun e w'=>e = .returned (.tuple #[.agg (cellsG (segOr l a)),.bool (M.placedB l a)]) /\ Below w.heap.size w w':=by
 unfold M.Short at hn
 unfold M.I64 at ha
 have H:=hideC h
 have F:=hideC hr
 clear h hr
 by_cases h0 : a < 0
 · have HN:=hideC (segIn_neg F.out a h0)
   have HZ:=hideC ((Below.refl w.heap.size w).alloc (Nat.le_refl _) (.cells #[.int .i64 0,.int .i64 0,.string ⟨#[]⟩,.bool false,.bool false] 145))
   go_enter Tryz.func199,Tryz.ntmps199
   go_wp2
   exact bodyPost_ret (v:=.tuple #[.agg #[.int .i64 0,.int .i64 0,.string ⟨#[]⟩,.bool false,.bool false],.bool false]) (by simp [results,Tryz.results199,go_sem]) rfl ⟨ret_seg (a:=M.sg0) (x:=false) (by unfold segOr;rw [HN.out];rfl) (by unfold M.placedB;rw [HN.out];rfl),HZ.out⟩
 · have h0' : 0 <= a:=by omega
   have hbz : Below w.heap.size w (w.alloc (.cells #[.int .i64 0,.int .i64 0,.string ⟨#[]⟩,.bool false,.bool false] 145)):=(Below.refl _ _).alloc (Nat.le_refl _) _
   have HZ:=hideC hbz
   clear hbz
   go_enter Tryz.func199,Tryz.ntmps199
   go_wp2
   go_loopw [16] (fun i wr=>∃ k : Nat,k <= l.length /\ i = .int .i64 k /\ (∀ j,j < k -> M.inSeg (M.sgAt l j) a = false) /\ Below (w.heap.size + 1) (w.alloc (.cells #[.int .i64 0,.int .i64 0,.string ⟨#[]⟩,.bool false,.bool false] 145)) wr) (fun i _=>l.length - (intOf i).toNat)
   case atStart=>exact ⟨0,by omega,rfl,fun j hj=>by omega,Below.refl _ _⟩
   case round =>
    obtain ⟨k,hk,rfl,hno,hb⟩:=hrel
    have HN:=hideC hno
    have HB:=hideC hb
    have hbw : Hid (Below w.heap.size w wr):=HZ.out.trans (hb.mono (Nat.le_succ _))
    have hsz : w.heap.size + 1 <= wr.heap.size:=by have:=hb.size;simpa using this
    have HR:=hideC (B.below (B.new w #[.int .i64 0,.int .i64 0,.string ⟨#[]⟩,.bool false,.bool false] 145) hb (Nat.lt_succ_self _))
    clear hno hb
    by_cases hlt : k < l.length
    · obtain ⟨b,off,hao,hbl,hl⟩:=H.out (by omega)
      subst hao
      obtain ⟨c0,c1,c2,c3,c4⟩:=M.lieG hbw.out hbl hl k hlt
      obtain ⟨g1,g2,g3,g4⟩:=range_at F.out k hlt
      obtain ⟨s,hs⟩ : ∃ s,s = M.sgAt l k:=⟨_,rfl⟩
      rw [<- hs] at c0 c1 c2 c3 c4 g1 g2 g3 g4
      have HS:=hideC hs
      clear hs hl
      obtain ⟨p,n,d,x,y⟩:=s
      simp only at c0 c1 c2 c3 c4 g1 g2 g3 g4
      have hml : d.size <= maxLen:=by unfold maxLen;omega
      have hli : (k : Int) < (l.length : Int):=by omega
      clear g4
      by_cases d1 : p <= a / 16
      · by_cases d2 : a / 16 < p + n
        · have hin : Hid (M.inSeg (M.sgAt l k) a = true):=by show _ = _;rw [<- HS.out];exact decide_eq_true (show p * 16 <= a /\ a < (p + n) * 16 by omega)
          have t0:=B.cell (B.alloc HR.out (.cells #[.int .i64 p,.int .i64 n,.string d,.bool x,.bool y] 145)) 0 rfl
          have t1:=B.cell (B.alloc HR.out (.cells #[.int .i64 p,.int .i64 n,.string d,.bool x,.bool y] 145)) 1 rfl
          have t2:=B.cell (B.alloc HR.out (.cells #[.int .i64 p,.int .i64 n,.string d,.bool x,.bool y] 145)) 2 rfl
          have t3:=B.cell (B.alloc HR.out (.cells #[.int .i64 p,.int .i64 n,.string d,.bool x,.bool y] 145)) 3 rfl
          have t4:=B.cell (B.alloc HR.out (.cells #[.int .i64 p,.int .i64 n,.string d,.bool x,.bool y] 145)) 4 rfl
          have u0:=B.free (B.alloc HR.out (.cells #[.int .i64 p,.int .i64 n,.string d,.bool x,.bool y] 145))
          have HW2:=hideC (hbw.out.alloc hbw.out.size (.cells #[.int .i64 p,.int .i64 n,.string d,.bool x,.bool y] 145))
          go_wp2
          exact bodyPost_ret (v:=.tuple #[.agg #[.int .i64 p,.int .i64 n,.string d,.bool x,.bool y],.bool true]) (by simp [results,Tryz.results199,go_sem,t0,t1,t2,t3,t4]) rfl ⟨ret_seg (a:=⟨p,n,d,x,y⟩) (x:=true) (by unfold segOr;rw [segIn_some l a k hlt HN.out hin.out];exact HS.out) (by unfold M.placedB;rw [segIn_some l a k hlt HN.out hin.out];rfl),(((((HW2.out.setCell (Nat.le_refl _) _).setCell (Nat.le_refl _) _).setCell (Nat.le_refl _) _).setCell (Nat.le_refl _) _).setCell (Nat.le_refl _) _)⟩
        · have hmiss : Hid (M.inSeg (M.sgAt l k) a = false):=by show _ = _;rw [<- HS.out];exact decide_eq_false (show ¬ (p * 16 <= a /\ a < (p + n) * 16) by omega)
          go_wp2
          go_roundw
          case rel=>exact ⟨k + 1,by omega,by go_num,fun j hj=>if e : j = k then by rw [e];exact hmiss.out else HN.out j (by omega),HB.out.alloc (by simpa using hsz) _⟩
          case measure=>simp [intOf];omega
      · have hmiss : Hid (M.inSeg (M.sgAt l k) a = false):=by show _ = _;rw [<- HS.out];exact decide_eq_false (show ¬ (p * 16 <= a /\ a < (p + n) * 16) by omega)
        have d1' : decide (p <= a / 16) = false:=decide_eq_false d1
        go_wp2
        go_roundw
        case rel=>exact ⟨k + 1,by omega,by go_num,fun j hj=>if e : j = k then by rw [e];exact hmiss.out else HN.out j (by omega),HB.out.alloc (by simpa using hsz) _⟩
        case measure=>simp [intOf];omega
    · obtain rfl : k = l.length:=by omega
      have HNo:=hideC (segIn_none l a HN.out)
      have t0:=B.cell HR.out 0 rfl
      have t1:=B.cell HR.out 1 rfl
      have t2:=B.cell HR.out 2 rfl
      have t3:=B.cell HR.out 3 rfl
      have t4:=B.cell HR.out 4 rfl
      have u0:=B.free HR.out
      go_wp2
      exact bodyPost_ret (v:=.tuple #[.agg #[.int .i64 0,.int .i64 0,.string ⟨#[]⟩,.bool false,.bool false],.bool false]) (by simp [results,Tryz.results199,go_sem,t0,t1,t2,t3,t4]) rfl ⟨ret_seg (a:=M.sg0) (x:=false) (by unfold segOr;rw [HNo.out];rfl) (by unfold M.placedB;rw [HNo.out];rfl),(((((hbw.out.setCell (Nat.le_refl _) _).setCell (Nat.le_refl _) _).setCell (Nat.le_refl _) _).setCell (Nat.le_refl _) _).setCell (Nat.le_refl _) _)⟩
theorem placed_bounds {l : List M.Sg} (h : l.all M.rangeB = true) (a : Int) (hp : M.placedB l a = true) : 0 <= a /\ a < 4080:=by
 induction l with
 | nil=>cases hp
 | cons s r ih =>
  have h' : M.rangeB s = true /\ r.all M.rangeB = true:=by simpa using h
  have hs : 0 <= s.page /\ 1 <= s.pages /\ s.page + s.pages <= 255 /\ (s.data.size : Int) <= s.pages * 16:=of_decide_eq_true h'.1
  unfold M.placedB M.segIn at hp
  cases e : M.inSeg s a
  · rw [e,if_neg (by simp)] at hp
    exact ih h'.2 hp
  · have:=of_decide_eq_true e
    omega
set_option maxHeartbeats 2000000 in
theorem entryPlaced_any (i : M.Im) (a : M.At) (w : World) (h : M.HasIm w a i) (hf : M.Fit i) (hr : i.segs.all M.rangeB = true) : Calls Tryz.prog 183 #[.agg (M.cellsI a i)] w fun e w'=>e = .returned (.bool (M.entryB i)) /\ Below w.heap.size w w':=by
 obtain ⟨an,cn,ag,cg,ay,cy,ar,cr⟩:=a
 obtain ⟨nm,ns,gs,ys,rs,en⟩:=i
 obtain ⟨h1,h2,h3,h4⟩:=h
 obtain ⟨f1,f2,f3,f4,f5,f6,f7,f8,f9,f10⟩:=hf
 simp only at h1 h2 h3 h4 f1 f2 f3 f4 f5 f6 f7 f8 f9 f10
 have F4:=hideC f4
 unfold M.Short at f2 f4 f6 f8
 simp only [M.cellsI]
 have H1:=hideC h1
 have H2:=hideC h2
 have H3:=hideC h3
 have H4:=hideC h4
 have F3:=hideC f3
 have F7:=hideC f7
 have F9:=hideC f9
 have F10:=hideC f10
 have HG:=hideC hr
 clear h1 h2 h3 h4 f3 f5 f7 f9 f10 hr
 have BOX:=hideC (B.new w #[.string nm,.slice an ns.length cn,.slice ag gs.length cg,.slice ay ys.length cy,.slice ar rs.length cr,.int .i64 en] 151)
 have HB0:=hideC ((Below.refl w.heap.size w).alloc (Nat.le_refl _) (.cells #[.string nm,.slice an ns.length cn,.slice ag gs.length cg,.slice ay ys.length cy,.slice ar rs.length cr,.int .i64 en] 151))
 obtain ⟨X,hX⟩ : ∃ X : Array Value,X = #[.string nm,.slice an ns.length cn,.slice ag gs.length cg,.slice ay ys.length cy,.slice ar rs.length cr,.int .i64 en]:=⟨_,rfl⟩
 have HX:=hideC hX
 rw [<- hX] at BOX HB0
 clear hX
 have bx2:=B.cell BOX.out 2 (by rw [HX.out];rfl)
 have bx5:=B.cell BOX.out 5 (by rw [HX.out];rfl)
 have f10':=F10.out
 unfold M.I64 at f10'
 have HE : Hid (M.entryB ⟨nm,ns,gs,ys,rs,en⟩ = (M.placedB gs en && ((segOr gs en).ex && decide (en % 8 = 0)))):=by
  show _ = _
  unfold M.entryB M.placedB segOr
  simp only
  cases M.segIn gs en <;> rfl
 rw [HE.out]
 have hpb : M.placedB gs en = true -> 0 <= en:=fun h=>(placed_bounds HG.out en h).1
 obtain ⟨sg,hsg⟩ : ∃ sg,sg = segOr gs en:=⟨_,rfl⟩
 obtain ⟨pb,hpp⟩ : ∃ pb,pb = M.placedB gs en:=⟨_,rfl⟩
 have HS:=hideC hsg
 have HP:=hideC hpp
 rw [<- hpp] at hpb
 rw [<- hsg,<- hpp]
 obtain ⟨sp,sn,sd,sx,sy⟩:=sg
 simp only
 clear HE hsg hpp
 cases pb
 · clear hpb
   go_enter Tryz.func183,Tryz.ntmps183
   go_wp2_with fail
   rw [<- HX.out]
   refine (segAt_any gs ag cg en _ (M.HasBy.below (lie:=M.LieG) (fun hb hlt h=>M.lieG hb hlt h) H2.out HB0.out) F4.out HG.out F10.out).mono ?_
   rintro e w2 ⟨rfl,hb2⟩
   have HB2:=hideC (HB0.out.trans (hb2.mono HB0.out.size))
   have BX2:=hideC (B.below BOX.out hb2 (B.isLt BOX.out))
   have hsz2:=B.isLt BX2.out
   have by5:=B.cell BX2.out 5 (by rw [HX.out];rfl)
   clear hb2
   rw [<- HS.out,<- HP.out]
   simp only [cellsG]
   go_wp2
   go_ret
   exact ⟨rfl,HB2.out.alloc HB2.out.size _⟩
 · have hp:=hpb rfl
   clear hpb
   cases sy
   · go_enter Tryz.func183,Tryz.ntmps183
     go_wp2_with fail
     rw [<- HX.out]
     refine (segAt_any gs ag cg en _ (M.HasBy.below (lie:=M.LieG) (fun hb hlt h=>M.lieG hb hlt h) H2.out HB0.out) F4.out HG.out F10.out).mono ?_
     rintro e w2 ⟨rfl,hb2⟩
     have HB2:=hideC (HB0.out.trans (hb2.mono HB0.out.size))
     have BX2:=hideC (B.below BOX.out hb2 (B.isLt BOX.out))
     have hsz2:=B.isLt BX2.out
     have by5:=B.cell BX2.out 5 (by rw [HX.out];rfl)
     clear hb2
     rw [<- HS.out,<- HP.out]
     simp only [cellsG]
     go_wp2
     go_ret
     exact ⟨rfl,HB2.out.alloc HB2.out.size _⟩
   · by_cases d : en % 8 = 0
     · rw [decide_eq_true d]
       go_enter Tryz.func183,Tryz.ntmps183
       go_wp2_with fail
       rw [<- HX.out]
       refine (segAt_any gs ag cg en _ (M.HasBy.below (lie:=M.LieG) (fun hb hlt h=>M.lieG hb hlt h) H2.out HB0.out) F4.out HG.out F10.out).mono ?_
       rintro e w2 ⟨rfl,hb2⟩
       have HB2:=hideC (HB0.out.trans (hb2.mono HB0.out.size))
       have BX2:=hideC (B.below BOX.out hb2 (B.isLt BOX.out))
       have hsz2:=B.isLt BX2.out
       have by5:=B.cell BX2.out 5 (by rw [HX.out];rfl)
       clear hb2
       rw [<- HS.out,<- HP.out]
       simp only [cellsG]
       go_wp2
       go_ret
       exact ⟨rfl,HB2.out.alloc HB2.out.size _⟩
     · rw [decide_eq_false d]
       go_enter Tryz.func183,Tryz.ntmps183
       go_wp2_with fail
       rw [<- HX.out]
       refine (segAt_any gs ag cg en _ (M.HasBy.below (lie:=M.LieG) (fun hb hlt h=>M.lieG hb hlt h) H2.out HB0.out) F4.out HG.out F10.out).mono ?_
       rintro e w2 ⟨rfl,hb2⟩
       have HB2:=hideC (HB0.out.trans (hb2.mono HB0.out.size))
       have BX2:=hideC (B.below BOX.out hb2 (B.isLt BOX.out))
       have hsz2:=B.isLt BX2.out
       have by5:=B.cell BX2.out 5 (by rw [HX.out];rfl)
       clear hb2
       rw [<- HS.out,<- HP.out]
       simp only [cellsG]
       go_wp2
       go_ret
       exact ⟨ret_bool (by simpa using d),HB2.out.alloc HB2.out.size _⟩
end W
namespace W
open Go.RowKit Go.WideMaps Go.Maps
theorem law : Keyed Tryz.prog 9:=string_keyed Tryz.underlying9
theorem zero3 (w : World) : (zeroValue 3).run Tryz.prog w = .ok (.int .i64 0) w:=by kernel_rfl
def keyS (s : ByteArray) : Lit:=.string s.data.toList
theorem keyS_inj {s t : ByteArray} (h : keyS s = keyS t) : s = t:=by
 unfold keyS at h
 injection h with h
 cases s;cases t
 congr 1
 exact Array.toList_inj.1 h
theorem keyS_ok {s : ByteArray} (h : M.Short s.size) : keyOf Tryz.prog 9 (.string s) = some (keyS s):=keyOf_string_mk Tryz.underlying9 (by unfold M.Short at h;unfold maxLen;omega)
instance lawfulBA : LawfulBEq ByteArray where
 eq_of_beq {a b} h:=by
  cases a;cases b
  congr 1
  exact eq_of_beq (α:=Array UInt8) h
 rfl {a}:=by
  cases a
  exact beq_self_eq_true (α:=Array UInt8) _
def Cnt (l : List ByteArray) (k : Nat) (D : DataW Unit) : Prop:=∀ s : ByteArray,D.atKey (keyS s) (.lit (.int .i64 0)) = .lit (.int .i64 (if (l.take k).contains s then 1 else 0))
theorem cnt_zero (l : List ByteArray) : Cnt l 0 (.map []):=fun s=>by simp [DataW.atKey]
theorem contains_step (l : List ByteArray) (k : Nat) (hk : k < l.length) (s : ByteArray) : (l.take (k + 1)).contains s = ((l.take k).contains s || s == M.strAt l k):=by
 rw [List.take_add_one,List.getElem?_eq_getElem hk]
 have e : M.strAt l k = l[k]:=by unfold M.strAt;rw [List.getD_eq_getElem?_getD,List.getElem?_eq_getElem hk];rfl
 rw [e]
 have g : ∀ (m : List ByteArray) (a : ByteArray),(m ++ [a]).contains s = (m.contains s || s == a):=fun m a=>by
  rw [Bool.eq_iff_iff]
  simp
 exact g _ _
theorem cnt_step {l : List ByteArray} {k : Nat} {D : DataW Unit} (hk : k < l.length) (hD : IsMap D) (h : Cnt l k D) : Cnt l (k + 1) (D.put (keyS (M.strAt l k)) (.lit (.int .i64 1))):=fun s=>by
 rw [contains_step l k hk s]
 by_cases e : s = M.strAt l k
 · subst e
   rw [atKey_put_same hD (by trivial)]
   simp
 · rw [atKey_put_other (fun g=>e (keyS_inj g)),h s]
   have : (s == M.strAt l k) = false:=by simpa using e
   rw [this,Bool.or_false]
theorem once_mono (l : List ByteArray) (k n : Nat) (h : M.onceTo l k = false) (hk : k <= n) : M.onceTo l n = false:=by
 induction n with
 | zero => obtain rfl : k = 0 := by omega
           exact h
 | succ n ih =>
  rcases Nat.lt_or_ge n k with g | g
  · obtain rfl : k = n + 1:=by omega
    exact h
  · simp only [M.onceTo]
    rw [ih g];rfl
set_option maxHeartbeats 2000000 in
theorem twice_any (l : List ByteArray) (ao : Option Addr) (cap : Nat) (w : World) (h : M.HasBy M.LieS w ao l) (hn : M.Short l.length) (hf : ∀ k,k < l.length -> M.Short (M.strAt l k).size) :
  Calls Tryz.prog 179 #[.slice ao l.length cap] w fun e w'=>e = .returned (.bool (!M.onceB l)) /\ Below w.heap.size w w':=by
 unfold M.Short at hn
 have H:=hideC h
 have F:=hideC hf
 clear h hf
 have hmm:=@run_makeMap Tryz.prog
 go_enter Tryz.func179,Tryz.ntmps179
 go_wp2
 go_loopw [9] (fun i wr=>∃ (k : Nat) (D : DataW Unit),k <= l.length /\ i = .int .i64 k /\ wr.ownsMap Tryz.prog 9 (plainElem Tryz.prog 3) w.heap.size k D /\ Cnt l k D /\ M.onceTo l k = true /\ Below w.heap.size w wr) (fun i _=>l.length - (intOf i).toNat)
 case atStart=>exact ⟨0,.map [],Nat.zero_le _,rfl,World.ownsMap_made _ _ _ _,cnt_zero l,rfl,(Below.refl _ _).alloc (Nat.le_refl _) _⟩
 case round =>
  obtain ⟨k,D,hk,rfl,hown,hcnt,honce,hb⟩:=hrel
  have HO:=hideC honce
  have HC:=hideC hcnt
  have HB:=hideC hb
  have HW:=hideC hown
  clear honce hcnt
  by_cases hlt : k < l.length
  · obtain ⟨b,off,hao,hbl,hl⟩:=H.out (by omega)
    subst hao
    have hli : (k : Int) < (l.length : Int):=by omega
    have c0:=M.lieS hb hbl hl k hlt
    have fs:=F.out k hlt
    have HCS:=hideC (cnt_step hlt hown.isMap HC.out)
    have HN : Hid (M.onceTo l (k + 1) = !(l.take k).contains (M.strAt l k)):=by show (M.onceTo l k && _) = _;rw [HO.out];rfl
    have hcx:=HC.out (M.strAt l k)
    obtain ⟨s,hs⟩ : ∃ s,s = M.strAt l k:=⟨_,rfl⟩
    rw [<- hs] at c0 fs HCS HN hcx
    clear hs hb hl
    have hkey:=keyS_ok fs
    obtain ⟨c,hrun,hat,_⟩:=hown.lookup_int law Tryz.underlying272 Tryz.underlying3 (zero3 _) hkey
    rw [hcx] at hat
    have hkm : k < maxLen:=by unfold maxLen;omega
    cases hc : (l.take k).contains s
    · rw [hc] at hat HN
      have e : c = 0:=by injection hat with hat;injection hat with _ hat;exact hat.symm
      subst e
      clear hat hcx
      go_wp2_with (first | (at_mapUpdate;refine wpList_mapUpdate_own _ rfl _ _ _ 272 rfl 9 3 law Tryz.underlying272 _ w.heap.size k _ rfl HW.out hkm _ _ _ rfl rfl hkey _ [] (plainElem_int Tryz.underlying3 (by decide)) ?_) | go_in)
      intro w1 hown1 hgrow1
      have R2:=hideC (HB.out.grown hgrow1 HB.out.size (fun j hj=>by cases hj;exact Nat.le_refl _))
      obtain ⟨c,hrun1,hat1,_⟩:=hown1.lookup_int law Tryz.underlying272 Tryz.underlying3 (zero3 _) hkey
      rw [atKey_put_same HW.out.isMap (by trivial)] at hat1
      have e : c = 1:=by injection hat1 with hat1;injection hat1 with _ hat1;exact hat1.symm
      subst e
      have HW1:=hideC hown1
      clear hat1 hown hrun hgrow1 hown1
      go_wp2
      go_roundw
      case rel=>exact ⟨k + 1,_,by omega,by go_num,HW1.out,HCS.out,HN.out,R2.out⟩
      case measure=>simp [intOf];omega
    · rw [hc] at hat HN
      have e : c = 1:=by injection hat with hat;injection hat with _ hat;exact hat.symm
      subst e
      clear hat hcx
      have HR:=hideC (once_mono l (k + 1) l.length HN.out hlt)
      go_wp2_with (first | (at_mapUpdate;refine wpList_mapUpdate_own _ rfl _ _ _ 272 rfl 9 3 law Tryz.underlying272 _ w.heap.size k _ rfl HW.out hkm _ _ _ rfl rfl hkey _ [] (plainElem_int Tryz.underlying3 (by decide)) ?_) | go_in)
      intro w1 hown1 hgrow1
      have R2:=hideC (HB.out.grown hgrow1 HB.out.size (fun j hj=>by cases hj;exact Nat.le_refl _))
      obtain ⟨c,hrun1,hat1,_⟩:=hown1.lookup_int law Tryz.underlying272 Tryz.underlying3 (zero3 _) hkey
      rw [atKey_put_same HW.out.isMap (by trivial)] at hat1
      have e : c = 2:=by injection hat1 with hat1;injection hat1 with _ hat1;exact hat1.symm
      subst e
      clear hat1 hown hrun hgrow1 hown1
      go_wp2
      go_ret
      exact ⟨ret_bool (by unfold M.onceB;rw [HR.out];rfl),R2.out⟩
  · obtain rfl : k = l.length:=by omega
    clear hb
    go_wp2
    go_ret
    exact ⟨ret_bool (by unfold M.onceB;rw [HO.out];rfl),HB.out⟩
end W
namespace LM
open Go.RowKit Go.WideMaps Go.Maps
structure Li where
 i : M.Im
 a : M.At
def li0 : Li:=⟨⟨⟨#[]⟩,[],[],[],[],0⟩,⟨none,0,none,0,none,0,none,0⟩⟩
def liAt (l : List Li) (k : Nat) : Li:=l.getD k li0
def imgV (x : Li) : Value:=.agg (M.cellsI x.a x.i)
def LieI (w : World) (b off : Nat) (l : List Li) : Prop:=∀ k,k < l.length ->
 (w.cell? ⟨b,off + k * 6,none⟩ = some (.string (liAt l k).i.name) /\ w.cell? ⟨b,off + k * 6 + 1,none⟩ = some (.slice (liAt l k).a.an (liAt l k).i.needs.length (liAt l k).a.cn) /\
  w.cell? ⟨b,off + k * 6 + 2,none⟩ = some (.slice (liAt l k).a.ag (liAt l k).i.segs.length (liAt l k).a.cg) /\ w.cell? ⟨b,off + k * 6 + 3,none⟩ = some (.slice (liAt l k).a.ay (liAt l k).i.syms.length (liAt l k).a.cy) /\
  w.cell? ⟨b,off + k * 6 + 4,none⟩ = some (.slice (liAt l k).a.ar (liAt l k).i.rels.length (liAt l k).a.cr) /\ w.cell? ⟨b,off + k * 6 + 5,none⟩ = some (.int .i64 (liAt l k).i.entry)) /\ M.HasIm w (liAt l k).a (liAt l k).i
theorem lieI {w w' : World} {b off : Nat} {l : List Li} (hb : Below w.heap.size w w') (hlt : b < w.heap.size) (h : LieI w b off l) : LieI w' b off l:=fun k hk=>by
 obtain ⟨⟨c0,c1,c2,c3,c4,c5⟩,hi⟩:=h k hk
 exact ⟨⟨(M.below_cell hb hlt).trans c0,(M.below_cell hb hlt).trans c1,(M.below_cell hb hlt).trans c2,(M.below_cell hb hlt).trans c3,(M.below_cell hb hlt).trans c4,(M.below_cell hb hlt).trans c5⟩,hi.below hb⟩
def HasI (w : World) (ao : Option Addr) (l : List Li) : Prop:=M.HasBy LieI w ao l
theorem HasI.below {w w' : World} {ao : Option Addr} {l : List Li} (h : HasI w ao l) (hb : Below w.heap.size w w') : HasI w' ao l:=M.HasBy.below (lie:=LieI) (fun hb hlt h=>lieI hb hlt h) h hb
def FitI (l : List Li) : Prop:=M.Short l.length /\ ∀ k,k < l.length -> M.Fit (liAt l k).i
def errTo (l : List Li) : Nat -> Int
 | 0=>0
 | k + 1=>if errTo l k = 0 then M.chkN (liAt l k).i else errTo l k
def namesL (l : List Li) : List ByteArray:=l.map (·.i.name)
def byErr (l : List Li) : Int:=if errTo l l.length = 0 then (if M.onceB (namesL l) then 0 else 5) else errTo l l.length
theorem errTo_stays (l : List Li) (k : Nat) (h : errTo l k ≠ 0) : ∀ n,k <= n -> errTo l n = errTo l k
 | 0, hn => by obtain rfl : k = 0 := by omega
               rfl
 | n + 1,hn=>by
  by_cases e : k = n + 1
  · subst e;rfl
  · have ih:=errTo_stays l k h n (by omega)
    simp only [errTo]
    rw [ih,if_neg h]
theorem errTo_none (l : List Li) : ∀ n,errTo l n = 0 -> ∀ k,k < n -> M.chkN (liAt l k).i = 0
 | 0,_,k,hk=>by omega
 | n + 1,h,k,hk=>by
  simp only [errTo] at h
  by_cases e0 : errTo l n = 0
  · rw [if_pos e0] at h
    by_cases e : k = n
    · subst e;exact h
    · exact errTo_none l n e0 k (by omega)
  · rw [if_neg e0] at h
    exact (e0 h).elim
theorem namesL_at (l : List Li) (k : Nat) (hk : k < l.length) : M.strAt (namesL l) k = (liAt l k).i.name:=by
 unfold M.strAt namesL liAt
 rw [List.getD_eq_getElem?_getD,List.getD_eq_getElem?_getD,List.getElem?_map,List.getElem?_eq_getElem hk]
 rfl
theorem namesL_length (l : List Li) : (namesL l).length = l.length:=by simp [namesL]
def Rv (v : Value) : Option (DataW Value × List MemPlace):=some (.held v,[])
def zImg : Value:=.agg #[.string ⟨#[]⟩,.slice none 0 0,.slice none 0 0,.slice none 0 0,.slice none 0 0,.int .i64 0]
structure Nm (l : List Li) (k : Nat) (D : DataW Value) : Prop where
 has : ∀ s,Maps.has D (W.keyS s) = ((namesL l).take k).contains s
 at_ : M.onceTo (namesL l) k = true -> ∀ j,j < k -> D.atKey (W.keyS (liAt l j).i.name) (.held zImg) = .held (imgV (liAt l j))
 le : Maps.size D <= k
 all : Maps.size D = k ↔ M.onceTo (namesL l) k = true
theorem nm_zero (l : List Li) : Nm l 0 (.map []):=⟨fun s=>by simp [Maps.has],fun _ j hj=>by omega,by simp [Maps.size],by simp [Maps.size,M.onceTo]⟩
theorem name_in (l : List Li) (k j : Nat) (hj : j < k) (hk : k <= l.length) : ((namesL l).take k).contains (liAt l j).i.name = true:=by
 have h1 : j < ((namesL l).take k).length:=by rw [List.length_take,namesL_length];omega
 have h2 : ((namesL l).take k)[j] = (liAt l j).i.name:=by
  rw [List.getElem_take]
  have h3 : j < (namesL l).length:=by rw [namesL_length];omega
  have:=namesL_at l j (by omega)
  unfold M.strAt at this
  rw [List.getD_eq_getElem?_getD,List.getElem?_eq_getElem h3] at this
  exact this
 rw [<- h2]
 exact List.contains_iff_mem.2 (List.getElem_mem h1)
theorem nm_step {l : List Li} {k : Nat} {D : DataW Value} (hk : k < l.length) (hD : IsMap D) (hT : Maps.Tidy D) (h : Nm l k D) : Nm l (k + 1) (D.put (W.keyS (liAt l k).i.name) (.held (imgV (liAt l k)))):=by
 have hc:=fun s=>W.contains_step (namesL l) k (by rw [namesL_length];exact hk) s
 have hat:=namesL_at l k hk
 have hon : M.onceTo (namesL l) (k + 1) = (M.onceTo (namesL l) k && !((namesL l).take k).contains (liAt l k).i.name):=by simp only [M.onceTo];rw [hat]
 have hsz:=Maps.size_put (k:=W.keyS (liAt l k).i.name) hT (.held (imgV (liAt l k)))
 rw [h.has] at hsz
 refine ⟨fun s=>?_,fun ho j hj=>?_,?_,?_⟩
 · rw [hc s,hat]
   by_cases e : s = (liAt l k).i.name
   · subst e
     rw [Maps.has_put_same hD (by trivial)]
     simp
   · rw [Maps.has_put_other (fun g=>e (W.keyS_inj g)),h.has]
     have : (s == (liAt l k).i.name) = false:=by simpa using e
     rw [this,Bool.or_false]
 · rw [hon] at ho
   simp only [Bool.and_eq_true,Bool.not_eq_true'] at ho
   by_cases e : j = k
   · subst e
     exact atKey_put_same hD (by trivial) _ _
   · have hin:=name_in l k j (by omega) (by omega)
     rw [atKey_put_other (fun g=>by
      have:=W.keyS_inj g
      rw [this] at hin
      rw [ho.2] at hin
      cases hin)]
     exact h.at_ ho.1 j (by omega)
 · have:=h.le
   split at hsz <;> omega
 · rw [hon]
   have h1:=h.le
   have h2:=h.all
   cases hcn : ((namesL l).take k).contains (liAt l k).i.name
   · rw [hcn] at hsz
     simp only [Bool.false_eq_true,if_false] at hsz
     rw [hsz]
     simp only [Bool.not_false,Bool.and_true]
     rw [<- h2]
     omega
   · rw [hcn] at hsz
     simp only [if_true] at hsz
     rw [hsz]
     simp only [Bool.not_true,Bool.and_false,Bool.false_eq_true,iff_false]
     omega
end LM
namespace W
open Go.RowKit
end W
namespace LW
open Go.RowKit Go.WideMaps Go.Maps
open W (hideC)
def OutB (l : List LM.Li) (w : World) (e : Ending) (w' : World) : Prop:=Below w.heap.size w w' /\
 if LM.byErr l = 0 then ∃ m D,e = .returned (.tuple #[.map (some m),.int .i64 0]) /\ w'.ownsMap Tryz.prog 9 LM.Rv m l.length D /\ LM.Nm l l.length D
 else e = .returned (.tuple #[.map none,.int .i64 (LM.byErr l)])
end LW
namespace LW
open Go.RowKit
open W (hideC)
end LW
end Go.Proofs.YtpgifpeohlllfaaGreat
