import Derived.Test.YtpgifpeohlllfaaGreatGH40
set_option maxHeartbeats 20000000
set_option linter.unusedVariables false
set_option maxRecDepth 100000
set_option linter.unusedSimpArgs false
namespace Go.Proofs.YtpgifpeohlllfaaGreat
namespace KL
open Go.RowKit GK KO
open FW (hideC add_below)
open KW (KAt HasK cellsK FitK liveK peekR)
open KZ (dropA kn0)
open KY (CopyK)
def Emp (w wq : World) (kb n0 i : Nat) : Prop:=∃ (a : KAt) (q : KM.Kn),HasK wq a q /\ KM.RightK q /\ q.spaces.length = n0 /\ (∀ n,n < i -> (KM.spAt q.spaces n).live = false) /\ wq.heap[kb]? = some (.cells (cellsK a q) 27 (0,0)) /\ Below w.heap.size w wq
theorem dead_names {q : KM.Kn} (h : KM.RightK q) (hd : ∀ n,n < q.spaces.length -> (KM.spAt q.spaces n).live = false) (kd at_ : Int) : KM.names q.spaces kd at_ = []:=by
 have all : ∀ s ∈ q.spaces,KM.nameIn s kd at_ = []:=fun s hs=>by
  obtain ⟨i,hi,e⟩:=KM.mem_getD KM.sp0 hs
  have:=hd i hi
  have e2 : KM.spAt q.spaces i = s:=e
  rw [e2] at this
  unfold KM.nameIn
  rw [((h.each s hs).dead this).2]
  rfl
 unfold KM.names
 rw [List.flatMap_eq_nil_iff]
 exact all
theorem dead_free {q : KM.Kn} (h : KM.RightK q) (hd : ∀ n,n < q.spaces.length -> (KM.spAt q.spaces n).live = false) : (∀ i,i < q.frames.length -> (KM.frAt q.frames i).refs = 0) /\ (∀ i,i < q.slots.length -> (KM.slAt q.slots i).refs = 0):=by
 refine ⟨fun i hi=>?_,fun i hi=>?_⟩
 · have:=(h.frm i hi).refs
   rw [dead_names h hd] at this
   exact this
 · have:=(h.slt i hi).refs
   rw [dead_names h hd] at this
   exact this
theorem emp_laid {w W w1 : World} {kb n0 i : Nat} {a : KAt} {q : KM.Kn} {c0 c1 c2 c3 c4 : Value} (hB : Below w.heap.size w W) (hkw : w.heap.size <= kb) (hkb : kb < W.heap.size) (hb : Below W.heap.size W w1) (hk : w1.heap[kb]? = some (.cells #[c0,c1,c2,c3,c4] 27 (0,0))) (ht : ∀ U,Kp (fun x=>x < W.heap.size) w1 U -> HasK U a q) (hR : KM.RightK q) (hn : q.spaces.length = n0) (hd : ∀ n,n < i -> (KM.spAt q.spaces n).live = false) {V : World} (hV : V = (((((w1.setCell ⟨kb,0,none⟩ (.slice a.aS q.sheets.length a.cS)).setCell ⟨kb,1,none⟩ (.slice a.aF q.frames.length a.cF)).setCell ⟨kb,2,none⟩ (.slice a.aL q.slots.length a.cL)).setCell ⟨kb,3,none⟩ (.slice a.aP q.spaces.length a.cP)).setCell ⟨kb,4,none⟩ (.int .i64 q.hand))) : Emp w V kb n0 i:=by
 have hk2 : V.heap[kb]? = some (.cells (cellsK a q) 27 (0,0)):=by rw [hV];exact B.set (B.set (B.set (B.set (B.set hk 0 _) 1 _) 2 _) 3 _) 4 _
 have kp : Kp (fun x=>x = kb) w1 V:=by
  rw [hV]
  have k : ∀ (A : World) (j : Nat) (v : Value),Kp (fun x=>x = kb) A (A.setCell ⟨kb,j,none⟩ v):=fun A j v=>Kp.set _ A ⟨kb,j,none⟩ v rfl
  exact ((((k _ _ _).trans (k _ _ _) (fun _ _ g=>g)).trans (k _ _ _) (fun _ _ g=>g)).trans (k _ _ _) (fun _ _ g=>g)).trans (k _ _ _) (fun _ _ g=>g)
 have hbw : Below w.heap.size w w1:=hB.trans (hb.mono hB.size)
 exact ⟨a,q,ht V (kp.mono (fun x _ e=>by rw [e];exact hkb)),hR,hn,hd,hk2,Kp.below hbw kp hbw.size (fun x e=>by rw [e];exact hkw)⟩
set_option maxHeartbeats 8000000 in
theorem empty_any (hcp : CopyK) (k : KM.Kn) (a : KAt) (w : World) (hK : HasK w a k) (hF : FitK k)
  (hbg : ∀ V,Calls Tryz.prog 15 #[] V fun e w'=>e = .returned (.bool true) /\ Below V.heap.size V w') :
  Calls Tryz.prog 13 #[.agg (cellsK a k)] w fun e w'=>e = .returned (.bool true) /\ Below w.heap.size w w':=by
 obtain ⟨WA,hWA⟩ : ∃ WA,WA = w.alloc (.cells (cellsK a k) 27):=⟨_,rfl⟩
 have hb0 : Below w.heap.size w WA:=by rw [hWA];exact (Below.refl _ _).alloc (Nat.le_refl _) _
 have kb0 : WA.heap[w.heap.size]? = some (.cells (cellsK a k) 27 (0,0)):=by rw [hWA];exact B.new w _ _
 have KB : Hid (∀ V,Below WA.heap.size WA V -> V.heap[w.heap.size]? = some (.cells #[.slice a.aS k.sheets.length a.cS,.slice a.aF k.frames.length a.cF,.slice a.aL k.slots.length a.cL,.slice a.aP k.spaces.length a.cP,.int .i64 k.hand] 27 (0,0))):=fun V hb=>B.below kb0 hb (B.isLt kb0)
 obtain ⟨k0,k1,k2,k3,k4⟩:=B.c5 (KB.out WA (Below.refl _ _))
 have HWA:=hideC hWA
 have HB0:=hideC hb0
 have HBG:=hideC hbg
 have HCK:=hideC (KW.check_any k a WA (hK.below hb0) hF)
 have HIN : KM.checkK k = 0 -> Hid (∀ V,Below WA.heap.size WA V -> Emp w V w.heap.size k.spaces.length 0):=fun c V hV=>⟨a,k,hK.below (hb0.trans (hV.mono hb0.size)),(KM.check_iff k).1 c,rfl,fun n hn=>absurd hn (Nat.not_lt_zero _),KB.out V hV,hb0.trans (hV.mono hb0.size)⟩
 have hnp : k.spaces.length <= 140737488351232:=hF.np
 obtain ⟨C,hC⟩ : ∃ C,C = KM.checkK k:=⟨_,rfl⟩
 rw [<- hC] at HCK HIN
 unfold cellsK at HCK HWA ⊢
 clear hK hF hbg hb0 kb0 hWA hC
 by_cases c : C = 0
 · have HE0:=HIN c
   rw [c] at HCK
   clear HIN c
   go_enter Tryz.func13,Tryz.ntmps13
   go_upto_region 1 with fail
   rw [<- HWA.out]
   go_upto_region 3 with (go_at_call 24;refine HCK.out.mono ?_;rintro e w1 ⟨rfl,hb1⟩;have HE1:=hideC (HE0.out _ hb1);clear hb1)
   obtain ⟨kb,hkb⟩ : ∃ kb,kb = w.heap.size:=⟨_,rfl⟩
   have hkw : w.heap.size <= kb:=by omega
   rw [<- hkb] at HE1 ⊢
   obtain ⟨n0,hn0⟩ : ∃ n0,n0 = k.spaces.length:=⟨_,rfl⟩
   rw [<- hn0] at HE1 hnp
   clear hkb hn0 HE0 HCK k0 k1 k2 k3 k4 KB
   go_wp2
   go_loopw [3] (fun iv wq=>∃ i : Nat,i <= n0 /\ iv = .int .i64 (i : Int) /\ Emp w wq kb n0 i) (fun iv _=>n0 - (intOf iv).toNat)
   case atStart=>exact ⟨0,by omega,rfl,HE1.out⟩
   case round =>
    obtain ⟨i,hi,rfl,a,q,hq,hR,hqn,hd,hkc,hbw⟩:=hrel
    obtain ⟨z0,z1,z2,z3,z4⟩:=B.c5 (show wr.heap[kb]? = some (.cells #[.slice a.aS q.sheets.length a.cS,.slice a.aF q.frames.length a.cF,.slice a.aL q.slots.length a.cL,.slice a.aP q.spaces.length a.cP,.int .i64 q.hand] 27 (0,0)) from hkc)
    clear HE1
    by_cases hlt : i < n0
    · have hlq : i < q.spaces.length:=by omega
      obtain ⟨pb,po,hpo,hpl,hli⟩:=hq.spaces (by omega)
      obtain ⟨va,ap,cp,v0,v1,v2,_⟩:=hli i hlq
      have hfit:=KG.fit_right hR
      have hcc:=hR.c
      have hI : M.I64 (i : Int):=⟨by omega,by omega⟩
      by_cases lv : (KM.spAt q.spaces i).live = true
      · have hlv:=live_of hR hlq lv
        have ed : dropA q (i : Int) = (KM.dropK q i,0):=by
         unfold KZ.dropA
         rw [if_neg (fun x=>x hlv),Int.toNat_natCast]
        have HDR : Hid (Calls Tryz.prog 40 #[.agg #[.slice a.aS q.sheets.length a.cS,.slice a.aF q.frames.length a.cF,.slice a.aL q.slots.length a.cL,.slice a.aP q.spaces.length a.cP,.int .i64 q.hand],.int .i64 (i : Int)] wr fun e w'=>∃ s1 n1 c1 s2 n2 c2 s3 n3 c3 s4 n4 c4 hd,e = .returned (.tuple #[.agg #[.slice s1 n1 c1,.slice s2 n2 c2,.slice s3 n3 c3,.slice s4 n4 c4,.int .i64 hd],.int .i64 0]) /\ w'.heap[kb]? = some (.cells #[.slice a.aS q.sheets.length a.cS,.slice a.aF q.frames.length a.cF,.slice a.aL q.slots.length a.cL,.slice a.aP q.spaces.length a.cP,.int .i64 q.hand] 27 (0,0)) /\ ∀ V,V = (((((w'.setCell ⟨kb,0,none⟩ (.slice s1 n1 c1)).setCell ⟨kb,1,none⟩ (.slice s2 n2 c2)).setCell ⟨kb,2,none⟩ (.slice s3 n3 c3)).setCell ⟨kb,3,none⟩ (.slice s4 n4 c4)).setCell ⟨kb,4,none⟩ (.int .i64 hd)) -> Emp w V kb n0 (i + 1)):=(KZ.drop_any hcp q a (i : Int) wr hq hfit hI).mono fun e w' g=>by
         rw [ed] at g
         obtain ⟨hs,a2,g1,g2,g3,g4⟩:=KG.out_r g
         have hRd:=KM.drop_right hR hlq
         have hk':=B.below hkc g4 (B.isLt hkc)
         refine ⟨_,_,_,_,_,_,_,_,_,_,_,_,_,g2,hk',fun V hV=>emp_laid (i:=i + 1) hbw hkw (B.isLt hkc) g4 hk' g3 (hRd.withS g1) ?_ (fun n hn=>?_) hV⟩
         · show (KM.dropK q i).spaces.length = n0
           rw [drop_len];exact hqn
         · show (KM.spAt (KM.dropK q i).spaces n).live = false
           rw [drop_at hlq]
           by_cases e : i = n
           · rw [if_pos e];rfl
           · rw [if_neg e];exact hd n (by omega)
        rw [lv] at v0
        obtain ⟨np,hnp2⟩ : ∃ np,np = q.spaces.length:=⟨_,rfl⟩
        have hii : (i : Int) < (np : Int):=by omega
        rw [<- hnp2] at HDR z3
        rw [hpo] at HDR z3
        clear hq hR hqn hd hkc hbw hpo hpl hli v1 v2 hfit hcc hI lv hlv ed hlq hnp2
        go_wp2_with (go_at_call 40;refine HDR.out.mono ?_;rintro e w2 ⟨s1,n1,c1,s2,n2,c2,s3,n3,c3,s4,n4,c4,hd,rfl,hk2,hem⟩;have HEM:=hideC hem;obtain ⟨y0,y1,y2,y3,y4⟩:=B.c5 hk2;have f0:=B.free hk2 0;have f1:=B.free hk2 1;have f2:=B.free hk2 2;have f3:=B.free hk2 3;have f4:=B.free hk2 4;clear hem hk2)
        go_roundw
        case rel=>exact ⟨i + 1,by omega,by go_num,HEM.out _ rfl⟩
        case measure=>simp [intOf];omega
      · have lf : (KM.spAt q.spaces i).live = false:=by simpa using lv
        rw [lf] at v0
        have HEM : Hid (Emp w wr kb n0 (i + 1)):=⟨a,q,hq,hR,hqn,fun n hn=>by
         by_cases e : n = i
         · rw [e];exact lf
         · exact hd n (by omega),hkc,hbw⟩
        obtain ⟨np,hnp2⟩ : ∃ np,np = q.spaces.length:=⟨_,rfl⟩
        have hii : (i : Int) < (np : Int):=by omega
        rw [<- hnp2] at z3
        rw [hpo] at z3
        clear hq hR hqn hd hkc hbw hpo hpl hli v1 v2 hfit hcc hI lv lf hlq hnp2
        go_wp2
        go_roundw
        case rel=>exact ⟨i + 1,by omega,by go_num,HEM.out⟩
        case measure=>simp [intOf];omega
    · obtain rfl : i = n0:=by omega
      obtain ⟨fr,sl⟩:=dead_free hR (fun n hn=>hd n (by omega))
      have hcc:=hR.c
      obtain ⟨fb,fo,hfo,hfl,hfi⟩:=hq.frames (by omega)
      have HFR : Hid (∀ V n,Below wr.heap.size wr V -> n < q.frames.length -> V.cell? ⟨fb,fo + n * 4 + 1,none⟩ = some (.int .i64 0)):=fun V n hV hn=>by
       have:=(hV.cell (p:=⟨fb,fo + n * 4 + 1,none⟩) hfl).trans (hfi n hn 1 (by omega))
       rw [this]
       show some (Value.int .i64 (KM.frAt q.frames n).refs) = _
       rw [fr n hn]
      have HSL : Hid (∀ n,n < q.slots.length -> ∃ sb so,a.aL = some ⟨sb,so,none⟩ /\ wr.cell? ⟨sb,so + n * 2 + 1,none⟩ = some (.int .i64 0)):=fun n hn=>by
       obtain ⟨sb,so,hso,hsl,hsi⟩:=hq.slots (by omega)
       refine ⟨sb,so,hso,(hsi n hn 1 (by omega)).trans ?_⟩
       show some (Value.int .i64 (KM.slAt q.slots n).refs) = _
       rw [sl n hn]
      have HC2 : Hid (∀ V,Below wr.heap.size wr V -> Calls Tryz.prog 24 #[.agg #[.slice a.aS q.sheets.length a.cS,.slice a.aF q.frames.length a.cF,.slice a.aL q.slots.length a.cL,.slice a.aP q.spaces.length a.cP,.int .i64 q.hand]] V fun e w'=>e = .returned (.int .i64 0) /\ Below V.heap.size V w'):=fun V hV=>by
       have:=KW.check_any q a V (hq.below hV) (KG.fit_right hR)
       rw [(KM.check_iff q).2 hR] at this
       exact this
      have HZ : Hid (∀ V,Below wr.heap.size wr V -> V.heap[kb]? = some (.cells #[.slice a.aS q.sheets.length a.cS,.slice a.aF q.frames.length a.cF,.slice a.aL q.slots.length a.cL,.slice a.aP q.spaces.length a.cP,.int .i64 q.hand] 27 (0,0))):=fun V hV=>B.below hkc hV (B.isLt hkc)
      have HBW:=hideC hbw
      have hnf : q.frames.length <= 64:=by omega
      have hns : q.slots.length <= 512:=by omega
      have hnp3 : (q.spaces.length : Int) = (i : Int):=by omega
      have hii : ¬ (i : Int) < (q.spaces.length : Int):=by omega
      rw [hfo] at z1 HC2 HZ
      clear hq hR hqn hd hkc hbw hfl hfi hcc fr sl hlt hnp3 hfo
      obtain ⟨WR,hWR⟩ : ∃ WR,WR = wr:=⟨wr,rfl⟩
      subst hWR
      go_wp2
      go_loopw [5] (fun iv wq=>∃ n : Nat,n <= q.frames.length /\ iv = .int .i64 (n : Int) /\ wq = WR) (fun iv _=>q.frames.length - (intOf iv).toNat)
      case atStart=>exact ⟨0,by omega,rfl,rfl⟩
      case round =>
       obtain ⟨n,hn,rfl,rfl⟩:=hrel
       by_cases hlt : n < q.frames.length
       · have hni : (n : Int) < (q.frames.length : Int):=by omega
         have x1:=HFR.out _ n (Below.refl _ _) hlt
         clear HFR HSL HC2 HZ
         go_wp2
         go_roundw
         case rel=>exact ⟨n + 1,by omega,by go_num,by first | rfl | trivial⟩
         case measure=>simp [intOf];omega
       · obtain rfl : n = q.frames.length:=by omega
         clear HFR
         obtain ⟨WR,hWR⟩ : ∃ WR,WR = wr:=⟨wr,rfl⟩
         subst hWR
         go_wp2
         go_loopw [6] (fun iv wq=>∃ n : Nat,n <= q.slots.length /\ iv = .int .i64 (n : Int) /\ wq = WR) (fun iv _=>q.slots.length - (intOf iv).toNat)
         case atStart=>exact ⟨0,by omega,rfl,rfl⟩
         case round =>
          obtain ⟨n,hn,rfl,rfl⟩:=hrel
          by_cases hlt : n < q.slots.length
          · have hni : (n : Int) < (q.slots.length : Int):=by omega
            obtain ⟨sb,so,hso,x1⟩:=HSL.out n hlt
            rw [hso] at z2
            clear HSL HC2 HZ hso
            go_wp2
            go_roundw
            case rel=>exact ⟨n + 1,by omega,by go_num,by first | rfl | trivial⟩
            case measure=>simp [intOf];omega
          · obtain rfl : n = q.slots.length:=by omega
            clear HSL
            go_wp2_with (first | (go_at_call 15;refine (HBG.out _).mono ?_;rintro e w5 ⟨rfl,hb5⟩;have HB5:=hideC hb5;obtain ⟨v0,v1,v2,v3,v4⟩:=B.c5 (HZ.out _ hb5);clear hb5) | (go_at_call 24;refine (HC2.out _ HB5.out).mono ?_;rintro e w6 ⟨rfl,hb6⟩;have HB6:=hideC (HB5.out.trans (hb6.mono HB5.out.size));clear hb6))
            go_ret
            exact ⟨by simp,HBW.out.trans (HB6.out.mono HBW.out.size)⟩
 · have cb : (C != 0) = true:=by simpa using c
   clear HIN
   go_enter Tryz.func13,Tryz.ntmps13
   go_upto_region 1 with fail
   rw [<- HWA.out]
   go_wp2_with (first | (go_at_call 24;refine HCK.out.mono ?_;rintro e w1 ⟨rfl,hb1⟩;have HB1:=hideC (HB0.out.trans (hb1.mono HB0.out.size));clear hb1) | (go_at_call 15;refine (HBG.out _).mono ?_;rintro e w2 ⟨rfl,hb2⟩;have HB2:=hideC (HB1.out.trans (hb2.mono HB1.out.size));clear hb2))
   go_ret
   exact ⟨rfl,HB2.out⟩
end KL
end Go.Proofs.YtpgifpeohlllfaaGreat
