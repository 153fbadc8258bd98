import Derived.Test.YtpgifpeohlllfaaGreatGJ12
import Derived.Test.YtpgifpeohlllfaaGreatGJ13
import Derived.Test.YtpgifpeohlllfaaGreatGJ32
set_option maxHeartbeats 20000000
set_option linter.unusedVariables false
set_option maxRecDepth 100000
set_option linter.unusedSimpArgs false
namespace Go.Proofs.YtpgifpeohlllfaaGreat
namespace AW
open Go.RowKit
set_option maxHeartbeats 2000000 in
theorem areasOf_own (F : Nat -> AM.St) (hF : AM.Fine F) (w : World) :
  Calls Tryz.prog 128 #[.agg (AM.cellsB (fun n=>AM.enc (F n)))] w fun e w'=>∃ v,e = .returned v /\ Own w.heap.size w' v (AM.gatherN F) /\ Below w.heap.size w w':=by
 have HF : Hid (AM.Fine F):=hF
 clear hF
 obtain ⟨C,hC⟩ : ∃ C,C = AM.cellsB (fun n=>AM.enc (F n)):=⟨_,rfl⟩
 have hCg : Hid (∀ n,n < 256 -> C[n]? = some (.int .i64 (AM.enc (F n)))):=by show ∀ n,_;rw [hC];exact fun n hn=>AM.cellsB_get _ n hn
 rw [<- hC]
 clear hC
 obtain ⟨i0,hi,hz0,hz1,hz2⟩:=info_parts info24
 have HX : Hid ((w.alloc (.cells C 177)).heap[w.heap.size]? = some (.cells C 177 (0,0))):=B.new w C 177
 have HB0 : Hid (Below w.heap.size w (w.alloc (.cells C 177))):=(Below.refl _ _).alloc (Nat.le_refl _) _
 go_enter Tryz.func128,Tryz.ntmps128
 go_wp2
 go_loopw [3,4] (fun v i wr=>∃ k : Nat,1 <= k /\ k <= 256 /\ i = .int .i64 k /\ wr.ownsRow (w.heap.size + 1) 47 4 v (AM.gatherTo F k).length (AM.areaCells (AM.gatherTo F k)) /\ wr.heap[w.heap.size]? = some (.cells C 177 (0,0)) /\ Below w.heap.size w wr) (fun _ i _=>256 - (intOf i).toNat)
 case atStart =>
  have e : AM.gatherTo F 1 = []:=by simp only [AM.gatherTo];rw [if_pos HF.out.zero]
  refine ⟨1,by omega,by omega,rfl,?_,HX.out,HB0.out⟩
  rw [e]
  exact World.ownsRow_nil _ _ _ _
 case round =>
  obtain ⟨k,hk1,hk,rfl,hown,hx,hb⟩:=hrel
  have HO : Hid (wr.ownsRow (w.heap.size + 1) 47 4 u3 (AM.gatherTo F k).length (AM.areaCells (AM.gatherTo F k))):=hown
  have HXr : Hid (wr.heap[w.heap.size]? = some (.cells C 177 (0,0))):=hx
  have HB : Hid (Below w.heap.size w wr):=hb
  have hsz : w.heap.size < wr.heap.size:=B.isLt hx
  by_cases hlt : k < 256
  · have l0:=B.cell hx k (hCg.out k hlt)
    have l1:=B.cell hx (k - 1) (hCg.out (k - 1) (by omega))
    have hki : (k : Int) <= 255:=by omega
    have hk1i : (1 : Int) <= (k : Int):=by omega
    have hkb : (k : Int) < 256:=by omega
    clear hown hx hb
    have hlast : AM.lastTo F k = F (k - 1):=by
     cases k with
     | zero=>omega
     | succ k=>rfl
    have hpk:=HF.out.prot k
    have hpl:=HF.out.prot (k - 1)
    obtain ⟨s,hs⟩ : ∃ s,s = F k:=⟨_,rfl⟩
    obtain ⟨t,ht⟩ : ∃ t,t = AM.lastTo F k:=⟨_,rfl⟩
    rw [<- hlast,<- ht] at l1 hpl
    rw [<- hs] at l0 hpk
    have HS : Hid (s = F k):=hs
    have HT : Hid (t = AM.lastTo F k):=ht
    clear hs ht hlast
    by_cases hm : s.m = true
    · have hen:=AM.enc_prot s hpk hm
      have hinj:=AM.enc_inj s t hpk hpl hm
      obtain ⟨x,hx⟩ : ∃ x,x = AM.enc s:=⟨_,rfl⟩
      obtain ⟨y,hy⟩ : ∃ y,y = AM.enc t:=⟨_,rfl⟩
      rw [<- hx] at l0 hen hinj
      rw [<- hy] at l1 hinj
      obtain ⟨hp1,hp2,hp3,hp4⟩:=hen
      have HP1 : Hid ((x - 1) % 8 / 2 = s.p):=hp1
      have HP2 : Hid (decide (8 <= x - 1) = s.z):=hp2
      have HI : Hid (y = x ↔ AM.stEq s t = true):=hinj
      have hx0 : (x == 0) = false:=beq_eq_false_iff_ne.2 (by omega)
      clear hx hy hp1 hp2 hinj hpk hpl
      by_cases hyx : y = x
      · have he : AM.stEq s t = true:=HI.out.1 hyx
        have hyx' : (y == x) = true:=by simp [hyx]
        have HG : Hid (AM.gatherTo F (k + 1) = AM.bump (AM.gatherTo F k)):=by show _ = _;simp only [AM.gatherTo];rw [<- HS.out,<- HT.out,hm,he];rfl
        have hpos:=AM.gather_some F k (by rw [<- HT.out,<- AM.stEq_eq s t he];exact hm)
        have hlen:=AM.gather_len F k
        have hpg:=AM.gather_pages F k ((AM.gatherTo F k).length - 1) (by omega)
        obtain ⟨G,hG⟩ : ∃ G,G = AM.gatherTo F k:=⟨_,rfl⟩
        rw [<- hG] at HO HG hpos hlen hpg
        clear hG he hm hyx
        rcases HO.out.2 with ⟨_,h0⟩ | ⟨g,cap,cur,hv,hbg,hg,hnc,hcm,hcs,htake⟩
        · omega
        · have HO2:=HO.out
          rw [hv] at HO2
          have p1 : wr.cell? ⟨g,(G.length - 1) * 4 + 1,none⟩ = some (.int .i64 (AM.at_ G (G.length - 1)).pages):=by
           rw [HO2.cellAt _ (by omega),AM.areaCells_get G _ 1 (by omega) (by omega)];rfl
          have pf:=HO2.frozenAt
          have HOv : Hid (wr.ownsRow (w.heap.size + 1) 47 4 (.slice (some ⟨g,0,none⟩) G.length cap) G.length (AM.areaCells G)):=HO2
          have hgl : g < wr.heap.size:=B.isLt hg
          rw [hv]
          clear HO HO2 hv hg htake hcs
          obtain ⟨pp,hpp⟩ : ∃ pp,pp = (AM.at_ G (G.length - 1)).pages:=⟨_,rfl⟩
          rw [<- hpp] at p1 hpg
          have HP : Hid (pp = (AM.at_ G (G.length - 1)).pages):=hpp
          clear hpp
          have hG1 : (1 : Int) <= (G.length : Int):=by omega
          have hG2 : (G.length : Int) <= 256:=by omega
          go_wp2
          go_quiet (fail)
          obtain ⟨V,hV⟩ : ∃ V : World,V = wr.drewN nq:=⟨_,rfl⟩
          rw [<- hV]
          have p1V : V.cell? ⟨g,(G.length - 1) * 4 + 1,none⟩ = some (.int .i64 pp):=by rw [hV];exact p1
          have pfV : ∀ j,V.frozen? ⟨g,j,none⟩ = false:=by rw [hV];exact pf
          have HXV : Hid (V.heap[w.heap.size]? = some (.cells C 177 (0,0))):=by show _ = _;rw [hV];exact HXr.out
          have HOV : Hid (V.ownsRow (w.heap.size + 1) 47 4 (.slice (some ⟨g,0,none⟩) G.length cap) G.length (AM.areaCells G)):=by show World.ownsRow _ _ _ _ _ _ _;rw [hV];exact HOv.out
          have HBV : Hid (Below w.heap.size w V):=by show Below _ _ _;rw [hV];exact below_drewN HB.out _
          clear hV p1 pf l0 l1 HXr HOv HB
          go_wp2
          go_roundw
          case rel =>
           have ho:=(HOV.out.stored ((G.length - 1) * 4 + 1) (.int .i64 (pp + 1))).1
           have e : (AM.areaCells G).set ((G.length - 1) * 4 + 1) (.int .i64 (pp + 1)) = AM.areaCells (AM.bump G):=by
            rw [HP.out];exact (AM.areaCells_set G (G.length - 1) _ (by omega)).symm
           rw [e] at ho
           refine ⟨k + 1,by omega,by omega,by go_num,?_,B.other HXV.out _ _ _ (by omega),HBV.out.setCell (by simp;omega) _⟩
           rw [HG.out,AM.bump_length];exact ho
          case measure=>simp [intOf];omega
      · have he : AM.stEq s t = false:=by
         cases e : AM.stEq s t
         · rfl
         · exact absurd (HI.out.2 e) hyx
        have hyx' : (y == x) = false:=beq_eq_false_iff_ne.2 hyx
        have HG : Hid (AM.gatherTo F (k + 1) = AM.gatherTo F k ++ [⟨(k : Int),1,s.p,s.z⟩]):=by show _ = _;simp only [AM.gatherTo];rw [<- HS.out,<- HT.out,hm,he];rfl
        have hlen:=AM.gather_len F k
        obtain ⟨G,hG⟩ : ∃ G,G = AM.gatherTo F k:=⟨_,rfl⟩
        rw [<- hG] at HO HG hlen
        clear hG he hm hyx
        have hrow : Hid (∀ j,u3.ownBlock = some j -> w.heap.size + 1 <= j /\ j < wr.heap.size):=HO.out.lt
        go_wp2
        go_quiet (fail)
        obtain ⟨V,hV⟩ : ∃ V : World,V = wr.drewN nq:=⟨_,rfl⟩
        rw [<- hV]
        have l0V : V.cell? ⟨w.heap.size,k,none⟩ = some (.int .i64 x):=by rw [hV];exact l0
        have HXV : Hid (V.heap[w.heap.size]? = some (.cells C 177 (0,0))):=by show _ = _;rw [hV];exact HXr.out
        have HOV : Hid (V.ownsRow (w.heap.size + 1) 47 4 u3 G.length (AM.areaCells G)):=by show World.ownsRow _ _ _ _ _ _ _;rw [hV];exact HO.out
        have HBV : Hid (Below w.heap.size w V):=by show Below _ _ _;rw [hV];exact below_drewN HB.out _
        have hrV : Hid (∀ j,u3.ownBlock = some j -> w.heap.size + 1 <= j /\ j < V.heap.size):=HOV.out.lt
        have hszV : w.heap.size < V.heap.size:=B.isLt HXV.out
        clear hV l0 l1 HXr HO HB hrow hsz
        have HN : Hid ((V.alloc (.cells #[.int .i64 (k : Int),.int .i64 1,.int .i64 ((x - 1) % 8 / 2),.bool (decide (8 <= x - 1))] 47)).heap[V.heap.size]? = some (.cells #[.int .i64 (k : Int),.int .i64 1,.int .i64 ((x - 1) % 8 / 2),.bool (decide (8 <= x - 1))] 47 (0,0))):=B.new _ _ _
        go_wp2_with (at_builtin;refine wpList_append_lies _ rfl _ _ 28 rfl (w.heap.size + 1) 47 i0 (.agg #[.int .i64 0,.int .i64 0,.int .i64 0,.bool false]) 4 32 Tryz.underlying28 hi hz0 hz1 hz2 rfl (by decide) _ _ _ rfl (HOV.out.alloc _) ⟨V.heap.size,0,none⟩ 1 1 [.int .i64 (k : Int),.int .i64 1,.int .i64 ((x - 1) % 8 / 2),.bool (decide (8 <= x - 1))] rfl rfl (B.news HN.out) (AM.areaCells_one [⟨(k : Int),1,(x - 1) % 8 / 2,decide (8 <= x - 1)⟩]) (by decide) (by unfold maxLen;omega) (by omega) (by simp;omega) (V.heap.size + 1) (by simp) ?_)
        intro g cap w1 hown1 hgrow hat hlt1
        have bX:=B.grown (B.alloc HXV.out (.cells #[.int .i64 (k : Int),.int .i64 1,.int .i64 ((x - 1) % 8 / 2),.bool (decide (8 <= x - 1))] 47)) hgrow (fun e=>by have:=hrV.out _ e.symm;omega)
        have HO1 : Hid (w1.ownsRow (w.heap.size + 1) 47 4 (Value.slice (some ⟨g,0,none⟩) (G.length + 1) cap) (G.length + 1) (AM.areaCells G ++ [.int .i64 (k : Int),.int .i64 1,.int .i64 ((x - 1) % 8 / 2),.bool (decide (8 <= x - 1))])):=hown1
        have HX1 : Hid (w1.heap[w.heap.size]? = some (.cells C 177 (0,0))):=bX
        have HB1 : Hid (Below w.heap.size w w1):=(HBV.out.alloc HBV.out.size _).grown hgrow (by have:=HBV.out.size;simp;omega) (fun k' e=>by have:=hrV.out _ e;omega)
        clear bX hown1 hgrow hat
        go_wp2
        go_roundw
        case rel =>
         refine ⟨k + 1,by omega,by omega,by go_num,?_,HX1.out,HB1.out⟩
         rw [HG.out,List.length_append,AM.areaCells_append]
         have h:=HO1.out
         rw [HP1.out,HP2.out] at h
         exact h
        case measure=>simp [intOf];omega
    · have hm' : s.m = false:=by simpa using hm
      have hx0:=(AM.enc_zero s hpk.1).2 hm'
      have HG : Hid (AM.gatherTo F (k + 1) = AM.gatherTo F k):=by show _ = _;simp only [AM.gatherTo];rw [<- HS.out,hm'];rfl
      rw [hx0] at l0
      clear hm hx0
      go_wp2
      go_roundw
      case rel =>
       refine ⟨k + 1,by omega,by omega,by go_num,?_,HXr.out,HB.out⟩
       rw [HG.out];exact HO.out
      case measure=>simp [intOf];omega
  · obtain rfl : k = 256:=by omega
    clear hown hx hb
    go_wp2
    go_ret
    refine ⟨_,rfl,?_,HB.out⟩
    exact Own.mono (lo:=w.heap.size + 1) HO.out (Nat.le_succ _)
theorem areasOf_any (F : Nat -> AM.St) (hF : AM.Fine F) (w : World) :
  Calls Tryz.prog 128 #[.agg (AM.cellsB (fun n=>AM.enc (F n)))] w fun e w'=>∃ v,e = .returned v /\ Has w' v (AM.gatherN F) /\ Below w.heap.size w w':=(areasOf_own F hF w).mono fun _ _ ⟨v,h1,h2,h3⟩=>⟨v,h1,h2.has,h3⟩
theorem ext_at (l m : List AM.Ar) (hl : l.length = m.length) (h : ∀ i,i < l.length -> AM.at_ l i = AM.at_ m i) : l = m:=by
 apply List.ext_getElem?
 intro i
 by_cases hi : i < l.length
 · have:=h i hi
   simp only [AM.at_,List.getD_eq_getElem?_getD] at this
   rw [List.getElem?_eq_getElem hi,List.getElem?_eq_getElem (by omega)] at this ⊢
   simp at this
   rw [this]
 · rw [List.getElem?_eq_none (by omega),List.getElem?_eq_none (by omega)]
set_option maxHeartbeats 2000000 in
theorem same_some (l m : List AM.Ar) (b off cap b2 off2 cap2 : Nat) (w : World) (hl : AM.Lie w b off l) (hm : AM.Lie w b2 off2 m) (hlen : l.length = m.length) (hn : l.length <= 140737488351232) :
  Calls Tryz.prog 58 #[.slice (some ⟨b,off,none⟩) l.length cap,.slice (some ⟨b2,off2,none⟩) m.length cap2] w fun e w'=>∃ r : Bool,e = .returned (.bool r) /\ (r = true ↔ l = m) /\ Below w.heap.size w w':=by
 rw [<- hlen]
 have hle : Hid (l.length = m.length):=hlen
 clear hlen
 go_enter Tryz.func58,Tryz.ntmps58
 go_wp2
 go_loopw [5] (fun i wr=>∃ k : Nat,k <= l.length /\ i = .int .i64 k /\ (∀ j,j < k -> AM.at_ l j = AM.at_ m j) /\ Below w.heap.size w wr) (fun i _=>l.length - (intOf i).toNat)
 case atStart=>exact ⟨0,by omega,rfl,fun j hj=>by omega,Below.refl _ _⟩
 case round =>
  obtain ⟨k,hk,rfl,hj,hb⟩:=hrel
  have HJ : Hid (∀ j,j < k -> AM.at_ l j = AM.at_ m j):=hj
  have HB : Hid (Below w.heap.size w wr):=hb
  by_cases hlt : k < l.length
  · obtain ⟨c0,c1,c2,c3⟩:=hl.below hb k hlt
    obtain ⟨e0,e1,e2,e3⟩:=hm.below hb k (by rw [<- hle.out];exact hlt)
    obtain ⟨a,ha⟩ : ∃ a,a = AM.at_ l k:=⟨_,rfl⟩
    obtain ⟨d,hd⟩ : ∃ d,d = AM.at_ m k:=⟨_,rfl⟩
    rw [<- ha] at c0 c1 c2 c3
    rw [<- hd] at e0 e1 e2 e3
    have HA : Hid (a = AM.at_ l k):=ha
    have HD : Hid (d = AM.at_ m k):=hd
    clear ha hd hj hb
    have hki : (k : Int) < (l.length : Int):=by omega
    obtain ⟨p1,n1,q1,z1⟩:=a
    obtain ⟨p2,n2,q2,z2⟩:=d
    simp only at c0 c1 c2 c3 e0 e1 e2 e3
    have hcas : (p1 == p2) = false ∨ (p1 = p2 /\ (n1 == n2) = false) ∨ (p1 = p2 /\ n1 = n2 /\ (q1 == q2) = false) ∨ (p1 = p2 /\ n1 = n2 /\ q1 = q2 /\ z2 = !z1) ∨ (p1 = p2 /\ n1 = n2 /\ q1 = q2 /\ z1 = z2):=by
     by_cases h1 : p1 = p2
     · by_cases h2 : n1 = n2
       · by_cases h3 : q1 = q2
         · by_cases h4 : z1 = z2
           · exact .inr (.inr (.inr (.inr ⟨h1,h2,h3,h4⟩)))
           · exact .inr (.inr (.inr (.inl ⟨h1,h2,h3,by cases z1 <;> cases z2 <;> simp_all⟩)))
         · exact .inr (.inr (.inl ⟨h1,h2,by simp [h3]⟩))
       · exact .inr (.inl ⟨h1,by simp [h2]⟩)
     · exact .inl (by simp [h1])
    have hdif : ∀ h : ¬ ((⟨p1,n1,q1,z1⟩ : AM.Ar) = ⟨p2,n2,q2,z2⟩),l ≠ m:=fun h e=>h (by rw [HA.out,HD.out,e])
    have HDIF:=hdif
    have HDF : Hid (¬ ((⟨p1,n1,q1,z1⟩ : AM.Ar) = ⟨p2,n2,q2,z2⟩) -> l ≠ m):=hdif
    clear hdif HDIF
    rcases hcas with h1 | ⟨h1,h2⟩ | ⟨h1,h2,h3⟩ | ⟨h1,h2,h3,h4⟩ | ⟨h1,h2,h3,h4⟩
    · have hne : Hid (l ≠ m):=HDF.out (fun e=>by have:=congrArg AM.Ar.page e;simp at this;simp [this] at h1)
      clear HDF HA HD
      go_wp2
      go_quiet (fail)
      go_wp2
      go_ret
      exact ⟨false,rfl,⟨fun h=>(by cases h),fun h=>absurd h hne.out⟩,below_drewN HB.out _⟩
    · have hne : Hid (l ≠ m):=HDF.out (fun e=>by have:=congrArg AM.Ar.pages e;simp at this;simp [this] at h2)
      clear HDF HA HD
      subst h1
      go_wp2
      go_quiet (fail)
      go_wp2
      go_ret
      exact ⟨false,rfl,⟨fun h=>(by cases h),fun h=>absurd h hne.out⟩,below_drewN HB.out _⟩
    · have hne : Hid (l ≠ m):=HDF.out (fun e=>by have:=congrArg AM.Ar.prot e;simp at this;simp [this] at h3)
      clear HDF HA HD
      subst h1;subst h2
      go_wp2
      go_quiet (fail)
      go_wp2
      go_ret
      exact ⟨false,rfl,⟨fun h=>(by cases h),fun h=>absurd h hne.out⟩,below_drewN HB.out _⟩
    · have hne : Hid (l ≠ m):=HDF.out (fun e=>by have:=congrArg AM.Ar.zero e;simp at this;rw [h4] at this;cases z1 <;> simp at this)
      clear HDF HA HD
      subst h1;subst h2;subst h3;subst h4
      go_wp2
      go_quiet (fail)
      go_wp2
      go_ret
      exact ⟨false,rfl,⟨fun h=>(by cases h),fun h=>absurd h hne.out⟩,below_drewN HB.out _⟩
    · have heq : Hid (AM.at_ l k = AM.at_ m k):=by show _ = _;rw [<- HA.out,<- HD.out,h1,h2,h3,h4]
      clear HDF HA HD
      subst h1;subst h2;subst h3;subst h4
      go_wp2
      go_quiet (fail)
      go_wp2
      go_roundw
      case rel=>exact ⟨k + 1,by omega,by go_num,fun j hj=>if e : j = k then by rw [e];exact heq.out else HJ.out j (by omega),below_drewN HB.out _⟩
      case measure=>simp [intOf];omega
  · obtain rfl : k = l.length:=by omega
    go_wp2
    go_ret
    exact ⟨true,rfl,⟨fun _=>ext_at l m hle.out HJ.out,fun _=>rfl⟩,HB.out⟩
theorem same_len (n m : Nat) (ao bo : Option Addr) (c d : Nat) (w : World) (h : n ≠ m) (hn : n <= 140737488351232) (hm : m <= 140737488351232) :
  Calls Tryz.prog 58 #[.slice ao n c,.slice bo m d] w fun e w'=>e = .returned (.bool false) /\ w = w':=by
 have h' : ((n : Int) != (m : Int)) = true:=by simp;omega
 go_enter Tryz.func58,Tryz.ntmps58
 go_wp2
 go_ret
 exact ⟨rfl,rfl⟩
theorem same_nil (ao bo : Option Addr) (c d : Nat) (w : World) :
  Calls Tryz.prog 58 #[.slice ao 0 c,.slice bo 0 d] w fun e w'=>e = .returned (.bool true) /\ w = w':=by
 go_enter Tryz.func58,Tryz.ntmps58
 go_wp2
 refine wp_loop_rounds 1 ?_
 rw [rounds_succ]
 go_wp2
 go_ret
 exact ⟨rfl,rfl⟩
theorem same_any (l m : List AM.Ar) (v u : Value) (w : World) (hl : Has w v l) (hm : Has w u m) (hn : l.length <= 140737488351232) (hn2 : m.length <= 140737488351232) :
  Calls Tryz.prog 58 #[v,u] w fun e w'=>∃ r : Bool,e = .returned (.bool r) /\ (r = true ↔ l = m) /\ Below w.heap.size w w':=by
 obtain ⟨ao,cap,rfl,h⟩:=hl
 obtain ⟨bo,cap2,rfl,h2⟩:=hm
 by_cases hlen : l.length = m.length
 · rcases h with rfl | ⟨b,off,rfl,hl⟩
   · have hm0 : m = []:=List.eq_nil_of_length_eq_zero hlen.symm
     subst hm0
     exact (same_nil ao bo cap cap2 w).mono fun e w' ⟨he,hw⟩=>⟨true,he,by simp,by rw [<- hw];exact Below.refl _ _⟩
   · rcases h2 with rfl | ⟨b2,off2,rfl,hm⟩
     · have hl0 : l = []:=List.eq_nil_of_length_eq_zero hlen
       subst hl0
       exact (same_nil _ bo cap cap2 w).mono fun e w' ⟨he,hw⟩=>⟨true,he,by simp,by rw [<- hw];exact Below.refl _ _⟩
     · exact same_some l m b off cap b2 off2 cap2 w hl hm hlen hn
 · exact (same_len l.length m.length ao bo cap cap2 w hlen hn hn2).mono fun e w' ⟨he,hw⟩=>⟨false,he,⟨fun h=>(by cases h),fun h=>absurd (congrArg List.length h) hlen⟩,by rw [<- hw];exact Below.refl _ _⟩
def inB (n a b : Int) : Bool:=decide (a <= n /\ n <= b)
theorem inB_iff (n a b : Int) : inB n a b = true ↔ a <= n /\ n <= b:=⟨fun h=>of_decide_eq_true h,fun h=>decide_eq_true h⟩
theorem inB_any (n a b : Int) (w : World) : Calls Tryz.prog 44 #[.int .i64 n,.int .i64 a,.int .i64 b] w fun e w'=>e = .returned (.bool (inB n a b)) /\ w = w':=within_any n a b w
theorem each_words (a : AM.Ar) : (AM.pagesB a.page a.pages && AM.protB a.prot) = true ↔ inB a.page 1 255 = true /\ inB a.pages 1 255 = true /\ a.page + a.pages - 1 <= 255 /\ inB a.prot 0 3 = true:=by
 rw [Bool.and_eq_true,AM.pagesB_iff,prot_iff,inB_iff,inB_iff,inB_iff]
 omega
theorem check_each (l : List AM.Ar) (hn : ¬ 255 < l.length) (h : AM.eachTo l l.length = false) : AM.checkN l = 1:=by
 unfold AM.checkN
 rw [if_neg hn,if_neg]
 intro hg
 have:=(AM.good_each l l.length hg).1
 rw [this] at h;cases h
theorem check_rise (l : List AM.Ar) (hn : ¬ 255 < l.length) (h : AM.riseTo l l.length = false) : AM.checkN l = 1:=by
 unfold AM.checkN
 rw [if_neg hn,if_neg]
 intro hg
 have:=(AM.good_each l l.length hg).2
 rw [this] at h;cases h
theorem check_same (l : List AM.Ar) (hn : ¬ 255 < l.length) (h : AM.eachTo l l.length = true) : AM.checkN l = 0 ↔ AM.gatherN (AM.spreadN l) = l:=by
 constructor
 · exact AM.gather_spread l
 · intro e
   have:=AM.check_gather _ (AM.fine_each l h)
   rw [e] at this
   exact this
theorem check_01 (l : List AM.Ar) (hn : ¬ 255 < l.length) (h : AM.checkN l ≠ 0) : AM.checkN l = 1:=by
 unfold AM.checkN at h ⊢
 rw [if_neg hn] at h ⊢
 split
 · rename_i hg
   rw [if_pos hg] at h
   exact absurd rfl h
 · rfl
theorem board_nil (ao : Option Addr) (cap : Nat) (w : World) :
  Calls Tryz.prog 126 #[.slice ao 0 cap] w fun e w'=>∃ C,e = .returned (.tuple #[.agg C,.bool (AM.riseTo [] 0)]) /\ Board [] C /\ Below w.heap.size w w':=by
 obtain ⟨Z,hZ⟩ : ∃ Z,Z = AM.cellsB (fun _=>0):=⟨_,rfl⟩
 have hz:=zv42
 rw [<- hZ] at hz
 have HZ : Hid (Z = AM.cellsB (fun _=>0)):=hZ
 have hZs : Z.size = 256:=by rw [hZ];exact AM.cellsB_size _
 have hZo : Z.all (·.oneCell') = true:=by rw [hZ];exact AM.cellsB_one _
 have HZO : Hid (Z.all (·.oneCell') = true):=hZo
 clear hZ hZo
 have HR : Hid (((w.alloc (.cells Z 177)).alloc (.cells Z 177)).heap[w.heap.size]? = some (.cells Z 177 (0,0))):=B.alloc (B.new w Z 177) _
 have HA : Hid (((w.alloc (.cells Z 177)).alloc (.cells Z 177)).heap[w.heap.size + 1]? = some (.cells Z 177 (0,0))):=by
  have:=B.new (w.alloc (.cells Z 177)) Z 177
  show _ = _
  simpa using this
 have HB : Hid (Below w.heap.size w ((w.alloc (.cells Z 177)).alloc (.cells Z 177))):=((Below.refl _ _).alloc (Nat.le_refl _) _).alloc (by simp) _
 go_enter Tryz.func126,Tryz.ntmps126
 go_wp2
 refine wp_loop_rounds 1 ?_
 rw [rounds_succ]
 go_wp2_with (first | (refine wpList_load_row rfl 177 _ rfl (w.heap.size + 1) rfl 177 Z (0,0) _ HA.out Tryz.underlying177 rfl (by rw [hZs];exact size42) ?_) | (refine wpList_store_row rfl 177 _ _ rfl w.heap.size Z rfl rfl 177 Z HR.out (by rw [hZs];exact size42) rfl HZO.out ?_))
 have hfin:=setRow_heap _ _ _ Z 177 (0,0) HR.out
 have hld:=run_loadVar_row (P:=Tryz.prog) _ _ 177 177 Z (0,0) _ hfin Tryz.underlying177 rfl (by rw [hZs];exact size42)
 refine bodyPost_ret (v:=.tuple #[.agg Z,.bool true]) ?_ rfl ⟨Z,rfl,⟨hZs,HZO.out,fun _=>HZ.out⟩,below_setRow HB.out (Nat.le_refl _) _⟩
 rw [results_cell_tmp rfl]
 simp [asAddr,Result.andThen,hld]
theorem boardOf_any (l : List AM.Ar) (v : Value) (w : World) (h : Has w v l) (he : AM.eachTo l l.length = true) (hn : l.length <= 255) :
  Calls Tryz.prog 126 #[v] w fun e w'=>∃ C,e = .returned (.tuple #[.agg C,.bool (AM.riseTo l l.length)]) /\ Board l C /\ Below w.heap.size w w':=by
 obtain ⟨ao,cap,rfl,h⟩:=h
 rcases h with rfl | ⟨b,off,rfl,hl⟩
 · exact board_nil ao cap w
 · exact boardOf_some l b off cap w hl he hn
set_option maxHeartbeats 4000000 in
theorem refCheck_tail (l : List AM.Ar) (v : Value) (w : World) (h : Has w v l) (he : AM.eachTo l l.length = true) (hn : ¬ 255 < l.length) (ao : Option Addr) (cap : Nat) (hv : v = .slice ao l.length cap)
  (hloop : ∀ i,i < l.length -> ∃ b off,ao = some ⟨b,off,none⟩ /\ AM.Lie w b off l) :
  Calls Tryz.prog 90 #[.slice ao l.length cap] w fun e w'=>e = .returned (.int .i64 (AM.checkN l)) /\ Below w.heap.size w w':=by
 have HH : Hid (Has w (.slice ao l.length cap) l):=by show Has _ _ _;rw [<- hv];exact h
 have HE : Hid (AM.eachTo l l.length = true):=he
 have HL : Hid (∀ i,i < l.length -> ∃ b off,ao = some ⟨b,off,none⟩ /\ AM.Lie w b off l):=hloop
 have HNl : Hid (¬ 255 < l.length):=hn
 have hn' : ¬ (255 : Int) < (l.length : Int):=by omega
 obtain ⟨Z,hZ⟩ : ∃ Z,Z = AM.cellsB (fun _=>0):=⟨_,rfl⟩
 have hz:=zv42
 rw [<- hZ] at hz
 have hZs : Z.size = 256:=by rw [hZ];exact AM.cellsB_size _
 clear h he hv hloop hZ
 go_enter Tryz.func90,Tryz.ntmps90
 go_wp2
 go_loopw [3] (fun i wr=>∃ k : Nat,k <= l.length /\ i = .int .i64 k /\ Below w.heap.size w wr) (fun i _=>l.length - (intOf i).toNat)
 case atStart=>exact ⟨0,by omega,rfl,Below.refl _ _⟩
 case round =>
  obtain ⟨k,hk,rfl,hb⟩:=hrel
  have HB : Hid (Below w.heap.size w wr):=hb
  by_cases hlt : k < l.length
  · obtain ⟨b,off,hao,hl⟩:=HL.out k hlt
    obtain ⟨c0,c1,c2,c3⟩:=hl.below hb k hlt
    have hw:=AM.each_at l _ HE.out k hlt
    have hw2:=(each_words (AM.at_ l k)).1 (by rw [hw.1,hw.2];rfl)
    have hbk:=(AM.pagesB_iff _ _).1 hw.1
    obtain ⟨a,ha⟩ : ∃ a,a = AM.at_ l k:=⟨_,rfl⟩
    rw [<- ha] at c0 c1 c2 c3 hw2 hbk
    clear ha hb hl hw
    subst hao
    obtain ⟨d1,d2,d3,d4⟩:=hw2
    have d3' : ¬ 255 < a.page + a.pages - 1:=by omega
    have hki : (k : Int) < (l.length : Int):=by omega
    go_wp2_with (first | (go_at_call 44;refine (inB_any _ _ _ _).mono ?_;rintro e w' ⟨rfl,rfl⟩))
    go_roundw
    case rel=>exact ⟨k + 1,by omega,by go_num,HB.out.alloc HB.out.size _⟩
    case measure=>simp [intOf];omega
  · obtain rfl : k = l.length:=by omega
    clear hb
    go_wp2_with fail
    refine (boardOf_any l (.slice ao l.length cap) _ (HH.out.below HB.out) HE.out (by omega)).mono ?_
    rintro e w2 ⟨C,rfl,hC,hb2⟩
    have HBD : Hid (Board l C):=hC
    have hCs : C.size = 256:=hC.1
    have hCo : C.all (·.oneCell') = true:=hC.2.1
    have HCO : Hid (C.all (·.oneCell') = true):=hCo
    have HB2 : Hid (Below w.heap.size w w2):=HB.out.trans (hb2.mono HB.out.size)
    clear hC hCo hb2
    have hn2 : Hid ((w2.alloc (.cells Z 177)).heap[w2.heap.size]? = some (.cells Z 177 (0,0))):=B.new w2 Z 177
    have HA0 : Hid (((w2.alloc (.cells Z 177)).setRow w2.heap.size C).heap[w2.heap.size]? = some (.cells C 177 (0,0))):=setRow_heap _ _ _ _ 177 (0,0) hn2.out
    have HB3 : Hid (Below w.heap.size w ((w2.alloc (.cells Z 177)).setRow w2.heap.size C)):=below_setRow (HB2.out.alloc HB2.out.size _) HB2.out.size _
    by_cases hr : AM.riseTo l l.length = true
    · have hCb : Hid (C = bd (AM.spreadN l)):=HBD.out.2.2 hr
      go_wp2_with (first | (refine wpList_store_row rfl 177 _ _ rfl w2.heap.size C rfl rfl 177 Z hn2.out (by rw [hCs];exact size42) (by rw [hZs,hCs]) HCO.out ?_) | (refine wpList_load_row rfl 177 _ rfl w2.heap.size rfl 177 C (0,0) _ HA0.out Tryz.underlying177 rfl (by rw [hCs];exact size42) ?_))
      refine wp_load_row 177 _ rfl w2.heap.size rfl 177 C (0,0) _ HA0.out Tryz.underlying177 rfl (by rw [hCs];exact size42) ?_
      go_wp2_with fail
      have hcall:=areasOf_any (AM.spreadN l) (AM.fine_each l HE.out) ((w2.alloc (.cells Z 177)).setRow w2.heap.size C)
      rw [show AM.cellsB (fun n=>AM.enc (AM.spreadN l n)) = C from hCb.out.symm] at hcall
      refine hcall.mono ?_
      clear hcall
      rintro e w3 ⟨v3,rfl,h3,hb4⟩
      have HB4 : Hid (Below w.heap.size w w3):=HB3.out.trans (hb4.mono HB3.out.size)
      have HG3 : Hid (Has w3 v3 (AM.gatherN (AM.spreadN l))):=h3
      clear hb4 h3
      go_wp2_with fail
      refine (same_any (AM.gatherN (AM.spreadN l)) l v3 (.slice ao l.length cap) _ HG3.out (HH.out.below HB4.out) (by have:=AM.gather_len (AM.spreadN l) 256;unfold AM.gatherN;omega) (by have:=HNl.out;omega)).mono ?_
      rintro e w4 ⟨r,rfl,hr2,hb5⟩
      have HB5 : Hid (Below w.heap.size w w4):=HB4.out.trans (hb5.mono HB4.out.size)
      have HR2 : Hid (r = true ↔ AM.gatherN (AM.spreadN l) = l):=hr2
      clear hb5 hr2
      cases r
      · have hres : Hid (AM.checkN l = 1):=check_01 l HNl.out (fun e=>by have:=HR2.out.2 ((check_same l HNl.out HE.out).1 e);cases this)
        go_wp2
        go_ret
        exact ⟨ret_int hres.out.symm,HB5.out⟩
      · have hres : Hid (AM.checkN l = 0):=(check_same l HNl.out HE.out).2 (HR2.out.1 rfl)
        go_wp2
        go_ret
        exact ⟨ret_int hres.out.symm,HB5.out⟩
    · have hr' : AM.riseTo l l.length = false:=by simpa using hr
      have hres : Hid (AM.checkN l = 1):=check_rise l HNl.out hr'
      go_wp2_with (refine wpList_store_row rfl 177 _ _ rfl w2.heap.size C rfl rfl 177 Z hn2.out (by rw [hCs];exact size42) (by rw [hZs,hCs]) HCO.out ?_)
      go_ret
      exact ⟨ret_int hres.out.symm,HB3.out⟩
set_option maxHeartbeats 4000000 in
theorem refCheck_bad (l : List AM.Ar) (b off cap : Nat) (w : World) (hl : AM.Lie w b off l) (hf : ∀ i,i < l.length -> AM.Fits (AM.at_ l i)) (he : AM.eachTo l l.length = false) (hn : ¬ 255 < l.length) :
  Calls Tryz.prog 90 #[.slice (some ⟨b,off,none⟩) l.length cap] w fun e w'=>e = .returned (.int .i64 (AM.checkN l)) /\ Below w.heap.size w w':=by
 have hres : Hid (AM.checkN l = 1):=check_each l hn he
 have HE : Hid (AM.eachTo l l.length = false):=he
 have hn' : ¬ (255 : Int) < (l.length : Int):=by omega
 clear he
 go_enter Tryz.func90,Tryz.ntmps90
 go_wp2
 go_loopw [3] (fun i wr=>∃ k : Nat,k <= l.length /\ i = .int .i64 k /\ AM.eachTo l k = true /\ Below w.heap.size w wr) (fun i _=>l.length - (intOf i).toNat)
 case atStart=>exact ⟨0,by omega,rfl,rfl,Below.refl _ _⟩
 case round =>
  obtain ⟨k,hk,rfl,hek,hb⟩:=hrel
  have HB : Hid (Below w.heap.size w wr):=hb
  have HEK : Hid (AM.eachTo l k = true):=hek
  clear hek
  by_cases hlt : k < l.length
  · obtain ⟨c0,c1,c2,c3⟩:=hl.below hb k hlt
    obtain ⟨f1,f2,f3⟩:=hf k hlt
    have hw:=each_words (AM.at_ l k)
    obtain ⟨a,ha⟩ : ∃ a,a = AM.at_ l k:=⟨_,rfl⟩
    rw [<- ha] at c0 c1 c2 c3 f1 f2 f3 hw
    have HW : Hid ((AM.pagesB a.page a.pages && AM.protB a.prot) = true ↔ inB a.page 1 255 = true /\ inB a.pages 1 255 = true /\ a.page + a.pages - 1 <= 255 /\ inB a.prot 0 3 = true):=hw
    have HA : Hid (a = AM.at_ l k):=ha
    clear ha hb hw
    have hki : (k : Int) < (l.length : Int):=by omega
    by_cases d1 : inB a.page 1 255 = true
    · have b1:=(inB_iff _ _ _).1 d1
      by_cases d2 : inB a.pages 1 255 = true
      · have b2:=(inB_iff _ _ _).1 d2
        by_cases d3 : a.page + a.pages - 1 <= 255
        · have d3' : ¬ 255 < a.page + a.pages - 1:=by omega
          by_cases d4 : inB a.prot 0 3 = true
          · have hok : Hid (AM.eachTo l (k + 1) = true):=by show _ = _;simp only [AM.eachTo,HEK.out,Bool.true_and];rw [<- HA.out];exact HW.out.2 ⟨d1,d2,d3,d4⟩
            go_wp2_with (first | (go_at_call 44;refine (inB_any _ _ _ _).mono ?_;rintro e w' ⟨rfl,rfl⟩))
            go_roundw
            case rel=>exact ⟨k + 1,by omega,by go_num,hok.out,HB.out.alloc HB.out.size _⟩
            case measure=>simp [intOf];omega
          · have d4' : inB a.prot 0 3 = false:=by simpa using d4
            clear d4
            go_wp2_with (first | (go_at_call 44;refine (inB_any _ _ _ _).mono ?_;rintro e w' ⟨rfl,rfl⟩))
            go_ret
            exact ⟨ret_int hres.out.symm,HB.out.alloc HB.out.size _⟩
        · have d3' : 255 < a.page + a.pages - 1:=by omega
          go_wp2_with (first | (go_at_call 44;refine (inB_any _ _ _ _).mono ?_;rintro e w' ⟨rfl,rfl⟩))
          go_ret
          exact ⟨ret_int hres.out.symm,HB.out.alloc HB.out.size _⟩
      · have d2' : inB a.pages 1 255 = false:=by simpa using d2
        clear d2
        go_wp2_with (first | (go_at_call 44;refine (inB_any _ _ _ _).mono ?_;rintro e w' ⟨rfl,rfl⟩))
        go_ret
        exact ⟨ret_int hres.out.symm,HB.out.alloc HB.out.size _⟩
    · have d1' : inB a.page 1 255 = false:=by simpa using d1
      clear d1
      go_wp2_with (first | (go_at_call 44;refine (inB_any _ _ _ _).mono ?_;rintro e w' ⟨rfl,rfl⟩))
      go_ret
      exact ⟨ret_int hres.out.symm,HB.out.alloc HB.out.size _⟩
  · exfalso
    obtain rfl : k = l.length:=by omega
    have:=HEK.out
    rw [HE.out] at this
    cases this
theorem refCheck_long (n : Nat) (ao : Option Addr) (cap : Nat) (w : World) (hn : 255 < n) (hm : n <= 140737488351232) :
  Calls Tryz.prog 90 #[.slice ao n cap] w fun e w'=>e = .returned (.int .i64 2) /\ Below w.heap.size w w':=by
 have hn' : (255 : Int) < (n : Int):=by omega
 go_enter Tryz.func90,Tryz.ntmps90
 go_wp2
 go_ret
 exact ⟨rfl,Below.refl _ _⟩
theorem refCheck_any (l : List AM.Ar) (v : Value) (w : World) (h : Has w v l) (hf : AllFit l) :
  Calls Tryz.prog 90 #[v] w fun e w'=>e = .returned (.int .i64 (AM.checkN l)) /\ Below w.heap.size w w':=by
 have h':=h
 obtain ⟨ao,cap,rfl,hh⟩:=h
 by_cases hn : 255 < l.length
 · have e : AM.checkN l = 2:=by simp [AM.checkN,hn]
   rw [e]
   exact refCheck_long l.length ao cap w hn hf.2
 · by_cases he : AM.eachTo l l.length = true
   · refine refCheck_tail l _ w h' he hn ao cap rfl (fun i hi=>?_)
     rcases hh with e | ⟨b,off,hao,hl⟩
     · rw [e] at hi;simp at hi
     · exact ⟨b,off,hao,hl⟩
   · have he' : AM.eachTo l l.length = false:=by simpa using he
     rcases hh with e | ⟨b,off,hao,hl⟩
     · subst e;simp [AM.eachTo] at he'
     · subst hao
       exact refCheck_bad l b off cap w hl hf.1 he' hn
end AW
end Go.Proofs.YtpgifpeohlllfaaGreat
