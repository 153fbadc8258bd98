import Derived.Test.YtpgifpeohlllfaaGreatGJ19
import Derived.Test.YtpgifpeohlllfaaGreatGJ18
import Derived.Test.YtpgifpeohlllfaaGreatGJ15
set_option maxHeartbeats 20000000
set_option linter.unusedVariables false
set_option maxRecDepth 100000
set_option linter.unusedSimpArgs false
namespace Go.Proofs.YtpgifpeohlllfaaGreat
namespace KX
open Go.RowKit GK KO
open FW (hideC add_below)
open KW (cellFr cellSl cellEn HasRow KAt HasK cellsK aggEn cellI)
open KS (Lc cellLc lc0 lcAt blk SpOwn)
def OutM (lo mb : Nat) (tt : TypeId) (X : List Value) (w : World) (S : St) (v : Value) (k' : KM.Kn) (e : Ending) (w' : World) : Prop:=e = .returned v /\ ∃ S',Km lo mb tt X w' S' k' /\ Ch S w S' w'
def OutS (lo mb : Nat) (tt : TypeId) (X : List Value) (w : World) (S : St) (v : Value) (k' : KM.Kn) (e : Ending) (w' : World) : Prop:=e = .returned v /\ Km lo mb tt X w' S k' /\ Ch S w S w'
set_option maxHeartbeats 8000000 in
theorem count_any {lo mb : Nat} {tt : TypeId} {X : List Value} (k : KM.Kn) (S : St) (w : World) (e : KM.En) (d : Int) (h : Km lo mb tt X w S k) (h1 : e.kind = 1 -> 0 <= e.loc /\ e.loc < (k.frames.length : Int)) (h2 : e.kind ≠ 1 -> 0 <= e.loc /\ e.loc < (k.slots.length : Int)) (hd : d = 1 ∨ d = -1)
  (hr : (e.kind = 1 -> -1000000 <= (KM.frAt k.frames e.loc.toNat).refs /\ (KM.frAt k.frames e.loc.toNat).refs <= 1000000) /\ (e.kind ≠ 1 -> -1000000 <= (KM.slAt k.slots e.loc.toNat).refs /\ (KM.slAt k.slots e.loc.toNat).refs <= 1000000)) :
  Calls Tryz.prog 85 #[.pointer (some ⟨mb,0,none⟩),aggEn e,.int .i64 d] w (OutS lo mb tt X w S (.tuple #[]) (KM.countK k e d)):=by
 obtain ⟨pg,kd,lc⟩:=e
 unfold aggEn
 simp only at h1 h2 hr ⊢
 have HB0:=hideC ((Below.refl w.heap.size w).alloc (Nat.le_refl _) (.cells #[.int .i64 pg,.int .i64 kd,.int .i64 lc] 45))
 have EB:=hideC (B.new w #[.int .i64 pg,.int .i64 kd,.int .i64 lc] 45)
 have HM:=hideC (h.below HB0.out)
 have HC0 : Hid (Ch S w S (w.alloc (.cells #[.int .i64 pg,.int .i64 kd,.int .i64 lc] 45))):=Ch.below HB0.out
 by_cases c : kd = 1
 · obtain ⟨i,rfl⟩ : ∃ i : Nat,lc = (i : Int):=⟨lc.toNat,by have:=h1 c;omega⟩
   have hi : i < k.frames.length:=by have:=h1 c;omega
   obtain ⟨fb,cF,A⟩:=HM.out.toKr.fr (by omega)
   have hrr:=hr.1 c
   rw [Int.toNat_natCast] at hrr
   have x1:=A.x1 i hi
   have x0:=A.x0 i hi
   have x2:=A.x2 i hi
   have x3:=A.x3 i hi
   have f0:=A.fz (i * 4)
   have f1:=A.fz (i * 4 + 1)
   have f2:=A.fz (i * 4 + 2)
   have f3:=A.fz (i * 4 + 3)
   have c1:=HM.out.c1
   rw [A.v] at c1
   have e0 : (w.alloc (.cells #[.int .i64 pg,.int .i64 kd,.int .i64 (i : Int)] 45)).cell? ⟨w.heap.size,1,none⟩ = some (.int .i64 kd):=B.cell EB.out 1 rfl
   have e2 : (w.alloc (.cells #[.int .i64 pg,.int .i64 kd,.int .i64 (i : Int)] 45)).cell? ⟨w.heap.size,2,none⟩ = some (.int .i64 (i : Int)):=B.cell EB.out 2 rfl
   have hki : (i : Int) < (k.frames.length : Int):=by omega
   have HFIN : Hid (∀ V,(∃ f,V = ((w.alloc (.cells #[.int .i64 pg,.int .i64 kd,.int .i64 (i : Int)] 45)).setCell ⟨fb,i * 4 + 1,none⟩ (.int .i64 ((KM.frAt k.frames i).refs + d))).drew /\ f = KM.frAt k.frames i /\ ¬ f.refs + d = 0) ∨ (∃ f,f = KM.frAt k.frames i /\ f.refs + d = 0 /\ V = ((((((w.alloc (.cells #[.int .i64 pg,.int .i64 kd,.int .i64 (i : Int)] 45)).setCell ⟨fb,i * 4 + 1,none⟩ (.int .i64 ((KM.frAt k.frames i).refs + d))).setCell ⟨fb,i * 4,none⟩ (.string ⟨#[]⟩)).setCell ⟨fb,i * 4 + 1,none⟩ (.int .i64 0)).setCell ⟨fb,i * 4 + 2,none⟩ (.bool false)).setCell ⟨fb,i * 4 + 3,none⟩ (.bool false)).drew) -> OutS lo mb tt X w S (.tuple #[]) (KM.countK k ⟨pg,kd,(i : Int)⟩ d) (.returned (.tuple #[])) V):=fun V hV=>by
    have hk : KM.countK k ⟨pg,kd,(i : Int)⟩ d = { k with frames:=k.frames.set i (KM.cntF (KM.frAt k.frames i) d) }:=by
     unfold KM.countK
     rw [if_pos c,Int.toNat_natCast]
    rw [hk]
    have HD:=HM.out
    have CD:=HC0.out
    have hDr : ∀ V : World,Below V.heap.size V V.drew:=fun V=>(Below.refl _ _).drew
    have m1:=HD.setF A.v hi (j:=1) (by omega) (f:=⟨(KM.frAt k.frames i).data,(KM.frAt k.frames i).refs + d,(KM.frAt k.frames i).dirty,(KM.frAt k.frames i).seen⟩) (u:=.int .i64 ((KM.frAt k.frames i).refs + d)) rfl
    have ch1:=CD.trans (chF HD.toKr A.v (i:=i * 4 + 1) (u:=.int .i64 ((KM.frAt k.frames i).refs + d)))
    rcases hV with ⟨f,rfl,rfl,hz⟩ | ⟨f,rfl,hz,rfl⟩
    · unfold KM.cntF
      rw [if_neg hz]
      exact ⟨rfl,m1.below (hDr _),ch1.trans (Ch.below (hDr _))⟩
    · unfold KM.cntF
      rw [if_pos hz]
      have m2:=m1.layF A.v (i:=i) (by simpa using hi) KM.fr0
      simp only [List.set_set] at m2
      exact ⟨rfl,m2.1.below (hDr _),(ch1.trans m2.2).trans (Ch.below (hDr _))⟩
   obtain ⟨P,hP⟩ : ∃ P,P = OutS lo mb tt X w S (.tuple #[]) (KM.countK k ⟨pg,kd,(i : Int)⟩ d):=⟨_,rfl⟩
   rw [<- hP] at HFIN ⊢
   obtain ⟨F,hF⟩ : ∃ F,F = KM.frAt k.frames i:=⟨_,rfl⟩
   rw [<- hF] at x0 x1 x2 x3 hrr HFIN
   obtain ⟨n,hn⟩ : ∃ n,n = k.frames.length:=⟨_,rfl⟩
   rw [<- hn] at c1 hki
   have kb : (kd == 1) = true:=by simpa using c
   have hw : IntKind.i64.wrap (F.refs + d) = F.refs + d:=IntWalk.i64_in _ (by omega)
   have HHF:=hideC hF
   have hin : i < n:=by omega
   have hln : n <= 140737488351232 ∨ True:=.inr trivial
   clear h1 h2 hr h hP hF hn HM HC0 A EB HB0 c hd hrr hln hi
   by_cases z : F.refs + d = 0
   · have zb : (F.refs + d == 0) = true:=by simpa using z
     have HZ:=hideC z
     clear z
     go_enter Tryz.func85,Tryz.ntmps85
     go_upto_region 2 with fail
     go_region
     go_wp2
     refine bodyPost_ret (v:=.tuple #[]) (by simp [results,Tryz.results85,go_sem]) rfl ?_
     exact HFIN.out _ (.inr ⟨F,rfl,HZ.out,rfl⟩)
   · have zb : (F.refs + d == 0) = false:=by simpa using z
     have HZ:=hideC z
     clear z
     go_enter Tryz.func85,Tryz.ntmps85
     go_upto_region 2 with fail
     go_region
     go_wp2
     refine bodyPost_ret (v:=.tuple #[]) (by simp [results,Tryz.results85,go_sem]) rfl ?_
     exact HFIN.out _ (.inl ⟨F,rfl,rfl,HZ.out⟩)
 · obtain ⟨i,rfl⟩ : ∃ i : Nat,lc = (i : Int):=⟨lc.toNat,by have:=h2 c;omega⟩
   have hi : i < k.slots.length:=by have:=h2 c;omega
   obtain ⟨fb,cF,A⟩:=HM.out.toKr.sl (by omega)
   have hrr:=hr.2 c
   rw [Int.toNat_natCast] at hrr
   have x1:=A.x1 i hi
   have x0:=A.x0 i hi
   have f0:=A.fz (i * 2)
   have f1:=A.fz (i * 2 + 1)
   have c1:=HM.out.c2
   rw [A.v] at c1
   have e0 : (w.alloc (.cells #[.int .i64 pg,.int .i64 kd,.int .i64 (i : Int)] 45)).cell? ⟨w.heap.size,1,none⟩ = some (.int .i64 kd):=B.cell EB.out 1 rfl
   have e2 : (w.alloc (.cells #[.int .i64 pg,.int .i64 kd,.int .i64 (i : Int)] 45)).cell? ⟨w.heap.size,2,none⟩ = some (.int .i64 (i : Int)):=B.cell EB.out 2 rfl
   have hki : (i : Int) < (k.slots.length : Int):=by omega
   have HFIN : Hid (∀ V,(∃ f,V = ((w.alloc (.cells #[.int .i64 pg,.int .i64 kd,.int .i64 (i : Int)] 45)).setCell ⟨fb,i * 2 + 1,none⟩ (.int .i64 ((KM.slAt k.slots i).refs + d))).drew /\ f = KM.slAt k.slots i /\ ¬ f.refs + d = 0) ∨ (∃ f,f = KM.slAt k.slots i /\ f.refs + d = 0 /\ V = ((((w.alloc (.cells #[.int .i64 pg,.int .i64 kd,.int .i64 (i : Int)] 45)).setCell ⟨fb,i * 2 + 1,none⟩ (.int .i64 ((KM.slAt k.slots i).refs + d))).setCell ⟨fb,i * 2,none⟩ (.string ⟨#[]⟩)).setCell ⟨fb,i * 2 + 1,none⟩ (.int .i64 0)).drew) -> OutS lo mb tt X w S (.tuple #[]) (KM.countK k ⟨pg,kd,(i : Int)⟩ d) (.returned (.tuple #[])) V):=fun V hV=>by
    have hk : KM.countK k ⟨pg,kd,(i : Int)⟩ d = { k with slots:=k.slots.set i (KM.cntS (KM.slAt k.slots i) d) }:=by
     unfold KM.countK
     rw [if_neg c,Int.toNat_natCast]
    rw [hk]
    have HD:=HM.out
    have CD:=HC0.out
    have hDr : ∀ V : World,Below V.heap.size V V.drew:=fun V=>(Below.refl _ _).drew
    have m1:=HD.setL A.v hi (j:=1) (by omega) (f:=⟨(KM.slAt k.slots i).data,(KM.slAt k.slots i).refs + d⟩) (u:=.int .i64 ((KM.slAt k.slots i).refs + d)) rfl
    have ch1:=CD.trans (chL HD.toKr A.v (i:=i * 2 + 1) (u:=.int .i64 ((KM.slAt k.slots i).refs + d)))
    rcases hV with ⟨f,rfl,rfl,hz⟩ | ⟨f,rfl,hz,rfl⟩
    · unfold KM.cntS
      rw [if_neg hz]
      exact ⟨rfl,m1.below (hDr _),ch1.trans (Ch.below (hDr _))⟩
    · unfold KM.cntS
      rw [if_pos hz]
      have m2:=m1.layS A.v (i:=i) (by simpa using hi) KM.sl0
      simp only [List.set_set] at m2
      exact ⟨rfl,m2.1.below (hDr _),(ch1.trans m2.2).trans (Ch.below (hDr _))⟩
   obtain ⟨P,hP⟩ : ∃ P,P = OutS lo mb tt X w S (.tuple #[]) (KM.countK k ⟨pg,kd,(i : Int)⟩ d):=⟨_,rfl⟩
   rw [<- hP] at HFIN ⊢
   obtain ⟨F,hF⟩ : ∃ F,F = KM.slAt k.slots i:=⟨_,rfl⟩
   rw [<- hF] at x0 x1 hrr HFIN
   obtain ⟨n,hn⟩ : ∃ n,n = k.slots.length:=⟨_,rfl⟩
   rw [<- hn] at c1 hki
   have kb : (kd == 1) = false:=by simpa using c
   have hw : IntKind.i64.wrap (F.refs + d) = F.refs + d:=IntWalk.i64_in _ (by omega)
   have HHF:=hideC hF
   have hin : i < n:=by omega
   clear h1 h2 hr h hP hF hn HM HC0 A EB HB0 c hd hrr hi
   by_cases z : F.refs + d = 0
   · have zb : (F.refs + d == 0) = true:=by simpa using z
     have HZ:=hideC z
     clear z
     go_enter Tryz.func85,Tryz.ntmps85
     go_upto_region 6 with fail
     go_region
     go_wp2
     refine bodyPost_end (v:=.tuple #[]) (by simp [results,Tryz.results85,go_sem]) rfl ?_
     exact HFIN.out _ (.inr ⟨F,rfl,HZ.out,rfl⟩)
   · have zb : (F.refs + d == 0) = false:=by simpa using z
     have HZ:=hideC z
     clear z
     go_enter Tryz.func85,Tryz.ntmps85
     go_upto_region 6 with fail
     go_region
     go_wp2
     refine bodyPost_end (v:=.tuple #[]) (by simp [results,Tryz.results85,go_sem]) rfl ?_
     exact HFIN.out _ (.inl ⟨F,rfl,rfl,HZ.out⟩)
def passK (held : List Int) (k : KM.Kn) (i : Nat) : KM.Kn:=if held.contains (i : Int) then k else { k with frames:=k.frames.set i (KM.unseen (KM.frAt k.frames i)) }
set_option maxHeartbeats 8000000 in
theorem passed_any {lo mb : Nat} {tt : TypeId} {X : List Value} (k : KM.Kn) (S : St) (w : World) (i : Nat) (held : List Int) (ah : Option Addr) (ch : Nat) (h : Km lo mb tt X w S k) (hi : i < k.frames.length) (hh : HasRow cellI 1 0 w ah held) (hl : held.length <= 1000000) :
  Calls Tryz.prog 188 #[.pointer (some ⟨mb,0,none⟩),.int .i64 (i : Int),.slice ah held.length ch] w (OutS lo mb tt X w S (.bool (held.contains (i : Int) || (KM.frAt k.frames i).seen)) (passK held k i)):=by
 obtain ⟨fb,cF,A⟩:=h.toKr.fr (by omega)
 have HCO:=hideC (KW.containsI_any held (i : Int) ah ch w hh hl)
 have x3:=A.x3 i hi
 have f3:=A.fz (i * 4 + 3)
 have c1:=h.c1
 rw [A.v] at c1
 have hki : (i : Int) < (k.frames.length : Int):=by omega
 rw [<- List.contains_eq_mem] at HCO
 cases hc : held.contains (i : Int) with
 | true =>
  have HFIN : Hid (OutS lo mb tt X w S (.bool (true || (KM.frAt k.frames i).seen)) (passK held k i) (.returned (.bool true)) w):=⟨by simp,by unfold passK;rw [if_pos hc];exact h,Ch.refl _ _⟩
  rw [hc] at HCO
  obtain ⟨P,hP⟩ : ∃ P,P = OutS lo mb tt X w S (.bool (true || (KM.frAt k.frames i).seen)) (passK held k i):=⟨_,rfl⟩
  rw [<- hP] at HFIN ⊢
  clear hP hc hh h A hi hl x3 f3 c1 hki
  go_enter Tryz.func188,Tryz.ntmps188
  go_wp2_with (go_at_call 95;refine HCO.out.mono ?_;rintro e w1 ⟨rfl,rfl⟩)
  exact HFIN.out
 | false =>
  have HFIN : Hid (OutS lo mb tt X w S (.bool (false || (KM.frAt k.frames i).seen)) (passK held k i) (.returned (.bool (KM.frAt k.frames i).seen)) (w.setCell ⟨fb,i * 4 + 3,none⟩ (.bool false))):=⟨by simp,by
   unfold passK
   rw [if_neg (by rw [hc];simp)]
   exact h.setF A.v hi (j:=3) (by omega) rfl,chF h.toKr A.v⟩
  rw [hc] at HCO
  obtain ⟨P,hP⟩ : ∃ P,P = OutS lo mb tt X w S (.bool (false || (KM.frAt k.frames i).seen)) (passK held k i):=⟨_,rfl⟩
  rw [<- hP] at HFIN ⊢
  obtain ⟨F,hF⟩ : ∃ F,F = KM.frAt k.frames i:=⟨_,rfl⟩
  rw [<- hF] at x3 HFIN
  obtain ⟨n,hn⟩ : ∃ n,n = k.frames.length:=⟨_,rfl⟩
  rw [<- hn] at c1 hki
  clear hP hc hh h A hi hl hF hn
  go_enter Tryz.func188,Tryz.ntmps188
  go_wp2_with (go_at_call 95;refine HCO.out.mono ?_;rintro e w1 ⟨rfl,rfl⟩)
  exact HFIN.out
set_option maxHeartbeats 8000000 in
theorem moveHand_any {lo mb : Nat} {tt : TypeId} {X : List Value} (k : KM.Kn) (S : St) (w : World) (h : Km lo mb tt X w S k) (hh : 0 <= k.hand /\ k.hand < k.frames.length) (hn : k.frames.length <= 1000000) :
  Calls Tryz.prog 189 #[.pointer (some ⟨mb,0,none⟩)] w (OutS lo mb tt X w S (.tuple #[]) { k with hand:=KM.nextH k }):=by
 obtain ⟨fb,cF,A⟩:=h.toKr.fr (by omega)
 have hDr : Below w.heap.size w w.drew:=(Below.refl _ _).drew
 have HFIN : Hid (∀ x,x = KM.nextH k -> OutS lo mb tt X w S (.tuple #[]) { k with hand:=KM.nextH k } (.returned (.tuple #[])) (w.setCell ⟨mb,4,none⟩ (.int .i64 x)).drew):=fun x hx=>by
  rw [hx]
  have:=h.setHand (KM.nextH k)
  exact ⟨rfl,this.1.below (Below.refl _ _).drew,this.2.trans (Ch.below (Below.refl _ _).drew)⟩
 have hm : (k.hand + 1).tmod (k.frames.length : Int) = KM.nextH k:=by
  unfold KM.nextH
  rw [Int.tmod_eq_emod_of_nonneg (by omega)]
 have c1:=h.c1
 rw [A.v] at c1
 have c4:=h.c4
 have f4:=h.free 4
 obtain ⟨P,hP⟩ : ∃ P,P = OutS lo mb tt X w S (.tuple #[]) { k with hand:=KM.nextH k }:=⟨_,rfl⟩
 rw [<- hP] at HFIN ⊢
 obtain ⟨NX,hNX⟩ : ∃ NX,NX = KM.nextH k:=⟨_,rfl⟩
 rw [<- hNX] at HFIN hm
 obtain ⟨hd,hhd⟩ : ∃ hd,hd = k.hand:=⟨_,rfl⟩
 rw [<- hhd] at c4 hh hm
 obtain ⟨n,hne⟩ : ∃ n,n = k.frames.length:=⟨_,rfl⟩
 rw [<- hne] at c1 hh hm hn
 have hw : IntKind.i64.wrap (hd + 1) = hd + 1:=IntWalk.i64_in _ (by omega)
 have hn0 : ¬ (n : Int) = 0:=by omega
 have hnb : ((n : Int) == 0) = false:=by rw [beq_eq_false_iff_ne];exact hn0
 have hNb : -9223372036854775808 <= NX /\ NX <= 9223372036854775807:=by
  have h1 : 0 <= (hd + 1).tmod (n : Int):=Int.tmod_nonneg _ (by omega)
  have h2 : (hd + 1).tmod (n : Int) < (n : Int):=Int.tmod_lt_of_pos _ (by omega)
  omega
 have hw2 : IntKind.i64.wrap NX = NX:=IntWalk.i64_in _ hNb
 clear hP hNX hhd hne h A
 go_enter Tryz.func189,Tryz.ntmps189
 go_region
 all_goals go_wp2
 all_goals refine bodyPost_end (v:=.tuple #[]) (by simp [results,Tryz.results189,go_sem]) rfl ?_
 all_goals exact HFIN.out _ rfl
end KX
namespace KI
open Go.RowKit GK
open KW (cellEn)
open KS (blk cells_one)
open FW (hideC add_below)
theorem cellEn_len (l : KM.En) : (cellEn l).length = 3:=rfl
theorem sizeP (w : World) : (sizeOf 45).run Tryz.prog w = .ok 3 w:=by kernel_rfl
theorem zeroP (w : World) : (zeroValue 45).run Tryz.prog w = .ok (.agg #[.int .i64 0,.int .i64 0,.int .i64 0]) w:=by kernel_rfl
def OutIns (lo : Nat) (vp : Value) (l : List KM.En) (w : World) (e : Ending) (w' : World) : Prop:=∃ v',e = .returned v' /\ w'.ownsRow lo 45 3 v' l.length (l.flatMap cellEn) /\ Kp (blk vp) w w' /\ (∀ b,blk v' b -> blk vp b ∨ w.heap.size <= b)
theorem row_from {α : Type} {w : World} {lo : Nat} {e : TypeId} {k n : Nat} {ao : Option Addr} {cap : Nat} {xs : List Value} (h : w.ownsRow lo e k (.slice ao n cap) n xs) : From w ao n xs:=fun hm=>by
 rcases h.2 with ⟨h0,h1⟩ | ⟨g,cap',cur,hv,_,hg,_,_,_,ht⟩
 · omega
 · injection hv with e1 e2 e3
   refine ⟨⟨g,0,none⟩,e1,fun j u hu=>?_⟩
   rw [Addr.add_lit,Nat.zero_add,cell_of_row w g j cur e (0,0) hg]
   rw [<- ht,List.getElem?_take] at hu
   split at hu
   · simpa using hu
   · cases hu
set_option maxHeartbeats 4000000 in
theorem insert_end (lo : Nat) (ps zs : List KM.En) (ao az : Option Addr) (cap cz wz : Nat) (w : World) (h : w.ownsRow lo 45 3 (.slice ao ps.length cap) ps.length (ps.flatMap cellEn)) (hz : w.ownsRow wz 45 3 (.slice az zs.length cz) zs.length (zs.flatMap cellEn)) (hlo : lo <= w.heap.size) (hm : 1 <= zs.length) (hn : ps.length <= 100000) (hn2 : zs.length <= 100000) :
  Calls Tryz.prog 192 #[.slice ao ps.length cap,.int .i64 (ps.length : Int),.slice az zs.length cz] w (OutIns lo (.slice ao ps.length cap) (ps ++ zs) w):=by
 have HH:=hideC h
 have HF:=hideC (row_from (α:=Unit) hz)
 have HL:=hideC (rows_length cellEn 3 cellEn_len zs)
 have H1:=hideC (cells_one zs)
 obtain ⟨_,_,e0,hcp,_⟩:=row_form h
 injection e0 with e1 e2 e3
 subst e3
 obtain ⟨n,hne⟩ : ∃ n,n = ps.length:=⟨_,rfl⟩
 obtain ⟨m,hme⟩ : ∃ m,m = zs.length:=⟨_,rfl⟩
 have HFIN : Hid (∀ v' (w' : World),w'.ownsRow lo 45 3 v' (n + m) (ps.flatMap cellEn ++ zs.flatMap cellEn) -> Kp (blk (.slice ao n cap)) w w' -> (∀ b,blk v' b -> blk (.slice ao n cap) b ∨ w.heap.size <= b) -> OutIns lo (.slice ao n cap) (ps ++ zs) w (.returned v') w'):=fun v' w' h1 h2 h3=>⟨v',rfl,by rw [List.length_append,List.flatMap_append,<- hne,<- hme];exact h1,h2,h3⟩
 rw [<- hne] at HH hn hcp ⊢
 rw [<- hme] at HF HL hm hn2 ⊢
 obtain ⟨P,hP⟩ : ∃ P,P = OutIns lo (.slice ao n cap) (ps ++ zs) w:=⟨_,rfl⟩
 rw [<- hP] at HFIN ⊢
 obtain ⟨XS,hXS⟩ : ∃ XS,XS = ps.flatMap cellEn:=⟨_,rfl⟩
 obtain ⟨ZS,hZS⟩ : ∃ ZS,ZS = zs.flatMap cellEn:=⟨_,rfl⟩
 rw [<- hXS] at HH HFIN
 rw [<- hZS] at HF HL H1 HFIN
 obtain ⟨i0,hin,hz0,hz1,hz2⟩:=info_parts infoEn
 have HIN:=hideC hin
 have HZ0:=hideC hz0
 have HZ1:=hideC hz1
 have HZ2:=hideC hz2
 have hm0 : ((m : Int) == 0) = false:=by rw [beq_eq_false_iff_ne];omega
 clear h hz hne hme hP hXS hZS hin hz0 hz1 hz2 e1 e2
 go_enter Tryz.func192,Tryz.ntmps192
 go_wp2_with (at_builtin;refine wpList_append_src (P:=Tryz.prog) rfl _ _ 41 rfl lo 45 i0 (.agg #[.int .i64 0,.int .i64 0,.int .i64 0]) 3 24 Tryz.underlying41 HIN.out HZ0.out HZ1.out HZ2.out rfl (by decide) (.slice ao n cap) n XS rfl HH.out az m cz ZS rfl HL.out HF.out H1.out (by unfold maxLen;omega) (by omega) hlo ?_;intro v' w' hown hgr hat;have HO2:=hideC hown;have HG2:=hideC hgr;have HA2:=hideC hat;clear hown hgr hat)
 all_goals
  refine HFIN.out _ _ HO2.out (Kp.grown HG2.out (fun _ e=>e)) (fun b hb=>?_)
  unfold blk at hb ⊢
  rcases HA2.out with e | e
  · exact .inl (by rw [<- e];exact hb)
  · right
    rw [e] at hb
    injection hb with hb
    omega
theorem take_left' {α : Type} (a b : List α) (n : Nat) (h : a.length = n) : (a ++ b).take n = a:=by subst h;exact List.take_left
theorem drop_left' {α : Type} (a b : List α) (n : Nat) (h : a.length = n) : (a ++ b).drop n = b:=by subst h;exact List.drop_left
theorem splice_up {α : Type} (R Y X : List α) (a b : Nat) (hb : b = a + Y.length) (h : b + X.length <= R.length) : (splice (splice R a Y) b X).take (b + X.length) = R.take a ++ (Y ++ X):=by
 subst hb
 have h1 : (splice R a Y).take (a + Y.length) = R.take a ++ Y:=by
  unfold splice
  rw [<- List.append_assoc]
  exact take_left' _ _ _ (by rw [List.length_append,List.length_take];omega)
 unfold splice at h1 ⊢
 rw [h1,<- List.append_assoc,List.append_assoc (R.take a) Y X]
 exact take_left' _ _ _ (by rw [List.length_append,List.length_take,List.length_append];omega)
theorem splice_down {α : Type} (R Y X : List α) (a b : Nat) (hb : b = a + Y.length) (h : b + X.length <= R.length) : (splice (splice R b X) a Y).take (b + X.length) = R.take a ++ (Y ++ X):=by
 subst hb
 have h1 : (splice R (a + Y.length) X).take a = R.take a:=by
  unfold splice
  rw [List.take_append_of_le_length (by rw [List.length_take];omega),List.take_take,Nat.min_eq_left (by omega)]
 have h2 : (splice R (a + Y.length) X).drop (a + Y.length) = X ++ R.drop (a + Y.length + X.length):=by
  unfold splice
  exact drop_left' _ _ _ (by rw [List.length_take];omega)
 have h3 : splice (splice R (a + Y.length) X) a Y = R.take a ++ (Y ++ (X ++ R.drop (a + Y.length + X.length))):=by
  rw [<- h2,<- h1]
  rfl
 rw [h3,<- List.append_assoc,<- List.append_assoc,List.append_assoc (R.take a) Y X]
 exact take_left' _ _ _ (by rw [List.length_append,List.length_take,List.length_append];omega)
theorem drop_rows (ps : List KM.En) (i : Nat) : (ps.flatMap cellEn).drop (i * 3) = (ps.drop i).flatMap cellEn:=by
 induction ps generalizing i with
 | nil=>simp
 | cons a r ih =>
  cases i with
  | zero=>simp
  | succ i =>
   rw [List.flatMap_cons,List.drop_succ_cons,<- ih i,show (i + 1) * 3 = i * 3 + 3 by omega]
   rfl
theorem take_rows (ps : List KM.En) (i : Nat) : (ps.flatMap cellEn).take (i * 3) = (ps.take i).flatMap cellEn:=by
 induction ps generalizing i with
 | nil=>simp
 | cons a r ih =>
  cases i with
  | zero=>simp
  | succ i =>
   rw [List.flatMap_cons,List.take_succ_cons,List.flatMap_cons,<- ih i,show (i + 1) * 3 = i * 3 + 3 by omega]
   rfl
theorem setRow_kp (w : World) (g : Nat) (cs : Array Value) : Kp (fun b=>b = g) w (w.setRow g cs):=⟨rfl,rfl,rfl,by simp [World.setRow],fun b _ hn=>setRow_other w g b cs hn⟩
set_option maxHeartbeats 8000000 in
theorem insert_shift (lo : Nat) (ps zs : List KM.En) (pb zb cap cz wz i : Nat) (w : World) (h : w.ownsRow lo 45 3 (.slice (some ⟨pb,0,none⟩) ps.length cap) ps.length (ps.flatMap cellEn)) (hz : w.ownsRow wz 45 3 (.slice (some ⟨zb,0,none⟩) zs.length cz) zs.length (zs.flatMap cellEn)) (hne : zb ≠ pb) (hi : i < ps.length) (hm : 1 <= zs.length) (hn : ps.length <= 100000) (hn2 : zs.length <= 100000) (hroom : ps.length + zs.length <= cap) :
  Calls Tryz.prog 192 #[.slice (some ⟨pb,0,none⟩) ps.length cap,.int .i64 (i : Int),.slice (some ⟨zb,0,none⟩) zs.length cz] w (OutIns lo (.slice (some ⟨pb,0,none⟩) ps.length cap) (ps.take i ++ (zs ++ ps.drop i)) w):=by
 have HFZ:=hideC (row_from (α:=Unit) hz)
 have HFP:=hideC (row_from (α:=Unit) h)
 have H1:=hideC (cells_one zs)
 have H1P:=hideC (cells_one ps)
 obtain ⟨cur,hcz,hgc,hcs,hct,hlo,hcm⟩ : ∃ cur : Array Value,cur.size = cap * 3 /\ w.heap[pb]? = some (.cells cur 45 (0,0)) /\ cap <= maxLen /\ cur.toList.take (ps.length * 3) = ps.flatMap cellEn /\ lo <= pb /\ ps.length <= cap:=by
  rcases h.2 with ⟨h0,_⟩ | ⟨g,cap',cur,hv,hb,hg,h1,h2,h3,h4⟩
  · cases h0
  · injection hv with e1 e2 e3
    injection e1 with e1
    injection e1 with e1 _ _
    subst e1 e3
    exact ⟨cur,h3,hg,h2,h4,hb,h1⟩
 obtain ⟨zcur,hzg,hzsz⟩ : ∃ zcur : Array Value,w.heap[zb]? = some (.cells zcur 45 (0,0)) /\ 0 < zcur.size:=by
  rcases hz.2 with ⟨h0,_⟩ | ⟨g,cap',zc,hv,hb,hg,h1,h2,h3,h4⟩
  · cases h0
  · injection hv with e1 e2 e3
    injection e1 with e1
    injection e1 with e1 _ _
    subst e1
    exact ⟨zc,hg,by rw [h3];omega⟩
 have hlx:=rows_length cellEn 3 cellEn_len ps
 have hlz:=rows_length cellEn 3 cellEn_len zs
 obtain ⟨R,hR⟩ : ∃ R,R = cur.toList:=⟨_,rfl⟩
 have hRl : R.length = cap * 3:=by rw [hR];simpa using hcz
 have hRg : w.heap[pb]? = some (.cells R.toArray 45 (0,0)):=by rw [hR];simpa using hgc
 rw [<- hR] at hct
 obtain ⟨n,hne1⟩ : ∃ n,n = ps.length:=⟨_,rfl⟩
 obtain ⟨m,hme⟩ : ∃ m,m = zs.length:=⟨_,rfl⟩
 obtain ⟨XS,hXS⟩ : ∃ XS,XS = ps.flatMap cellEn:=⟨_,rfl⟩
 obtain ⟨ZS,hZS⟩ : ∃ ZS,ZS = zs.flatMap cellEn:=⟨_,rfl⟩
 rw [<- hZS] at HFZ H1 hlz
 rw [<- hXS] at HFP hlx hct H1P
 rw [<- hme] at HFZ hlz hm hn2 hroom ⊢
 rw [<- hne1] at HFP hlx hct hi hn hroom hcm ⊢
 obtain ⟨DS,hDS⟩ : ∃ DS,DS = XS.drop (i * 3):=⟨_,rfl⟩
 have hDl : DS.length = (n - i) * 3:=by rw [hDS,List.length_drop,hlx];omega
 obtain ⟨R1,hR1⟩ : ∃ R1,R1 = splice R ((i + m) * 3) DS:=⟨_,rfl⟩
 have hR1l : R1.length = cap * 3:=by rw [hR1,length_splice _ _ _ (by rw [hDl,hRl];omega)];exact hRl
 obtain ⟨R2,hR2⟩ : ∃ R2,R2 = splice R1 (i * 3) ZS:=⟨_,rfl⟩
 have hR2l : R2.length = cap * 3:=by rw [hR2,length_splice _ _ _ (by rw [hlz,hR1l];omega)];exact hR1l
 have hR2t : R2.take ((n + m) * 3) = XS.take (i * 3) ++ (ZS ++ DS):=by
  have:=splice_down R ZS DS (i * 3) ((i + m) * 3) (by rw [hlz];omega) (by rw [hDl,hRl];omega)
  rw [<- hR1,<- hR2,hDl,show (i + m) * 3 + (n - i) * 3 = (n + m) * 3 by omega] at this
  rw [this,<- hct,List.take_take,Nat.min_eq_left (by omega)]
 have hcp1 : ∀ ty dc sc,(Builtin.copy_ #[41,41] ty #[.slice (some ⟨pb,(i + m) * 3,none⟩) (n + m - (i + m)) dc,.slice (some ⟨pb,i * 3,none⟩) (n + m - i) sc]).run Tryz.prog w.drew = .ok (goInt (n - i)) (w.drew.setRow pb R1.toArray):=fun ty dc sc=>by
  have:=run_copy_rows (P:=Tryz.prog) w.drew 41 41 ty 45 3 Tryz.underlying41 sizeP pb ((i + m) * 3) (n + m - (i + m)) dc (some ⟨pb,i * 3,none⟩) (n + m - i) sc R 45 hRg DS (by rw [hDl];simp only [Nat.min_def];split <;> omega) (fun _=>⟨_,rfl,fun j u hu=>by
   obtain ⟨ad,e,hc⟩:=HFP.out (by omega)
   injection e with e
   subst e
   have:=hc (i * 3 + j) u (by rw [hDS,List.getElem?_drop] at hu;exact hu)
   rw [Addr.add_lit] at this ⊢
   rw [Nat.zero_add] at this
   exact this⟩) (by rw [hDl,hRl];omega) (fun u hu=>H1P.out u (by rw [hDS] at hu;exact List.mem_of_mem_drop hu))
  rw [this,<- hR1]
  congr 2
  simp only [Nat.min_def];split <;> omega
 have hg1 : (w.drew.setRow pb R1.toArray).heap[pb]? = some (.cells R1.toArray 45 (0,0)):=setRow_heap w.drew pb _ _ _ _ hRg
 obtain ⟨W1,hW1⟩ : ∃ W1,W1 = w.drew.setRow pb R1.toArray:=⟨_,rfl⟩
 rw [<- hW1] at hcp1 hg1
 have kp1 : Kp (fun b=>b = pb) w W1:=by rw [hW1];exact (Kp.drew _ w).trans (setRow_kp w.drew pb R1.toArray) (fun _ _ g=>g)
 have hcp2 : ∀ ty dc,(Builtin.copy_ #[41,41] ty #[.slice (some ⟨pb,i * 3,none⟩) (n + m - i) dc,.slice (some ⟨zb,0,none⟩) m cz]).run Tryz.prog W1 = .ok (goInt m) (W1.setRow pb R2.toArray):=fun ty dc=>by
  have:=run_copy_rows (P:=Tryz.prog) W1 41 41 ty 45 3 Tryz.underlying41 sizeP pb (i * 3) (n + m - i) dc (some ⟨zb,0,none⟩) m cz R1 45 hg1 ZS (by rw [hlz];simp only [Nat.min_def];split <;> omega) (fun _=>⟨_,rfl,fun j u hu=>by
   obtain ⟨ad,e,hc⟩:=HFZ.out (by omega)
   injection e with e
   subst e
   have:=hc j u hu
   exact kp1.cell this (by rw [Addr.add_lit];exact hne)⟩) (by rw [hlz,hR1l];omega) H1.out
  rw [this,<- hR2]
  congr 2
  simp only [Nat.min_def];split <;> omega
 have hg2 : (W1.setRow pb R2.toArray).heap[pb]? = some (.cells R2.toArray 45 (0,0)):=setRow_heap W1 pb _ _ _ _ hg1
 have HFIN : Hid (OutIns lo (.slice (some ⟨pb,0,none⟩) n cap) (ps.take i ++ (zs ++ ps.drop i)) w (.returned (.slice (some ⟨pb,0,none⟩) (n + m) cap)) (W1.setRow pb R2.toArray)):=by
  have hl : (ps.take i ++ (zs ++ ps.drop i)).length = n + m:=by rw [List.length_append,List.length_append,List.length_take,List.length_drop,<- hne1,<- hme];omega
  refine ⟨_,rfl,?_,(kp1.trans (setRow_kp W1 pb _) (fun _ _ g=>g)).mono (fun b _ e=>by rw [e];rfl),fun b hb=>.inl hb⟩
  rw [hl]
  have hx : (ps.take i ++ (zs ++ ps.drop i)).flatMap cellEn = R2.take ((n + m) * 3):=by
   rw [hR2t,hXS,hZS,hDS,hXS,take_rows,drop_rows,List.flatMap_append,List.flatMap_append]
  rw [hx]
  exact ⟨by rw [List.length_take,hR2l];omega,.inr ⟨pb,cap,R2.toArray,rfl,hlo,hg2,hroom,hcs,by simpa using hR2l,by simp⟩⟩
 obtain ⟨P,hP⟩ : ∃ P,P = OutIns lo (.slice (some ⟨pb,0,none⟩) n cap) (ps.take i ++ (zs ++ ps.drop i)) w:=⟨_,rfl⟩
 rw [<- hP] at HFIN ⊢
 have hov : ∀ lb cb,(callFunc 205 #[.slice (some ⟨zb,0,none⟩) m cz,.slice (some ⟨pb,(i + m) * 3,none⟩) lb cb]).run Tryz.prog w = .ok (.value (.bool false)) w:=fun lb cb=>by
  rw [run_callFunc_extern Tryz.func205 (by kernel_rfl) (by kernel_rfl) (by kernel_rfl) (e:=Extern.SlicesOverlaps.overlaps #[41,41] #[4]) (by kernel_rfl),
   Lib.run_overlaps_apart w 41 4 45 Tryz.underlying41 3 sizeP ⟨zb,0,none⟩ ⟨pb,(i + m) * 3,none⟩ m cz lb cb hne 45 45 zcur.size cur.size (by simp [World.shape?,hzg]) (by simp [World.shape?,hgc]) (by omega) (B.free hzg 0) (B.free hzg zcur.size)]
  rfl
 have hm0 : ((m : Int) == 0) = false:=by rw [beq_eq_false_iff_ne];omega
 have hi0 : ((i : Int) == (n : Int)) = false:=by rw [beq_eq_false_iff_ne];omega
 have hw1 : IntKind.i64.wrap ((i : Int) + (m : Int)) = (i : Int) + (m : Int):=IntWalk.i64_in _ (by omega)
 have hb1 : (0 : Int) <= (i : Int) + (m : Int):=by omega
 have hin : i <= n:=by omega
 have htn : ((i : Int) + (m : Int)).toNat = i + m:=by omega
 have hb2 : ¬ (cap = i + m):=by omega
 have hb3 : (i : Int) <= (n : Int) + (m : Int):=by omega
 have hb4 : ¬ (cap = i):=by omega
 have hr2 : ¬ ((cap : Int) < (n : Int) + (m : Int)):=by omega
 have hc63 : cap <= 9223372036854775807:=by unfold maxLen at hcs;omega
 clear h hz hne1 hme hXS hZS hDS hDl hR1 hR2 hW1 hR hRl hRg hR1l hR2l hR2t hlx hlz hct hgc hcz hzg hzsz hP hg1 hg2 kp1 HFZ HFP H1 H1P hcs
 go_enter Tryz.func192,Tryz.ntmps192
 go_wp2_with (simp only [hov])
 go_region_law (refine step_copy_run rfl _ _ 41 41 rfl _ _ (by simp [Act.eval,Act.put]) (by simp [Act.eval,Act.put]) (hcp1 _ _ _) ?_)
 go_wp2_with (at_builtin;refine wpList_copy_run _ rfl _ _ 41 41 rfl _ _ rfl rfl (hcp2 _ _) ?_)
 exact HFIN.out
set_option maxHeartbeats 8000000 in
theorem insert_grow (lo : Nat) (ps zs : List KM.En) (pb zb cap cz wz i : Nat) (w : World) (h : w.ownsRow lo 45 3 (.slice (some ⟨pb,0,none⟩) ps.length cap) ps.length (ps.flatMap cellEn)) (hz : w.ownsRow wz 45 3 (.slice (some ⟨zb,0,none⟩) zs.length cz) zs.length (zs.flatMap cellEn)) (hlo : lo <= w.heap.size) (hi : i < ps.length) (hm : 1 <= zs.length) (hn : ps.length <= 100000) (hn2 : zs.length <= 100000) (hroom : cap < ps.length + zs.length) :
  Calls Tryz.prog 192 #[.slice (some ⟨pb,0,none⟩) ps.length cap,.int .i64 (i : Int),.slice (some ⟨zb,0,none⟩) zs.length cz] w (OutIns lo (.slice (some ⟨pb,0,none⟩) ps.length cap) (ps.take i ++ (zs ++ ps.drop i)) w):=by
 have HFZ:=hideC (row_from (α:=Unit) hz)
 have HFP:=hideC (row_from (α:=Unit) h)
 have H1:=hideC (cells_one zs)
 have H1P:=hideC (cells_one ps)
 have hpb : pb < w.heap.size:=(h.lt pb rfl).2
 have hzb : zb < w.heap.size:=(hz.lt zb rfl).2
 have hcm : ps.length <= cap:=by
  obtain ⟨_,_,e0,hcm,_⟩:=row_form h
  injection e0 with _ _ e3
  omega
 have hlx:=rows_length cellEn 3 cellEn_len ps
 have hlz:=rows_length cellEn 3 cellEn_len zs
 obtain ⟨n,hne1⟩ : ∃ n,n = ps.length:=⟨_,rfl⟩
 obtain ⟨m,hme⟩ : ∃ m,m = zs.length:=⟨_,rfl⟩
 obtain ⟨XS,hXS⟩ : ∃ XS,XS = ps.flatMap cellEn:=⟨_,rfl⟩
 obtain ⟨ZS,hZS⟩ : ∃ ZS,ZS = zs.flatMap cellEn:=⟨_,rfl⟩
 rw [<- hZS] at HFZ H1 hlz
 rw [<- hXS] at HFP hlx H1P
 rw [<- hme] at HFZ hlz hm hn2 hroom ⊢
 rw [<- hne1] at HFP hlx hi hn hroom hcm ⊢
 obtain ⟨i0,hin,hz0,hz1,hz2⟩:=info_parts infoEn
 have hold : (Builtin.firstCells i0.size i (.slice (some ⟨pb,0,none⟩) i cap)).run Tryz.prog w.drew = .ok (XS.take (i * 3)).toArray w.drew:=by
  rw [hz1]
  exact run_firstCells_some w.drew 3 i ⟨pb,0,none⟩ i cap (XS.take (i * 3)) (by rw [List.length_take,hlx];omega) (fun j u hu=>by
   rw [List.getElem?_take] at hu
   split at hu
   · obtain ⟨ad,e,hc⟩:=HFP.out (by omega)
     injection e with e
     subst e
     exact hc j u hu
   · cases hu)
 have hik : i + (n + m - i) = n + m:=by omega
 have hkk : (n : Int) + (m : Int) - (i : Int) = ((n + m - i : Nat) : Int):=by omega
 obtain ⟨G,hG⟩ : ∃ G,G = grownCap w (n + m) cap 45:=⟨_,rfl⟩
 obtain ⟨R,hR⟩ : ∃ R : List Value,R = XS.take (i * 3) ++ zeroRow [.int .i64 0,.int .i64 0,.int .i64 0] (n + m - i) ++ zeroRow [.int .i64 0,.int .i64 0,.int .i64 0] (G - (n + m)):=⟨_,rfl⟩
 have hGn : n + m <= G:=by rw [hG];exact grownCap_ge w _ _ _
 have hG63 : G <= maxLen:=by rw [hG];exact grownCap_le_maxLen w (n + m) cap _ (by unfold maxLen;omega)
 have hRl : R.length = G * 3:=by
  rw [hR,List.length_append,List.length_append,zeroRow_length,zeroRow_length,List.length_take,hlx]
  simp only [List.length_cons,List.length_nil]
  omega
 have hRt : R.take (i * 3) = XS.take (i * 3):=by
  rw [hR,List.append_assoc]
  exact take_left' _ _ _ (by rw [List.length_take,hlx];omega)
 have hrz : ∀ ty,(Builtin.append_ #[41,3] ty #[.slice (some ⟨pb,0,none⟩) i cap,.int .i64 ((n : Int) + (m : Int) - (i : Int))]).run Tryz.prog w = .ok (.slice (some ⟨w.heap.size,0,none⟩) (n + m) G) (w.drew.alloc (.cells R.toArray 45)):=fun ty=>by
  have h:=Lib.run_append_grow_zeros (P:=Tryz.prog) w 41 3 ty 45 i0 _ .i64 .i64 Tryz.underlying41 Tryz.underlying3 hin hz0 (some ⟨pb,0,none⟩) i cap (XS.take (i * 3)) hold (n + m - i) (by omega) (by omega) (by omega) (by omega) (by rw [hz2];omega) (by rw [hz2,hik];exact growslice_fits hroom (by omega))
  rw [hik,<- hG] at h
  rw [hkk,h]
  congr 3
  rw [hR]
  have e1:=zero_cells (Value.cells (.agg #[.int .i64 0,.int .i64 0,.int .i64 0])) (n + m - i) (by decide)
  have e2:=zero_cells (Value.cells (.agg #[.int .i64 0,.int .i64 0,.int .i64 0])) (G - (n + m)) (by decide)
  apply Array.toList_inj.1
  rw [Array.toList_append,Array.toList_append,e1,e2]
  rfl
 have hg0 : (w.drew.alloc (.cells R.toArray 45)).heap[w.heap.size]? = some (.cells R.toArray 45 (0,0)):=B.new w.drew _ _
 obtain ⟨W0,hW0⟩ : ∃ W0,W0 = w.drew.alloc (.cells R.toArray 45):=⟨_,rfl⟩
 rw [<- hW0] at hrz hg0
 have kp0 : Below w.heap.size w W0:=by rw [hW0];exact (Below.refl _ _).drew.alloc (Nat.le_refl _) _
 obtain ⟨H,hH⟩ : ∃ H,H = w.heap.size:=⟨_,rfl⟩
 rw [<- hH] at hrz hg0 hlo
 obtain ⟨DS,hDS⟩ : ∃ DS,DS = XS.drop (i * 3):=⟨_,rfl⟩
 have hDl : DS.length = (n - i) * 3:=by rw [hDS,List.length_drop,hlx];omega
 obtain ⟨R1,hR1⟩ : ∃ R1,R1 = splice R (i * 3) ZS:=⟨_,rfl⟩
 have hR1l : R1.length = G * 3:=by rw [hR1,length_splice _ _ _ (by rw [hlz,hRl];omega)];exact hRl
 obtain ⟨R2,hR2⟩ : ∃ R2,R2 = splice R1 ((i + m) * 3) DS:=⟨_,rfl⟩
 have hR2l : R2.length = G * 3:=by rw [hR2,length_splice _ _ _ (by rw [hDl,hR1l];omega)];exact hR1l
 have hR2t : R2.take ((n + m) * 3) = XS.take (i * 3) ++ (ZS ++ DS):=by
  have:=splice_up R ZS DS (i * 3) ((i + m) * 3) (by rw [hlz];omega) (by rw [hDl,hRl];omega)
  rw [<- hR1,<- hR2,hDl,show (i + m) * 3 + (n - i) * 3 = (n + m) * 3 by omega] at this
  rw [this,hRt]
 have hcp1 : ∀ ty dc,(Builtin.copy_ #[41,41] ty #[.slice (some ⟨H,i * 3,none⟩) (n + m - i) dc,.slice (some ⟨zb,0,none⟩) m cz]).run Tryz.prog W0 = .ok (goInt m) (W0.setRow H R1.toArray):=fun ty dc=>by
  have:=run_copy_rows (P:=Tryz.prog) W0 41 41 ty 45 3 Tryz.underlying41 sizeP H (i * 3) (n + m - i) dc (some ⟨zb,0,none⟩) m cz R 45 hg0 ZS (by rw [hlz];simp only [Nat.min_def];split <;> omega) (fun _=>⟨_,rfl,fun j u hu=>by
   obtain ⟨ad,e,hc⟩:=HFZ.out (by omega)
   injection e with e
   subst e
   have:=hc j u hu
   rw [Addr.add_lit] at this ⊢
   exact (kp0.cell (p:=⟨zb,0 + j,none⟩) hzb).trans this⟩) (by rw [hlz,hRl];omega) H1.out
  rw [this,<- hR1]
  congr 2
  simp only [Nat.min_def];split <;> omega
 have hg1 : (W0.setRow H R1.toArray).heap[H]? = some (.cells R1.toArray 45 (0,0)):=setRow_heap W0 H _ _ _ _ hg0
 obtain ⟨W1,hW1⟩ : ∃ W1,W1 = W0.setRow H R1.toArray:=⟨_,rfl⟩
 rw [<- hW1] at hcp1 hg1
 have kp1 : Below w.heap.size w W1:=by rw [hW1];exact below_setRow kp0 (by omega) _
 have hcp2 : ∀ ty dc sc,(Builtin.copy_ #[41,41] ty #[.slice (some ⟨H,(i + m) * 3,none⟩) (n + m - (i + m)) dc,.slice (some ⟨pb,i * 3,none⟩) (n - i) sc]).run Tryz.prog W1.drew = .ok (goInt (n - i)) (W1.drew.setRow H R2.toArray):=fun ty dc sc=>by
  have:=run_copy_rows (P:=Tryz.prog) W1.drew 41 41 ty 45 3 Tryz.underlying41 sizeP H ((i + m) * 3) (n + m - (i + m)) dc (some ⟨pb,i * 3,none⟩) (n - i) sc R1 45 hg1 DS (by rw [hDl];simp only [Nat.min_def];split <;> omega) (fun _=>⟨_,rfl,fun j u hu=>by
   obtain ⟨ad,e,hc⟩:=HFP.out (by omega)
   injection e with e
   subst e
   have:=hc (i * 3 + j) u (by rw [hDS,List.getElem?_drop] at hu;exact hu)
   rw [Addr.add_lit] at this ⊢
   rw [Nat.zero_add] at this
   exact (kp1.cell (p:=⟨pb,i * 3 + j,none⟩) hpb).trans this⟩) (by rw [hDl,hR1l];omega) (fun u hu=>H1P.out u (by rw [hDS] at hu;exact List.mem_of_mem_drop hu))
  rw [this,<- hR2]
  congr 2
  simp only [Nat.min_def];split <;> omega
 have hg2 : (W1.drew.setRow H R2.toArray).heap[H]? = some (.cells R2.toArray 45 (0,0)):=setRow_heap W1.drew H _ _ _ _ hg1
 have kp2 : Below w.heap.size w (W1.drew.setRow H R2.toArray):=below_setRow kp1.drew (by omega) _
 have HFIN : Hid (OutIns lo (.slice (some ⟨pb,0,none⟩) n cap) (ps.take i ++ (zs ++ ps.drop i)) w (.returned (.slice (some ⟨H,0,none⟩) (n + m) G)) (W1.drew.setRow H R2.toArray)):=by
  have hl : (ps.take i ++ (zs ++ ps.drop i)).length = n + m:=by rw [List.length_append,List.length_append,List.length_take,List.length_drop,<- hne1,<- hme];omega
  refine ⟨_,rfl,?_,Kp.ofBelow kp2,fun b hb=>.inr (by have : some H = some b:=hb;injection this;omega)⟩
  rw [hl]
  have hx : (ps.take i ++ (zs ++ ps.drop i)).flatMap cellEn = R2.take ((n + m) * 3):=by
   rw [hR2t,hXS,hZS,hDS,hXS,take_rows,drop_rows,List.flatMap_append,List.flatMap_append]
  rw [hx]
  exact ⟨by rw [List.length_take,hR2l];omega,.inr ⟨H,G,R2.toArray,rfl,hlo,hg2,hGn,hG63,by simpa using hR2l,by simp⟩⟩
 obtain ⟨P,hP⟩ : ∃ P,P = OutIns lo (.slice (some ⟨pb,0,none⟩) n cap) (ps.take i ++ (zs ++ ps.drop i)) w:=⟨_,rfl⟩
 rw [<- hP] at HFIN ⊢
 have hm0 : ((m : Int) == 0) = false:=by rw [beq_eq_false_iff_ne];omega
 have hi0' : ((i : Int) == (n : Int)) = false:=by rw [beq_eq_false_iff_ne];omega
 have hw1 : IntKind.i64.wrap ((i : Int) + (m : Int)) = (i : Int) + (m : Int):=IntWalk.i64_in _ (by omega)
 have hb1 : (0 : Int) <= (i : Int) + (m : Int):=by omega
 have hinn : i <= n:=by omega
 have htn : ((i : Int) + (m : Int)).toNat = i + m:=by omega
 have hb2 : ¬ (G = i + m):=by omega
 have hb3 : (i : Int) <= (n : Int):=by omega
 have hb4 : ¬ (cap = i):=by omega
 have hb5 : ¬ (G = i):=by omega
 have hr2 : (cap : Int) < (n : Int) + (m : Int):=by omega
 have hc63 : G <= 9223372036854775807:=by unfold maxLen at hG63;omega
 clear h hz hne1 hme hXS hZS hDS hDl hR1 hR2 hW1 hW0 hR hRl hRt hR1l hR2l hR2t hlx hlz hP hg0 hg1 hg2 kp0 kp1 kp2 HFZ HFP H1 H1P hG63 hG hH hold hin hz0 hz1 hz2 hik hkk
 go_enter Tryz.func192,Tryz.ntmps192
 go_wp2_with (first
  | (at_builtin;refine Lib.wpList_append_run _ rfl _ _ _ _ rfl _ _ rfl rfl _ _ (hrz _) ?_)
  | (at_builtin;refine wpList_copy_run _ rfl _ _ 41 41 rfl _ _ rfl rfl (hcp1 _ _) ?_))
 go_region_law (refine step_copy_run rfl _ _ 41 41 rfl _ _ (by simp [Act.eval,Act.put]) (by simp [Act.eval,Act.put]) (hcp2 _ _ _) ?_)
 go_wp2
 exact HFIN.out
theorem insert_any (lo : Nat) (ps zs : List KM.En) (vp vz : Value) (wz i : Nat) (w : World) (h : w.ownsRow lo 45 3 vp ps.length (ps.flatMap cellEn)) (hz : w.ownsRow wz 45 3 vz zs.length (zs.flatMap cellEn)) (hlo : lo <= w.heap.size) (hne : ∀ b,blk vz b -> ¬ blk vp b) (hi : i <= ps.length) (hm : 1 <= zs.length) (hn : ps.length <= 100000) (hn2 : zs.length <= 100000) :
  Calls Tryz.prog 192 #[vp,.int .i64 (i : Int),vz] w (OutIns lo vp (ps.take i ++ (zs ++ ps.drop i)) w):=by
 obtain ⟨ao,cap,rfl,hcp,hg⟩:=row_form h
 obtain ⟨az,cz,rfl,_,hgz⟩:=row_form hz
 by_cases c : i = ps.length
 · subst c
   have e : ps.take ps.length ++ (zs ++ ps.drop ps.length) = ps ++ zs:=by rw [List.take_length,List.drop_length,List.append_nil]
   rw [e]
   exact insert_end lo ps zs ao az cap cz wz w h hz hlo hm hn hn2
 · obtain ⟨pb,rfl,_,_⟩:=hg (by omega)
   obtain ⟨zb,rfl,_,_⟩:=hgz (by omega)
   by_cases d : ps.length + zs.length <= cap
   · exact insert_shift lo ps zs pb zb cap cz wz i w h hz (fun e=>hne zb rfl (by rw [e];rfl)) (by omega) hm hn hn2 d
   · exact insert_grow lo ps zs pb zb cap cz wz i w h hz hlo (by omega) hm hn hn2 (by omega)
end KI
end Go.Proofs.YtpgifpeohlllfaaGreat
