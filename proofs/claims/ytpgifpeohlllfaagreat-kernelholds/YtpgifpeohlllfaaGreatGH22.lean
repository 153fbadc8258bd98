import Derived.Test.YtpgifpeohlllfaaGreatGH21
import Derived.Deep.LoopGhost
import Derived.Test.YtpgifpeohlllfaaGreatGH00
import Derived.OrdersHeld
import Derived.Deep.RegionHeld
set_option maxHeartbeats 20000000
set_option linter.unusedVariables false
set_option maxRecDepth 100000
set_option linter.unusedSimpArgs false
namespace Go.Proofs.YtpgifpeohlllfaaGreat
namespace KX
open Go.RowKit GK KO
open FW (hideC add_below)
open KW (cellFr cellSl cellEn HasRow KAt HasK cellsK aggEn cellI)
open KS (Lc cellLc lc0 lcAt blk SpOwn)
structure Held (w : World) (S : St) (ah : Option Addr) (held : List Int) : Prop where
 has : HasRow cellI 1 0 w ah held
 no : ∀ b off,ah = some ⟨b,off,none⟩ -> S.lab b = .no
 lt : ∀ b off,ah = some ⟨b,off,none⟩ -> b < w.heap.size
theorem Held.ch {w w' : World} {S S' : St} {ah : Option Addr} {held : List Int} (h : Held w S ah held) (hc : Ch S w S' w') : Held w' S' ah held :=
 ⟨KX.HasRow.kp h.has hc.kp (fun b off e z=>z (h.no b off e)),fun b off e=>hc.no b (h.lt b off e) (h.no b off e),fun b off e=>Nat.lt_of_lt_of_le (h.lt b off e) hc.kp.size⟩
theorem pass_no {held : List Int} {k : KM.Kn} {i : Nat} (h : (held.contains (i : Int) || (KM.frAt k.frames i).seen) = false) (hi : i < k.frames.length) : passK held k i = k:=by
 rw [Bool.or_eq_false_iff] at h
 unfold passK
 rw [if_neg (by rw [h.1];simp)]
 have : k.frames.set i (KM.unseen (KM.frAt k.frames i)) = k.frames:=by
  refine KM.ext_getD KM.fr0 _ _ List.length_set (fun m hm=>?_)
  rw [List.length_set] at hm
  by_cases c : i = m
  · subst c
    rw [KM.getD_set_self _ _ _ _ hm]
    have e:=h.2
    unfold KM.unseen
    show (⟨(KM.frAt k.frames i).data,(KM.frAt k.frames i).refs,(KM.frAt k.frames i).dirty,false⟩ : KM.Fr) = KM.frAt k.frames i
    rw [<- e]
  · rw [KM.getD_set_ne _ _ _ _ _ c]
 rw [this]
theorem pass_step {held : List Int} {k : KM.Kn} (hh : 0 <= k.hand /\ k.hand < k.frames.length) : ({ passK held k k.hand.toNat with hand:=KM.nextH (passK held k k.hand.toNat) } : KM.Kn) = KM.stepH held k:=by
 have e : ((k.hand.toNat : Nat) : Int) = k.hand:=by omega
 unfold passK KM.stepH
 rw [e]
 by_cases c : held.contains k.hand = true
 · rw [if_pos c,if_pos c]
 · rw [if_neg c,if_neg c]
   unfold KM.nextH
   simp only [List.length_set]
set_option maxHeartbeats 16000000 in
theorem get_any {lo mb : Nat} {tt : TypeId} {X : List Value} (k : KM.Kn) (S : St) (w : World) (held : List Int) (ah : Option Addr) (ch : Nat) (h : Km lo mb tt X w S k) (hR : KM.RightK k) (hl : held.length <= 2) (hH : Held w S ah held) :
  Calls Tryz.prog 165 #[.pointer (some ⟨mb,0,none⟩),.slice ah held.length ch] w (OutM lo mb tt X w S (.int .i64 ((KM.getK k held).1 : Int)) (KM.getK k held).2):=by
 have hcc:=hR.c
 obtain ⟨fb,cF,A⟩:=h.toKr.fr (by omega)
 obtain ⟨aF,cF',eF,_,hrF⟩:=row_has cellFr (fun _=>rfl) KM.fr0 h.frames
 have eF2 : aF = some ⟨fb,0,none⟩:=by
  have:=eF
  rw [A.v] at this
  injection this with e1 _ _
  exact e1.symm
 subst eF2
 have c1:=h.c1
 rw [A.v] at c1
 have hix:=ixFr_any k.frames (some ⟨fb,0,none⟩) cF w hrF (by omega)
 by_cases hex : ∃ i,i < k.frames.length /\ KM.isZ (KM.frAt k.frames i) = true /\ ∀ j,j < i -> KM.isZ (KM.frAt k.frames j) = false
 · obtain ⟨i,hi,hy,hno⟩:=hex
   have hf:=free_fr hR hi hy hno
   have hg : KM.getK k held = (i,k):=by unfold KM.getK;rw [hf]
   have HIX : Hid (Calls Tryz.prog 187 #[.slice (some ⟨fb,0,none⟩) k.frames.length cF,.func (.func 168) #[] #[]] w fun e w'=>e = .returned (.int .i64 (i : Int)) /\ Below w.heap.size w w'):=hix.mono fun e w' ⟨hb,hh⟩=>by
    rcases hh with ⟨_,hn⟩ | ⟨m,hm,he,hy2,hn2⟩
    · have:=hn i hi;rw [hy] at this;cases this
    · have:=free_fr hR hm hy2 hn2
      rw [hf] at this
      injection this with this
      subst this
      exact ⟨he,hb⟩
   have HFIN : Hid (∀ V,Below w.heap.size w V -> OutM lo mb tt X w S (.int .i64 ((KM.getK k held).1 : Int)) (KM.getK k held).2 (.returned (.int .i64 (i : Int))) V):=fun V hb=>by
    rw [hg]
    exact ⟨rfl,S,h.below hb,Ch.below hb⟩
   obtain ⟨P,hP⟩ : ∃ P,P = OutM lo mb tt X w S (.int .i64 ((KM.getK k held).1 : Int)) (KM.getK k held).2:=⟨_,rfl⟩
   rw [<- hP] at HFIN ⊢
   have hi0 : (0 : Int) <= (i : Int):=by omega
   clear hP hix hg hf hno hy h hR hcc A eF hrF hH
   go_enter Tryz.func165,Tryz.ntmps165
   go_wp2_with (go_at_call 187;refine HIX.out.mono ?_;rintro e w1 ⟨rfl,hb1⟩;have HB1:=hideC hb1;clear hb1)
   exact HFIN.out _ HB1.out
 · have hall : ∀ j,j < k.frames.length -> KM.isZ (KM.frAt k.frames j) = false:=fun j=>by
    induction j using Nat.strongRecOn with
    | _ j ih =>
     intro hj
     cases g : KM.isZ (KM.frAt k.frames j) with
     | false=>rfl
     | true=>exact absurd ⟨j,hj,g,fun m hm=>ih m hm (by omega)⟩ hex
   obtain ⟨hf,hFull⟩:=full_fr hR hall
   obtain ⟨T,hT,hpass,hstop⟩:=KM.clock_ends held hl hR hFull
   have hck:=KM.clock_iter held T 69 k (by omega) hpass hstop
   have hg : KM.getK k held = ((KM.iterH held T k).hand.toNat,{ KM.asideK (KM.iterH held T k) (KM.iterH held T k).hand.toNat with hand:=KM.nextH (KM.iterH held T k) }):=by
    unfold KM.getK
    rw [hf,hck]
   have HIX : Hid (Calls Tryz.prog 187 #[.slice (some ⟨fb,0,none⟩) k.frames.length cF,.func (.func 168) #[] #[]] w fun e w'=>e = .returned (.int .i64 (-1)) /\ Below w.heap.size w w'):=hix.mono fun e w' ⟨hb,hh⟩=>by
    rcases hh with ⟨he,_⟩ | ⟨m,hm,_,hy2,_⟩
    · exact ⟨he,hb⟩
    · rw [hall m hm] at hy2;cases hy2
   have TK:=KM.ticked held hR hFull
   have hnf : ∀ n,(KM.iterH held n k).frames.length = k.frames.length:=fun n=>(TK n).kept.nf
   have hhd : ∀ n,0 <= (KM.iterH held n k).hand /\ (KM.iterH held n k).hand < (KM.iterH held n k).frames.length:=fun n=>(TK n).right.hand
   have HPS : Hid (∀ V S' n,Km lo mb tt X V S' (KM.iterH held n k) -> Ch S w S' V -> Calls Tryz.prog 188 #[.pointer (some ⟨mb,0,none⟩),.int .i64 (KM.iterH held n k).hand,.slice ah held.length ch] V (OutS lo mb tt X V S' (.bool (KM.passB held (KM.iterH held n k))) (passK held (KM.iterH held n k) (KM.iterH held n k).hand.toNat))):=fun V S' n hV hc=>by
    have e : (((KM.iterH held n k).hand.toNat : Nat) : Int) = (KM.iterH held n k).hand:=by have:=hhd n;omega
    have:=passed_any (KM.iterH held n k) S' V (KM.iterH held n k).hand.toNat held ah ch hV (by have:=hhd n;omega) (hH.ch hc).has (by omega)
    rw [e] at this
    exact this
   have HMV : Hid (∀ V S' n,Km lo mb tt X V S' (passK held (KM.iterH held n k) (KM.iterH held n k).hand.toNat) -> Calls Tryz.prog 189 #[.pointer (some ⟨mb,0,none⟩)] V (OutS lo mb tt X V S' (.tuple #[]) (KM.iterH held (n + 1) k))):=fun V S' n hV=>by
    have hpk : (passK held (KM.iterH held n k) (KM.iterH held n k).hand.toNat).frames.length = (KM.iterH held n k).frames.length /\ (passK held (KM.iterH held n k) (KM.iterH held n k).hand.toNat).hand = (KM.iterH held n k).hand:=by
     unfold passK
     split
     · exact ⟨rfl,rfl⟩
     · exact ⟨List.length_set,rfl⟩
    have:=moveHand_any (passK held (KM.iterH held n k) (KM.iterH held n k).hand.toNat) S' V hV (by rw [hpk.1,hpk.2];exact hhd n) (by rw [hpk.1,hnf];omega)
    rw [pass_step (hhd n)] at this
    exact this
   have HST : Hid (∀ V S',Km lo mb tt X V S' (passK held (KM.iterH held T k) (KM.iterH held T k).hand.toNat) -> Km lo mb tt X V S' (KM.iterH held T k)):=fun V S' hV=>by
    have e : (((KM.iterH held T k).hand.toNat : Nat) : Int) = (KM.iterH held T k).hand:=by have:=hhd T;omega
    rw [pass_no (by rw [e];exact hstop) (by have:=hhd T;omega)] at hV
    exact hV
   have HPA : Hid (∀ V S',Km lo mb tt X V S' (KM.iterH held T k) -> Calls Tryz.prog 190 #[.pointer (some ⟨mb,0,none⟩),.int .i64 (KM.iterH held T k).hand] V (OutM lo mb tt X V S' (.tuple #[]) (KM.asideK (KM.iterH held T k) (KM.iterH held T k).hand.toNat))):=fun V S' hV=>by
    have e : (((KM.iterH held T k).hand.toNat : Nat) : Int) = (KM.iterH held T k).hand:=by have:=hhd T;omega
    have:=putAside_any (KM.iterH held T k) S' V (KM.iterH held T k).hand.toNat hV (TK T).right (by have:=hhd T;omega) ((TK T).full _ (by have:=hhd T;omega))
    rw [e] at this
    exact this
   have hasd:=KM.aside_frames (KM.iterH held T k) (KM.iterH held T k).hand.toNat
   have HM2 : Hid (∀ V S',Km lo mb tt X V S' (KM.asideK (KM.iterH held T k) (KM.iterH held T k).hand.toNat) -> Calls Tryz.prog 189 #[.pointer (some ⟨mb,0,none⟩)] V (OutS lo mb tt X V S' (.tuple #[]) { KM.asideK (KM.iterH held T k) (KM.iterH held T k).hand.toNat with hand:=KM.nextH (KM.iterH held T k) })):=fun V S' hV=>by
    have hlen : (KM.asideK (KM.iterH held T k) (KM.iterH held T k).hand.toNat).frames.length = (KM.iterH held T k).frames.length:=by rw [hasd.1,List.length_set]
    have:=moveHand_any _ S' V hV (by rw [hlen,hasd.2];exact hhd T) (by rw [hlen,hnf];omega)
    have e : KM.nextH (KM.asideK (KM.iterH held T k) (KM.iterH held T k).hand.toNat) = KM.nextH (KM.iterH held T k):=by
     unfold KM.nextH
     rw [hlen,hasd.2]
    rw [e] at this
    exact this
   have HHD : Hid (∀ V S' n,Km lo mb tt X V S' (KM.iterH held n k) -> V.cell? ⟨mb,4,none⟩ = some (.int .i64 (KM.iterH held n k).hand)):=fun V S' n hV=>hV.c4
   have HHI:=hideC (fun n=>hhd n)
   have HPP:=hideC hpass
   have HSS:=hideC hstop
   have HFIN : Hid (∀ V S',Km lo mb tt X V S' { KM.asideK (KM.iterH held T k) (KM.iterH held T k).hand.toNat with hand:=KM.nextH (KM.iterH held T k) } -> Ch S w S' V -> OutM lo mb tt X w S (.int .i64 ((KM.getK k held).1 : Int)) (KM.getK k held).2 (.returned (.int .i64 (KM.iterH held T k).hand)) V):=fun V S' h1 h2=>by
    rw [hg]
    refine ⟨?_,S',h1,h2⟩
    congr 2
    have:=hhd T
    show _ = (((KM.iterH held T k).hand.toNat : Nat) : Int)
    omega
   obtain ⟨P,hP⟩ : ∃ P,P = OutM lo mb tt X w S (.int .i64 ((KM.getK k held).1 : Int)) (KM.getK k held).2:=⟨_,rfl⟩
   rw [<- hP] at HFIN ⊢
   have HK0:=hideC h
   have hml:=h.lt
   clear hP hix hg hf hall hex h hR hcc A eF hrF hH TK hnf hhd hpass hstop hck hFull hasd hl
   go_enter Tryz.func165,Tryz.ntmps165
   go_wp2_with (go_at_call 187;refine HIX.out.mono ?_;rintro e w1 ⟨rfl,hb1⟩;have HB1:=hideC hb1;clear hb1)
   go_loopg [23] T (fun g _ wr=>∃ (n : Nat) (S' : St),n <= T /\ g = T - n /\ Km lo mb tt X wr S' (KM.iterH held n k) /\ Ch S w S' wr)
   case atStart=>exact ⟨0,S,by omega,by omega,HK0.out.below HB1.out,Ch.below HB1.out⟩
   case round =>
    obtain ⟨n,S',hn,hgk,hkm,hch⟩:=hrel
    have d4:=HHD.out wr S' n hkm
    have HPS2:=hideC (HPS.out wr S' n hkm hch)
    have HMV2:=hideC (fun V=>HMV.out V S' n)
    have HCH:=hideC hch
    have HGK:=hideC hgk
    clear hkm hch hgk HK0
    by_cases hlt : n < T
    · have hp:=HPP.out n hlt
      rw [hp] at HPS2
      obtain ⟨hd,hhd⟩ : ∃ hd,hd = (KM.iterH held n k).hand:=⟨_,rfl⟩
      rw [<- hhd] at d4 HPS2 HMV2
      clear hp hhd
      go_wp2_with (first
       | (go_at_call 188;refine HPS2.out.mono ?_;rintro e w2 ⟨rfl,hk2,hc2⟩;have HK2:=hideC hk2;have HC2:=hideC (HCH.out.trans hc2);clear hk2 hc2)
       | (go_at_call 189;refine (HMV2.out _ HK2.out).mono ?_;rintro e w3 ⟨rfl,hk3,hc3⟩;have HK3:=hideC hk3;have HC3:=hideC (HC2.out.trans hc3);clear hk3 hc3))
      go_roundg (T - (n + 1))
      case measure=>have:=HGK.out;omega
      case rel=>exact ⟨n + 1,S',by omega,by omega,HK3.out,HC3.out⟩
    · obtain rfl : n = T:=by omega
      have hp:=HSS.out
      rw [hp] at HPS2
      have HI:=hideC (HHI.out n)
      obtain ⟨IT,hIT⟩ : ∃ IT,IT = KM.iterH held n k:=⟨_,rfl⟩
      rw [<- hIT] at d4 HPS2 HST HPA HM2 HFIN
      have HHD3 : Hid (∀ V S',Km lo mb tt X V S' IT -> V.cell? ⟨mb,4,none⟩ = some (.int .i64 IT.hand)):=fun V S' hV=>hV.c4
      clear hp hIT HMV HMV2 HPS HHD HPP HSS HHI HI
      go_wp2_with (first
       | (go_at_call 188;refine HPS2.out.mono ?_;rintro e w2 ⟨rfl,hk2,hc2⟩;have hk2b:=HST.out _ _ hk2;have HK2:=hideC hk2b;have HC2:=hideC (HCH.out.trans hc2);have d5:=HHD3.out w2 S' hk2b;have hml2:=hk2b.lt;clear hk2 hc2 hk2b)
       | (go_at_call 190;refine (HPA.out _ _ HK2.out).mono ?_;rintro e w3 ⟨rfl,S3,hk3,hc3⟩;have HK3:=hideC hk3;have HC3:=hideC (HC2.out.trans hc3);clear hk3 hc3)
       | (have _:=HK3;go_at_call 189;refine (HM2.out _ _ HK3.out).mono ?_;rintro e w4 ⟨rfl,hk4,hc4⟩;have HK4:=hideC hk4;have HC4:=hideC (HC3.out.trans hc4);clear hk4 hc4))
      exact HFIN.out _ _ HK4.out HC4.out
end KX
namespace GZ
open Go.RowKit
section
variable {P : Program} {ops : Array Oper} {Q : Exit -> Act -> World -> Prop} {md : Region.Mode} {S : World -> Prop} {z : Nat}
def wpZ (P : Program) (md : Region.Mode) (ops : Array Oper) (Q : Exit -> Act -> World -> Prop) (S : World -> Prop) (z : Nat) : Nat -> Array Bool -> Act -> World -> Prop
 | 0,l,a,w=>Region.ready md ops l = [] /\ Q .normal a w
 | n + 1,l,a,w=>(Region.ready md ops l = [] -> Q .normal a w) /\ ∀ i ∈ Region.ready md ops l,wpOp P ops Q i (fun a' w'=>(i ≠ z -> S w') /\ wpZ P md ops Q S z n (l.setIfInBounds i true) a' w') a w
theorem to_any : ∀ (n : Nat) (l : Array Bool) (a : Act) (w : World),wpZ P md ops Q S z n l a w -> wpAny P md ops Q n l a w
 | 0,_,_,_,h=>h
 | n + 1,_,_,_,h=>⟨h.1,fun i hi=>wpOp_mono (fun a' w' g=>to_any n _ a' w' g.2) (h.2 i hi)⟩
theorem unlisted {l : Array Bool} {i : Nat} (h : l.getD i true = false) : l.getD i false = false:=by
 rcases Nat.lt_or_ge i l.size with g | g
 · simp [g] at h ⊢;exact h
 · simp [Array.getElem?_eq_none g] at h
theorem first {i : Nat} {oi : Oper} {v : Value} (hi : ops[i]? = some oi) (hsel : ∀ (j : Nat) (o : Oper) cs b,ops[j]? = some o -> o.op ≠ .select cs b)
  (hQ : ∀ c a w,Q (.panic c) (a.put oi.dst v) w -> Q (.panic c) a w) (hz : ∀ oz,ops[z]? = some oz -> ∃ e ∈ oz.after,Region.binds md e = true /\ e.on = i) :
  ∀ (n : Nat) (l : Array Bool) (a : Act) (w : World),(∀ j oj,ops[j]? = some oj -> j ≠ i -> l.getD j true = false -> (∀ e ∈ oj.after,Region.binds md e = true -> e.on ≠ i) -> oi.apart ops oj = true) ->
   i ∈ Region.ready md ops l -> YieldsIf P ops S oi v a -> S w -> wpZ P md ops Q S z n (l.setIfInBounds i true) (a.put oi.dst v) w -> wpZ P md ops Q S z (n + 1) l a w:=by
 intro n
 induction n with
 | zero =>
  intro l a w _ hr hy hS H
  refine ⟨fun g=>absurd hr (by rw [g];exact List.not_mem_nil),fun j hj=>?_⟩
  by_cases c : j = i
  · subst c
    exact hy.wpOp hi hS ⟨fun _=>hS,H⟩
  · have g:=ready_mono hj c
    rw [H.1] at g
    exact absurd g List.not_mem_nil
 | succ n ih =>
  intro l a w hf hr hy hS H
  refine ⟨fun g=>absurd hr (by rw [g];exact List.not_mem_nil),fun j hj=>?_⟩
  by_cases c : j = i
  · subst c
    exact hy.wpOp hi hS ⟨fun _=>hS,H⟩
  · obtain ⟨hu,oj,hoj,hall⟩:=mem_ready.1 hj
    have hiu:=unlisted (mem_ready.1 hr).1
    have hno : ∀ e ∈ oj.after,Region.binds md e = true -> e.on ≠ i:=fun e he hb g=>by
     have:=hall e he hb
     rw [g,hiu] at this
     cases this
    have hjz : j ≠ z:=fun g=>by
     subst g
     obtain ⟨e,he,hb,ho⟩:=hz oj hoj
     exact hno e he hb ho
    have h2:=wpOp_putIf hoj (hf j oj hoj c hu hno) (fun cs b=>hsel i oi cs b hi) (fun cs b=>hsel j oj cs b hoj) hQ hy (H.2 j (ready_mono hj c))
    refine wpOp_mono (fun a' w' g=>⟨g.2.1,ih (l.setIfInBounds j true) a' w' (fun k ok hk hki hun hn=>hf k ok hk hki ?_ hn) (ready_mono hr (Ne.symm c)) g.1 (g.2.1 hjz) ?_⟩) h2
    · by_cases d : j = k
      · subst d;exact hu
      · rw [getD_set_ne true d] at hun;exact hun
    · rw [Array.setIfInBounds_comm _ _ c]
      exact g.2.2
def waits (md : Region.Mode) (ops : Array Oper) (z i : Nat) : Bool:=match ops[z]? with
 | none=>false
 | some o=>o.after.any (fun e=>Region.binds md e && e.on == i)
theorem waits_spec {i : Nat} (h : waits md ops z i = true) : ∀ oz,ops[z]? = some oz -> ∃ e ∈ oz.after,Region.binds md e = true /\ e.on = i:=fun oz ho=>by
 unfold waits at h
 rw [ho] at h
 simp only [Array.any_eq_true'] at h
 obtain ⟨e,he,h1⟩:=h
 simp only [Bool.and_eq_true,beq_iff_eq] at h1
 exact ⟨e,he,h1.1,h1.2⟩
theorem take {i : Nat} {oi : Oper} {v : Value} {n : Nat} {l : Array Bool} {a : Act} {w : World} (hi : ops[i]? = some oi)
  (hs : Region.noSelect ops = true) (hf : Region.free md ops l i = true) (hr : (Region.ready md ops l).contains i = true) (hw : waits md ops z i = true)
  (hQ : ∀ c a w,Q (.panic c) (a.put oi.dst v) w -> Q (.panic c) a w) (hy : YieldsIf P ops S oi v a) (hS : S w)
  (h : wpZ P md ops Q S z n (l.setIfInBounds i true) (a.put oi.dst v) w) : wpZ P md ops Q S z (n + 1) l a w :=
 first hi (Region.noSelect_spec hs) hQ (waits_spec hw) n l a w (Region.free_spec hi hf) (by simpa using hr) hy hS h
theorem tk (i : Nat) {oi : Oper} {n : Nat} {l : Array Bool} {a : Act} {w : World} (hS : S w) (v : Value) (hy : ∀ V,S V -> (execOp a.eval oi).run P V = .ok (.value v) V)
  (h : wpZ P md ops Q S z n (l.setIfInBounds i true) (a.put oi.dst v) w) (hi : ops[i]? = some oi:=by rfl) (hs : Region.noSelect ops = true:=by kernel_rfl) (hf : Region.free md ops l i = true:=by kernel_rfl) (hr : (Region.ready md ops l).contains i = true:=by kernel_rfl) (hw : waits md ops z i = true:=by kernel_rfl)
  (hwt : Region.wanted oi (yielded ops a.tmps) = true:=by rfl) (hQ : ∀ c a w,Q (.panic c) (a.put oi.dst v) w -> Q (.panic c) a w:=by exact fun _ _ _ h=>h) : wpZ P md ops Q S z (n + 1) l a w :=
 take hi hs hf hr hw hQ (Or.inl ⟨hwt,hy⟩) hS h
def AllZ (P : Program) (md : Region.Mode) (ops : Array Oper) (Q : Exit -> Act -> World -> Prop) (S : World -> Prop) (z n : Nat) (l : Array Bool) (a : Act) (w : World) (rs : List Nat) : Prop:=∀ i ∈ rs,wpOp P ops Q i (fun a' w'=>(i ≠ z -> S w') /\ wpZ P md ops Q S z n (l.setIfInBounds i true) a' w') a w
theorem AllZ.nil {n : Nat} {l : Array Bool} {a : Act} {w : World} : AllZ P md ops Q S z n l a w []:=fun _ h=>absurd h List.not_mem_nil
theorem AllZ.cons {n : Nat} {l : Array Bool} {a : Act} {w : World} {i : Nat} {o : Oper} {rs : List Nat} (ho : ops[i]? = some o)
  (h : ∀ K' : Act -> World -> Prop,Shut (∀ a w,(i ≠ z -> S w) -> wpZ P md ops Q S z n (l.setIfInBounds i true) a w -> K' a w) -> if Region.wanted o (yielded ops a.tmps) = true then Oper.wp P o a w K' Q else K' (a.put o.dst undef) w)
  (hs : AllZ P md ops Q S z n l a w rs) : AllZ P md ops Q S z n l a w (i :: rs):=fun j hj=>by
 rcases List.mem_cons.1 hj with g | g
 · subst g
   exact wpOp_step ho (fun K' hK=>h K' (fun a w h1 h2=>hK a w ⟨h1,h2⟩))
 · exact hs j g
theorem all {rs : List Nat} {n : Nat} {l : Array Bool} {a : Act} {w : World} (hr : Region.ready md ops l = rs) (hne : rs ≠ []) (h : AllZ P md ops Q S z n l a w rs) : wpZ P md ops Q S z (n + 1) l a w:=⟨fun g=>absurd (hr ▸ g) hne,hr ▸ h⟩
theorem done {l : Array Bool} {a : Act} {w : World} (hr : Region.ready md ops l = []) (h : Q .normal a w) : ∀ n,wpZ P md ops Q S z n l a w
 | 0=>⟨hr,h⟩
 | _ + 1=>⟨fun _=>h,by rw [hr];exact fun _ g=>absurd g List.not_mem_nil⟩
theorem begin_ {id : Nat} {a : Act} {w : World} (hm : P.follows .mixedOrders = true) (h : wpZ P .any ops Q S z ops.size (Array.replicate ops.size false) a w.drew) : (Code.region id ops true).wp P Q a w:=wp_region_any hm (to_any _ _ _ _ h)
end
end GZ
namespace KX
open Go.RowKit GK KO
open FW (hideC add_below)
open KW (cellFr cellSl cellEn HasRow KAt HasK cellsK aggEn cellI)
open KS (Lc cellLc lc0 lcAt blk SpOwn)
theorem put_none : ∀ (es : List KM.En) (e : KM.En),(∀ j,j < es.length -> (KM.enAt es j).page < e.page) -> KM.putE es e = es ++ [e]
 | [],e,_=>rfl
 | a :: r,e,h=>by
  unfold KM.putE
  rw [if_pos (show a.page < e.page from h 0 (Nat.zero_lt_succ _)),put_none r e (fun j hj=>h (j + 1) (Nat.succ_lt_succ hj))]
  rfl
theorem put_at : ∀ (es : List KM.En) (e : KM.En) (n : Nat),n < es.length -> (∀ j,j < n -> (KM.enAt es j).page < e.page) -> ¬ (KM.enAt es n).page < e.page -> KM.putE es e = if (KM.enAt es n).page = e.page then es.set n e else es.take n ++ e :: es.drop n
 | [],e,n,hn,_,_=>absurd hn (Nat.not_lt_zero _)
 | a :: r,e,0,hn,h,hnot=>by
  unfold KM.putE
  have hnot : ¬ a.page < e.page:=hnot
  rw [if_neg hnot]
  rfl
 | a :: r,e,n + 1,hn,h,hnot=>by
  unfold KM.putE
  rw [if_pos (show a.page < e.page from h 0 (Nat.zero_lt_succ _)),put_at r e n (Nat.lt_of_succ_lt_succ hn) (fun j hj=>h (j + 1) (Nat.succ_lt_succ hj)) hnot]
  show a :: (if (KM.enAt r n).page = e.page then _ else _) = if (KM.enAt r n).page = e.page then _ else _
  split <;> rfl
set_option maxHeartbeats 4000000 in
theorem enter1_any (e o : KM.En) (x : Nat) (w : World) (hx : w.cell? ⟨x,0,none⟩ = some (.int .i64 e.page)) :
  Calls Tryz.prog 191 #[.agg #[.int .i64 o.page,.int .i64 o.kind,.int .i64 o.loc],.pointer (some ⟨x,0,none⟩)] w fun r w'=>r = .returned (.bool (decide (e.page <= o.page))) /\ Below w.heap.size w w':=by
 obtain ⟨pg,kd,lc⟩:=o
 obtain ⟨epg,ekd,elc⟩:=e
 simp only at hx ⊢
 have hxl : x < w.heap.size:=World.block_lt_of_cell? w _ hx
 have xA : (w.alloc (.cells #[.int .i64 pg,.int .i64 kd,.int .i64 lc] 45)).cell? ⟨x,0,none⟩ = some (.int .i64 epg):=(Below.cell ((Below.refl w.heap.size w).alloc (Nat.le_refl _) _) (p:=⟨x,0,none⟩) hxl).trans hx
 have BN:=hideC (B.new w #[.int .i64 pg,.int .i64 kd,.int .i64 lc] 45)
 by_cases c : epg <= pg
 · rw [decide_eq_true c]
   go_enter Tryz.func191,Tryz.ntmps191
   go_wp2
   try go_region
   try go_wp2
   go_ret
   exact ⟨by simp,by first | exact (Below.refl _ _).alloc (Nat.le_refl _) _ | exact ((Below.refl _ _).alloc (Nat.le_refl _) _).drew⟩
 · rw [decide_eq_false c]
   go_enter Tryz.func191,Tryz.ntmps191
   go_wp2
   try go_region
   try go_wp2
   go_ret
   exact ⟨by simp,by first | exact (Below.refl _ _).alloc (Nat.le_refl _) _ | exact ((Below.refl _ _).alloc (Nat.le_refl _) _).drew⟩
theorem one_row (V : World) (e : KM.En) : (V.alloc (.cells #[.int .i64 e.page,.int .i64 e.kind,.int .i64 e.loc] 45)).ownsRow V.heap.size 45 3 (.slice (some ⟨V.heap.size,0,none⟩) 1 1) 1 ([e].flatMap cellEn) :=
 ⟨rfl,.inr ⟨V.heap.size,1,_,rfl,Nat.le_refl _,B.new V _ _,Nat.le_refl _,by unfold maxLen;omega,rfl,rfl⟩⟩
theorem Km.layE {lo mb : Nat} {tt : TypeId} {X : List Value} {w : World} {S : St} {k : KM.Kn} (h : Km lo mb tt X w S k) {j : Nat} (hj : j < k.spaces.length) {g n cap : Nat} (hv : (lcAt S.L j).vp = .slice (some ⟨g,0,none⟩) n cap) {i : Nat} (hi : i < (KM.spAt k.spaces j).ents.length) (e : KM.En) :
  Km lo mb tt X (((w.setCell ⟨g,i * 3,none⟩ (.int .i64 e.page)).setCell ⟨g,i * 3 + 1,none⟩ (.int .i64 e.kind)).setCell ⟨g,i * 3 + 2,none⟩ (.int .i64 e.loc)) S { k with spaces:=k.spaces.set j (KM.withE (KM.spAt k.spaces j) ((KM.spAt k.spaces j).ents.set i e)) } /\
  Ch S w S (((w.setCell ⟨g,i * 3,none⟩ (.int .i64 e.page)).setCell ⟨g,i * 3 + 1,none⟩ (.int .i64 e.kind)).setCell ⟨g,i * 3 + 2,none⟩ (.int .i64 e.loc)):=by
 have at1 : ∀ (ss : List KM.Sp) (es : List KM.En),j < ss.length -> KM.spAt (ss.set j (KM.withE (KM.spAt k.spaces j) es)) j = KM.withE (KM.spAt k.spaces j) es:=fun ss es hl=>by rw [KM.spAt_set _ _ _ _ hl,if_pos rfl]
 have m1:=h.setE hj hv hi (c:=0) (by omega) (e:=⟨e.page,(KM.enAt (KM.spAt k.spaces j).ents i).kind,(KM.enAt (KM.spAt k.spaces j).ents i).loc⟩) (u:=.int .i64 e.page) rfl
 have m2:=m1.1.setE (j:=j) (by show j < (List.set _ _ _).length;rw [List.length_set];exact hj) hv (i:=i) (by
  show i < (KM.spAt (List.set _ _ _) j).ents.length
  rw [at1 _ _ hj]
  show i < (List.set _ _ _).length
  rw [List.length_set];exact hi) (c:=1) (by omega) (e:=⟨e.page,e.kind,(KM.enAt (KM.spAt k.spaces j).ents i).loc⟩) (u:=.int .i64 e.kind) (by
  show _ = (cellEn (KM.enAt (KM.spAt (List.set _ _ _) j).ents i)).set 1 _
  rw [at1 _ _ hj]
  show _ = (cellEn ((List.set _ _ _).getD i KM.en0)).set 1 _
  rw [KM.getD_set_self _ _ _ _ hi]
  rfl)
 simp only [List.set_set,at1 _ _ hj] at m2
 have m2a : Km lo mb tt X ((w.setCell ⟨g,i * 3,none⟩ (.int .i64 e.page)).setCell ⟨g,i * 3 + 1,none⟩ (.int .i64 e.kind)) S { k with spaces:=k.spaces.set j (KM.withE (KM.spAt k.spaces j) ((KM.spAt k.spaces j).ents.set i ⟨e.page,e.kind,(KM.enAt (KM.spAt k.spaces j).ents i).loc⟩)) }:=by
  have:=m2.1
  unfold KM.withE at this ⊢
  simp only [List.set_set] at this ⊢
  exact this
 have m3:=m2a.setE (j:=j) (by show j < (List.set _ _ _).length;rw [List.length_set];exact hj) hv (i:=i) (by
  show i < (KM.spAt (List.set _ _ _) j).ents.length
  rw [at1 _ _ hj]
  show i < (List.set _ _ _).length
  rw [List.length_set];exact hi) (c:=2) (by omega) (e:=e) (u:=.int .i64 e.loc) (by
  show _ = (cellEn (KM.enAt (KM.spAt (List.set _ _ _) j).ents i)).set 2 _
  rw [at1 _ _ hj]
  show _ = (cellEn ((List.set _ _ _).getD i KM.en0)).set 2 _
  rw [KM.getD_set_self _ _ _ _ hi]
  rfl)
 simp only [List.set_set,at1 _ _ hj] at m3
 have m3a : Km lo mb tt X (((w.setCell ⟨g,i * 3,none⟩ (.int .i64 e.page)).setCell ⟨g,i * 3 + 1,none⟩ (.int .i64 e.kind)).setCell ⟨g,i * 3 + 2,none⟩ (.int .i64 e.loc)) S { k with spaces:=k.spaces.set j (KM.withE (KM.spAt k.spaces j) ((KM.spAt k.spaces j).ents.set i e)) }:=by
  have:=m3.1
  unfold KM.withE at this ⊢
  simp only [List.set_set] at this ⊢
  exact this
 exact ⟨m3a,(m1.2.trans m2.2).trans m3.2⟩
theorem frozen_kp {D : Nat -> Prop} {N : Nat} {w0 w1 V : World} {b o : Nat} (hV : Kp D w1 V) (hb : Below N w0 w1) (hl : b < N) (hl0 : b < w0.heap.size) (hn : ¬ D b) (h : w0.frozen? ⟨b,o,none⟩ = false) : V.frozen? ⟨b,o,none⟩ = false:=by
 have e1:=hb.block b hl
 have hl1 : b < w1.heap.size:=Nat.lt_of_lt_of_le hl0 hb.size
 have e2:=hV.block b hl1 hn
 unfold World.frozen? at h ⊢
 simp only [e2,e1]
 exact h
theorem HSN (w1 : World) (o : Obj) : Kp (fun _=>False) w1 ((w1.alloc o).drew):=(Kp.alloc _ _ o).trans (Kp.drew _ _) (fun _ _ g=>g)
theorem new_en (w1 : World) (e : KM.En) : ∀ i u,(cellEn e)[i]? = some u -> ((w1.alloc (.cells #[.int .i64 e.page,.int .i64 e.kind,.int .i64 e.loc] 45)).drew).cell? ((⟨w1.heap.size,0,none⟩ : Addr).add i) = some u:=fun i u hu=>B.news (C:=#[.int .i64 e.page,.int .i64 e.kind,.int .i64 e.loc]) (t:=45) (fr:=(0,0)) (B.new w1 _ _) i u hu
end KX
end Go.Proofs.YtpgifpeohlllfaaGreat
