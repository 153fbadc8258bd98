import Derived.Test.YtpgifpeohlllfaaGreatGJ29
import Derived.Test.YtpgifpeohlllfaaGreatGJ21
import Derived.Test.YtpgifpeohlllfaaGreatGJ08
import Derived.Test.YtpgifpeohlllfaaGreatGJ15
import Derived.Test.YtpgifpeohlllfaaGreatGJ04
set_option maxHeartbeats 20000000
set_option linter.unusedVariables false
set_option maxRecDepth 100000
set_option linter.unusedSimpArgs false
namespace Go.Proofs.YtpgifpeohlllfaaGreat
namespace KY
open Go.RowKit GK KO
open FW (hideC add_below)
open KW (cellFr cellSl cellEn HasRow KAt HasK cellsK aggEn cellI memK FitK)
open KS (Lc cellLc lc0 lcAt blk SpOwn)
open KX (FilX)
def CopyK : Prop:=∀ (k : KM.Kn) (a : KAt) (w : World),HasK w a k -> Small k -> Calls Tryz.prog 55 #[.agg (cellsK a k)] w (OutC w k)
def tailK (k : KM.Kn) : List Value:=KW.rowS (KW.fillG k.sheets k.sheets.length) 256
theorem fil_tail {k : KM.Kn} (hr : LM.riseB k.sheets = true) {hs : List LM.Sh} (h : KM.Same k.sheets hs) : FilX (tailK k) hs:=fun n hn=>by
 unfold tailK
 rw [KW.rowS_get _ n 256 hn,KW.fill_filled k.sheets hr n,KM.same_filled h]
theorem rise_fixes {hs : List LM.Sh} (h : LM.riseB hs = true) (i : Nat) (hi : i < hs.length) : (LM.shAt hs i).fixes.length <= 16:=by
 have all : ∀ n,LM.riseTo hs n = true -> ∀ i,i < n -> LM.sheetB (LM.shAt hs i) = true:=fun n=>by
  induction n with
  | zero=>intro _ i hi;omega
  | succ n ih =>
   intro hn i hi
   unfold LM.riseTo at hn
   rw [Bool.and_eq_true,Bool.and_eq_true] at hn
   by_cases c : i = n
   · rw [c];exact hn.2.1
   · exact ih hn.1 i (by omega)
 have hb:=all hs.length h i hi
 unfold LM.sheetB at hb
 rw [Bool.and_eq_true] at hb
 have:=LM.endTo_ge _ _ hb.2
 omega
theorem small_right {k : KM.Kn} (hR : KM.RightK k) (hF : FitK k) : Small k:=by
 have hc:=hR.c
 refine ⟨by omega,fun i hi=>?_,by omega,by omega,by omega,fun i hi=>?_,fun i hi=>by have:=KX.ents_few hR hi;omega⟩
 · have:=rise_fixes hR.rise i hi
   omega
 · have:=AM.good_len _ (hR.sp hi).areas
   omega
theorem km_of {lo mb : Nat} {w' V : World} {S : St} {k : KM.Kn} {hs : List LM.Sh} {k0 : KM.Kn} {a : KAt} (hr : Kr lo w' S (KM.withS k hs)) (hm : w'.heap[mb]? = some (.cells (memK a k0) 104 (0,0))) (hlb : lo <= mb) (hno : S.lab mb = .no) (ht : tailK k0 = tailK k)
  (hV : V = ((((w'.setCell ⟨mb,0,none⟩ S.vS).setCell ⟨mb,1,none⟩ S.vF).setCell ⟨mb,2,none⟩ S.vL).setCell ⟨mb,3,none⟩ S.vP).setCell ⟨mb,4,none⟩ (.int .i64 k.hand)) :
  Km lo mb 104 (tailK k) V ⟨fun b=>if b = mb then .head else S.lab b,S.vS,S.vF,S.vL,S.vP,S.L⟩ (KM.withS k hs):=by
 have kp : Kp (fun b=>b = mb) w' V:=by
  rw [hV]
  exact ((((Kp.set (fun b=>b = mb) w' ⟨mb,0,none⟩ _ rfl).trans (Kp.set (fun b=>b = mb) _ ⟨mb,1,none⟩ _ rfl) (fun _ _ g=>g)).trans (Kp.set (fun b=>b = mb) _ ⟨mb,2,none⟩ _ rfl) (fun _ _ g=>g)).trans (Kp.set (fun b=>b = mb) _ ⟨mb,3,none⟩ _ rfl) (fun _ _ g=>g)).trans (Kp.set (fun b=>b = mb) _ ⟨mb,4,none⟩ _ rfl) (fun _ _ g=>g)
 have r1:=hr.kp kp (fun b hb e=>hb (by rw [e];exact hno))
 have lb : ∀ b c,S.lab b = c -> c ≠ .no -> (if b = mb then Lb.head else S.lab b) = c:=fun b c e hc=>by
  rw [if_neg,e]
  intro x
  exact hc (by rw [<- e,x];exact hno)
 refine ⟨⟨fun b hb=>?_,r1.sheets,r1.fixes,r1.frames,r1.slots,r1.spaces,r1.len,r1.each,fun b hb=>lb b _ (r1.lS b hb) (by simp),fun i hi b hb=>lb b _ (r1.lX i hi b hb) (by simp),fun b hb=>lb b _ (r1.lF b hb) (by simp),fun b hb=>lb b _ (r1.lL b hb) (by simp),fun b hb=>lb b _ (r1.lP b hb) (by simp),fun i hi b hb=>lb b _ (r1.lA i hi b hb) (by simp),fun i hi b hb=>lb b _ (r1.lE i hi b hb) (by simp)⟩,?_,if_pos rfl⟩
 · by_cases c : b = mb
   · rw [c]
     exact ⟨hlb,Nat.lt_of_lt_of_le (B.isLt hm) kp.size⟩
   · have hb : (if b = mb then Lb.head else S.lab b) ≠ .no:=hb
     rw [if_neg c] at hb
     exact r1.bnd b hb
 · rw [hV,B.set (B.set (B.set (B.set (B.set hm 0 S.vS) 1 S.vF) 2 S.vL) 3 S.vP) 4 (.int .i64 k.hand)]
   unfold memK KW.memC
   rw [<- ht]
   congr 2
set_option maxHeartbeats 8000000 in
theorem own_any (hcp : CopyK) (k : KM.Kn) (a : KAt) (mb : Nat) (w : World) (hK : HasK w a k) (hsm : Small k) (hm : w.heap[mb]? = some (.cells (memK a k) 104 (0,0))) (lo : Nat) (hlo : lo <= mb) :
  Calls Tryz.prog 84 #[.pointer (some ⟨mb,0,none⟩)] w fun e w'=>e = .returned (.tuple #[]) /\ ∃ S hs,KM.Same k.sheets hs /\ Km lo mb 104 (tailK k) w' S (KM.withS k hs) /\ (∀ b,S.lab b ≠ .no -> b = mb ∨ w.heap.size <= b) /\ Kp (fun b=>b = mb) w w':=by
 have HCP:=hideC (hcp k a w hK hsm)
 have hml:=B.isLt hm
 have HM:=hideC hm
 have HFIN : Hid (∀ w1 S hs V,KM.Same k.sheets hs -> Kr w.heap.size w1 S (KM.withS k hs) -> Below w.heap.size w w1 -> V = ((((w1.setCell ⟨mb,0,none⟩ S.vS).setCell ⟨mb,1,none⟩ S.vF).setCell ⟨mb,2,none⟩ S.vL).setCell ⟨mb,3,none⟩ S.vP).setCell ⟨mb,4,none⟩ (.int .i64 k.hand) -> ∃ S hs,KM.Same k.sheets hs /\ Km lo mb 104 (tailK k) V S (KM.withS k hs) /\ (∀ b,S.lab b ≠ .no -> b = mb ∨ w.heap.size <= b) /\ Kp (fun b=>b = mb) w V):=fun w1 S hs V h1 h2 h3 h4=>by
  have hm1:=B.below HM.out h3 hml
  have hno : S.lab mb = .no:=Classical.not_not.1 fun x=>by have:=(h2.bnd mb x).1;omega
  have r1 : Kr lo w1 S (KM.withS k hs):=h2.mono (by omega)
  have m:=km_of r1 hm1 hlo hno rfl h4
  refine ⟨_,hs,h1,m,fun b hb=>?_,?_⟩
  · by_cases c : b = mb
    · exact .inl c
    · have hb : (if b = mb then Lb.head else S.lab b) ≠ .no:=hb
      rw [if_neg c] at hb
      exact .inr (h2.bnd b hb).1
  · have kp : Kp (fun b=>b = mb) w1 V:=by
     rw [h4]
     exact ((((Kp.set (fun b=>b = mb) w1 ⟨mb,0,none⟩ _ rfl).trans (Kp.set (fun b=>b = mb) _ ⟨mb,1,none⟩ _ rfl) (fun _ _ g=>g)).trans (Kp.set (fun b=>b = mb) _ ⟨mb,2,none⟩ _ rfl) (fun _ _ g=>g)).trans (Kp.set (fun b=>b = mb) _ ⟨mb,3,none⟩ _ rfl) (fun _ _ g=>g)).trans (Kp.set (fun b=>b = mb) _ ⟨mb,4,none⟩ _ rfl) (fun _ _ g=>g)
    exact (Kp.ofBelow h3).trans kp (fun _ _ g=>g)
 have HCP2 : Hid (Calls Tryz.prog 55 #[.agg (cellsK a k)] w fun e w'=>∃ S hs aS nS cS aF nF cF aL nL cL aP nP cP,S.vS = .slice aS nS cS /\ S.vF = .slice aF nF cF /\ S.vL = .slice aL nL cL /\ S.vP = .slice aP nP cP /\ KM.Same k.sheets hs /\ e = .returned (.agg #[.slice aS nS cS,.slice aF nF cF,.slice aL nL cL,.slice aP nP cP,.int .i64 k.hand]) /\ Kr w.heap.size w' S (KM.withS k hs) /\ Below w.heap.size w w'):=HCP.out.mono fun e w' ⟨S,hs,h1,h2,h3,h4⟩=>by
  obtain ⟨aS,cS,eS,_⟩:=row_form h3.sheets
  obtain ⟨aF,cF,eF,_⟩:=row_form h3.frames
  obtain ⟨aL,cL,eL,_⟩:=row_form h3.slots
  obtain ⟨aP,cP,eP,_⟩:=row_form h3.spaces
  exact ⟨S,hs,aS,_,cS,aF,_,cF,aL,_,cL,aP,_,cP,eS,eF,eL,eP,h1,by rw [h2,eS,eF,eL,eP],h3,h4⟩
 have c0 : w.cell? ⟨mb,0,none⟩ = some (.slice a.aS k.sheets.length a.cS):=B.cell hm 0 rfl
 have c1 : w.cell? ⟨mb,1,none⟩ = some (.slice a.aF k.frames.length a.cF):=B.cell hm 1 rfl
 have c2 : w.cell? ⟨mb,2,none⟩ = some (.slice a.aL k.slots.length a.cL):=B.cell hm 2 rfl
 have c3 : w.cell? ⟨mb,3,none⟩ = some (.slice a.aP k.spaces.length a.cP):=B.cell hm 3 rfl
 have c4 : w.cell? ⟨mb,4,none⟩ = some (.int .i64 k.hand):=B.cell hm 4 rfl
 have HCM : Hid (∀ V,Below w.heap.size w V -> (V.cell? ⟨mb,0,none⟩ = some (.slice a.aS k.sheets.length a.cS) /\ V.cell? ⟨mb,1,none⟩ = some (.slice a.aF k.frames.length a.cF) /\ V.cell? ⟨mb,2,none⟩ = some (.slice a.aL k.slots.length a.cL) /\ V.cell? ⟨mb,3,none⟩ = some (.slice a.aP k.spaces.length a.cP) /\ V.cell? ⟨mb,4,none⟩ = some (.int .i64 k.hand)) /\ V.frozen? ⟨mb,0,none⟩ = false /\ V.frozen? ⟨mb,1,none⟩ = false /\ V.frozen? ⟨mb,2,none⟩ = false /\ V.frozen? ⟨mb,3,none⟩ = false /\ V.frozen? ⟨mb,4,none⟩ = false):=fun V hb=>by
  have h1:=B.below HM.out hb hml
  exact ⟨⟨B.cell h1 0 rfl,B.cell h1 1 rfl,B.cell h1 2 rfl,B.cell h1 3 rfl,B.cell h1 4 rfl⟩,B.free h1 0,B.free h1 1,B.free h1 2,B.free h1 3,B.free h1 4⟩
 unfold cellsK at HCP2
 clear hm hK hsm HCP
 go_enter Tryz.func84,Tryz.ntmps84
 go_wp2_with (go_at_call 55;refine HCP2.out.mono ?_;rintro e w1 ⟨S,hs,aS,nS,cS,aF,nF,cF,aL,nL,cL,aP,nP,cP,eS,eF,eL,eP,hsame,rfl,hkr,hb1⟩;have HF1:=hideC (fun V=>HFIN.out w1 S hs V hsame hkr hb1);rw [eS,eF,eL,eP] at HF1;obtain ⟨⟨y0,y1,y2,y3,y4⟩,f0,f1,f2,f3,f4⟩:=HCM.out w1 hb1;clear hsame hkr hb1 eS eF eL eP)
 refine bodyPost_end (v:=.tuple #[]) (by simp [results,Tryz.results84,go_sem]) rfl ?_
 exact ⟨rfl,HF1.out _ rfl⟩
end KY
namespace KY
open Go.RowKit GK KO
open FW (hideC add_below)
open KW (cellFr cellSl cellEn HasRow KAt HasK cellsK aggEn cellI memK FitK liveK OutOpen)
open KS (Lc cellLc lc0 lcAt blk SpOwn)
open KX (FilX)
def forErr (k : KM.Kn) (sp size way : Int) (ways : List Int) : Int:=if liveK k sp ≠ 0 then liveK k sp else if ¬ (1 <= size /\ size <= 8) then 3 else if way ∈ ways then 0 else 10
def OutFor (w : World) (k : KM.Kn) (e : Ending) (w' : World) : Prop:=∃ mb S hs,e = .returned (.tuple #[.pointer (some ⟨mb,0,none⟩),.int .i64 0]) /\ KM.Same k.sheets hs /\ Km w.heap.size mb 104 (tailK k) w' S (KM.withS k hs) /\ Below w.heap.size w w'
theorem open_err {w : World} {a : KAt} {k : KM.Kn} {sp : Int} (h : Calls Tryz.prog 69 #[.agg (cellsK a k),.int .i64 sp] w (OutOpen w a k (liveK k sp))) (hc : liveK k sp ≠ 0) : Calls Tryz.prog 69 #[.agg (cellsK a k),.int .i64 sp] w fun e w'=>e = .returned (.tuple #[.pointer none,.int .i64 (liveK k sp)]) /\ Below w.heap.size w w':=h.mono fun e w' ⟨hb,hh⟩=>by
 rcases hh with ⟨h0,_⟩ | ⟨_,h1⟩
 · exact absurd h0 hc
 · exact ⟨h1,hb⟩
theorem open_ok {w : World} {a : KAt} {k : KM.Kn} {sp : Int} (h : Calls Tryz.prog 69 #[.agg (cellsK a k),.int .i64 sp] w (OutOpen w a k (liveK k sp))) (hc : liveK k sp = 0) : Calls Tryz.prog 69 #[.agg (cellsK a k),.int .i64 sp] w fun e w'=>∃ mb,e = .returned (.tuple #[.pointer (some ⟨mb,0,none⟩),.int .i64 0]) /\ w.heap.size <= mb /\ w'.heap[mb]? = some (.cells (memK a k) 104 (0,0)) /\ Below w.heap.size w w':=h.mono fun e w' ⟨hb,hh⟩=>by
 rcases hh with ⟨_,mb,h1,h2,h3⟩ | ⟨h0,_⟩
 · exact ⟨mb,h1,h2,h3,hb⟩
 · exact absurd hc h0
theorem live_right {k : KM.Kn} {sp : Int} (h : liveK k sp = 0) : KM.RightK k /\ 0 <= sp /\ sp.toNat < k.spaces.length /\ (KM.spAt k.spaces sp.toNat).live = true:=by
 unfold KW.liveK at h
 by_cases c : KM.checkK k = 0
 · rw [if_pos c] at h
   by_cases d : 0 <= sp /\ sp < (k.spaces.length : Int) /\ (KM.spAt k.spaces sp.toNat).live = true
   · exact ⟨(KM.check_iff k).1 c,d.1,by omega,d.2.2⟩
   · rw [if_neg d] at h;cases h
 · rw [if_neg c] at h;exact absurd h c
set_option maxHeartbeats 8000000 in
theorem openFor_err (k : KM.Kn) (a : KAt) (sp size way : Int) (ways : List Int) (aw : Option Addr) (cw : Nat) (w : World) (hK : HasK w a k) (hF : FitK k) (hsp : M.I64 sp) (hw : HasRow cellI 1 0 w aw ways) (hwl : ways.length <= 1000000) (hc : forErr k sp size way ways ≠ 0) :
  Calls Tryz.prog 51 #[.agg (cellsK a k),.int .i64 sp,.int .i64 size,.int .i64 way,.slice aw ways.length cw] w fun e w'=>e = .returned (.tuple #[.pointer none,.int .i64 (forErr k sp size way ways)]) /\ Below w.heap.size w w':=by
 have HOP:=hideC (fun V (hV : Below w.heap.size w V)=>KW.open_any k a sp V (hK.below hV) hF hsp)
 have HCT:=hideC (fun V (hV : Below w.heap.size w V)=>KW.containsI_any ways way aw cw V (hw.below hV) hwl)
 have HB0:=hideC ((Below.refl w.heap.size w).alloc (Nat.le_refl _) (.cells (cellsK a k) 27))
 have KB:=hideC (B.new w (cellsK a k) 27)
 obtain ⟨C,hC⟩ : ∃ C,C = forErr k sp size way ways:=⟨_,rfl⟩
 rw [<- hC] at hc ⊢
 obtain ⟨P,hP⟩ : ∃ P : Ending -> World -> Prop,P = fun e w'=>e = .returned (.tuple #[.pointer none,.int .i64 C]) /\ Below w.heap.size w w':=⟨_,rfl⟩
 have HE : Hid (∀ V,Below w.heap.size w V -> P (.returned (.tuple #[.pointer none,.int .i64 C])) V):=fun V hV=>by rw [hP];exact ⟨rfl,hV⟩
 rw [<- hP]
 clear hP
 unfold forErr at hC
 by_cases c1 : liveK k sp = 0
 · rw [if_neg (fun x=>x c1)] at hC
   have HO2:=hideC (fun V hV=>open_ok (HOP.out V hV) c1)
   by_cases c2 : 1 <= size /\ size <= 8
   · rw [if_neg (fun x=>x c2)] at hC
     have c3 : way ∉ ways:=fun x=>by rw [if_pos x] at hC;exact hc hC
     rw [if_neg c3] at hC
     subst hC
     rw [decide_eq_false c3] at HCT
     obtain ⟨g1,g2⟩:=c2
     clear HOP c1 c3 hK hF hsp hw hc
     unfold cellsK at HO2 HB0 KB ⊢
     go_enter Tryz.func51,Tryz.ntmps51
     go_wp2_with (first
      | (go_at_call 69;refine (HO2.out _ HB0.out).mono ?_;rintro e w1 ⟨mb,rfl,hm1,hm2,hb1⟩;have HB1:=hideC (add_below HB0.out hb1);clear hb1 hm2)
      | (go_at_call 95;refine (HCT.out _ HB1.out).mono ?_;rintro e w2 ⟨rfl,rfl⟩))
     exact HE.out _ HB1.out
   · rw [if_pos c2] at hC
     subst hC
     clear HOP HCT c1 hK hF hsp hw hc
     unfold cellsK at HO2 HB0 KB ⊢
     rcases (show size < 1 ∨ (1 <= size /\ 8 < size) by omega) with g | ⟨g1,g2⟩
     · go_enter Tryz.func51,Tryz.ntmps51
       go_wp2_with (go_at_call 69;refine (HO2.out _ HB0.out).mono ?_;rintro e w1 ⟨mb,rfl,hm1,hm2,hb1⟩;have HB1:=hideC (add_below HB0.out hb1);clear hb1 hm2)
       exact HE.out _ HB1.out
     · have g3 : ¬ size < 1:=by omega
       go_enter Tryz.func51,Tryz.ntmps51
       go_wp2_with (go_at_call 69;refine (HO2.out _ HB0.out).mono ?_;rintro e w1 ⟨mb,rfl,hm1,hm2,hb1⟩;have HB1:=hideC (add_below HB0.out hb1);clear hb1 hm2)
       exact HE.out _ HB1.out
 · rw [if_pos c1] at hC
   have HO2:=hideC (fun V hV=>open_err (HOP.out V hV) c1)
   rw [<- hC] at HO2
   have cb : (C != 0) = true:=by simpa using hc
   clear HOP HCT c1 hK hF hsp hw hc hC
   unfold cellsK at HO2 HB0 KB ⊢
   go_enter Tryz.func51,Tryz.ntmps51
   go_wp2_with (go_at_call 69;refine (HO2.out _ HB0.out).mono ?_;rintro e w1 ⟨rfl,hb1⟩;have HB1:=hideC (add_below HB0.out hb1);clear hb1)
   exact HE.out _ HB1.out
set_option maxHeartbeats 8000000 in
theorem openFor_ok (hcp : CopyK) (k : KM.Kn) (a : KAt) (sp size way : Int) (ways : List Int) (aw : Option Addr) (cw : Nat) (w : World) (hK : HasK w a k) (hF : FitK k) (hsp : M.I64 sp) (hw : HasRow cellI 1 0 w aw ways) (hwl : ways.length <= 1000000) (hc : forErr k sp size way ways = 0) :
  Calls Tryz.prog 51 #[.agg (cellsK a k),.int .i64 sp,.int .i64 size,.int .i64 way,.slice aw ways.length cw] w (OutFor w k):=by
 have c1 : liveK k sp = 0:=by
  unfold forErr at hc
  by_cases c : liveK k sp = 0
  · exact c
  · rw [if_pos c] at hc;exact absurd hc c
 have c2 : 1 <= size /\ size <= 8:=by
  unfold forErr at hc
  rw [if_neg (fun x=>x c1)] at hc
  by_cases c : 1 <= size /\ size <= 8
  · exact c
  · rw [if_pos c] at hc;cases hc
 have c3 : way ∈ ways:=by
  unfold forErr at hc
  rw [if_neg (fun x=>x c1),if_neg (fun x=>x c2)] at hc
  by_cases c : way ∈ ways
  · exact c
  · rw [if_neg c] at hc;cases hc
 have hR:=(live_right c1).1
 have hsm:=small_right hR hF
 have HO2:=hideC (fun V (hV : Below w.heap.size w V)=>open_ok (KW.open_any k a sp V (hK.below hV) hF hsp) c1)
 have HCT:=hideC (fun V (hV : Below w.heap.size w V)=>KW.containsI_any ways way aw cw V (hw.below hV) hwl)
 rw [decide_eq_true c3] at HCT
 have HB0:=hideC ((Below.refl w.heap.size w).alloc (Nat.le_refl _) (.cells (cellsK a k) 27))
 have KB:=hideC (B.new w (cellsK a k) 27)
 have HOW : Hid (∀ V mb,Below w.heap.size w V -> w.heap.size <= mb -> V.heap[mb]? = some (.cells (memK a k) 104 (0,0)) -> Calls Tryz.prog 84 #[.pointer (some ⟨mb,0,none⟩)] V fun e w'=>e = .returned (.tuple #[]) /\ OutFor w k (.returned (.tuple #[.pointer (some ⟨mb,0,none⟩),.int .i64 0])) w'):=fun V mb hV hm1 hm2=>(own_any hcp k a mb V (hK.below hV) hsm hm2 w.heap.size hm1).mono fun e w' ⟨h1,S,hs,h2,h3,h4,h5⟩=>⟨h1,mb,S,hs,rfl,h2,h3,Kp.below hV h5 hV.size (fun b e=>by omega)⟩
 obtain ⟨P,hP⟩ : ∃ P,P = OutFor w k:=⟨_,rfl⟩
 rw [<- hP] at HOW ⊢
 obtain ⟨g1,g2⟩:=c2
 clear c1 c3 hK hF hsp hw hc hR hsm hP
 unfold cellsK at HO2 HB0 KB ⊢
 go_enter Tryz.func51,Tryz.ntmps51
 go_wp2_with (first
  | (go_at_call 69;refine (HO2.out _ HB0.out).mono ?_;rintro e w1 ⟨mb,rfl,hm1,hm2,hb1⟩;have HB1:=hideC (add_below HB0.out hb1);have HM2:=hideC hm2;have HM1 : Hid (w.heap.size <= mb):=(by simp at hm1;exact Nat.le_trans (by omega) hm1);clear hb1 hm2 hm1)
  | (go_at_call 95;refine (HCT.out _ HB1.out).mono ?_;rintro e w2 ⟨rfl,rfl⟩)
  | (go_at_call 84;refine (HOW.out _ _ HB1.out HM1.out HM2.out).mono ?_;rintro e w3 ⟨rfl,hq⟩;have HQ:=hideC hq;clear hq))
 exact HQ.out
end KY
namespace KZ
open Go.RowKit GK KO
open FW (hideC add_below)
open KW (cellFr cellSl cellEn HasRow KAt HasK cellsK aggEn cellI memK FitK liveK OutOpen)
open KS (Lc cellLc lc0 lcAt blk SpOwn)
open KX (FilX Held ids)
open KY (CopyK tailK forErr OutFor)
def kn0 : KM.Kn:=⟨[],[],[],[],0⟩
def st0 : St:=⟨fun _=>.no,.slice none 0 0,.slice none 0 0,.slice none 0 0,.slice none 0 0,[]⟩
def OutKn (w : World) (k : KM.Kn) (vs : List Value) (e : Ending) (w' : World) : Prop:=∃ S hs,KM.Same k.sheets hs /\ e = .returned (.tuple (Value.agg #[S.vS,S.vF,S.vL,S.vP,.int .i64 k.hand] :: vs).toArray) /\ Kr w.heap.size w' S (KM.withS k hs) /\ Below w.heap.size w w'
theorem kr_none (lo : Nat) (w : World) : Kr lo w st0 kn0:=by
 refine ⟨fun b hb=>absurd rfl hb,World.ownsRow_nil _ _ _ _,fun i hi=>?_,World.ownsRow_nil _ _ _ _,World.ownsRow_nil _ _ _ _,World.ownsRow_nil _ _ _ _,rfl,fun i hi=>?_,fun b hb=>?_,fun i hi=>?_,fun b hb=>?_,fun b hb=>?_,fun b hb=>?_,fun i hi=>?_,fun i hi=>?_⟩
 all_goals first | cases hb | cases hi
theorem out_none {w w' : World} (vs : List Value) (hb : Below w.heap.size w w') : OutKn w kn0 vs (.returned (.tuple (Value.agg #[.slice none 0 0,.slice none 0 0,.slice none 0 0,.slice none 0 0,.int .i64 0] :: vs).toArray)) w':=⟨st0,[],rfl,rfl,kr_none _ _,hb⟩
theorem for_parts {k : KM.Kn} {sp size way : Int} {ways : List Int} (h : forErr k sp size way ways = 0) : liveK k sp = 0 /\ (1 <= size /\ size <= 8) /\ way ∈ ways:=by
 unfold KY.forErr at h
 by_cases c1 : liveK k sp = 0
 · rw [if_neg (fun x=>x c1)] at h
   by_cases c2 : 1 <= size /\ size <= 8
   · rw [if_neg (fun x=>x c2)] at h
     by_cases c3 : way ∈ ways
     · exact ⟨c1,c2,c3⟩
     · rw [if_neg c3] at h;cases h
   · rw [if_pos c2] at h;cases h
 · rw [if_pos c1] at h;exact absurd h c1
theorem ret7 {W : World} {rb fb : Nat} (hr : W.heap[rb]? = some (.cells #[.slice none 0 0,.slice none 0 0,.slice none 0 0,.slice none 0 0,.int .i64 0] 27 (0,0))) (hf : W.heap[fb]? = some (.cells #[.int .i64 0,.int .i64 0] 36 (0,0))) (hne : rb ≠ fb) (s f l p h x y : Value) {V : World} (hV : V = ((((((W.setCell ⟨rb,0,none⟩ s).setCell ⟨rb,1,none⟩ f).setCell ⟨rb,2,none⟩ l).setCell ⟨rb,3,none⟩ p).setCell ⟨rb,4,none⟩ h).setCell ⟨fb,0,none⟩ x).setCell ⟨fb,1,none⟩ y) :
  V.heap[rb]? = some (.cells #[s,f,l,p,h] 27 (0,0)) /\ V.heap[fb]? = some (.cells #[x,y] 36 (0,0)) /\ Kp (fun b=>b = rb ∨ b = fb) W V:=by
 have h1 : (((((W.setCell ⟨rb,0,none⟩ s).setCell ⟨rb,1,none⟩ f).setCell ⟨rb,2,none⟩ l).setCell ⟨rb,3,none⟩ p).setCell ⟨rb,4,none⟩ h).heap[rb]? = some (.cells #[s,f,l,p,h] 27 (0,0)):=B.set (B.set (B.set (B.set (B.set hr 0 s) 1 f) 2 l) 3 p) 4 h
 have hne' : fb ≠ rb:=fun e=>hne e.symm
 have h2:=B.other (B.other (B.other (B.other (B.other hf rb 0 s hne') rb 1 f hne') rb 2 l hne') rb 3 p hne') rb 4 h hne'
 subst hV
 refine ⟨B.other (B.other h1 fb 0 x hne) fb 1 y hne,B.set (B.set h2 0 x) 1 y,?_⟩
 have k : ∀ (A : World) (g j : Nat) (v : Value),g = rb ∨ g = fb -> Kp (fun b=>b = rb ∨ b = fb) A (A.setCell ⟨g,j,none⟩ v):=fun A g j v hg=>Kp.set _ A ⟨g,j,none⟩ v hg
 exact ((((((k _ _ _ _ (.inl rfl)).trans (k _ _ _ _ (.inl rfl)) (fun _ _ g=>g)).trans (k _ _ _ _ (.inl rfl)) (fun _ _ g=>g)).trans (k _ _ _ _ (.inl rfl)) (fun _ _ g=>g)).trans (k _ _ _ _ (.inl rfl)) (fun _ _ g=>g)).trans (k _ _ _ _ (.inr rfl)) (fun _ _ g=>g)).trans (k _ _ _ _ (.inr rfl)) (fun _ _ g=>g)
end KZ
namespace KX
open Go.RowKit GK KO
open FW (hideC add_below)
open KW (cellFr cellSl cellEn HasRow KAt HasK cellsK aggEn cellI entryN)
open KS (Lc cellLc lc0 lcAt blk SpOwn)
theorem ids_len (l : List Nat) : (ids l).length = l.length:=by unfold ids;rw [List.length_map]
theorem ids_at (l : List Nat) (n : Nat) (hn : n < l.length) : KW.itAt (ids l) n = ((l.getD n 0 : Nat) : Int):=by
 unfold KW.itAt ids
 rw [List.getD_eq_getElem?_getD,List.getElem?_map,List.getD_eq_getElem?_getD,List.getElem?_eq_getElem hn]
 rfl
set_option maxHeartbeats 8000000 in
theorem join_any {lo mb : Nat} {tt : TypeId} {X : List Value} (k : KM.Kn) (S : St) (w : World) (l : List Nat) (av : Option Addr) (cv : Nat) (h : Km lo mb tt X w S k) (hH : Held w S av (ids l)) (hl : ∀ n,n < l.length -> l.getD n 0 < k.frames.length) (hll : l.length <= 2) (hsz : ∀ n,n < l.length -> (KM.frAt k.frames (l.getD n 0)).data.size <= 1000) (hnf : 0 < k.frames.length) :
  Calls Tryz.prog 64 #[.pointer (some ⟨mb,0,none⟩),.slice av l.length cv] w fun e w'=>e = .returned (.string (KM.joinTo k.frames l l.length)) /\ w' = w:=by
 obtain ⟨fb,cF,A⟩:=h.toKr.fr hnf
 have c1:=h.c1
 rw [A.v] at c1
 have HX:=hideC A.x0
 have HH:=hideC hH.has
 have HL:=hideC hl
 have HSZ:=hideC hsz
 have HJB : Hid (∀ n,n <= l.length -> (KM.joinTo k.frames l n).size <= n * 1000):=fun n=>by
  induction n with
  | zero=>intro _;exact Nat.zero_le _
  | succ n ih =>
   intro hn
   unfold KM.joinTo
   rw [ByteArray.size_append]
   have:=ih (by omega)
   have:=hsz n (by omega)
   omega
 obtain ⟨nf,hnf2⟩ : ∃ nf,nf = k.frames.length:=⟨_,rfl⟩
 rw [<- hnf2] at c1 HX HL
 clear h hH A hl hsz hnf hnf2
 go_enter Tryz.func64,Tryz.ntmps64
 go_wp2
 go_loopw [5,10] (fun dv iv wr=>∃ n : Nat,n <= l.length /\ iv = .int .i64 (n : Int) /\ dv = .string (KM.joinTo k.frames l n) /\ wr = w) (fun _ iv _=>l.length - (intOf iv).toNat)
 case atStart=>exact ⟨0,by omega,rfl,rfl,rfl⟩
 case round =>
  obtain ⟨n,hn,rfl,rfl,rfl⟩:=hrel
  by_cases hlt : n < l.length
  · have hni : (n : Int) < (l.length : Int):=by omega
    have hjb:=HJB.out n hn
    have hs1:=HSZ.out n hlt
    obtain ⟨eb,eo,hao,hbl,hlie⟩:=HH.out (by rw [ids_len];omega)
    subst hao
    have y0:=hlie n (by rw [ids_len];exact hlt) 0 (by omega)
    rw [Nat.add_zero,Nat.mul_one] at y0
    have e0:=ids_at l n hlt
    have x0 : wr.cell? ⟨eb,eo + n,none⟩ = some (.int .i64 ((l.getD n 0 : Nat) : Int)):=by
     rw [<- e0];exact y0
    have hq:=HL.out n hlt
    have xF:=HX.out (l.getD n 0) hq
    have HNX : Hid (KM.joinTo k.frames l (n + 1) = KM.joinTo k.frames l n ++ (KM.frAt k.frames (l.getD n 0)).data):=rfl
    obtain ⟨q,hqe⟩ : ∃ q,q = l.getD n 0:=⟨_,rfl⟩
    rw [<- hqe] at x0 xF HNX hq hs1
    obtain ⟨FD,hFD⟩ : ∃ FD,FD = (KM.frAt k.frames q).data:=⟨_,rfl⟩
    rw [<- hFD] at xF HNX hs1
    obtain ⟨JD,hJD⟩ : ∃ JD,JD = KM.joinTo k.frames l n:=⟨_,rfl⟩
    rw [<- hJD] at HNX hjb ⊢
    have hqi : (q : Int) < (nf : Int):=by omega
    clear hlie y0 e0 hqe hFD hJD
    go_wp2
    go_roundw
    case rel=>exact ⟨n + 1,by omega,by go_num,by rw [HNX.out],trivial⟩
    case measure=>simp [intOf];omega
  · obtain rfl : n = l.length:=by omega
    go_wp2
    go_ret
    exact ⟨rfl,rfl⟩
theorem part_nf (k : KM.Kn) (l : List Nat) (s : ByteArray) : ∀ n,(KM.partTo k l s n).frames.length = k.frames.length
 | 0=>rfl
 | n + 1=>by
  unfold KM.partTo KM.layD
  show (List.set _ _ _).length = _
  rw [List.length_set,part_nf k l s n]
set_option maxHeartbeats 16000000 in
theorem part_any {lo mb : Nat} {tt : TypeId} {X : List Value} (k : KM.Kn) (S : St) (w : World) (l : List Nat) (s : ByteArray) (av : Option Addr) (cv : Nat) (h : Km lo mb tt X w S k) (hH : Held w S av (ids l)) (hl : ∀ n,n < l.length -> l.getD n 0 < k.frames.length) (hll : l.length <= 2) (hs : l.length * 16 <= s.size) (hs2 : s.size <= 1000) (hnf : 0 < k.frames.length) :
  Calls Tryz.prog 66 #[.pointer (some ⟨mb,0,none⟩),.slice av l.length cv,.string s] w (OutS lo mb tt X w S (.tuple #[]) (KM.partTo k l s l.length)):=by
 have HH:=hideC hH
 have HL:=hideC hl
 have HRD : Hid (∀ V n,n < l.length -> Km lo mb tt X V S (KM.partTo k l s n) -> ∃ fb cF,¬ mb = fb /\ V.cell? ⟨mb,1,none⟩ = some (.slice (some ⟨fb,0,none⟩) k.frames.length cF) /\ (∀ V',Below V.heap.size V V' -> V'.cell? ⟨fb,l.getD n 0 * 4,none⟩ = some (.string (KM.frAt (KM.partTo k l s n).frames (l.getD n 0)).data) /\ V'.frozen? ⟨fb,l.getD n 0 * 4,none⟩ = false /\ Km lo mb tt X (V'.setCell ⟨fb,l.getD n 0 * 4,none⟩ (.string (s.extract (n * 16) (n * 16 + 16)))) S (KM.partTo k l s (n + 1)) /\ Ch S V S (V'.setCell ⟨fb,l.getD n 0 * 4,none⟩ (.string (s.extract (n * 16) (n * 16 + 16)))))):=fun V n hn hV=>by
  obtain ⟨fb,cF,A⟩:=hV.toKr.fr (by rw [part_nf];exact hnf)
  have c1:=hV.c1
  rw [A.v,part_nf] at c1
  refine ⟨fb,cF,fun e=>by have:=A.lab;rw [<- e,hV.lH] at this;simp at this,c1,fun V' hb=>?_⟩
  have hV':=hV.below hb
  obtain ⟨fb',cF',A'⟩:=hV'.toKr.fr (by rw [part_nf];exact hnf)
  have e : fb' = fb:=by
   have:=A'.v
   rw [A.v] at this
   injection this with e1 _ _
   injection e1 with e1
   injection e1 with e1 _ _
   exact e1.symm
  subst e
  have hi : l.getD n 0 < (KM.partTo k l s n).frames.length:=by rw [part_nf];exact hl n hn
  exact ⟨A'.x0 _ hi,A'.fz _,hV'.setF A'.v hi (j:=0) (by omega) rfl,(Ch.below hb).trans (chF hV'.toKr A'.v)⟩
 have HPA : Hid (∀ V n,n < l.length -> Calls Tryz.prog 63 #[.string s,.int .i64 ((n : Int) * 16),.int .i64 16] V fun e w'=>e = .returned (.tuple #[.string (s.extract (n * 16) (n * 16 + 16)),.int .i64 0]) /\ Below V.heap.size V w'):=fun V n hn=>by
  have:=CW.part_yes s (n * 16) 16 V (by omega) (by omega)
  rw [show ((n * 16 : Nat) : Int) = (n : Int) * 16 by omega,show ((16 : Nat) : Int) = 16 from rfl] at this
  exact this
 have HK0:=hideC h
 have HFIN : Hid (∀ V,Km lo mb tt X V S (KM.partTo k l s l.length) -> Ch S w S V -> OutS lo mb tt X w S (.tuple #[]) (KM.partTo k l s l.length) (.returned (.tuple #[])) V):=fun V h1 h2=>⟨rfl,h1,h2⟩
 obtain ⟨P,hP⟩ : ∃ P,P = OutS lo mb tt X w S (.tuple #[]) (KM.partTo k l s l.length):=⟨_,rfl⟩
 rw [<- hP] at HFIN ⊢
 obtain ⟨nf,hnf2⟩ : ∃ nf,nf = k.frames.length:=⟨_,rfl⟩
 rw [<- hnf2] at HRD HL
 clear h hH hl hnf hnf2 hs hs2 hP
 go_enter Tryz.func66,Tryz.ntmps66
 go_wp2
 go_loopw [10] (fun iv wr=>∃ n : Nat,n <= l.length /\ iv = .int .i64 (n : Int) /\ Km lo mb tt X wr S (KM.partTo k l s n) /\ Ch S w S wr) (fun iv _=>l.length - (intOf iv).toNat)
 case atStart=>exact ⟨0,by omega,rfl,HK0.out,Ch.refl _ _⟩
 case round =>
  obtain ⟨n,hn,rfl,hkm,hch⟩:=hrel
  by_cases hlt : n < l.length
  · have hni : (n : Int) < (l.length : Int):=by omega
    have hheld:=HH.out.ch hch
    obtain ⟨eb,eo,hao,hbl,hlie⟩:=hheld.has (by rw [ids_len];omega)
    subst hao
    have y0:=hlie n (by rw [ids_len];exact hlt) 0 (by omega)
    rw [Nat.add_zero,Nat.mul_one] at y0
    have e0:=ids_at l n hlt
    have x0 : wr.cell? ⟨eb,eo + n,none⟩ = some (.int .i64 ((l.getD n 0 : Nat) : Int)):=by
     rw [<- e0];exact y0
    have hq:=HL.out n hlt
    obtain ⟨fb,cF,hmf,c1,hwr⟩:=HRD.out wr n hlt hkm
    have HWR:=hideC hwr
    have HPA2:=hideC (fun V=>HPA.out V n hlt)
    have HCH:=hideC hch
    obtain ⟨q,hqe⟩ : ∃ q,q = l.getD n 0:=⟨_,rfl⟩
    rw [<- hqe] at x0 hq HWR
    obtain ⟨FD,hFD⟩ : ∃ FD,FD = (KM.frAt (KM.partTo k l s n).frames q).data:=⟨_,rfl⟩
    rw [<- hFD] at HWR
    obtain ⟨PD,hPD⟩ : ∃ PD,PD = s.extract (n * 16) (n * 16 + 16):=⟨_,rfl⟩
    rw [<- hPD] at HWR HPA2
    have hqi : (q : Int) < (nf : Int):=by omega
    have hml : mb < wr.heap.size:=World.block_lt_of_cell? wr _ c1
    have hmu : IntKind.i64.wrap ((n : Int) * 16) = (n : Int) * 16:=IntWalk.i64_in _ (by omega)
    clear hlie y0 e0 hqe hFD hPD hkm hch hwr hheld HK0
    go_upto_region 3 with fail
    have HK0:=hideC (Below.refl wr.heap.size wr).drew
    have HS0 : Hid (wr.drew.cell? ⟨mb,1,none⟩ = some (.slice (some ⟨fb,0,none⟩) nf cF)):=(HK0.out.cell (p:=⟨mb,1,none⟩) hml).trans c1
    go_region_held3 (fun V=>V.cell? ⟨mb,1,none⟩ = some (.slice (some ⟨fb,0,none⟩) nf cF)) (first | exact HS3.out | exact HS0.out | exact HS4.out)
     ((go_at_call 63;refine (HPA2.out _).mono ?_;rintro r w5 ⟨rfl,hb5⟩;have HK5:=hideC (HK0.out.trans (hb5.mono HK0.out.size));have HS3 : Hid (w5.cell? ⟨mb,1,none⟩ = some (.slice (some ⟨fb,0,none⟩) nf cF)):=(HK5.out.cell (p:=⟨mb,1,none⟩) hml).trans c1;have HS4 : Hid ((w5.setCell ⟨fb,q * 4,none⟩ (.string PD)).cell? ⟨mb,1,none⟩ = some (.slice (some ⟨fb,0,none⟩) nf cF)):=(cell_other _ _ _ _ _ _ hmf).trans HS3.out;obtain ⟨z0,z1,z2,z3⟩:=HWR.out w5 HK5.out;have HZ2:=hideC z2;have HZ3:=hideC z3;clear hb5 z2 z3))
    all_goals clear HS0 HS3 HS4 HPA2
    all_goals go_wp2
    go_roundw
    case rel=>exact ⟨n + 1,by omega,by go_num,HZ2.out,HCH.out.trans HZ3.out⟩
    case measure=>simp [intOf];omega
  · obtain rfl : n = l.length:=by omega
    have HX:=hideC (HFIN.out wr hkm hch)
    clear hkm hch
    go_wp2
    first
     | exact HX.out
     | (refine bodyPost_end (v:=.tuple #[]) (by simp [results,Tryz.results66,go_sem]) rfl ?_;exact HX.out)
end KX
namespace KZ
open Go.RowKit GK KO
open FW (hideC add_below)
open KW (cellFr cellSl cellEn HasRow KAt HasK cellsK aggEn cellI memK FitK liveK OutOpen)
open KS (Lc cellLc lc0 lcAt blk SpOwn)
open KX (FilX Held ids)
open KY (CopyK tailK forErr OutFor)
theorem ret5 {W : World} {rb : Nat} (hr : W.heap[rb]? = some (.cells #[.slice none 0 0,.slice none 0 0,.slice none 0 0,.slice none 0 0,.int .i64 0] 27 (0,0))) (s f l p h : Value) {V : World} (hV : V = ((((W.setCell ⟨rb,0,none⟩ s).setCell ⟨rb,1,none⟩ f).setCell ⟨rb,2,none⟩ l).setCell ⟨rb,3,none⟩ p).setCell ⟨rb,4,none⟩ h) :
  V.heap[rb]? = some (.cells #[s,f,l,p,h] 27 (0,0)) /\ Kp (fun b=>b = rb) W V:=by
 subst hV
 refine ⟨B.set (B.set (B.set (B.set (B.set hr 0 s) 1 f) 2 l) 3 p) 4 h,?_⟩
 have k : ∀ (A : World) (j : Nat) (v : Value),Kp (fun b=>b = rb) A (A.setCell ⟨rb,j,none⟩ v):=fun A j v=>Kp.set _ A ⟨rb,j,none⟩ v rfl
 exact ((((k _ _ _).trans (k _ _ _) (fun _ _ g=>g)).trans (k _ _ _) (fun _ _ g=>g)).trans (k _ _ _) (fun _ _ g=>g)).trans (k _ _ _) (fun _ _ g=>g)
end KZ
namespace KZ
open Go.RowKit GK KO
open KW (cellFr cellSl cellEn HasRow KAt HasK cellsK FitK)
open KY (Small)
theorem check_rise {l : List AM.Ar} {hs : List LM.Sh} {en : Int} (h : LM.checkL l hs en = 0) : AM.checkN l = 0 /\ LM.riseB hs = true /\ (hs.length : Int) = AM.totalN l:=by
 rw [LM.check_same] at h
 unfold LM.checkR at h
 by_cases c : AM.checkN l = 0
 · rw [if_pos c] at h
   by_cases d : (decide ((hs.length : Int) = AM.sumTo l l.length) && (LM.riseB hs && (LM.inTo l hs hs.length && LM.entB l en))) = true
   · simp only [Bool.and_eq_true,decide_eq_true_eq] at d
     refine ⟨c,d.2.1,?_⟩
     unfold AM.totalN
     rw [if_pos c]
     exact d.1
   · rw [if_neg d] at h;cases h
 · rw [if_neg c] at h;exact absurd h c
def newK (l : List AM.Ar) (hs : List LM.Sh) (nf ns : Int) : KM.Kn:=⟨hs,List.replicate nf.toNat KM.fr0,List.replicate ns.toNat KM.sl0,[⟨true,l,[]⟩],0⟩
def newA (l : List AM.Ar) (hs : List LM.Sh) (en nf ns : Int) : KM.Kn × Int:=if LM.checkL l hs en ≠ 0 then (kn0,LM.checkL l hs en) else if nf < 3 then (kn0,9) else if nf > 64 ∨ ns < 0 ∨ ns > 512 then (kn0,3) else if AM.totalN l > ns then (kn0,8) else (newK l hs nf ns,0)
def zf (n : Nat) : Array Value:=madeCells #[.string ⟨#[]⟩,.int .i64 0,.bool false,.bool false] (n * 4)
def zl (n : Nat) : Array Value:=madeCells #[.string ⟨#[]⟩,.int .i64 0] (n * 2)
theorem infoF : (Tryz.prog.info? 40).map (fun i=>(i.zero,i.size,i.bytes)) = some (some (.agg #[.string ⟨#[]⟩,.int .i64 0,.bool false,.bool false]),4,32):=by kernel_rfl
theorem infoL : (Tryz.prog.info? 86).map (fun i=>(i.zero,i.size,i.bytes)) = some (some (.agg #[.string ⟨#[]⟩,.int .i64 0]),2,24):=by kernel_rfl
theorem mkF (V : World) (n : Int) (h0 : 0 <= n) (hn : n <= 1000) : (Instr.makeSlice 23 (.int .i64 n) (.int .i64 n)).run Tryz.prog V = .ok (.slice (some ⟨V.heap.size,0,none⟩) n.toNat n.toNat) (V.alloc (.cells (zf n.toNat) 40)):=by
 obtain ⟨i0,hi,hz0,hz1,hz2⟩:=info_parts infoF
 have h:=run_make (P:=Tryz.prog) V 23 40 i0 _ Tryz.underlying23 hi hz0 .i64 .i64 n n h0 (Int.le_refl _) (by rw [hz2];omega) (by omega)
 rw [hz1] at h
 exact h
theorem mkL (V : World) (n : Int) (h0 : 0 <= n) (hn : n <= 1000) : (Instr.makeSlice 24 (.int .i64 n) (.int .i64 n)).run Tryz.prog V = .ok (.slice (some ⟨V.heap.size,0,none⟩) n.toNat n.toNat) (V.alloc (.cells (zl n.toNat) 86)):=by
 obtain ⟨i0,hi,hz0,hz1,hz2⟩:=info_parts infoL
 have h:=run_make (P:=Tryz.prog) V 24 86 i0 _ Tryz.underlying24 hi hz0 .i64 .i64 n n h0 (Int.le_refl _) (by rw [hz2];omega) (by omega)
 rw [hz1] at h
 exact h
theorem rep_at {α : Type} (x d : α) (n i : Nat) (hi : i < n) : (List.replicate n x).getD i d = x:=by
 rw [List.getD_eq_getElem?_getD,List.getElem?_replicate,if_pos hi];rfl
theorem made_at (c : Array Value) (n i j m : Nat) (hc : c.size = m) (hi : i < n) (hj : j < m) : (madeCells c (n * m))[i * m + j]? = c[j]?:=by
 have h1 : i * m + j < n * m:=by
  have : (i + 1) * m <= n * m:=Nat.mul_le_mul_right m hi
  rw [Nat.add_mul,Nat.one_mul] at this
  omega
 have h2 : (i * m + j) % m = j:=by rw [Nat.mul_comm,Nat.mul_add_mod,Nat.mod_eq_of_lt hj]
 have h3 : j < c.size:=by omega
 unfold madeCells
 simp [h1,hc,h2]
 rw [getElem!_pos c j h3,Array.getElem?_eq_getElem h3]
theorem has_new {W : World} {l : List AM.Ar} {hs : List LM.Sh} {nf ns : Nat} {va : Value} {ao : Option Addr} {cap fb sb pb : Nat} (ha : AW.Has W va l) (hh : LM.HasH W ao hs) (hf : W.heap[fb]? = some (.cells (zf nf) 40 (0,0))) (hl : W.heap[sb]? = some (.cells (zl ns) 86 (0,0))) (hp : W.heap[pb]? = some (.cells #[.bool true,va,.slice none 0 0] 43 (0,0))) :
  HasK W ⟨ao,cap,some ⟨fb,0,none⟩,nf,some ⟨sb,0,none⟩,ns,some ⟨pb,0,none⟩,1⟩ ⟨hs,List.replicate nf KM.fr0,List.replicate ns KM.sl0,[⟨true,l,[]⟩],0⟩:=by
 refine ⟨hh,fun _=>⟨fb,0,rfl,B.isLt hf,fun i hi j hj=>?_⟩,fun _=>⟨sb,0,rfl,B.isLt hl,fun i hi j hj=>?_⟩,fun _=>⟨pb,0,rfl,B.isLt hp,fun i hi=>?_⟩⟩
 · rw [List.length_replicate] at hi
   rw [rep_at _ _ _ _ hi]
   have e:=made_at #[.string ⟨#[]⟩,.int .i64 0,.bool false,.bool false] nf i j 4 rfl hi hj
   rw [Nat.zero_add]
   match j,hj with
   | 0,_=>exact B.cell hf _ e
   | 1,_=>exact B.cell hf _ e
   | 2,_=>exact B.cell hf _ e
   | 3,_=>exact B.cell hf _ e
   | j + 4,h=>exact absurd h (by omega)
 · rw [List.length_replicate] at hi
   rw [rep_at _ _ _ _ hi]
   have e:=made_at #[.string ⟨#[]⟩,.int .i64 0] ns i j 2 rfl hi hj
   rw [Nat.zero_add]
   match j,hj with
   | 0,_=>exact B.cell hl _ e
   | 1,_=>exact B.cell hl _ e
   | j + 2,h=>exact absurd h (by omega)
 · obtain rfl : i = 0:=by
    have : i < 1:=hi
    omega
   exact ⟨va,none,0,B.cell hp 0 rfl,B.cell hp 1 rfl,B.cell hp 2 rfl,ha,fun h=>absurd h (Nat.not_lt_zero _),Nat.le_refl _⟩
theorem new_small {l : List AM.Ar} {hs : List LM.Sh} {en : Int} (h : LM.checkL l hs en = 0) (nf ns : Nat) (hf : nf <= 1000) (hn : ns <= 1000) : Small ⟨hs,List.replicate nf KM.fr0,List.replicate ns KM.sl0,[⟨true,l,[]⟩],0⟩:=by
 obtain ⟨h1,h2,h3⟩:=check_rise h
 have h4:=KW.total_bd l
 have h5:=AM.good_len _ h1
 refine ⟨by show hs.length <= _;omega,fun i hi=>?_,by show (List.replicate nf KM.fr0).length <= _;rw [List.length_replicate];omega,by show (List.replicate ns KM.sl0).length <= _;rw [List.length_replicate];omega,by show 1 <= 1000000;omega,fun i hi=>?_,fun i hi=>?_⟩
 · have:=KY.rise_fixes h2 i hi
   show (LM.shAt hs i).fixes.length <= _
   omega
 · obtain rfl : i = 0:=by
    have : i < 1:=hi
    omega
   show l.length <= _
   omega
 · obtain rfl : i = 0:=by
    have : i < 1:=hi
    omega
   exact Nat.zero_le _
end KZ
end Go.Proofs.YtpgifpeohlllfaaGreat
