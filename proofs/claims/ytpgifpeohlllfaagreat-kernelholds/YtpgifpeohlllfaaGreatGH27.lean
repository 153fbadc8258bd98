import Derived.Test.YtpgifpeohlllfaaGreatGH26
set_option maxHeartbeats 20000000
set_option linter.unusedVariables false
set_option maxRecDepth 100000
set_option linter.unusedSimpArgs false
namespace Go.Proofs.YtpgifpeohlllfaaGreat
namespace KY
open Go.RowKit GK KO
open FW (hideC add_below)
open KW (cellFr cellSl cellEn HasRow KAt HasK cellsK aggEn cellI memK FitK)
open KS (Lc cellLc lc0 lcAt blk SpOwn)
open KX (FilX)
def CopyK : Prop:=∀ (k : KM.Kn) (a : KAt) (w : World),HasK w a k -> Small k -> Calls Tryz.prog 55 #[.agg (cellsK a k)] w (OutC w k)
def tailK (k : KM.Kn) : List Value:=KW.rowS (KW.fillG k.sheets k.sheets.length) 256
theorem fil_tail {k : KM.Kn} (hr : LM.riseB k.sheets = true) {hs : List LM.Sh} (h : KM.Same k.sheets hs) : FilX (tailK k) hs:=fun n hn=>by
 unfold tailK
 rw [KW.rowS_get _ n 256 hn,KW.fill_filled k.sheets hr n,KM.same_filled h]
theorem rise_fixes {hs : List LM.Sh} (h : LM.riseB hs = true) (i : Nat) (hi : i < hs.length) : (LM.shAt hs i).fixes.length <= 16:=by
 have all : ∀ n,LM.riseTo hs n = true -> ∀ i,i < n -> LM.sheetB (LM.shAt hs i) = true:=fun n=>by
  induction n with
  | zero=>intro _ i hi;omega
  | succ n ih =>
   intro hn i hi
   unfold LM.riseTo at hn
   rw [Bool.and_eq_true,Bool.and_eq_true] at hn
   by_cases c : i = n
   · rw [c];exact hn.2.1
   · exact ih hn.1 i (by omega)
 have hb:=all hs.length h i hi
 unfold LM.sheetB at hb
 rw [Bool.and_eq_true] at hb
 have:=LM.endTo_ge _ _ hb.2
 omega
theorem small_right {k : KM.Kn} (hR : KM.RightK k) (hF : FitK k) : Small k:=by
 have hc:=hR.c
 refine ⟨by omega,fun i hi=>?_,by omega,by omega,by omega,fun i hi=>?_,fun i hi=>by have:=KX.ents_few hR hi;omega⟩
 · have:=rise_fixes hR.rise i hi
   omega
 · have:=AM.good_len _ (hR.sp hi).areas
   omega
theorem km_of {lo mb : Nat} {w' V : World} {S : St} {k : KM.Kn} {hs : List LM.Sh} {k0 : KM.Kn} {a : KAt} (hr : Kr lo w' S (KM.withS k hs)) (hm : w'.heap[mb]? = some (.cells (memK a k0) 104 (0,0))) (hlb : lo <= mb) (hno : S.lab mb = .no) (ht : tailK k0 = tailK k)
  (hV : V = ((((w'.setCell ⟨mb,0,none⟩ S.vS).setCell ⟨mb,1,none⟩ S.vF).setCell ⟨mb,2,none⟩ S.vL).setCell ⟨mb,3,none⟩ S.vP).setCell ⟨mb,4,none⟩ (.int .i64 k.hand)) :
  Km lo mb 104 (tailK k) V ⟨fun b=>if b = mb then .head else S.lab b,S.vS,S.vF,S.vL,S.vP,S.L⟩ (KM.withS k hs):=by
 have kp : Kp (fun b=>b = mb) w' V:=by
  rw [hV]
  exact ((((Kp.set (fun b=>b = mb) w' ⟨mb,0,none⟩ _ rfl).trans (Kp.set (fun b=>b = mb) _ ⟨mb,1,none⟩ _ rfl) (fun _ _ g=>g)).trans (Kp.set (fun b=>b = mb) _ ⟨mb,2,none⟩ _ rfl) (fun _ _ g=>g)).trans (Kp.set (fun b=>b = mb) _ ⟨mb,3,none⟩ _ rfl) (fun _ _ g=>g)).trans (Kp.set (fun b=>b = mb) _ ⟨mb,4,none⟩ _ rfl) (fun _ _ g=>g)
 have r1:=hr.kp kp (fun b hb e=>hb (by rw [e];exact hno))
 have lb : ∀ b c,S.lab b = c -> c ≠ .no -> (if b = mb then Lb.head else S.lab b) = c:=fun b c e hc=>by
  rw [if_neg,e]
  intro x
  exact hc (by rw [<- e,x];exact hno)
 refine ⟨⟨fun b hb=>?_,r1.sheets,r1.fixes,r1.frames,r1.slots,r1.spaces,r1.len,r1.each,fun b hb=>lb b _ (r1.lS b hb) (by simp),fun i hi b hb=>lb b _ (r1.lX i hi b hb) (by simp),fun b hb=>lb b _ (r1.lF b hb) (by simp),fun b hb=>lb b _ (r1.lL b hb) (by simp),fun b hb=>lb b _ (r1.lP b hb) (by simp),fun i hi b hb=>lb b _ (r1.lA i hi b hb) (by simp),fun i hi b hb=>lb b _ (r1.lE i hi b hb) (by simp)⟩,?_,if_pos rfl⟩
 · by_cases c : b = mb
   · rw [c]
     exact ⟨hlb,Nat.lt_of_lt_of_le (B.isLt hm) kp.size⟩
   · have hb : (if b = mb then Lb.head else S.lab b) ≠ .no:=hb
     rw [if_neg c] at hb
     exact r1.bnd b hb
 · rw [hV,B.set (B.set (B.set (B.set (B.set hm 0 S.vS) 1 S.vF) 2 S.vL) 3 S.vP) 4 (.int .i64 k.hand)]
   unfold memK KW.memC
   rw [<- ht]
   congr 2
set_option maxHeartbeats 8000000 in
theorem own_any (hcp : CopyK) (k : KM.Kn) (a : KAt) (mb : Nat) (w : World) (hK : HasK w a k) (hsm : Small k) (hm : w.heap[mb]? = some (.cells (memK a k) 104 (0,0))) (lo : Nat) (hlo : lo <= mb) :
  Calls Tryz.prog 84 #[.pointer (some ⟨mb,0,none⟩)] w fun e w'=>e = .returned (.tuple #[]) /\ ∃ S hs,KM.Same k.sheets hs /\ Km lo mb 104 (tailK k) w' S (KM.withS k hs) /\ (∀ b,S.lab b ≠ .no -> b = mb ∨ w.heap.size <= b) /\ Kp (fun b=>b = mb) w w':=by
 have HCP:=hideC (hcp k a w hK hsm)
 have hml:=B.isLt hm
 have HM:=hideC hm
 have HFIN : Hid (∀ w1 S hs V,KM.Same k.sheets hs -> Kr w.heap.size w1 S (KM.withS k hs) -> Below w.heap.size w w1 -> V = ((((w1.setCell ⟨mb,0,none⟩ S.vS).setCell ⟨mb,1,none⟩ S.vF).setCell ⟨mb,2,none⟩ S.vL).setCell ⟨mb,3,none⟩ S.vP).setCell ⟨mb,4,none⟩ (.int .i64 k.hand) -> ∃ S hs,KM.Same k.sheets hs /\ Km lo mb 104 (tailK k) V S (KM.withS k hs) /\ (∀ b,S.lab b ≠ .no -> b = mb ∨ w.heap.size <= b) /\ Kp (fun b=>b = mb) w V):=fun w1 S hs V h1 h2 h3 h4=>by
  have hm1:=B.below HM.out h3 hml
  have hno : S.lab mb = .no:=Classical.not_not.1 fun x=>by have:=(h2.bnd mb x).1;omega
  have r1 : Kr lo w1 S (KM.withS k hs):=h2.mono (by omega)
  have m:=km_of r1 hm1 hlo hno rfl h4
  refine ⟨_,hs,h1,m,fun b hb=>?_,?_⟩
  · by_cases c : b = mb
    · exact .inl c
    · have hb : (if b = mb then Lb.head else S.lab b) ≠ .no:=hb
      rw [if_neg c] at hb
      exact .inr (h2.bnd b hb).1
  · have kp : Kp (fun b=>b = mb) w1 V:=by
     rw [h4]
     exact ((((Kp.set (fun b=>b = mb) w1 ⟨mb,0,none⟩ _ rfl).trans (Kp.set (fun b=>b = mb) _ ⟨mb,1,none⟩ _ rfl) (fun _ _ g=>g)).trans (Kp.set (fun b=>b = mb) _ ⟨mb,2,none⟩ _ rfl) (fun _ _ g=>g)).trans (Kp.set (fun b=>b = mb) _ ⟨mb,3,none⟩ _ rfl) (fun _ _ g=>g)).trans (Kp.set (fun b=>b = mb) _ ⟨mb,4,none⟩ _ rfl) (fun _ _ g=>g)
    exact (Kp.ofBelow h3).trans kp (fun _ _ g=>g)
 have HCP2 : Hid (Calls Tryz.prog 55 #[.agg (cellsK a k)] w fun e w'=>∃ S hs aS nS cS aF nF cF aL nL cL aP nP cP,S.vS = .slice aS nS cS /\ S.vF = .slice aF nF cF /\ S.vL = .slice aL nL cL /\ S.vP = .slice aP nP cP /\ KM.Same k.sheets hs /\ e = .returned (.agg #[.slice aS nS cS,.slice aF nF cF,.slice aL nL cL,.slice aP nP cP,.int .i64 k.hand]) /\ Kr w.heap.size w' S (KM.withS k hs) /\ Below w.heap.size w w'):=HCP.out.mono fun e w' ⟨S,hs,h1,h2,h3,h4⟩=>by
  obtain ⟨aS,cS,eS,_⟩:=row_form h3.sheets
  obtain ⟨aF,cF,eF,_⟩:=row_form h3.frames
  obtain ⟨aL,cL,eL,_⟩:=row_form h3.slots
  obtain ⟨aP,cP,eP,_⟩:=row_form h3.spaces
  exact ⟨S,hs,aS,_,cS,aF,_,cF,aL,_,cL,aP,_,cP,eS,eF,eL,eP,h1,by rw [h2,eS,eF,eL,eP],h3,h4⟩
 have c0 : w.cell? ⟨mb,0,none⟩ = some (.slice a.aS k.sheets.length a.cS):=B.cell hm 0 rfl
 have c1 : w.cell? ⟨mb,1,none⟩ = some (.slice a.aF k.frames.length a.cF):=B.cell hm 1 rfl
 have c2 : w.cell? ⟨mb,2,none⟩ = some (.slice a.aL k.slots.length a.cL):=B.cell hm 2 rfl
 have c3 : w.cell? ⟨mb,3,none⟩ = some (.slice a.aP k.spaces.length a.cP):=B.cell hm 3 rfl
 have c4 : w.cell? ⟨mb,4,none⟩ = some (.int .i64 k.hand):=B.cell hm 4 rfl
 have HCM : Hid (∀ V,Below w.heap.size w V -> (V.cell? ⟨mb,0,none⟩ = some (.slice a.aS k.sheets.length a.cS) /\ V.cell? ⟨mb,1,none⟩ = some (.slice a.aF k.frames.length a.cF) /\ V.cell? ⟨mb,2,none⟩ = some (.slice a.aL k.slots.length a.cL) /\ V.cell? ⟨mb,3,none⟩ = some (.slice a.aP k.spaces.length a.cP) /\ V.cell? ⟨mb,4,none⟩ = some (.int .i64 k.hand)) /\ V.frozen? ⟨mb,0,none⟩ = false /\ V.frozen? ⟨mb,1,none⟩ = false /\ V.frozen? ⟨mb,2,none⟩ = false /\ V.frozen? ⟨mb,3,none⟩ = false /\ V.frozen? ⟨mb,4,none⟩ = false):=fun V hb=>by
  have h1:=B.below HM.out hb hml
  exact ⟨⟨B.cell h1 0 rfl,B.cell h1 1 rfl,B.cell h1 2 rfl,B.cell h1 3 rfl,B.cell h1 4 rfl⟩,B.free h1 0,B.free h1 1,B.free h1 2,B.free h1 3,B.free h1 4⟩
 unfold cellsK at HCP2
 clear hm hK hsm HCP
 go_enter Tryz.func84,Tryz.ntmps84
 go_wp2_with (go_at_call 55;refine HCP2.out.mono ?_;rintro e w1 ⟨S,hs,aS,nS,cS,aF,nF,cF,aL,nL,cL,aP,nP,cP,eS,eF,eL,eP,hsame,rfl,hkr,hb1⟩;have HF1:=hideC (fun V=>HFIN.out w1 S hs V hsame hkr hb1);rw [eS,eF,eL,eP] at HF1;obtain ⟨⟨y0,y1,y2,y3,y4⟩,f0,f1,f2,f3,f4⟩:=HCM.out w1 hb1;clear hsame hkr hb1 eS eF eL eP)
 refine bodyPost_end (v:=.tuple #[]) (by simp [results,Tryz.results84,go_sem]) rfl ?_
 exact ⟨rfl,HF1.out _ rfl⟩
end KY
namespace KY
open Go.RowKit GK KO
open FW (hideC add_below)
open KW (cellFr cellSl cellEn HasRow KAt HasK cellsK aggEn cellI memK FitK liveK OutOpen)
open KS (Lc cellLc lc0 lcAt blk SpOwn)
open KX (FilX)
def forErr (k : KM.Kn) (sp size way : Int) (ways : List Int) : Int:=if liveK k sp ≠ 0 then liveK k sp else if ¬ (1 <= size /\ size <= 8) then 3 else if way ∈ ways then 0 else 10
def OutFor (w : World) (k : KM.Kn) (e : Ending) (w' : World) : Prop:=∃ mb S hs,e = .returned (.tuple #[.pointer (some ⟨mb,0,none⟩),.int .i64 0]) /\ KM.Same k.sheets hs /\ Km w.heap.size mb 104 (tailK k) w' S (KM.withS k hs) /\ Below w.heap.size w w'
theorem open_err {w : World} {a : KAt} {k : KM.Kn} {sp : Int} (h : Calls Tryz.prog 69 #[.agg (cellsK a k),.int .i64 sp] w (OutOpen w a k (liveK k sp))) (hc : liveK k sp ≠ 0) : Calls Tryz.prog 69 #[.agg (cellsK a k),.int .i64 sp] w fun e w'=>e = .returned (.tuple #[.pointer none,.int .i64 (liveK k sp)]) /\ Below w.heap.size w w':=h.mono fun e w' ⟨hb,hh⟩=>by
 rcases hh with ⟨h0,_⟩ | ⟨_,h1⟩
 · exact absurd h0 hc
 · exact ⟨h1,hb⟩
theorem open_ok {w : World} {a : KAt} {k : KM.Kn} {sp : Int} (h : Calls Tryz.prog 69 #[.agg (cellsK a k),.int .i64 sp] w (OutOpen w a k (liveK k sp))) (hc : liveK k sp = 0) : Calls Tryz.prog 69 #[.agg (cellsK a k),.int .i64 sp] w fun e w'=>∃ mb,e = .returned (.tuple #[.pointer (some ⟨mb,0,none⟩),.int .i64 0]) /\ w.heap.size <= mb /\ w'.heap[mb]? = some (.cells (memK a k) 104 (0,0)) /\ Below w.heap.size w w':=h.mono fun e w' ⟨hb,hh⟩=>by
 rcases hh with ⟨_,mb,h1,h2,h3⟩ | ⟨h0,_⟩
 · exact ⟨mb,h1,h2,h3,hb⟩
 · exact absurd hc h0
theorem live_right {k : KM.Kn} {sp : Int} (h : liveK k sp = 0) : KM.RightK k /\ 0 <= sp /\ sp.toNat < k.spaces.length /\ (KM.spAt k.spaces sp.toNat).live = true:=by
 unfold KW.liveK at h
 by_cases c : KM.checkK k = 0
 · rw [if_pos c] at h
   by_cases d : 0 <= sp /\ sp < (k.spaces.length : Int) /\ (KM.spAt k.spaces sp.toNat).live = true
   · exact ⟨(KM.check_iff k).1 c,d.1,by omega,d.2.2⟩
   · rw [if_neg d] at h;cases h
 · rw [if_neg c] at h;exact absurd h c
set_option maxHeartbeats 8000000 in
theorem openFor_err (k : KM.Kn) (a : KAt) (sp size way : Int) (ways : List Int) (aw : Option Addr) (cw : Nat) (w : World) (hK : HasK w a k) (hF : FitK k) (hsp : M.I64 sp) (hw : HasRow cellI 1 0 w aw ways) (hwl : ways.length <= 1000000) (hc : forErr k sp size way ways ≠ 0) :
  Calls Tryz.prog 51 #[.agg (cellsK a k),.int .i64 sp,.int .i64 size,.int .i64 way,.slice aw ways.length cw] w fun e w'=>e = .returned (.tuple #[.pointer none,.int .i64 (forErr k sp size way ways)]) /\ Below w.heap.size w w':=by
 have HOP:=hideC (fun V (hV : Below w.heap.size w V)=>KW.open_any k a sp V (hK.below hV) hF hsp)
 have HCT:=hideC (fun V (hV : Below w.heap.size w V)=>KW.containsI_any ways way aw cw V (hw.below hV) hwl)
 have HB0:=hideC ((Below.refl w.heap.size w).alloc (Nat.le_refl _) (.cells (cellsK a k) 27))
 have KB:=hideC (B.new w (cellsK a k) 27)
 obtain ⟨C,hC⟩ : ∃ C,C = forErr k sp size way ways:=⟨_,rfl⟩
 rw [<- hC] at hc ⊢
 obtain ⟨P,hP⟩ : ∃ P : Ending -> World -> Prop,P = fun e w'=>e = .returned (.tuple #[.pointer none,.int .i64 C]) /\ Below w.heap.size w w':=⟨_,rfl⟩
 have HE : Hid (∀ V,Below w.heap.size w V -> P (.returned (.tuple #[.pointer none,.int .i64 C])) V):=fun V hV=>by rw [hP];exact ⟨rfl,hV⟩
 rw [<- hP]
 clear hP
 unfold forErr at hC
 by_cases c1 : liveK k sp = 0
 · rw [if_neg (fun x=>x c1)] at hC
   have HO2:=hideC (fun V hV=>open_ok (HOP.out V hV) c1)
   by_cases c2 : 1 <= size /\ size <= 8
   · rw [if_neg (fun x=>x c2)] at hC
     have c3 : way ∉ ways:=fun x=>by rw [if_pos x] at hC;exact hc hC
     rw [if_neg c3] at hC
     subst hC
     rw [decide_eq_false c3] at HCT
     obtain ⟨g1,g2⟩:=c2
     clear HOP c1 c3 hK hF hsp hw hc
     unfold cellsK at HO2 HB0 KB ⊢
     go_enter Tryz.func51,Tryz.ntmps51
     go_wp2_with (first
      | (go_at_call 69;refine (HO2.out _ HB0.out).mono ?_;rintro e w1 ⟨mb,rfl,hm1,hm2,hb1⟩;have HB1:=hideC (add_below HB0.out hb1);clear hb1 hm2)
      | (go_at_call 95;refine (HCT.out _ HB1.out).mono ?_;rintro e w2 ⟨rfl,rfl⟩))
     exact HE.out _ HB1.out
   · rw [if_pos c2] at hC
     subst hC
     clear HOP HCT c1 hK hF hsp hw hc
     unfold cellsK at HO2 HB0 KB ⊢
     rcases (show size < 1 ∨ (1 <= size /\ 8 < size) by omega) with g | ⟨g1,g2⟩
     · go_enter Tryz.func51,Tryz.ntmps51
       go_wp2_with (go_at_call 69;refine (HO2.out _ HB0.out).mono ?_;rintro e w1 ⟨mb,rfl,hm1,hm2,hb1⟩;have HB1:=hideC (add_below HB0.out hb1);clear hb1 hm2)
       exact HE.out _ HB1.out
     · have g3 : ¬ size < 1:=by omega
       go_enter Tryz.func51,Tryz.ntmps51
       go_wp2_with (go_at_call 69;refine (HO2.out _ HB0.out).mono ?_;rintro e w1 ⟨mb,rfl,hm1,hm2,hb1⟩;have HB1:=hideC (add_below HB0.out hb1);clear hb1 hm2)
       exact HE.out _ HB1.out
 · rw [if_pos c1] at hC
   have HO2:=hideC (fun V hV=>open_err (HOP.out V hV) c1)
   rw [<- hC] at HO2
   have cb : (C != 0) = true:=by simpa using hc
   clear HOP HCT c1 hK hF hsp hw hc hC
   unfold cellsK at HO2 HB0 KB ⊢
   go_enter Tryz.func51,Tryz.ntmps51
   go_wp2_with (go_at_call 69;refine (HO2.out _ HB0.out).mono ?_;rintro e w1 ⟨rfl,hb1⟩;have HB1:=hideC (add_below HB0.out hb1);clear hb1)
   exact HE.out _ HB1.out
set_option maxHeartbeats 8000000 in
theorem openFor_ok (hcp : CopyK) (k : KM.Kn) (a : KAt) (sp size way : Int) (ways : List Int) (aw : Option Addr) (cw : Nat) (w : World) (hK : HasK w a k) (hF : FitK k) (hsp : M.I64 sp) (hw : HasRow cellI 1 0 w aw ways) (hwl : ways.length <= 1000000) (hc : forErr k sp size way ways = 0) :
  Calls Tryz.prog 51 #[.agg (cellsK a k),.int .i64 sp,.int .i64 size,.int .i64 way,.slice aw ways.length cw] w (OutFor w k):=by
 have c1 : liveK k sp = 0:=by
  unfold forErr at hc
  by_cases c : liveK k sp = 0
  · exact c
  · rw [if_pos c] at hc;exact absurd hc c
 have c2 : 1 <= size /\ size <= 8:=by
  unfold forErr at hc
  rw [if_neg (fun x=>x c1)] at hc
  by_cases c : 1 <= size /\ size <= 8
  · exact c
  · rw [if_pos c] at hc;cases hc
 have c3 : way ∈ ways:=by
  unfold forErr at hc
  rw [if_neg (fun x=>x c1),if_neg (fun x=>x c2)] at hc
  by_cases c : way ∈ ways
  · exact c
  · rw [if_neg c] at hc;cases hc
 have hR:=(live_right c1).1
 have hsm:=small_right hR hF
 have HO2:=hideC (fun V (hV : Below w.heap.size w V)=>open_ok (KW.open_any k a sp V (hK.below hV) hF hsp) c1)
 have HCT:=hideC (fun V (hV : Below w.heap.size w V)=>KW.containsI_any ways way aw cw V (hw.below hV) hwl)
 rw [decide_eq_true c3] at HCT
 have HB0:=hideC ((Below.refl w.heap.size w).alloc (Nat.le_refl _) (.cells (cellsK a k) 27))
 have KB:=hideC (B.new w (cellsK a k) 27)
 have HOW : Hid (∀ V mb,Below w.heap.size w V -> w.heap.size <= mb -> V.heap[mb]? = some (.cells (memK a k) 104 (0,0)) -> Calls Tryz.prog 84 #[.pointer (some ⟨mb,0,none⟩)] V fun e w'=>e = .returned (.tuple #[]) /\ OutFor w k (.returned (.tuple #[.pointer (some ⟨mb,0,none⟩),.int .i64 0])) w'):=fun V mb hV hm1 hm2=>(own_any hcp k a mb V (hK.below hV) hsm hm2 w.heap.size hm1).mono fun e w' ⟨h1,S,hs,h2,h3,h4,h5⟩=>⟨h1,mb,S,hs,rfl,h2,h3,Kp.below hV h5 hV.size (fun b e=>by omega)⟩
 obtain ⟨P,hP⟩ : ∃ P,P = OutFor w k:=⟨_,rfl⟩
 rw [<- hP] at HOW ⊢
 obtain ⟨g1,g2⟩:=c2
 clear c1 c3 hK hF hsp hw hc hR hsm hP
 unfold cellsK at HO2 HB0 KB ⊢
 go_enter Tryz.func51,Tryz.ntmps51
 go_wp2_with (first
  | (go_at_call 69;refine (HO2.out _ HB0.out).mono ?_;rintro e w1 ⟨mb,rfl,hm1,hm2,hb1⟩;have HB1:=hideC (add_below HB0.out hb1);have HM2:=hideC hm2;have HM1 : Hid (w.heap.size <= mb):=(by simp at hm1;exact Nat.le_trans (by omega) hm1);clear hb1 hm2 hm1)
  | (go_at_call 95;refine (HCT.out _ HB1.out).mono ?_;rintro e w2 ⟨rfl,rfl⟩)
  | (go_at_call 84;refine (HOW.out _ _ HB1.out HM1.out HM2.out).mono ?_;rintro e w3 ⟨rfl,hq⟩;have HQ:=hideC hq;clear hq))
 exact HQ.out
end KY
namespace KZ
open Go.RowKit GK KO
open FW (hideC add_below)
open KW (cellFr cellSl cellEn HasRow KAt HasK cellsK aggEn cellI memK FitK liveK OutOpen)
open KS (Lc cellLc lc0 lcAt blk SpOwn)
open KX (FilX Held ids)
open KY (CopyK tailK forErr OutFor)
def kn0 : KM.Kn:=⟨[],[],[],[],0⟩
def st0 : St:=⟨fun _=>.no,.slice none 0 0,.slice none 0 0,.slice none 0 0,.slice none 0 0,[]⟩
def OutKn (w : World) (k : KM.Kn) (vs : List Value) (e : Ending) (w' : World) : Prop:=∃ S hs,KM.Same k.sheets hs /\ e = .returned (.tuple (Value.agg #[S.vS,S.vF,S.vL,S.vP,.int .i64 k.hand] :: vs).toArray) /\ Kr w.heap.size w' S (KM.withS k hs) /\ Below w.heap.size w w'
theorem kr_none (lo : Nat) (w : World) : Kr lo w st0 kn0:=by
 refine ⟨fun b hb=>absurd rfl hb,World.ownsRow_nil _ _ _ _,fun i hi=>?_,World.ownsRow_nil _ _ _ _,World.ownsRow_nil _ _ _ _,World.ownsRow_nil _ _ _ _,rfl,fun i hi=>?_,fun b hb=>?_,fun i hi=>?_,fun b hb=>?_,fun b hb=>?_,fun b hb=>?_,fun i hi=>?_,fun i hi=>?_⟩
 all_goals first | cases hb | cases hi
theorem out_none {w w' : World} (vs : List Value) (hb : Below w.heap.size w w') : OutKn w kn0 vs (.returned (.tuple (Value.agg #[.slice none 0 0,.slice none 0 0,.slice none 0 0,.slice none 0 0,.int .i64 0] :: vs).toArray)) w':=⟨st0,[],rfl,rfl,kr_none _ _,hb⟩
def reachA (k : KM.Kn) (sp a n way : Int) : KM.Kn × (Int × Int) × Int:=if forErr k sp n way [0,1,2] ≠ 0 then (kn0,(0,0),forErr k sp n way [0,1,2]) else if (FM.faultN (KM.spAt k.spaces sp.toNat).areas a n way).1 ≠ 0 then (kn0,FM.faultN (KM.spAt k.spaces sp.toNat).areas a n way,0) else ((KM.reachK k sp.toNat a n way).2,(0,0),0)
theorem for_parts {k : KM.Kn} {sp size way : Int} {ways : List Int} (h : forErr k sp size way ways = 0) : liveK k sp = 0 /\ (1 <= size /\ size <= 8) /\ way ∈ ways:=by
 unfold KY.forErr at h
 by_cases c1 : liveK k sp = 0
 · rw [if_neg (fun x=>x c1)] at h
   by_cases c2 : 1 <= size /\ size <= 8
   · rw [if_neg (fun x=>x c2)] at h
     by_cases c3 : way ∈ ways
     · exact ⟨c1,c2,c3⟩
     · rw [if_neg c3] at h;cases h
   · rw [if_pos c2] at h;cases h
 · rw [if_pos c1] at h;exact absurd h c1
theorem ret7 {W : World} {rb fb : Nat} (hr : W.heap[rb]? = some (.cells #[.slice none 0 0,.slice none 0 0,.slice none 0 0,.slice none 0 0,.int .i64 0] 27 (0,0))) (hf : W.heap[fb]? = some (.cells #[.int .i64 0,.int .i64 0] 36 (0,0))) (hne : rb ≠ fb) (s f l p h x y : Value) {V : World} (hV : V = ((((((W.setCell ⟨rb,0,none⟩ s).setCell ⟨rb,1,none⟩ f).setCell ⟨rb,2,none⟩ l).setCell ⟨rb,3,none⟩ p).setCell ⟨rb,4,none⟩ h).setCell ⟨fb,0,none⟩ x).setCell ⟨fb,1,none⟩ y) :
  V.heap[rb]? = some (.cells #[s,f,l,p,h] 27 (0,0)) /\ V.heap[fb]? = some (.cells #[x,y] 36 (0,0)) /\ Kp (fun b=>b = rb ∨ b = fb) W V:=by
 have h1 : (((((W.setCell ⟨rb,0,none⟩ s).setCell ⟨rb,1,none⟩ f).setCell ⟨rb,2,none⟩ l).setCell ⟨rb,3,none⟩ p).setCell ⟨rb,4,none⟩ h).heap[rb]? = some (.cells #[s,f,l,p,h] 27 (0,0)):=B.set (B.set (B.set (B.set (B.set hr 0 s) 1 f) 2 l) 3 p) 4 h
 have hne' : fb ≠ rb:=fun e=>hne e.symm
 have h2:=B.other (B.other (B.other (B.other (B.other hf rb 0 s hne') rb 1 f hne') rb 2 l hne') rb 3 p hne') rb 4 h hne'
 subst hV
 refine ⟨B.other (B.other h1 fb 0 x hne) fb 1 y hne,B.set (B.set h2 0 x) 1 y,?_⟩
 have k : ∀ (A : World) (g j : Nat) (v : Value),g = rb ∨ g = fb -> Kp (fun b=>b = rb ∨ b = fb) A (A.setCell ⟨g,j,none⟩ v):=fun A g j v hg=>Kp.set _ A ⟨g,j,none⟩ v hg
 exact ((((((k _ _ _ _ (.inl rfl)).trans (k _ _ _ _ (.inl rfl)) (fun _ _ g=>g)).trans (k _ _ _ _ (.inl rfl)) (fun _ _ g=>g)).trans (k _ _ _ _ (.inl rfl)) (fun _ _ g=>g)).trans (k _ _ _ _ (.inl rfl)) (fun _ _ g=>g)).trans (k _ _ _ _ (.inr rfl)) (fun _ _ g=>g)).trans (k _ _ _ _ (.inr rfl)) (fun _ _ g=>g)
theorem three_row (V : World) : HasRow cellI 1 0 (V.alloc (.cells #[.int .i64 0,.int .i64 1,.int .i64 2] 3)) (some ⟨V.heap.size,0,none⟩) [0,1,2]:=fun _=>by
 have h:=B.new V #[.int .i64 0,.int .i64 1,.int .i64 2] 3
 refine ⟨V.heap.size,0,rfl,B.isLt h,fun i hi j hj=>?_⟩
 obtain rfl : j = 0:=by omega
 have hi : i < 3:=hi
 rcases (show i = 0 ∨ i = 1 ∨ i = 2 by omega) with rfl | rfl | rfl
 · exact B.cell h 0 rfl
 · exact B.cell h 1 rfl
 · exact B.cell h 2 rfl
set_option maxHeartbeats 16000000 in
theorem reach_any (hcp : CopyK) (k : KM.Kn) (a : KAt) (sp ad n way : Int) (w : World) (hK : HasK w a k) (hF : FitK k) (hsp : M.I64 sp) (had : M.I64 ad) :
  Calls Tryz.prog 17 #[.agg (cellsK a k),.int .i64 sp,.int .i64 ad,.int .i64 n,.int .i64 way] w (OutKn w (reachA k sp ad n way).1 [.agg #[.int .i64 (reachA k sp ad n way).2.1.1,.int .i64 (reachA k sp ad n way).2.1.2],.int .i64 (reachA k sp ad n way).2.2]):=by
 obtain ⟨Z5,hZ5⟩ : ∃ Z5 : Array Value,Z5 = #[.slice none 0 0,.slice none 0 0,.slice none 0 0,.slice none 0 0,.int .i64 0]:=⟨_,rfl⟩
 obtain ⟨WA,hWA⟩ : ∃ WA,WA = ((w.alloc (.cells (cellsK a k) 27)).alloc (.cells #[.slice none 0 0,.slice none 0 0,.slice none 0 0,.slice none 0 0,.int .i64 0] 27)).alloc (.cells #[.int .i64 0,.int .i64 0] 36):=⟨_,rfl⟩
 have hb0 : Below w.heap.size w WA:=by rw [hWA];exact (((Below.refl _ _).alloc (Nat.le_refl _) _).alloc (by simp) _).alloc (by simp;omega) _
 have kb : WA.heap[w.heap.size]? = some (.cells (cellsK a k) 27 (0,0)):=by rw [hWA];exact B.alloc (B.alloc (B.new w _ _) _) _
 have rb : WA.heap[w.heap.size + 1]? = some (.cells #[.slice none 0 0,.slice none 0 0,.slice none 0 0,.slice none 0 0,.int .i64 0] 27 (0,0)):=by
  have:=B.alloc (B.new (w.alloc (.cells (cellsK a k) 27)) #[.slice none 0 0,.slice none 0 0,.slice none 0 0,.slice none 0 0,.int .i64 0] 27) (.cells #[.int .i64 0,.int .i64 0] 36)
  rw [World.size_alloc] at this
  rw [hWA];exact this
 have fb : WA.heap[w.heap.size + 1 + 1]? = some (.cells #[.int .i64 0,.int .i64 0] 36 (0,0)):=by
  have:=B.new ((w.alloc (.cells (cellsK a k) 27)).alloc (.cells #[.slice none 0 0,.slice none 0 0,.slice none 0 0,.slice none 0 0,.int .i64 0] 27)) #[.int .i64 0,.int .i64 0] 36
  rw [World.size_alloc,World.size_alloc] at this
  rw [hWA];exact this
 have hsz : WA.heap.size = w.heap.size + 3:=by rw [hWA,World.size_alloc,World.size_alloc,World.size_alloc]
 obtain ⟨WB,hWB⟩ : ∃ WB,WB = WA.alloc (.cells #[.int .i64 0,.int .i64 1,.int .i64 2] 3):=⟨_,rfl⟩
 have hb1 : Below w.heap.size w WB:=by rw [hWB];exact hb0.alloc hb0.size _
 have hrow : HasRow cellI 1 0 WB (some ⟨WA.heap.size,0,none⟩) [0,1,2]:=by rw [hWB];exact three_row WA
 have hszB : WB.heap.size = w.heap.size + 4:=by rw [hWB,World.size_alloc,hsz]
 have RB : Hid (∀ V,Below WB.heap.size WB V -> V.heap[w.heap.size + 1]? = some (.cells #[.slice none 0 0,.slice none 0 0,.slice none 0 0,.slice none 0 0,.int .i64 0] 27 (0,0))):=fun V hb=>B.below (by rw [hWB];exact B.alloc rb _) hb (by omega)
 have FB : Hid (∀ V,Below WB.heap.size WB V -> V.heap[w.heap.size + 1 + 1]? = some (.cells #[.int .i64 0,.int .i64 0] 36 (0,0))):=fun V hb=>B.below (by rw [hWB];exact B.alloc fb _) hb (by omega)
 have k0 : WA.cell? ⟨w.heap.size,0,none⟩ = some (.slice a.aS k.sheets.length a.cS):=B.cell kb 0 rfl
 have k1 : WA.cell? ⟨w.heap.size,1,none⟩ = some (.slice a.aF k.frames.length a.cF):=B.cell kb 1 rfl
 have k2 : WA.cell? ⟨w.heap.size,2,none⟩ = some (.slice a.aL k.slots.length a.cL):=B.cell kb 2 rfl
 have k3 : WA.cell? ⟨w.heap.size,3,none⟩ = some (.slice a.aP k.spaces.length a.cP):=B.cell kb 3 rfl
 have k4 : WA.cell? ⟨w.heap.size,4,none⟩ = some (.int .i64 k.hand):=B.cell kb 4 rfl
 have HWA:=hideC hWA
 have HWB:=hideC hWB
 have HB1:=hideC hb1
 by_cases c : forErr k sp n way [0,1,2] = 0
 · obtain ⟨hlv,hn,hwy⟩:=for_parts c
   obtain ⟨hR,hsp0,hj,hlive⟩:=KY.live_right hlv
   obtain ⟨j,hje⟩ : ∃ j : Nat,sp = (j : Int):=⟨sp.toNat,by omega⟩
   subst hje
   rw [Int.toNat_natCast] at hj hlive
   have HOP:=hideC (KY.openFor_ok hcp k a (j : Int) n way [0,1,2] (some ⟨WA.heap.size,0,none⟩) 3 WB (hK.below hb1) hF hsp hrow (by simp) c)
   rw [show ([0,1,2] : List Int).length = 3 from rfl] at HOP
   have hne12 : w.heap.size + 1 ≠ w.heap.size + 1 + 1:=by omega
   have HLB:=hideC (show w.heap.size + 1 + 1 < WB.heap.size by omega)
   by_cases hf : (FM.faultN (KM.spAt k.spaces j).areas ad n way).1 = 0
   · obtain ⟨hf0,hal,hau,hmap⟩:=KX.fault_none hn.1 hn.2 hf
     have hm1 : KM.mapped k j (ad / 16):=by
      have:=hmap 0 (by omega) (by omega)
      rw [Int.add_zero] at this
      exact this
     have hm2 : KM.mapped k j (KM.lastPg ad n):=by
      have:=hmap (n - 1) (by omega) (by omega)
      unfold KM.lastPg
      rw [show ad + n - 1 = ad + (n - 1) by omega]
      exact this
     have hrk:=(KM.reach_had hR hj ad n way hm1 hm2).kept.sheets
     have hA : reachA k (j : Int) ad n way = ((KM.reachK k j ad n way).2,(0,0),0):=by
      unfold reachA
      rw [if_neg (fun x=>x c),Int.toNat_natCast,if_neg (fun x=>x hf)]
     rw [hA]
     have HRE : Hid (∀ V S mb hs,KM.Same k.sheets hs -> Km WB.heap.size mb 104 (tailK k) V S (KM.withS k hs) -> Below w.heap.size w V -> V.heap[w.heap.size + 1]? = some (.cells #[.slice none 0 0,.slice none 0 0,.slice none 0 0,.slice none 0 0,.int .i64 0] 27 (0,0)) -> V.heap[w.heap.size + 1 + 1]? = some (.cells #[.int .i64 0,.int .i64 0] 36 (0,0)) -> Calls Tryz.prog 52 #[.pointer (some ⟨mb,0,none⟩),.int .i64 (j : Int),.int .i64 ad,.int .i64 n,.int .i64 way] V fun e w'=>∃ av nv cv aS nS cS aF nF cF aL nL cL aP nP cP hd,e = .returned (.tuple #[.slice av nv cv,.agg #[.int .i64 0,.int .i64 0]]) /\ w'.cell? ⟨mb,0,none⟩ = some (.slice aS nS cS) /\ w'.cell? ⟨mb,1,none⟩ = some (.slice aF nF cF) /\ w'.cell? ⟨mb,2,none⟩ = some (.slice aL nL cL) /\ w'.cell? ⟨mb,3,none⟩ = some (.slice aP nP cP) /\ w'.cell? ⟨mb,4,none⟩ = some (.int .i64 hd) /\ mb < w'.heap.size /\ w'.heap[w.heap.size + 1]? = some (.cells #[.slice none 0 0,.slice none 0 0,.slice none 0 0,.slice none 0 0,.int .i64 0] 27 (0,0)) /\ w'.heap[w.heap.size + 1 + 1]? = some (.cells #[.int .i64 0,.int .i64 0] 36 (0,0)) /\ Below w.heap.size w w' /\ (∀ U,Kp (fun b=>b = w.heap.size + 1 ∨ b = w.heap.size + 1 + 1) w' U -> OutKn w (KM.reachK k j ad n way).2 [.agg #[.int .i64 0,.int .i64 0],.int .i64 0] (.returned (.tuple #[.agg #[.slice aS nS cS,.slice aF nF cF,.slice aL nL cL,.slice aP nP cP,.int .i64 hd],.agg #[.int .i64 0,.int .i64 0],.int .i64 0])) U)):=fun V S mb hs hsame hV hbV hrV hfV=>by
      have hR':=hR.withS hsame
      refine (KX.reach_fine (KM.withS k hs) S V j ad n way hV hR' hj had hn hf (KY.fil_tail hR.rise hsame)).mono fun e w' ⟨av,cv,S',e1,_,hk',hc'⟩=>?_
      rw [KM.reach_withS hR hj hm1 hsame] at hk' e1
      have hlow : ∀ b,b < WB.heap.size -> S.lab b = .no:=fun b hb=>Classical.not_not.1 fun x=>by have:=(hV.bnd b x).1;omega
      have hbd:=HLB.out
      obtain ⟨aS,cS,eS,_⟩:=row_form hk'.sheets
      obtain ⟨aF,cF,eF,_⟩:=row_form hk'.frames
      obtain ⟨aL,cL,eL,_⟩:=row_form hk'.slots
      obtain ⟨aP,cP,eP,_⟩:=row_form hk'.spaces
      have c0:=hk'.c0
      have c1:=hk'.c1
      have c2:=hk'.c2
      have c3:=hk'.c3
      rw [eS] at c0
      rw [eF] at c1
      rw [eL] at c2
      rw [eP] at c3
      have hbl : Below w.heap.size w w':=Kp.below hbV hc'.kp hbV.size (fun b hb=>by have:=(hV.bnd b hb).1;omega)
      refine ⟨av,_,cv,aS,_,cS,aF,_,cF,aL,_,cL,aP,_,cP,_,e1,c0,c1,c2,c3,hk'.c4,hk'.lt,hc'.keep hrV (hlow _ (by omega)),hc'.keep hfV (hlow _ hbd),hbl,fun U hU=>⟨S',hs,by rw [hrk];exact hsame,by rw [eS,eF,eL,eP];rfl,?_,?_⟩⟩
      · exact (hk'.toKr.kp hU (fun b hb e=>hb (hc'.no b (by have:=hc'.kp.size;have:=B.isLt hrV;have:=B.isLt hfV;rcases e with e | e <;> omega) (hlow b (by rcases e with e | e <;> omega))))).mono (by have:=hb1.size;omega)
      · exact Kp.below hbl hU hbl.size (fun b e=>by rcases e with e | e <;> omega)
     obtain ⟨P,hP⟩ : ∃ P,P = OutKn w (KM.reachK k j ad n way).2 [.agg #[.int .i64 0,.int .i64 0],.int .i64 0]:=⟨_,rfl⟩
     rw [<- hP] at HRE
     show Calls _ _ _ _ (OutKn w (KM.reachK k j ad n way).2 [.agg #[.int .i64 0,.int .i64 0],.int .i64 0])
     rw [<- hP]
     have HOP2 : Hid (Calls Tryz.prog 51 #[.agg (cellsK a k),.int .i64 (j : Int),.int .i64 n,.int .i64 way,.slice (some ⟨WA.heap.size,0,none⟩) 3 3] WB fun e w'=>∃ mb S hs,e = .returned (.tuple #[.pointer (some ⟨mb,0,none⟩),.int .i64 0]) /\ KM.Same k.sheets hs /\ Km WB.heap.size mb 104 (tailK k) w' S (KM.withS k hs) /\ Below WB.heap.size WB w'):=HOP.out
     unfold cellsK at HOP2 HWA ⊢
     clear hK hF hsp had hA c hP hWA hWB hb0 hb1 kb rb fb hrow hZ5 hsz hszB HOP hf hf0 hal hau hmap hm1 hm2 hrk hR hlv hn hwy hj hlive hsp0
     go_enter Tryz.func17,Tryz.ntmps17
     go_upto_region 1 with fail
     rw [<- HWA.out]
     go_upto_region 7 with (first
      | (go_at_call 51;rw [<- HWB.out];refine HOP2.out.mono ?_;rintro e w1 ⟨mb,S1,hs1,rfl,hs2,hk1,hb1⟩;have HB2:=hideC (HB1.out.trans (hb1.mono HB1.out.size));have R1:=hideC (RB.out _ hb1);have F1:=hideC (FB.out _ hb1);have HK1:=hideC hk1;have HS1:=hideC hs2;clear hb1 hk1 hs2)
      | (go_at_call 52;refine (HRE.out _ _ _ _ HS1.out HK1.out HB2.out R1.out F1.out).mono ?_;rintro e w2 ⟨av,nv,cv,aS,nS,cS,aF,nF,cF,aL,nL,cL,aP,nP,cP,hd,rfl,m0,m1,m2,m3,m4,hml,hr2,hf2,hb2,hfin⟩;have R2:=hideC hr2;have F2:=hideC hf2;have HB3:=hideC hb2;have HFI:=hideC hfin;have X2:=hideC (B.new w2 #[.int .i64 0,.int .i64 0] 36);obtain ⟨x0,x1⟩:=B.c2 X2.out;clear hr2 hf2 hb2 hfin))
     have R3:=hideC (B.alloc R2.out (.cells #[.int .i64 0,.int .i64 0] 36))
     have F3:=hideC (B.alloc F2.out (.cells #[.int .i64 0,.int .i64 0] 36))
     have HA:=hideC ((Below.refl w2.heap.size w2).alloc (Nat.le_refl _) (.cells #[.int .i64 0,.int .i64 0] 36))
     have p0:=(HA.out.cell (p:=⟨mb,0,none⟩) hml).trans m0
     have p1:=(HA.out.cell (p:=⟨mb,1,none⟩) hml).trans m1
     have p2:=(HA.out.cell (p:=⟨mb,2,none⟩) hml).trans m2
     have p3:=(HA.out.cell (p:=⟨mb,3,none⟩) hml).trans m3
     have p4:=(HA.out.cell (p:=⟨mb,4,none⟩) hml).trans m4
     obtain ⟨W3,hW3⟩ : ∃ W3,W3 = w2.alloc (.cells #[.int .i64 0,.int .i64 0] 36):=⟨_,rfl⟩
     rw [<- hW3] at R3 F3 HA p0 p1 p2 p3 p4 ⊢
     clear hW3 m0 m1 m2 m3 m4 x0 x1
     obtain ⟨y0,y1,y2,y3,y4⟩:=B.c5 R3.out
     obtain ⟨z0,z1⟩:=B.c2 F3.out
     have f0:=B.free R3.out 0
     have f1:=B.free R3.out 1
     have f2:=B.free R3.out 2
     have f3:=B.free R3.out 3
     have f4:=B.free R3.out 4
     have g0:=B.free F3.out 0
     have g1:=B.free F3.out 1
     have h7:=hideC (fun V=>ret7 R3.out F3.out hne12 (.slice aS nS cS) (.slice aF nF cF) (.slice aL nL cL) (.slice aP nP cP) (.int .i64 hd) (.int .i64 0) (.int .i64 0) (V:=V))
     go_wp2
     obtain ⟨q1,q2,q3⟩:=h7.out _ rfl
     obtain ⟨y0,y1,y2,y3,y4⟩:=B.c5 q1
     obtain ⟨z0,z1⟩:=B.c2 q2
     refine bodyPost_ret (v:=.tuple #[.agg #[.slice aS nS cS,.slice aF nF cF,.slice aL nL cL,.slice aP nP cP,.int .i64 hd],.agg #[.int .i64 0,.int .i64 0],.int .i64 0]) (by simp [results,Tryz.results17,go_sem,y0,y1,y2,y3,y4,z0,z1]) rfl ?_
     exact HFI.out _ ((Kp.ofBelow HA.out).trans q3 (fun _ _ g=>g))
   · have hA : reachA k (j : Int) ad n way = (kn0,FM.faultN (KM.spAt k.spaces j).areas ad n way,0):=by
      unfold reachA
      rw [if_neg (fun x=>x c),Int.toNat_natCast,if_pos hf]
     rw [hA]
     obtain ⟨FA,hFA⟩ : ∃ FA,FA = FM.faultN (KM.spAt k.spaces j).areas ad n way:=⟨_,rfl⟩
     have HRE : Hid (∀ V S mb hs,KM.Same k.sheets hs -> Km WB.heap.size mb 104 (tailK k) V S (KM.withS k hs) -> Calls Tryz.prog 52 #[.pointer (some ⟨mb,0,none⟩),.int .i64 (j : Int),.int .i64 ad,.int .i64 n,.int .i64 way] V fun e w'=>e = .returned (.tuple #[.slice none 0 0,.agg #[.int .i64 FA.1,.int .i64 FA.2]]) /\ Below V.heap.size V w'):=fun V S mb hs hsame hV=>by
      rw [hFA]
      exact KX.reach_fault (KM.withS k hs) S V j ad n way hV (hR.withS hsame) hj had hn hf
     rw [<- hFA] at hf ⊢
     have hfb : (FA.1 != 0) = true:=by simpa using hf
     have HOP2 : Hid (Calls Tryz.prog 51 #[.agg (cellsK a k),.int .i64 (j : Int),.int .i64 n,.int .i64 way,.slice (some ⟨WA.heap.size,0,none⟩) 3 3] WB fun e w'=>∃ mb S hs,e = .returned (.tuple #[.pointer (some ⟨mb,0,none⟩),.int .i64 0]) /\ KM.Same k.sheets hs /\ Km WB.heap.size mb 104 (tailK k) w' S (KM.withS k hs) /\ Below WB.heap.size WB w'):=HOP.out
     obtain ⟨f0,f1⟩:=FA
     simp only at HRE hfb ⊢
     have HFIN : Hid (∀ V,Below w.heap.size w V -> OutKn w kn0 [.agg #[.int .i64 f0,.int .i64 f1],.int .i64 0] (.returned (.tuple #[.agg #[.slice none 0 0,.slice none 0 0,.slice none 0 0,.slice none 0 0,.int .i64 0],.agg #[.int .i64 f0,.int .i64 f1],.int .i64 0])) V):=fun V hV=>out_none _ hV
     obtain ⟨P,hP⟩ : ∃ P,P = OutKn w kn0 [.agg #[.int .i64 f0,.int .i64 f1],.int .i64 0]:=⟨_,rfl⟩
     rw [<- hP] at HFIN ⊢
     unfold cellsK at HOP2 HWA ⊢
     clear hK hF hsp had hA c hP hWA hWB hb0 hb1 kb rb fb hrow hZ5 hsz hszB HOP hf hR hlv hn hwy hj hlive hsp0 hFA
     go_enter Tryz.func17,Tryz.ntmps17
     go_upto_region 1 with fail
     rw [<- HWA.out]
     go_upto_region 6 with (first
      | (go_at_call 51;rw [<- HWB.out];refine HOP2.out.mono ?_;rintro e w1 ⟨mb,S1,hs1,rfl,hs2,hk1,hb1⟩;have HB2:=hideC (HB1.out.trans (hb1.mono HB1.out.size));have R1:=hideC (RB.out _ hb1);have F1:=hideC (FB.out _ hb1);have HK1:=hideC hk1;have HS1:=hideC hs2;clear hb1 hk1 hs2)
      | (go_at_call 52;refine (HRE.out _ _ _ _ HS1.out HK1.out).mono ?_;rintro e w2 ⟨rfl,hb2⟩;have R2:=hideC (B.below R1.out hb2 (B.isLt R1.out));have F2:=hideC (B.below F1.out hb2 (B.isLt F1.out));have HB3:=hideC (HB2.out.trans (hb2.mono HB2.out.size));have X2:=hideC (B.new w2 #[.int .i64 f0,.int .i64 f1] 36);obtain ⟨x0,x1⟩:=B.c2 X2.out;clear hb2))
     have R3:=hideC (B.alloc R2.out (.cells #[.int .i64 f0,.int .i64 f1] 36))
     have F3:=hideC (B.alloc F2.out (.cells #[.int .i64 f0,.int .i64 f1] 36))
     have HB4:=hideC (HB3.out.alloc HB3.out.size (.cells #[.int .i64 f0,.int .i64 f1] 36))
     have hl2:=B.isLt R2.out
     have hl3:=B.isLt F2.out
     have hne1 : ¬ w2.heap.size = w.heap.size + 1:=by omega
     have hne2 : ¬ w2.heap.size = w.heap.size + 1 + 1:=by omega
     obtain ⟨W3,hW3⟩ : ∃ W3,W3 = w2.alloc (.cells #[.int .i64 f0,.int .i64 f1] 36):=⟨_,rfl⟩
     rw [<- hW3] at R3 F3 HB4 x0 x1 ⊢
     clear hW3
     obtain ⟨y0,y1,y2,y3,y4⟩:=B.c5 R3.out
     obtain ⟨z0,z1⟩:=B.c2 F3.out
     have e0:=B.free R3.out 0
     have e1:=B.free R3.out 1
     have e2:=B.free R3.out 2
     have e3:=B.free R3.out 3
     have e4:=B.free R3.out 4
     have g0:=B.free F3.out 0
     have g1:=B.free F3.out 1
     have h7:=hideC (fun V=>ret7 R3.out F3.out hne12 (.slice none 0 0) (.slice none 0 0) (.slice none 0 0) (.slice none 0 0) (.int .i64 0) (.int .i64 f0) (.int .i64 f1) (V:=V))
     go_region
     go_wp2
     obtain ⟨q1,q2,q3⟩:=h7.out _ rfl
     obtain ⟨y0,y1,y2,y3,y4⟩:=B.c5 q1
     obtain ⟨z0,z1⟩:=B.c2 q2
     refine bodyPost_ret (v:=.tuple #[.agg #[.slice none 0 0,.slice none 0 0,.slice none 0 0,.slice none 0 0,.int .i64 0],.agg #[.int .i64 f0,.int .i64 f1],.int .i64 0]) (by simp [results,Tryz.results17,go_sem,y0,y1,y2,y3,y4,z0,z1]) rfl ?_
     exact HFIN.out _ (Kp.below HB4.out (q3.trans (Kp.drew _ _) (fun _ _ g=>g)) HB4.out.size (fun b e=>by rcases e with e | e <;> omega))
 · have hA : reachA k sp ad n way = (kn0,(0,0),forErr k sp n way [0,1,2]):=by unfold reachA;rw [if_pos c]
   rw [hA]
   have HOP:=hideC (KY.openFor_err k a sp n way [0,1,2] (some ⟨WA.heap.size,0,none⟩) 3 WB (hK.below hb1) hF hsp hrow (by simp) c)
   rw [show ([0,1,2] : List Int).length = 3 from rfl] at HOP
   obtain ⟨C,hC⟩ : ∃ C,C = forErr k sp n way [0,1,2]:=⟨_,rfl⟩
   rw [<- hC] at HOP c ⊢
   have cb : (C != 0) = true:=by simpa using c
   have HFIN : Hid (∀ V,Below w.heap.size w V -> OutKn w kn0 [.agg #[.int .i64 0,.int .i64 0],.int .i64 C] (.returned (.tuple #[.agg #[.slice none 0 0,.slice none 0 0,.slice none 0 0,.slice none 0 0,.int .i64 0],.agg #[.int .i64 0,.int .i64 0],.int .i64 C])) V):=fun V hV=>out_none _ hV
   obtain ⟨P,hP⟩ : ∃ P,P = OutKn w kn0 [.agg #[.int .i64 0,.int .i64 0],.int .i64 C]:=⟨_,rfl⟩
   rw [<- hP] at HFIN ⊢
   unfold cellsK at HOP HWA ⊢
   clear hK hF hsp had hA hC c hP hWA hWB hb0 hb1 kb rb fb hrow hZ5 hsz hszB
   go_enter Tryz.func17,Tryz.ntmps17
   go_upto_region 1 with fail
   rw [<- HWA.out]
   go_upto_region 3 with (go_at_call 51;rw [<- HWB.out];refine HOP.out.mono ?_;rintro e w1 ⟨rfl,hb1⟩;have HB2:=hideC (HB1.out.trans (hb1.mono HB1.out.size));have R1:=hideC (RB.out _ hb1);have F1:=hideC (FB.out _ hb1);clear hb1)
   obtain ⟨y0,y1,y2,y3,y4⟩:=B.c5 R1.out
   obtain ⟨z0,z1⟩:=B.c2 F1.out
   have f0:=B.free R1.out 0
   have f1:=B.free R1.out 1
   have f2:=B.free R1.out 2
   have f3:=B.free R1.out 3
   have f4:=B.free R1.out 4
   have g0:=B.free F1.out 0
   have g1:=B.free F1.out 1
   have h7:=hideC (fun V=>ret7 R1.out F1.out (by omega) (.slice none 0 0) (.slice none 0 0) (.slice none 0 0) (.slice none 0 0) (.int .i64 0) (.int .i64 0) (.int .i64 0) (V:=V))
   go_wp2
   obtain ⟨q1,q2,q3⟩:=h7.out _ rfl
   obtain ⟨y0,y1,y2,y3,y4⟩:=B.c5 q1
   obtain ⟨z0,z1⟩:=B.c2 q2
   refine bodyPost_ret (v:=.tuple #[.agg #[.slice none 0 0,.slice none 0 0,.slice none 0 0,.slice none 0 0,.int .i64 0],.agg #[.int .i64 0,.int .i64 0],.int .i64 C]) (by simp [results,Tryz.results17,go_sem,y0,y1,y2,y3,y4,z0,z1]) rfl ?_
   exact HFIN.out _ (Kp.below HB2.out q3 HB2.out.size (fun b e=>by rcases e with e | e <;> omega))
end KZ
namespace KG
open Go.RowKit GK KO
open KW (KAt HasK cellsK FitK FitSp)
theorem sheet_fit {s : LM.Sh} (h : LM.sheetB s = true) : LM.FitH s:=by
 unfold LM.sheetB LM.headB at h
 rw [Bool.and_eq_true,decide_eq_true_eq] at h
 obtain ⟨⟨h1,h2,h3⟩,hf⟩:=h
 have hl:=LM.endTo_ge _ _ hf
 refine ⟨⟨by omega,by omega⟩,by unfold M.Short;omega,by unfold M.Short;omega,fun k hk=>?_⟩
 have all : ∀ n,LM.fixesTo s.fixes n = true -> ∀ i,i < n -> LM.fixesTo s.fixes i = true /\ LM.fixB (LM.endTo s.fixes i) (LM.fxAt s.fixes i) = true:=fun n=>by
  induction n with
  | zero=>intro _ i hi;omega
  | succ n ih =>
   intro hn i hi
   simp only [LM.fixesTo,Bool.and_eq_true] at hn
   by_cases c : i = n
   · rw [c];exact hn
   · exact ih hn.1 i (by omega)
 obtain ⟨g1,g2⟩:=all _ hf k hk
 have g3:=LM.endTo_ge _ _ g1
 unfold LM.fixB at g2
 rw [decide_eq_true_eq] at g2
 exact ⟨⟨by omega,by omega⟩,by unfold M.Short;omega⟩
theorem sheets_fit {hs : List LM.Sh} (h : LM.riseB hs = true) (hl : hs.length <= 255) : LM.FitHs hs:=⟨by unfold M.Short;omega,fun k hk=>sheet_fit (LM.riseTo_ok hs hs.length h k hk).1⟩
theorem fit_right {k : KM.Kn} (h : KM.RightK k) : FitK k:=by
 have hc:=h.c
 obtain ⟨r1,r2⟩:=KX.refs_few h
 have hh:=h.hand
 refine ⟨sheets_fit h.rise (by omega),by unfold M.Short;omega,fun i hi=>⟨?_,?_⟩,by unfold M.Short;omega,fun i hi=>⟨?_,?_⟩,by unfold M.Short;omega,fun i hi=>⟨?_,?_,fun n hn=>?_⟩,⟨by omega,by omega⟩⟩
 · have f:=h.frm i hi
   unfold M.Short
   by_cases c : KM.names k.spaces 1 i = []
   · rw [f.zero c];exact Nat.zero_le _
   · rw [f.size c];decide
 · have:=r1 i hi
   exact ⟨by omega,by omega⟩
 · have f:=h.slt i hi
   unfold M.Short
   by_cases c : KM.names k.spaces 2 i = []
   · rw [f.zero c];exact Nat.zero_le _
   · rw [f.size c];decide
 · have:=r2 i hi
   exact ⟨by omega,by omega⟩
 · exact AM.fits_of_check _ (h.sp hi).areas
 · have:=KX.ents_few h hi
   unfold M.Short;omega
 · have s:=h.sp hi
   have he : KM.enAt (KM.spAt k.spaces i).ents n ∈ (KM.spAt k.spaces i).ents:=KM.getD_mem hn
   obtain ⟨e1,e2⟩:=s.ent _ he
   have e3:=FM.found_page s.areas e1
   rcases e2 with ⟨e4,e5,e6⟩ | ⟨e4,e5,e6⟩
   · exact ⟨⟨by omega,by omega⟩,by rw [e4];exact ⟨by decide,by decide⟩,⟨by omega,by omega⟩⟩
   · exact ⟨⟨by omega,by omega⟩,by rw [e4];exact ⟨by decide,by decide⟩,⟨by omega,by omega⟩⟩
theorem out_keep {lo : Nat} {w : World} {S : St} {k : KM.Kn} (h : Kr lo w S k) : ∃ a,#[S.vS,S.vF,S.vL,S.vP,.int .i64 k.hand] = cellsK a k /\ ∀ U,Kp (fun b=>b < lo) w U -> HasK U a k:=by
 obtain ⟨a,p,_⟩:=h.has
 refine ⟨a,by unfold cellsK;rw [p.eS,p.eF,p.eL,p.eP],fun U hU=>?_⟩
 obtain ⟨a',p',ha⟩:=(h.kp hU (fun b hb e=>by have:=(h.bnd b hb).1;omega)).has
 have e1:=p.eS.symm.trans p'.eS
 have e2:=p.eF.symm.trans p'.eF
 have e3:=p.eL.symm.trans p'.eL
 have e4:=p.eP.symm.trans p'.eP
 injection e1 with q1 _ q2
 injection e2 with q3 _ q4
 injection e3 with q5 _ q6
 injection e4 with q7 _ q8
 have : a' = a:=by
  cases a
  cases a'
  simp only at q1 q2 q3 q4 q5 q6 q7 q8
  subst q1 q2 q3 q4 q5 q6 q7 q8
  rfl
 rw [<- this]
 exact ha
def OutR (w : World) (k : KM.Kn) (vs : List Value) (e : Ending) (w' : World) : Prop:=∃ hs a,KM.Same k.sheets hs /\ e = .returned (.tuple (Value.agg (cellsK a (KM.withS k hs)) :: vs).toArray) /\ (∀ U,Kp (fun b=>b < w.heap.size) w' U -> HasK U a (KM.withS k hs)) /\ Below w.heap.size w w'
theorem out_r {w : World} {k : KM.Kn} {vs : List Value} {e : Ending} {w' : World} (h : KZ.OutKn w k vs e w') : OutR w k vs e w':=by
 obtain ⟨S,hs,h1,h2,h3,h4⟩:=h
 obtain ⟨a,e1,e2⟩:=out_keep h3
 exact ⟨hs,a,h1,by rw [h2,<- e1];rfl,e2,h4⟩
end KG
end Go.Proofs.YtpgifpeohlllfaaGreat
