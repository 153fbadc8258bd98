import Derived.Test.YtpgifpeohlllfaaGreatGI19
import Derived.Test.YtpgifpeohlllfaaGreatGI32
import Derived.Test.YtpgifpeohlllfaaGreatGI07
set_option maxHeartbeats 20000000
set_option linter.unusedVariables false
set_option maxRecDepth 100000
set_option linter.unusedSimpArgs false
namespace Go.Proofs.YtpgifpeohlllfaaGreat
namespace KR
open Go.RowKit GK
open FW (hideC add_below)
open KW (HasRow KAt HasK cellsK FitK FitSp HasSp cellEn kinC cellFr cellSl liveK)
open KY (forErr)
set_option maxHeartbeats 8000000 in
theorem entryAt_any (es : List KM.En) (lv : Bool) (va : Value) (ap : Option Addr) (cp : Nat) (p : Int) (i : Nat) (w : World) (hE : HasRow cellEn 3 KM.en0 w ap es) (hn : es.length <= 140737488351232) (hno : ∀ j,j < i -> (KM.enAt es j).page ≠ p) (hi : i = es.length ∨ (i < es.length /\ (KM.enAt es i).page = p)) :
  Calls Tryz.prog 67 #[.agg #[.bool lv,va,.slice ap es.length cp],.int .i64 p] w fun e w'=>e = .returned (.int .i64 (if i < es.length then (i : Int) else -1)) /\ Below w.heap.size w w':=by
 obtain ⟨WA,hWA⟩ : ∃ WA,WA = w.alloc (.cells #[.bool lv,va,.slice ap es.length cp] 43):=⟨_,rfl⟩
 have hb0 : Below w.heap.size w WA:=by rw [hWA];exact (Below.refl _ _).alloc (Nat.le_refl _) _
 have sb : WA.heap[w.heap.size]? = some (.cells #[.bool lv,va,.slice ap es.length cp] 43 (0,0)):=by rw [hWA];exact B.new w _ _
 have x2 : WA.cell? ⟨w.heap.size,2,none⟩ = some (.slice ap es.length cp):=B.cell sb 2 rfl
 have HEN : Hid (∀ m,m < es.length -> ∃ eb eo,ap = some ⟨eb,eo,none⟩ /\ WA.cell? ⟨eb,eo + m * 3,none⟩ = some (.int .i64 (KM.enAt es m).page)):=fun m hm=>by
  obtain ⟨eb,eo,g1,g2,g3⟩:=(hE.below hb0) (by omega)
  have z:=g3 m hm 0 (by omega)
  rw [Nat.add_zero] at z
  exact ⟨eb,eo,g1,z⟩
 have HNO:=hideC hno
 have HI:=hideC hi
 have HWA:=hideC hWA
 have HB0:=hideC hb0
 clear hE hno hi hWA hb0 sb
 go_enter Tryz.func67,Tryz.ntmps67
 go_upto_region 1 with fail
 rw [<- HWA.out]
 go_wp2
 go_loopw [5] (fun iv wq=>∃ m : Nat,m <= i /\ m <= es.length /\ iv = .int .i64 (m : Int) /\ wq = WA) (fun iv _=>es.length - (intOf iv).toNat)
 case atStart=>exact ⟨0,by omega,by omega,rfl,rfl⟩
 case round =>
  obtain ⟨m,hm,hml,rfl,hwr⟩:=hrel
  subst hwr
  by_cases hlt : m < es.length
  · have hmi : (m : Int) < (es.length : Int):=by omega
    obtain ⟨eb,eo,hap,z⟩:=HEN.out m hlt
    rw [hap] at x2
    by_cases c : m = i
    · subst c
      have hp : (KM.enAt es m).page = p:=by
       rcases HI.out with h | h
       · omega
       · exact h.2
      rw [hp] at z
      have HIL:=hideC hlt
      clear HNO HI HEN hp hap
      go_wp2
      go_ret
      first | exact ⟨rfl,HB0.out⟩ | exact ⟨by rw [if_pos HIL.out],HB0.out⟩
    · have hp : (KM.enAt es m).page ≠ p:=HNO.out m (by omega)
      obtain ⟨q,hq⟩ : ∃ q,q = (KM.enAt es m).page:=⟨_,rfl⟩
      rw [<- hq] at z hp
      have b : (q == p) = false:=by simpa using hp
      clear HNO HI HEN hap hq hp
      go_wp2
      go_roundw
      case rel=>exact ⟨m + 1,by omega,by omega,by go_num,by first | rfl | trivial⟩
      case measure=>simp [intOf];omega
  · obtain rfl : es.length = m:=by omega
    have hil : ¬ i < es.length:=by
     rcases HI.out with h | h
     · omega
     · omega
    have HIL:=hideC hil
    clear HNO HI HEN hil
    go_wp2
    go_ret
    first | exact ⟨rfl,HB0.out⟩ | exact ⟨by rw [if_neg HIL.out],HB0.out⟩
theorem ent_none {es : List KM.En} {p : Int} (h : KM.entOf es p = none) : ∀ j,j < es.length -> (KM.enAt es j).page ≠ p:=fun j hj e=>by
 have:=List.find?_eq_none.1 h (KM.enAt es j) (KM.getD_mem hj)
 simp [e] at this
theorem ent_some {p : Int} : ∀ {es : List KM.En} {e : KM.En},KM.entOf es p = some e -> ∃ i,i < es.length /\ KM.enAt es i = e /\ (KM.enAt es i).page = p /\ ∀ j,j < i -> (KM.enAt es j).page ≠ p
 | [],e,h=>by cases h
 | x :: r,e,h=>by
  unfold KM.entOf at h
  rw [List.find?_cons] at h
  by_cases c : x.page = p
  · rw [decide_eq_true c] at h
    injection h with h
    exact ⟨0,by simp,h,c,fun j hj=>absurd hj (Nat.not_lt_zero _)⟩
  · rw [decide_eq_false c] at h
    obtain ⟨i,h1,h2,h3,h4⟩:=ent_some (es:=r) h
    refine ⟨i + 1,by simp;omega,h2,h3,fun j hj=>?_⟩
    cases j with
    | zero=>exact c
    | succ j=>exact h4 j (by omega)
end KR
namespace KR
open Go.RowKit GK
open FW (hideC add_below)
open KW (HasRow KAt HasK cellsK FitK FitSp HasSp cellEn kinC cellFr cellSl liveK)
set_option maxHeartbeats 8000000 in
theorem peekAt_any (k : KM.Kn) (a : KAt) (j : Nat) (p : Int) (w : World) (hK : HasK w a k) (hF : FitK k) (hR : KM.RightK k) (hj : j < k.spaces.length) (hm : KM.mapped k j p) :
  Calls Tryz.prog 32 #[.agg (cellsK a k),.int .i64 (j : Int),.int .i64 p] w fun e w'=>e = .returned (.string (KM.peekK k j p)) /\ Below w.heap.size w w':=by
 obtain ⟨pb,po,hpo,hpl,hli⟩:=hK.spaces (by omega)
 obtain ⟨va,ap,cp,v0,v1,v2,hha,hhp,_⟩:=hli j hj
 have hha2:=hha
 obtain ⟨aa,ca,hva,_⟩:=hha
 subst hva
 have hsj:=hR.sp hj
 have hen:=(hF.sp j hj).ents
 have hfS:=hF.sheets
 have hzz : (AM.findN (KM.spAt k.spaces j).areas p).1.zero = false -> (KM.sheetFor k.sheets p).isSome = true:=hsj.sheets p hm
 have hpk : KM.peekK k j p = match KM.entOf (KM.spAt k.spaces j).ents p with
  | some e=>if e.kind = 1 then (KM.frAt k.frames e.loc.toNat).data else (KM.slAt k.slots e.loc.toNat).data
  | none=>KM.fillK k.sheets p (AM.findN (KM.spAt k.spaces j).areas p).1.zero:=rfl
 have hek : ∀ e ∈ (KM.spAt k.spaces j).ents,(e.kind = 1 /\ 0 <= e.loc /\ e.loc < (k.frames.length : Int)) ∨ (e.kind = 2 /\ 0 <= e.loc /\ e.loc < (k.slots.length : Int)):=fun e he=>(hsj.ent e he).2
 have hca:=hsj.areas
 have hrise:=hR.rise
 obtain ⟨s,hs⟩ : ∃ s,s = KM.spAt k.spaces j:=⟨_,rfl⟩
 rw [<- hs] at v0 v1 v2 hha2 hhp hen hzz hpk hek hca
 rw [hpk]
 obtain ⟨lv,ars,es⟩:=s
 simp only at v0 v1 v2 hha2 hhp hen hzz hek hca
 show Calls _ _ _ _ fun e w'=>e = .returned (.string (match KM.entOf es p with
  | some e=>if e.kind = 1 then (KM.frAt k.frames e.loc.toNat).data else (KM.slAt k.slots e.loc.toNat).data
  | none=>KM.fillK k.sheets p (AM.findN ars p).1.zero)) /\ Below w.heap.size w w'
 obtain ⟨WA,hWA⟩ : ∃ WA,WA = (w.alloc (.cells (cellsK a k) 27)).alloc (.cells #[.bool lv,.slice aa ars.length ca,.slice ap es.length cp] 43):=⟨_,rfl⟩
 have hb0 : Below w.heap.size w WA:=by rw [hWA];exact ((Below.refl _ _).alloc (Nat.le_refl _) _).alloc (by simp) _
 have kb : WA.heap[w.heap.size]? = some (.cells (cellsK a k) 27 (0,0)):=by rw [hWA];exact B.alloc (B.new w _ _) _
 have sb : WA.heap[w.heap.size + 1]? = some (.cells #[.bool lv,.slice aa ars.length ca,.slice ap es.length cp] 43 (0,0)):=by
  have:=B.new (w.alloc (.cells (cellsK a k) 27)) #[.bool lv,.slice aa ars.length ca,.slice ap es.length cp] 43
  rw [World.size_alloc] at this
  rw [hWA];exact this
 have KB : Hid (∀ V,Below WA.heap.size WA V -> V.heap[w.heap.size]? = some (.cells #[.slice a.aS k.sheets.length a.cS,.slice a.aF k.frames.length a.cF,.slice a.aL k.slots.length a.cL,.slice a.aP k.spaces.length a.cP,.int .i64 k.hand] 27 (0,0))):=fun V hb=>B.below kb hb (B.isLt kb)
 have SB : Hid (∀ V,Below WA.heap.size WA V -> V.heap[w.heap.size + 1]? = some (.cells #[.bool lv,.slice aa ars.length ca,.slice ap es.length cp] 43 (0,0))):=fun V hb=>B.below sb hb (B.isLt sb)
 have W0 : (w.alloc (.cells #[.slice a.aS k.sheets.length a.cS,.slice a.aF k.frames.length a.cF,.slice a.aL k.slots.length a.cL,.slice a.aP k.spaces.length a.cP,.int .i64 k.hand] 27)).heap[w.heap.size]? = some (.cells #[.slice a.aS k.sheets.length a.cS,.slice a.aF k.frames.length a.cF,.slice a.aL k.slots.length a.cL,.slice a.aP k.spaces.length a.cP,.int .i64 k.hand] 27 (0,0)):=B.new w _ _
 have c3 : (w.alloc (.cells #[.slice a.aS k.sheets.length a.cS,.slice a.aF k.frames.length a.cF,.slice a.aL k.slots.length a.cL,.slice a.aP k.spaces.length a.cP,.int .i64 k.hand] 27)).cell? ⟨w.heap.size,3,none⟩ = some (.slice (some ⟨pb,po,none⟩) k.spaces.length a.cP):=by
  have:=B.cell (v:=.slice a.aP k.spaces.length a.cP) W0 3 rfl
  exact this.trans (by rw [hpo])
 have hbA : Below w.heap.size w (w.alloc (.cells #[.slice a.aS k.sheets.length a.cS,.slice a.aF k.frames.length a.cF,.slice a.aL k.slots.length a.cL,.slice a.aP k.spaces.length a.cP,.int .i64 k.hand] 27)):=(Below.refl _ _).alloc (Nat.le_refl _) _
 have u0:=(hbA.cell (p:=⟨pb,po + j * 3,none⟩) hpl).trans v0
 have u1:=(hbA.cell (p:=⟨pb,po + j * 3 + 1,none⟩) hpl).trans v1
 have u2:=(hbA.cell (p:=⟨pb,po + j * 3 + 2,none⟩) hpl).trans v2
 have hji : (j : Int) < (k.spaces.length : Int):=by omega
 have hbw : ∀ {V : World},Below WA.heap.size WA V -> Below w.heap.size w V:=fun hV=>hb0.trans (hV.mono hb0.size)
 have HWA:=hideC hWA
 have HB0:=hideC hb0
 obtain ⟨o,ho⟩ : ∃ o,o = KM.entOf es p:=⟨_,rfl⟩
 rw [<- ho]
 cases o with
 | none =>
  have HEA : Hid (Calls Tryz.prog 67 #[.agg #[.bool lv,.slice aa ars.length ca,.slice ap es.length cp],.int .i64 p] WA fun e w'=>e = .returned (.int .i64 (-1)) /\ Below WA.heap.size WA w'):=by
   have:=entryAt_any es lv (.slice aa ars.length ca) ap cp p es.length WA (hhp.below hb0) hen (ent_none ho.symm) (.inl rfl)
   rw [if_neg (Nat.lt_irrefl _)] at this
   exact this
  have HAT : Hid (∀ V,Below WA.heap.size WA V -> Calls Tryz.prog 31 #[.slice aa ars.length ca,.int .i64 p] V fun e w'=>e = .returned (.tuple #[.agg #[.int .i64 (AM.findN ars p).1.page,.int .i64 (AM.findN ars p).1.pages,.int .i64 (AM.findN ars p).1.prot,.bool (AM.findN ars p).1.zero],.bool (AM.findN ars p).2]) /\ Below V.heap.size V w'):=fun V hV=>AW.areaAt_any _ _ p V (hha2.below (hbw hV)) hca
  have HFI : Hid (∀ V,Below WA.heap.size WA V -> Calls Tryz.prog 49 #[.agg #[.slice a.aS k.sheets.length a.cS,.slice a.aF k.frames.length a.cF,.slice a.aL k.slots.length a.cL,.slice a.aP k.spaces.length a.cP,.int .i64 k.hand],.agg #[.int .i64 (AM.findN ars p).1.page,.int .i64 (AM.findN ars p).1.pages,.int .i64 (AM.findN ars p).1.prot,.bool (AM.findN ars p).1.zero],.int .i64 p] V fun e w'=>e = .returned (.string (KM.fillK k.sheets p (AM.findN ars p).1.zero)) /\ Below V.heap.size V w'):=fun V hV=>filling_any k a _ _ _ _ p V (hK.sheets.below (hbw hV)) hfS hrise hzz
  show Calls _ _ _ _ fun e w'=>e = .returned (.string (KM.fillK k.sheets p (AM.findN ars p).1.zero)) /\ Below w.heap.size w w'
  obtain ⟨F,hFF⟩ : ∃ F,F = AM.findN ars p:=⟨_,rfl⟩
  rw [<- hFF] at HAT HFI ⊢
  obtain ⟨⟨g1,g2,g3,g4⟩,gf⟩:=F
  simp only at HAT HFI ⊢
  obtain ⟨D,hD⟩ : ∃ D,D = KM.fillK k.sheets p g4:=⟨_,rfl⟩
  rw [<- hD] at HFI ⊢
  unfold cellsK at HWA ⊢
  clear hK hF hR hm hli hhp hha2 hsj hen hfS hzz hpk hek hca hrise hs hWA hb0 kb sb W0 hbA v0 v1 v2 hbw ho hFF hD hj hpl hpo
  go_enter Tryz.func32,Tryz.ntmps32
  go_upto_region 2 with fail
  rw [<- HWA.out]
  obtain ⟨x0,x1,x2⟩:=B.c3 (SB.out WA (Below.refl _ _))
  clear u0 u1 u2 c3
  go_upto_region 4 with (go_at_call 67;refine HEA.out.mono ?_;rintro e w1 ⟨rfl,hb1⟩;have HB1:=hideC hb1;obtain ⟨x0,x1,x2⟩:=B.c3 (SB.out _ hb1);clear hb1)
  go_upto_region 5 with (go_at_call 31;refine (HAT.out _ HB1.out).mono ?_;rintro e w2 ⟨rfl,hb2⟩;have HB2:=hideC (HB1.out.trans (hb2.mono HB1.out.size));clear hb2)
  have HB3:=hideC (HB2.out.alloc HB2.out.size (.cells #[.int .i64 g1,.int .i64 g2,.int .i64 g3,.bool g4] 47))
  have gb:=B.new w2 #[.int .i64 g1,.int .i64 g2,.int .i64 g3,.bool g4] 47
  obtain ⟨W3,hW3⟩ : ∃ W3,W3 = w2.alloc (.cells #[.int .i64 g1,.int .i64 g2,.int .i64 g3,.bool g4] 47):=⟨_,rfl⟩
  obtain ⟨yb,hyb⟩ : ∃ yb,yb = w2.heap.size:=⟨_,rfl⟩
  rw [<- hW3] at HB3 gb ⊢
  rw [<- hyb] at gb ⊢
  clear hW3 hyb
  obtain ⟨y0,y1,y2,y3⟩:=B.c4 gb
  obtain ⟨k0,k1,k2,k3,k4⟩:=B.c5 (KB.out _ HB3.out)
  go_wp2_with (go_at_call 49;refine (HFI.out _ HB3.out).mono ?_;rintro e w4 ⟨rfl,hb4⟩;have HB4:=hideC (HB3.out.trans (hb4.mono HB3.out.size));clear hb4)
  go_ret
  exact ⟨rfl,HB0.out.trans (HB4.out.mono HB0.out.size)⟩
 | some e =>
  obtain ⟨i,hi,he,hep,hno⟩:=ent_some ho.symm
  have hk2:=hek e (KM.ent_mem ho.symm)
  have HEA : Hid (Calls Tryz.prog 67 #[.agg #[.bool lv,.slice aa ars.length ca,.slice ap es.length cp],.int .i64 p] WA fun e w'=>e = .returned (.int .i64 (i : Int)) /\ Below WA.heap.size WA w'):=by
   have:=entryAt_any es lv (.slice aa ars.length ca) ap cp p i WA (hhp.below hb0) hen hno (.inr ⟨hi,hep⟩)
   rw [if_pos hi] at this
   exact this
  have HEN : Hid (∀ V,Below WA.heap.size WA V -> ∃ eb eo,ap = some ⟨eb,eo,none⟩ /\ V.cell? ⟨eb,eo + i * 3 + 1,none⟩ = some (.int .i64 e.kind) /\ V.cell? ⟨eb,eo + i * 3 + 2,none⟩ = some (.int .i64 e.loc)):=fun V hV=>by
   obtain ⟨eb,eo,g1,g2,g3⟩:=(hhp.below (hbw hV)) (by omega)
   have z1 : V.cell? ⟨eb,eo + i * 3 + 1,none⟩ = some (.int .i64 (KM.enAt es i).kind):=g3 i hi 1 (by omega)
   have z2 : V.cell? ⟨eb,eo + i * 3 + 2,none⟩ = some (.int .i64 (KM.enAt es i).loc):=g3 i hi 2 (by omega)
   rw [he] at z1 z2
   exact ⟨eb,eo,g1,z1,z2⟩
  have hii : (i : Int) < (es.length : Int):=by omega
  rcases hk2 with ⟨q1,q2,q3⟩ | ⟨q1,q2,q3⟩
  · obtain ⟨m,hmm⟩ : ∃ m : Nat,e.loc = (m : Int):=⟨e.loc.toNat,by omega⟩
    have HFR : Hid (∀ V,Below WA.heap.size WA V -> ∃ fb fo,a.aF = some ⟨fb,fo,none⟩ /\ V.cell? ⟨fb,fo + m * 4,none⟩ = some (.string (KM.frAt k.frames m).data)):=fun V hV=>by
     obtain ⟨fb,fo,e1,e2,e3⟩:=(hK.frames.below (hbw hV)) (by omega)
     have z:=e3 m (by omega) 0 (by omega)
     rw [Nat.add_zero] at z
     exact ⟨fb,fo,e1,z⟩
    have hmi : (m : Int) < (k.frames.length : Int):=by omega
    show Calls _ _ _ _ fun x w'=>x = .returned (.string (if e.kind = 1 then (KM.frAt k.frames e.loc.toNat).data else (KM.slAt k.slots e.loc.toNat).data)) /\ Below w.heap.size w w'
    rw [if_pos q1,hmm,Int.toNat_natCast]
    rw [q1,hmm] at HEN
    obtain ⟨D,hD⟩ : ∃ D,D = (KM.frAt k.frames m).data:=⟨_,rfl⟩
    rw [<- hD] at HFR ⊢
    unfold cellsK at HWA ⊢
    clear hK hF hR hm hli hhp hha2 hsj hen hfS hzz hpk hek hca hrise hs hWA hb0 kb sb W0 hbA v0 v1 v2 hbw ho hD hj hpl hpo q1 q2 q3 hmm he hep hno hi
    go_enter Tryz.func32,Tryz.ntmps32
    go_upto_region 2 with fail
    rw [<- HWA.out]
    obtain ⟨x0,x1,x2⟩:=B.c3 (SB.out WA (Below.refl _ _))
    clear u0 u1 u2 c3
    go_upto_region 6 with (go_at_call 67;refine HEA.out.mono ?_;rintro e w1 ⟨rfl,hb1⟩;have HB1:=hideC hb1;clear hb1)
    obtain ⟨eb,eo,hap,z1,z2⟩:=HEN.out _ HB1.out
    have hq:=SB.out _ HB1.out
    rw [hap] at hq
    obtain ⟨x0,x1,x2⟩:=B.c3 hq
    obtain ⟨k0,k1,k2,k3,k4⟩:=B.c5 (KB.out _ HB1.out)
    clear hq hap
    obtain ⟨fb,fo,hfo,z⟩:=HFR.out _ HB1.out
    rw [hfo] at k1
    clear hfo
    go_upto_region 7 with fail
    go_region
    go_wp2
    go_ret
    exact ⟨rfl,(HB0.out.trans (HB1.out.mono HB0.out.size)).drew⟩
  · obtain ⟨m,hmm⟩ : ∃ m : Nat,e.loc = (m : Int):=⟨e.loc.toNat,by omega⟩
    have HFR : Hid (∀ V,Below WA.heap.size WA V -> ∃ fb fo,a.aL = some ⟨fb,fo,none⟩ /\ V.cell? ⟨fb,fo + m * 2,none⟩ = some (.string (KM.slAt k.slots m).data)):=fun V hV=>by
     obtain ⟨fb,fo,e1,e2,e3⟩:=(hK.slots.below (hbw hV)) (by omega)
     have z:=e3 m (by omega) 0 (by omega)
     rw [Nat.add_zero] at z
     exact ⟨fb,fo,e1,z⟩
    have hmi : (m : Int) < (k.slots.length : Int):=by omega
    show Calls _ _ _ _ fun x w'=>x = .returned (.string (if e.kind = 1 then (KM.frAt k.frames e.loc.toNat).data else (KM.slAt k.slots e.loc.toNat).data)) /\ Below w.heap.size w w'
    rw [if_neg (by omega),hmm,Int.toNat_natCast]
    rw [q1,hmm] at HEN
    obtain ⟨D,hD⟩ : ∃ D,D = (KM.slAt k.slots m).data:=⟨_,rfl⟩
    rw [<- hD] at HFR ⊢
    unfold cellsK at HWA ⊢
    clear hK hF hR hm hli hhp hha2 hsj hen hfS hzz hpk hek hca hrise hs hWA hb0 kb sb W0 hbA v0 v1 v2 hbw ho hD hj hpl hpo q1 q2 q3 hmm he hep hno hi
    go_enter Tryz.func32,Tryz.ntmps32
    go_upto_region 2 with fail
    rw [<- HWA.out]
    obtain ⟨x0,x1,x2⟩:=B.c3 (SB.out WA (Below.refl _ _))
    clear u0 u1 u2 c3
    go_upto_region 6 with (go_at_call 67;refine HEA.out.mono ?_;rintro e w1 ⟨rfl,hb1⟩;have HB1:=hideC hb1;clear hb1)
    obtain ⟨eb,eo,hap,z1,z2⟩:=HEN.out _ HB1.out
    have hq:=SB.out _ HB1.out
    rw [hap] at hq
    obtain ⟨x0,x1,x2⟩:=B.c3 hq
    obtain ⟨k0,k1,k2,k3,k4⟩:=B.c5 (KB.out _ HB1.out)
    clear hq hap
    obtain ⟨fb,fo,hfo,z⟩:=HFR.out _ HB1.out
    rw [hfo] at k2
    clear hfo
    go_upto_region 8 with fail
    go_region
    go_wp2
    go_ret
    exact ⟨rfl,(HB0.out.trans (HB1.out.mono HB0.out.size)).drew⟩
end KR
namespace KZ
open Go.RowKit GK KO
open FW (hideC add_below)
open KW (cellFr cellSl cellEn HasRow KAt HasK cellsK aggEn cellI memK FitK liveK OutOpen)
open KS (Lc cellLc lc0 lcAt blk SpOwn)
open KX (FilX Held ids)
open KY (CopyK tailK forErr OutFor)
def kn0 : KM.Kn:=⟨[],[],[],[],0⟩
def st0 : St:=⟨fun _=>.no,.slice none 0 0,.slice none 0 0,.slice none 0 0,.slice none 0 0,[]⟩
def OutKn (w : World) (k : KM.Kn) (vs : List Value) (e : Ending) (w' : World) : Prop:=∃ S hs,KM.Same k.sheets hs /\ e = .returned (.tuple (Value.agg #[S.vS,S.vF,S.vL,S.vP,.int .i64 k.hand] :: vs).toArray) /\ Kr w.heap.size w' S (KM.withS k hs) /\ Below w.heap.size w w'
theorem kr_none (lo : Nat) (w : World) : Kr lo w st0 kn0:=by
 refine ⟨fun b hb=>absurd rfl hb,World.ownsRow_nil _ _ _ _,fun i hi=>?_,World.ownsRow_nil _ _ _ _,World.ownsRow_nil _ _ _ _,World.ownsRow_nil _ _ _ _,rfl,fun i hi=>?_,fun b hb=>?_,fun i hi=>?_,fun b hb=>?_,fun b hb=>?_,fun b hb=>?_,fun i hi=>?_,fun i hi=>?_⟩
 all_goals first | cases hb | cases hi
theorem out_none {w w' : World} (vs : List Value) (hb : Below w.heap.size w w') : OutKn w kn0 vs (.returned (.tuple (Value.agg #[.slice none 0 0,.slice none 0 0,.slice none 0 0,.slice none 0 0,.int .i64 0] :: vs).toArray)) w':=⟨st0,[],rfl,rfl,kr_none _ _,hb⟩
theorem for_parts {k : KM.Kn} {sp size way : Int} {ways : List Int} (h : forErr k sp size way ways = 0) : liveK k sp = 0 /\ (1 <= size /\ size <= 8) /\ way ∈ ways:=by
 unfold KY.forErr at h
 by_cases c1 : liveK k sp = 0
 · rw [if_neg (fun x=>x c1)] at h
   by_cases c2 : 1 <= size /\ size <= 8
   · rw [if_neg (fun x=>x c2)] at h
     by_cases c3 : way ∈ ways
     · exact ⟨c1,c2,c3⟩
     · rw [if_neg c3] at h;cases h
   · rw [if_pos c2] at h;cases h
 · rw [if_pos c1] at h;exact absurd h c1
theorem ret7 {W : World} {rb fb : Nat} (hr : W.heap[rb]? = some (.cells #[.slice none 0 0,.slice none 0 0,.slice none 0 0,.slice none 0 0,.int .i64 0] 27 (0,0))) (hf : W.heap[fb]? = some (.cells #[.int .i64 0,.int .i64 0] 36 (0,0))) (hne : rb ≠ fb) (s f l p h x y : Value) {V : World} (hV : V = ((((((W.setCell ⟨rb,0,none⟩ s).setCell ⟨rb,1,none⟩ f).setCell ⟨rb,2,none⟩ l).setCell ⟨rb,3,none⟩ p).setCell ⟨rb,4,none⟩ h).setCell ⟨fb,0,none⟩ x).setCell ⟨fb,1,none⟩ y) :
  V.heap[rb]? = some (.cells #[s,f,l,p,h] 27 (0,0)) /\ V.heap[fb]? = some (.cells #[x,y] 36 (0,0)) /\ Kp (fun b=>b = rb ∨ b = fb) W V:=by
 have h1 : (((((W.setCell ⟨rb,0,none⟩ s).setCell ⟨rb,1,none⟩ f).setCell ⟨rb,2,none⟩ l).setCell ⟨rb,3,none⟩ p).setCell ⟨rb,4,none⟩ h).heap[rb]? = some (.cells #[s,f,l,p,h] 27 (0,0)):=B.set (B.set (B.set (B.set (B.set hr 0 s) 1 f) 2 l) 3 p) 4 h
 have hne' : fb ≠ rb:=fun e=>hne e.symm
 have h2:=B.other (B.other (B.other (B.other (B.other hf rb 0 s hne') rb 1 f hne') rb 2 l hne') rb 3 p hne') rb 4 h hne'
 subst hV
 refine ⟨B.other (B.other h1 fb 0 x hne) fb 1 y hne,B.set (B.set h2 0 x) 1 y,?_⟩
 have k : ∀ (A : World) (g j : Nat) (v : Value),g = rb ∨ g = fb -> Kp (fun b=>b = rb ∨ b = fb) A (A.setCell ⟨g,j,none⟩ v):=fun A g j v hg=>Kp.set _ A ⟨g,j,none⟩ v hg
 exact ((((((k _ _ _ _ (.inl rfl)).trans (k _ _ _ _ (.inl rfl)) (fun _ _ g=>g)).trans (k _ _ _ _ (.inl rfl)) (fun _ _ g=>g)).trans (k _ _ _ _ (.inl rfl)) (fun _ _ g=>g)).trans (k _ _ _ _ (.inl rfl)) (fun _ _ g=>g)).trans (k _ _ _ _ (.inr rfl)) (fun _ _ g=>g)).trans (k _ _ _ _ (.inr rfl)) (fun _ _ g=>g)
end KZ
namespace KG
open Go.RowKit GK KO
open KW (KAt HasK cellsK FitK FitSp)
theorem sheet_fit {s : LM.Sh} (h : LM.sheetB s = true) : LM.FitH s:=by
 unfold LM.sheetB LM.headB at h
 rw [Bool.and_eq_true,decide_eq_true_eq] at h
 obtain ⟨⟨h1,h2,h3⟩,hf⟩:=h
 have hl:=LM.endTo_ge _ _ hf
 refine ⟨⟨by omega,by omega⟩,by unfold M.Short;omega,by unfold M.Short;omega,fun k hk=>?_⟩
 have all : ∀ n,LM.fixesTo s.fixes n = true -> ∀ i,i < n -> LM.fixesTo s.fixes i = true /\ LM.fixB (LM.endTo s.fixes i) (LM.fxAt s.fixes i) = true:=fun n=>by
  induction n with
  | zero=>intro _ i hi;omega
  | succ n ih =>
   intro hn i hi
   simp only [LM.fixesTo,Bool.and_eq_true] at hn
   by_cases c : i = n
   · rw [c];exact hn
   · exact ih hn.1 i (by omega)
 obtain ⟨g1,g2⟩:=all _ hf k hk
 have g3:=LM.endTo_ge _ _ g1
 unfold LM.fixB at g2
 rw [decide_eq_true_eq] at g2
 exact ⟨⟨by omega,by omega⟩,by unfold M.Short;omega⟩
theorem sheets_fit {hs : List LM.Sh} (h : LM.riseB hs = true) (hl : hs.length <= 255) : LM.FitHs hs:=⟨by unfold M.Short;omega,fun k hk=>sheet_fit (LM.riseTo_ok hs hs.length h k hk).1⟩
theorem fit_right {k : KM.Kn} (h : KM.RightK k) : FitK k:=by
 have hc:=h.c
 obtain ⟨r1,r2⟩:=KX.refs_few h
 have hh:=h.hand
 refine ⟨sheets_fit h.rise (by omega),by unfold M.Short;omega,fun i hi=>⟨?_,?_⟩,by unfold M.Short;omega,fun i hi=>⟨?_,?_⟩,by unfold M.Short;omega,fun i hi=>⟨?_,?_,fun n hn=>?_⟩,⟨by omega,by omega⟩⟩
 · have f:=h.frm i hi
   unfold M.Short
   by_cases c : KM.names k.spaces 1 i = []
   · rw [f.zero c];exact Nat.zero_le _
   · rw [f.size c];decide
 · have:=r1 i hi
   exact ⟨by omega,by omega⟩
 · have f:=h.slt i hi
   unfold M.Short
   by_cases c : KM.names k.spaces 2 i = []
   · rw [f.zero c];exact Nat.zero_le _
   · rw [f.size c];decide
 · have:=r2 i hi
   exact ⟨by omega,by omega⟩
 · exact AM.fits_of_check _ (h.sp hi).areas
 · have:=KX.ents_few h hi
   unfold M.Short;omega
 · have s:=h.sp hi
   have he : KM.enAt (KM.spAt k.spaces i).ents n ∈ (KM.spAt k.spaces i).ents:=KM.getD_mem hn
   obtain ⟨e1,e2⟩:=s.ent _ he
   have e3:=FM.found_page s.areas e1
   rcases e2 with ⟨e4,e5,e6⟩ | ⟨e4,e5,e6⟩
   · exact ⟨⟨by omega,by omega⟩,by rw [e4];exact ⟨by decide,by decide⟩,⟨by omega,by omega⟩⟩
   · exact ⟨⟨by omega,by omega⟩,by rw [e4];exact ⟨by decide,by decide⟩,⟨by omega,by omega⟩⟩
theorem out_keep {lo : Nat} {w : World} {S : St} {k : KM.Kn} (h : Kr lo w S k) : ∃ a,#[S.vS,S.vF,S.vL,S.vP,.int .i64 k.hand] = cellsK a k /\ ∀ U,Kp (fun b=>b < lo) w U -> HasK U a k:=by
 obtain ⟨a,p,_⟩:=h.has
 refine ⟨a,by unfold cellsK;rw [p.eS,p.eF,p.eL,p.eP],fun U hU=>?_⟩
 obtain ⟨a',p',ha⟩:=(h.kp hU (fun b hb e=>by have:=(h.bnd b hb).1;omega)).has
 have e1:=p.eS.symm.trans p'.eS
 have e2:=p.eF.symm.trans p'.eF
 have e3:=p.eL.symm.trans p'.eL
 have e4:=p.eP.symm.trans p'.eP
 injection e1 with q1 _ q2
 injection e2 with q3 _ q4
 injection e3 with q5 _ q6
 injection e4 with q7 _ q8
 have : a' = a:=by
  cases a
  cases a'
  simp only at q1 q2 q3 q4 q5 q6 q7 q8
  subst q1 q2 q3 q4 q5 q6 q7 q8
  rfl
 rw [<- this]
 exact ha
def OutR (w : World) (k : KM.Kn) (vs : List Value) (e : Ending) (w' : World) : Prop:=∃ hs a,KM.Same k.sheets hs /\ e = .returned (.tuple (Value.agg (cellsK a (KM.withS k hs)) :: vs).toArray) /\ (∀ U,Kp (fun b=>b < w.heap.size) w' U -> HasK U a (KM.withS k hs)) /\ Below w.heap.size w w'
theorem out_r {w : World} {k : KM.Kn} {vs : List Value} {e : Ending} {w' : World} (h : KZ.OutKn w k vs e w') : OutR w k vs e w':=by
 obtain ⟨S,hs,h1,h2,h3,h4⟩:=h
 obtain ⟨a,e1,e2⟩:=out_keep h3
 exact ⟨hs,a,h1,by rw [h2,<- e1];rfl,e2,h4⟩
end KG
namespace KX
open Go.RowKit GK KO
open FW (hideC add_below)
open KW (cellFr cellSl cellEn HasRow KAt HasK cellsK aggEn cellI entryN)
open KS (Lc cellLc lc0 lcAt blk SpOwn)
theorem ids_len (l : List Nat) : (ids l).length = l.length:=by unfold ids;rw [List.length_map]
theorem ids_at (l : List Nat) (n : Nat) (hn : n < l.length) : KW.itAt (ids l) n = ((l.getD n 0 : Nat) : Int):=by
 unfold KW.itAt ids
 rw [List.getD_eq_getElem?_getD,List.getElem?_map,List.getD_eq_getElem?_getD,List.getElem?_eq_getElem hn]
 rfl
set_option maxHeartbeats 8000000 in
theorem join_any {lo mb : Nat} {tt : TypeId} {X : List Value} (k : KM.Kn) (S : St) (w : World) (l : List Nat) (av : Option Addr) (cv : Nat) (h : Km lo mb tt X w S k) (hH : Held w S av (ids l)) (hl : ∀ n,n < l.length -> l.getD n 0 < k.frames.length) (hll : l.length <= 2) (hsz : ∀ n,n < l.length -> (KM.frAt k.frames (l.getD n 0)).data.size <= 1000) (hnf : 0 < k.frames.length) :
  Calls Tryz.prog 64 #[.pointer (some ⟨mb,0,none⟩),.slice av l.length cv] w fun e w'=>e = .returned (.string (KM.joinTo k.frames l l.length)) /\ w' = w:=by
 obtain ⟨fb,cF,A⟩:=h.toKr.fr hnf
 have c1:=h.c1
 rw [A.v] at c1
 have HX:=hideC A.x0
 have HH:=hideC hH.has
 have HL:=hideC hl
 have HSZ:=hideC hsz
 have HJB : Hid (∀ n,n <= l.length -> (KM.joinTo k.frames l n).size <= n * 1000):=fun n=>by
  induction n with
  | zero=>intro _;exact Nat.zero_le _
  | succ n ih =>
   intro hn
   unfold KM.joinTo
   rw [ByteArray.size_append]
   have:=ih (by omega)
   have:=hsz n (by omega)
   omega
 obtain ⟨nf,hnf2⟩ : ∃ nf,nf = k.frames.length:=⟨_,rfl⟩
 rw [<- hnf2] at c1 HX HL
 clear h hH A hl hsz hnf hnf2
 go_enter Tryz.func64,Tryz.ntmps64
 go_wp2
 go_loopw [5,10] (fun dv iv wr=>∃ n : Nat,n <= l.length /\ iv = .int .i64 (n : Int) /\ dv = .string (KM.joinTo k.frames l n) /\ wr = w) (fun _ iv _=>l.length - (intOf iv).toNat)
 case atStart=>exact ⟨0,by omega,rfl,rfl,rfl⟩
 case round =>
  obtain ⟨n,hn,rfl,rfl,rfl⟩:=hrel
  by_cases hlt : n < l.length
  · have hni : (n : Int) < (l.length : Int):=by omega
    have hjb:=HJB.out n hn
    have hs1:=HSZ.out n hlt
    obtain ⟨eb,eo,hao,hbl,hlie⟩:=HH.out (by rw [ids_len];omega)
    subst hao
    have y0:=hlie n (by rw [ids_len];exact hlt) 0 (by omega)
    rw [Nat.add_zero,Nat.mul_one] at y0
    have e0:=ids_at l n hlt
    have x0 : wr.cell? ⟨eb,eo + n,none⟩ = some (.int .i64 ((l.getD n 0 : Nat) : Int)):=by
     rw [<- e0];exact y0
    have hq:=HL.out n hlt
    have xF:=HX.out (l.getD n 0) hq
    have HNX : Hid (KM.joinTo k.frames l (n + 1) = KM.joinTo k.frames l n ++ (KM.frAt k.frames (l.getD n 0)).data):=rfl
    obtain ⟨q,hqe⟩ : ∃ q,q = l.getD n 0:=⟨_,rfl⟩
    rw [<- hqe] at x0 xF HNX hq hs1
    obtain ⟨FD,hFD⟩ : ∃ FD,FD = (KM.frAt k.frames q).data:=⟨_,rfl⟩
    rw [<- hFD] at xF HNX hs1
    obtain ⟨JD,hJD⟩ : ∃ JD,JD = KM.joinTo k.frames l n:=⟨_,rfl⟩
    rw [<- hJD] at HNX hjb ⊢
    have hqi : (q : Int) < (nf : Int):=by omega
    clear hlie y0 e0 hqe hFD hJD
    go_wp2
    go_roundw
    case rel=>exact ⟨n + 1,by omega,by go_num,by rw [HNX.out],trivial⟩
    case measure=>simp [intOf];omega
  · obtain rfl : n = l.length:=by omega
    go_wp2
    go_ret
    exact ⟨rfl,rfl⟩
theorem part_nf (k : KM.Kn) (l : List Nat) (s : ByteArray) : ∀ n,(KM.partTo k l s n).frames.length = k.frames.length
 | 0=>rfl
 | n + 1=>by
  unfold KM.partTo KM.layD
  show (List.set _ _ _).length = _
  rw [List.length_set,part_nf k l s n]
set_option maxHeartbeats 16000000 in
theorem part_any {lo mb : Nat} {tt : TypeId} {X : List Value} (k : KM.Kn) (S : St) (w : World) (l : List Nat) (s : ByteArray) (av : Option Addr) (cv : Nat) (h : Km lo mb tt X w S k) (hH : Held w S av (ids l)) (hl : ∀ n,n < l.length -> l.getD n 0 < k.frames.length) (hll : l.length <= 2) (hs : l.length * 16 <= s.size) (hs2 : s.size <= 1000) (hnf : 0 < k.frames.length) :
  Calls Tryz.prog 66 #[.pointer (some ⟨mb,0,none⟩),.slice av l.length cv,.string s] w (OutS lo mb tt X w S (.tuple #[]) (KM.partTo k l s l.length)):=by
 have HH:=hideC hH
 have HL:=hideC hl
 have HRD : Hid (∀ V n,n < l.length -> Km lo mb tt X V S (KM.partTo k l s n) -> ∃ fb cF,¬ mb = fb /\ V.cell? ⟨mb,1,none⟩ = some (.slice (some ⟨fb,0,none⟩) k.frames.length cF) /\ (∀ V',Below V.heap.size V V' -> V'.cell? ⟨fb,l.getD n 0 * 4,none⟩ = some (.string (KM.frAt (KM.partTo k l s n).frames (l.getD n 0)).data) /\ V'.frozen? ⟨fb,l.getD n 0 * 4,none⟩ = false /\ Km lo mb tt X (V'.setCell ⟨fb,l.getD n 0 * 4,none⟩ (.string (s.extract (n * 16) (n * 16 + 16)))) S (KM.partTo k l s (n + 1)) /\ Ch S V S (V'.setCell ⟨fb,l.getD n 0 * 4,none⟩ (.string (s.extract (n * 16) (n * 16 + 16)))))):=fun V n hn hV=>by
  obtain ⟨fb,cF,A⟩:=hV.toKr.fr (by rw [part_nf];exact hnf)
  have c1:=hV.c1
  rw [A.v,part_nf] at c1
  refine ⟨fb,cF,fun e=>by have:=A.lab;rw [<- e,hV.lH] at this;simp at this,c1,fun V' hb=>?_⟩
  have hV':=hV.below hb
  obtain ⟨fb',cF',A'⟩:=hV'.toKr.fr (by rw [part_nf];exact hnf)
  have e : fb' = fb:=by
   have:=A'.v
   rw [A.v] at this
   injection this with e1 _ _
   injection e1 with e1
   injection e1 with e1 _ _
   exact e1.symm
  subst e
  have hi : l.getD n 0 < (KM.partTo k l s n).frames.length:=by rw [part_nf];exact hl n hn
  exact ⟨A'.x0 _ hi,A'.fz _,hV'.setF A'.v hi (j:=0) (by omega) rfl,(Ch.below hb).trans (chF hV'.toKr A'.v)⟩
 have HPA : Hid (∀ V n,n < l.length -> Calls Tryz.prog 63 #[.string s,.int .i64 ((n : Int) * 16),.int .i64 16] V fun e w'=>e = .returned (.tuple #[.string (s.extract (n * 16) (n * 16 + 16)),.int .i64 0]) /\ Below V.heap.size V w'):=fun V n hn=>by
  have:=CW.part_yes s (n * 16) 16 V (by omega) (by omega)
  rw [show ((n * 16 : Nat) : Int) = (n : Int) * 16 by omega,show ((16 : Nat) : Int) = 16 from rfl] at this
  exact this
 have HK0:=hideC h
 have HFIN : Hid (∀ V,Km lo mb tt X V S (KM.partTo k l s l.length) -> Ch S w S V -> OutS lo mb tt X w S (.tuple #[]) (KM.partTo k l s l.length) (.returned (.tuple #[])) V):=fun V h1 h2=>⟨rfl,h1,h2⟩
 obtain ⟨P,hP⟩ : ∃ P,P = OutS lo mb tt X w S (.tuple #[]) (KM.partTo k l s l.length):=⟨_,rfl⟩
 rw [<- hP] at HFIN ⊢
 obtain ⟨nf,hnf2⟩ : ∃ nf,nf = k.frames.length:=⟨_,rfl⟩
 rw [<- hnf2] at HRD HL
 clear h hH hl hnf hnf2 hs hs2 hP
 go_enter Tryz.func66,Tryz.ntmps66
 go_wp2
 go_loopw [10] (fun iv wr=>∃ n : Nat,n <= l.length /\ iv = .int .i64 (n : Int) /\ Km lo mb tt X wr S (KM.partTo k l s n) /\ Ch S w S wr) (fun iv _=>l.length - (intOf iv).toNat)
 case atStart=>exact ⟨0,by omega,rfl,HK0.out,Ch.refl _ _⟩
 case round =>
  obtain ⟨n,hn,rfl,hkm,hch⟩:=hrel
  by_cases hlt : n < l.length
  · have hni : (n : Int) < (l.length : Int):=by omega
    have hheld:=HH.out.ch hch
    obtain ⟨eb,eo,hao,hbl,hlie⟩:=hheld.has (by rw [ids_len];omega)
    subst hao
    have y0:=hlie n (by rw [ids_len];exact hlt) 0 (by omega)
    rw [Nat.add_zero,Nat.mul_one] at y0
    have e0:=ids_at l n hlt
    have x0 : wr.cell? ⟨eb,eo + n,none⟩ = some (.int .i64 ((l.getD n 0 : Nat) : Int)):=by
     rw [<- e0];exact y0
    have hq:=HL.out n hlt
    obtain ⟨fb,cF,hmf,c1,hwr⟩:=HRD.out wr n hlt hkm
    have HWR:=hideC hwr
    have HPA2:=hideC (fun V=>HPA.out V n hlt)
    have HCH:=hideC hch
    obtain ⟨q,hqe⟩ : ∃ q,q = l.getD n 0:=⟨_,rfl⟩
    rw [<- hqe] at x0 hq HWR
    obtain ⟨FD,hFD⟩ : ∃ FD,FD = (KM.frAt (KM.partTo k l s n).frames q).data:=⟨_,rfl⟩
    rw [<- hFD] at HWR
    obtain ⟨PD,hPD⟩ : ∃ PD,PD = s.extract (n * 16) (n * 16 + 16):=⟨_,rfl⟩
    rw [<- hPD] at HWR HPA2
    have hqi : (q : Int) < (nf : Int):=by omega
    have hml : mb < wr.heap.size:=World.block_lt_of_cell? wr _ c1
    have hmu : IntKind.i64.wrap ((n : Int) * 16) = (n : Int) * 16:=IntWalk.i64_in _ (by omega)
    clear hlie y0 e0 hqe hFD hPD hkm hch hwr hheld HK0
    go_upto_region 3 with fail
    have HK0:=hideC (Below.refl wr.heap.size wr).drew
    have HS0 : Hid (wr.drew.cell? ⟨mb,1,none⟩ = some (.slice (some ⟨fb,0,none⟩) nf cF)):=(HK0.out.cell (p:=⟨mb,1,none⟩) hml).trans c1
    go_region_held3 (fun V=>V.cell? ⟨mb,1,none⟩ = some (.slice (some ⟨fb,0,none⟩) nf cF)) (first | exact HS3.out | exact HS0.out | exact HS4.out)
     ((go_at_call 63;refine (HPA2.out _).mono ?_;rintro r w5 ⟨rfl,hb5⟩;have HK5:=hideC (HK0.out.trans (hb5.mono HK0.out.size));have HS3 : Hid (w5.cell? ⟨mb,1,none⟩ = some (.slice (some ⟨fb,0,none⟩) nf cF)):=(HK5.out.cell (p:=⟨mb,1,none⟩) hml).trans c1;have HS4 : Hid ((w5.setCell ⟨fb,q * 4,none⟩ (.string PD)).cell? ⟨mb,1,none⟩ = some (.slice (some ⟨fb,0,none⟩) nf cF)):=(cell_other _ _ _ _ _ _ hmf).trans HS3.out;obtain ⟨z0,z1,z2,z3⟩:=HWR.out w5 HK5.out;have HZ2:=hideC z2;have HZ3:=hideC z3;clear hb5 z2 z3))
    all_goals clear HS0 HS3 HS4 HPA2
    all_goals go_wp2
    go_roundw
    case rel=>exact ⟨n + 1,by omega,by go_num,HZ2.out,HCH.out.trans HZ3.out⟩
    case measure=>simp [intOf];omega
  · obtain rfl : n = l.length:=by omega
    have HX:=hideC (HFIN.out wr hkm hch)
    clear hkm hch
    go_wp2
    first
     | exact HX.out
     | (refine bodyPost_end (v:=.tuple #[]) (by simp [results,Tryz.results66,go_sem]) rfl ?_;exact HX.out)
end KX
end Go.Proofs.YtpgifpeohlllfaaGreat
