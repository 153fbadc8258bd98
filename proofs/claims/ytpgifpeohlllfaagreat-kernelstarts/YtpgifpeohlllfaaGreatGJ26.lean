import Derived.Test.YtpgifpeohlllfaaGreatGJ21
import Derived.Test.YtpgifpeohlllfaaGreatGJ25
set_option maxHeartbeats 20000000
set_option linter.unusedVariables false
set_option maxRecDepth 100000
set_option linter.unusedSimpArgs false
namespace Go.Proofs.YtpgifpeohlllfaaGreat
namespace KR
open Go.RowKit GK KO
open FW (hideC add_below)
open KW (cellFr cellSl cellEn HasRow KAt HasK cellsK aggEn cellI)
open KS (Lc cellLc lc0 lcAt blk SpOwn)
open KY (Small OutC sh_row fx_row sh_one fx_one fr_one sl_one row_from sp_take new_lc infoSp)
theorem grown_below {N : Nat} {w0 w w' : World} {row : Option Nat} (h : Below N w0 w) (hN : N <= w0.heap.size) (g : w.grownBy w' row) (hr : ∀ k,row = some k -> N <= k) : Below N w0 w' :=
 h.trans ⟨g.os,g.tape,g.output,g.size,fun b hb=>g.block b (Nat.lt_of_lt_of_le hb (Nat.le_trans hN h.size)) (fun e=>by have:=hr b e.symm;omega)⟩
theorem tailE {N GD na : Nat} {W V wE : World} {vC vE : Value} {xs : List Value} (hb : Below N W V) (hW : N <= W.heap.size) (hrc : V.ownsRow N 47 4 vC na xs) (hN : N <= GD) (hne : ∀ b,blk vC b -> b ≠ GD) (hg : V.grownBy wE (some GD)) (ha : vE.ownBlock = some GD ∨ vE.ownBlock = some V.heap.size) : Below N W wE /\ wE.ownsRow N 47 4 vC na xs /\ ∀ b,blk vE b -> ¬ blk vC b :=
 ⟨grown_below hb hW hg (fun k hk=>by injection hk with hk;omega),Kp.row (Kp.grown (D:=fun b=>b = GD) hg (fun k hk=>by injection hk with hk;exact hk.symm)) hrc (fun g hg e=>hne g hg e),fun b hb hb2=>by
  have hb' : vE.ownBlock = some b:=hb
  rcases ha with g | g
  · rw [g] at hb';injection hb' with hb';exact hne b hb2 hb'.symm
  · rw [g] at hb';injection hb' with hb';have:=(hrc.lt b hb2).2;omega⟩
theorem tailC {N GB GD : Nat} {W V wC : World} {vC : Value} (hb : Below N W V) (hW : N <= W.heap.size) (hrd : V.ownsRow N 45 3 (.slice (some ⟨GD,0,none⟩) 0 0) 0 []) (hne : GD ≠ GB) (hN : N <= GB) (hg : V.grownBy wC (some GB)) (ha : vC.ownBlock = some GB ∨ vC.ownBlock = some V.heap.size) : Below N W wC /\ wC.ownsRow N 45 3 (.slice (some ⟨GD,0,none⟩) 0 0) 0 [] /\ ∀ b,blk vC b -> b ≠ GD :=
 ⟨grown_below hb hW hg (fun k hk=>by injection hk with hk;omega),Kp.row (Kp.grown (D:=fun b=>b = GB) hg (fun k hk=>by injection hk with hk;exact hk.symm)) hrd (fun g hg e=>by have hg' : some GD = some g:=hg;injection hg' with hg';omega),fun b hb e=>by
  have hb' : vC.ownBlock = some b:=hb
  rcases ha with g | g
  · rw [g] at hb';injection hb' with hb';omega
  · rw [g] at hb';injection hb' with hb';have:=(hrd.lt GD rfl).2;omega⟩
theorem new_cells (w : World) (xs : List Value) (e : TypeId) : ∀ j u,xs[j]? = some u -> (w.alloc (.cells xs.toArray e)).cell? ((⟨w.heap.size,0,none⟩ : Addr).add j) = some u:=fun j u hu=>by
 rw [Addr.add_lit,Nat.zero_add]
 exact B.cell (B.new w xs.toArray e) j (by simpa using hu)
theorem lc_one (l : Bool) (a b : Option Addr) (n m c d : Nat) : ∀ u ∈ cellLc ⟨l,.slice a n c,.slice b m d⟩,u.oneCell' = true:=fun u hu=>by
 simp [cellLc] at hu
 rcases hu with rfl | rfl | rfl <;> rfl
theorem en_one : ∀ (l : List KM.En),∀ u ∈ l.flatMap cellEn,u.oneCell' = true:=fun l u hu=>by
 obtain ⟨y,_,hy⟩:=List.mem_flatMap.1 hu
 simp [cellEn] at hy
 rcases hy with rfl | rfl | rfl <;> rfl
theorem sh_cells (s : LM.Sh) : ∀ u ∈ cellSh s,u.oneCell' = true:=fun u hu=>by
 simp [cellSh] at hu
 rcases hu with rfl | rfl | rfl <;> rfl
theorem hasOwn {N na np : Nat} {wE : World} {lv : Bool} {vC vE : Value} {ars : List AM.Ar} {ens : List KM.En} (ha : wE.ownsRow N 47 4 vC na ([] ++ AM.areaCells ars)) (hp : wE.ownsRow N 45 3 vE np ([] ++ ens.flatMap cellEn)) (hnp : np = ens.length) (hna : na = ars.length) : SpOwn N wE ⟨lv,vC,vE⟩ ⟨lv,ars,ens⟩:=by
 subst hnp hna
 exact ⟨rfl,by simpa [AW.Own] using ha,by simpa using hp⟩
theorem al1 (W : World) (o : Obj) : Below W.heap.size W (W.alloc o).drew:=((Below.refl _ _).alloc (Nat.le_refl _) _).drew
theorem al2 (W : World) (o o' : Obj) : Below W.heap.size W ((W.alloc o).alloc o').drew:=(((Below.refl _ _).alloc (Nat.le_refl _) _).alloc (by simp) _).drew
theorem mk4 {N : Nat} {V : World} (h : N <= V.heap.size) (e : TypeId) (size : Nat) : (V.alloc (.cells #[] e)).ownsRow N e size (.slice (some ⟨V.heap.size,0,none⟩) 0 0) 0 []:=World.ownsRow_made V #[] 0 h (by unfold maxLen;omega) (by simp)
theorem drew_row {w : World} {base : Nat} {e : TypeId} {size : Nat} {v : Value} {n : Nat} {xs : List Value} (h : w.ownsRow base e size v n xs) : w.drew.ownsRow base e size v n xs:=Kp.row (Kp.drew (fun _=>False) w) h (fun _ _ g=>g)
theorem mk1 (W : World) (e : TypeId) (size : Nat) : (W.alloc (.cells #[] e)).drew.ownsRow W.heap.size e size (.slice (some ⟨W.heap.size,0,none⟩) 0 0) 0 []:=drew_row (mk4 (Nat.le_refl _) e size)
theorem mk2 (W : World) (e : TypeId) (o : Obj) (size : Nat) : ((W.alloc (.cells #[] e)).alloc o).drew.ownsRow W.heap.size e size (.slice (some ⟨W.heap.size,0,none⟩) 0 0) 0 []:=drew_row (Kp.row (Kp.alloc (fun _=>False) _ o) (mk4 (Nat.le_refl _) e size) (fun _ _ g=>g))
theorem mk3 (W : World) (e : TypeId) (o : Obj) (size : Nat) : ((W.alloc o).alloc (.cells #[] e)).drew.ownsRow W.heap.size e size (.slice (some ⟨W.heap.size + 1,0,none⟩) 0 0) 0 []:=by
 have:=mk4 (V:=W.alloc o) (N:=W.heap.size) (by simp) e size
 rw [World.size_alloc] at this
 exact drew_row this
theorem sh_take (l : List LM.Sh) (m : Nat) (h : m < l.length) : l.take (m + 1) = l.take m ++ [LM.shAt l m]:=by
 rw [List.take_add_one,List.getElem?_eq_getElem h]
 unfold LM.shAt
 rw [List.getD_eq_getElem?_getD,List.getElem?_eq_getElem h]
 rfl
theorem same_snoc {l hs : List LM.Sh} {m : Nat} {s : LM.Sh} (h : KM.Same (l.take m) hs) (hm : m < l.length) (hp : LM.plain s = LM.plain (LM.shAt l m)) : KM.Same (l.take (m + 1)) (hs ++ [s]):=by
 unfold KM.Same at h ⊢
 rw [sh_take l m hm,List.map_append,List.map_append,h]
 simp [hp]
theorem fixStep {wr WS wX : World} {pg : Int} {dt : ByteArray} {c0 : Value} {n : Nat} {aX : Option Addr} {cX : Nat} {xs : List Value} (hb : Below wr.heap.size wr WS) (hsz : WS.heap.size = wr.heap.size + 1) (BS : WS.heap[wr.heap.size]? = some (.cells #[.int .i64 pg,.string dt,c0] 50 (0,0)))
  (ho : wX.ownsRow wr.heap.size 52 2 (.slice aX n cX) n ([] ++ xs)) (hg : (WS.alloc (.cells #[] 52)).grownBy wX (some WS.heap.size)) (ha : (Value.slice aX n cX).ownBlock = some WS.heap.size ∨ (Value.slice aX n cX).ownBlock = some (WS.alloc (.cells #[] 52)).heap.size) :
  wX.cell? ⟨wr.heap.size,2,none⟩ = some c0 /\ wX.frozen? ⟨wr.heap.size,2,none⟩ = false /\ Below wr.heap.size wr (wX.setCell ⟨wr.heap.size,2,none⟩ (.slice aX n cX)) /\ (wX.setCell ⟨wr.heap.size,2,none⟩ (.slice aX n cX)).heap[wr.heap.size]? = some (.cells #[.int .i64 pg,.string dt,.slice aX n cX] 50 (0,0)) /\ (wX.setCell ⟨wr.heap.size,2,none⟩ (.slice aX n cX)).ownsRow wr.heap.size 52 2 (.slice aX n cX) n xs:=by
 have h1 : Below WS.heap.size WS wX:=grown_below ((Below.refl _ _).alloc (Nat.le_refl _) _) (Nat.le_refl _) hg (fun k hk=>by injection hk with hk;omega)
 have h2:=B.below BS h1 (B.isLt BS)
 refine ⟨B.cell h2 2 rfl,B.free h2 2,(hb.trans (h1.mono hb.size)).setCell (p:=⟨wr.heap.size,2,none⟩) (Nat.le_refl _) _,B.set h2 2 (.slice aX n cX),?_⟩
 refine (Kp.set (fun b=>b = wr.heap.size) _ _ _ rfl).row (by simpa using ho) (fun b hx e=>?_)
 have hx : (Value.slice aX n cX).ownBlock = some b:=hx
 rcases ha with g | g
 · rw [g] at hx;injection hx with hx;omega
 · rw [g] at hx;injection hx with hx;rw [World.size_alloc] at hx;omega
set_option maxHeartbeats 16000000 in
theorem own_any (k : KM.Kn) (a : KAt) (w : World) (hK : HasK w a k) (hs : Small k) :
  Calls Tryz.prog 16 #[.agg (cellsK a k)] w (OutC w k):=by
 obtain ⟨P,hP⟩ : ∃ P,P = OutC w k:=⟨_,rfl⟩
 rw [<- hP]
 have HP:=hideC hP
 clear hP
 have HKS:=hideC hK.spaces
 have HSH : Hid (∀ V i,Below w.heap.size w V -> i < k.sheets.length -> ∃ b off,a.aS = some ⟨b,off,none⟩ /\ V.cell? ⟨b,off + i * 3,none⟩ = some (.int .i64 (LM.shAt k.sheets i).page) /\ V.cell? ⟨b,off + i * 3 + 1,none⟩ = some (.string (LM.shAt k.sheets i).data) /\ V.cell? ⟨b,off + i * 3 + 2,none⟩ = some (.slice (LM.shAt k.sheets i).ao (LM.shAt k.sheets i).fixes.length (LM.shAt k.sheets i).cap) /\ (LM.shAt k.sheets i).fixes.length <= 1000000):=fun V i hV hi=>by
  obtain ⟨b,off,e1,e2,e3⟩:=((sh_row hK.sheets).below hV) (by omega)
  have z:=e3 i hi 0 (by omega)
  rw [Nat.add_zero] at z
  exact ⟨b,off,e1,z,e3 i hi 1 (by omega),e3 i hi 2 (by omega),hs.fixes i hi⟩
 have HFX : Hid (∀ V n,Below w.heap.size w V -> n < k.sheets.length -> From V (LM.shAt k.sheets n).ao (LM.shAt k.sheets n).fixes.length ((LM.shAt k.sheets n).fixes.flatMap cellFx)):=fun V n hb hn=>by
  obtain ⟨b,off,_,_,hi⟩:=hK.sheets (by omega)
  have h4 : LM.HasF w (LM.shAt k.sheets n).ao (LM.shAt k.sheets n).fixes:=(hi n hn).2.2.2
  exact row_from (f:=cellFx) (n:=2) (fun _=>rfl) (fx_row (h4.below hb))
 have HRF : Hid (∀ V,Below w.heap.size w V -> From V a.aF k.frames.length (k.frames.flatMap cellFr)):=fun V hV=>row_from (f:=cellFr) (n:=4) (fun _=>rfl) (hK.frames.below hV)
 have HRL : Hid (∀ V,Below w.heap.size w V -> From V a.aL k.slots.length (k.slots.flatMap cellSl)):=fun V hV=>row_from (f:=cellSl) (n:=2) (fun _=>rfl) (hK.slots.below hV)
 have HLF:=hideC (rows_length cellFr 4 (fun _=>rfl) k.frames)
 have HLL:=hideC (rows_length cellSl 2 (fun _=>rfl) k.slots)
 have hnf:=hs.frames
 have hnl:=hs.slots
 have hnp:=hs.spaces
 have hns:=hs.sheets
 have HAR:=hideC hs.areas
 have HEN:=hideC hs.ents
 obtain ⟨WA,hWA⟩ : ∃ WA,WA = (w.alloc (.cells (cellsK a k) 27)).alloc (.cells #[.slice none 0 0,.slice none 0 0,.slice none 0 0,.slice none 0 0,.int .i64 0] 27):=⟨_,rfl⟩
 have hBA : Below w.heap.size w WA:=by rw [hWA];exact ((Below.refl _ _).alloc (Nat.le_refl _) _).alloc (by simp) _
 have kb : WA.heap[w.heap.size]? = some (.cells (cellsK a k) 27 (0,0)):=by rw [hWA];exact B.alloc (B.new w _ _) _
 have rb : WA.heap[w.heap.size + 1]? = some (.cells #[.slice none 0 0,.slice none 0 0,.slice none 0 0,.slice none 0 0,.int .i64 0] 27 (0,0)):=by
  have:=B.new (w.alloc (.cells (cellsK a k) 27)) #[.slice none 0 0,.slice none 0 0,.slice none 0 0,.slice none 0 0,.int .i64 0] 27
  rw [World.size_alloc] at this
  rw [hWA];exact this
 obtain ⟨cb,hcb⟩ : ∃ cb,cb = WA.heap.size:=⟨_,rfl⟩
 have HKB : Hid (∀ V,Below cb WA V -> V.heap[w.heap.size]? = some (.cells #[.slice a.aS k.sheets.length a.cS,.slice a.aF k.frames.length a.cF,.slice a.aL k.slots.length a.cL,.slice a.aP k.spaces.length a.cP,.int .i64 k.hand] 27 (0,0))):=fun V hV=>B.below kb (hcb ▸ hV) (B.isLt kb)
 have HRB : Hid (∀ V,Below cb WA V -> V.heap[w.heap.size + 1]? = some (.cells #[.slice none 0 0,.slice none 0 0,.slice none 0 0,.slice none 0 0,.int .i64 0] 27 (0,0))):=fun V hV=>B.below rb (hcb ▸ hV) (B.isLt rb)
 have HBW : Hid (∀ V,Below cb WA V -> Below w.heap.size w V):=fun V hV=>hBA.trans (hV.mono (by rw [hcb];exact hBA.size))
 have hwc : w.heap.size + 1 < cb:=by rw [hcb];exact B.isLt rb
 have HWC:=hideC hwc
 have k4 : WA.cell? ⟨w.heap.size,4,none⟩ = some (.int .i64 k.hand):=B.cell kb 4 rfl
 obtain ⟨WC,hWC⟩ : ∃ WC,WC = WA.alloc (.cells #[.slice none 0 0,.slice none 0 0,.slice none 0 0,.slice none 0 0,.int .i64 k.hand] 27):=⟨_,rfl⟩
 have HM0 : Hid (Km cb cb 27 [] WC ⟨fun b=>if b = cb then .head else .no,.slice none 0 0,.slice none 0 0,.slice none 0 0,.slice none 0 0,[]⟩ ⟨[],[],[],[],k.hand⟩):=by
  refine km_start ?_
  rw [hWC,hcb]
  exact B.new WA _ _
 have HB0 : Hid (Below cb WA WC):=by rw [hWC,hcb];exact (Below.refl _ _).alloc (Nat.le_refl _) _
 have HWA:=hideC hWA
 have HWCE:=hideC hWC
 have HCB:=hideC hcb
 obtain ⟨ix,i0,i1,i2,i3⟩:=info_parts infoFx
 have HIX0:=hideC i0
 have HIX1:=hideC i1
 have HIX2:=hideC i2
 have HIX3:=hideC i3
 clear i0 i1 i2 i3
 obtain ⟨ih,i0,i1,i2,i3⟩:=info_parts infoSh
 have HIH0:=hideC i0
 have HIH1:=hideC i1
 have HIH2:=hideC i2
 have HIH3:=hideC i3
 clear i0 i1 i2 i3
 obtain ⟨jf,i0,i1,i2,i3⟩:=info_parts infoFr
 have HIF0:=hideC i0
 have HIF1:=hideC i1
 have HIF2:=hideC i2
 have HIF3:=hideC i3
 clear i0 i1 i2 i3
 obtain ⟨jl,i0,i1,i2,i3⟩:=info_parts infoSl
 have HIL0:=hideC i0
 have HIL1:=hideC i1
 have HIL2:=hideC i2
 have HIL3:=hideC i3
 clear i0 i1 i2 i3
 obtain ⟨ia,i0,i1,i2,i3⟩:=info_parts infoAr
 have HIA0:=hideC i0
 have HIA1:=hideC i1
 have HIA2:=hideC i2
 have HIA3:=hideC i3
 clear i0 i1 i2 i3
 obtain ⟨ip,i0,i1,i2,i3⟩:=info_parts infoEn
 have HIP0:=hideC i0
 have HIP1:=hideC i1
 have HIP2:=hideC i2
 have HIP3:=hideC i3
 clear i0 i1 i2 i3
 obtain ⟨is,i0,i1,i2,i3⟩:=info_parts infoSp
 have HIS0:=hideC i0
 have HIS1:=hideC i1
 have HIS2:=hideC i2
 have HIS3:=hideC i3
 clear i0 i1 i2 i3
 unfold cellsK at HWA ⊢
 clear hWA hK kb rb hBA hcb hWC hs
 go_enter Tryz.func16,Tryz.ntmps16
 go_upto_region 1 with fail
 rw [<- HWA.out]
 go_upto_region 2 with fail
 rw [<- HWCE.out,<- HCB.out]
 clear k4 HWA
 go_wp2
 go_loopw [4] (fun iv wq=>∃ (i : Nat) (lab : Nat -> Lb) (vS : Value) (hs : List LM.Sh),i <= k.sheets.length /\ iv = .int .i64 (i : Int) /\ KM.Same (k.sheets.take i) hs /\ Km cb cb 27 [] wq ⟨lab,vS,.slice none 0 0,.slice none 0 0,.slice none 0 0,[]⟩ ⟨hs,[],[],[],k.hand⟩ /\ Below cb WA wq) (fun iv _=>k.sheets.length - (intOf iv).toNat)
 case atStart=>exact ⟨0,_,_,[],by omega,rfl,rfl,HM0.out,HB0.out⟩
 case round =>
  obtain ⟨i,lab,vS,hs',hi,rfl,hsame,hkm,hbw⟩:=hrel
  clear HM0 HB0
  have hsl : hs'.length = i:=by
   have:=congrArg List.length hsame
   rw [List.length_map,List.length_map,List.length_take] at this
   omega
  obtain ⟨aS,cS,eS,_⟩:=row_form hkm.sheets
  have eS : vS = .slice aS hs'.length cS:=eS
  rw [hsl] at eS
  subst eS
  have hcl : cb < wr.heap.size:=hkm.lt
  have hwl : Below w.heap.size w wr:=HBW.out _ hbw
  have hk1:=HKB.out _ hbw
  by_cases hlt : i < k.sheets.length
  · have x0 : wr.cell? ⟨w.heap.size,0,none⟩ = some (.slice a.aS k.sheets.length a.cS):=B.cell hk1 0 rfl
    have hii : (i : Int) < (k.sheets.length : Int):=by omega
    obtain ⟨sB,sO,e1,z0,z1,z2,hfl⟩:=HSH.out wr i hwl hlt
    rw [e1] at x0
    have HFY : Hid (∀ V,Below w.heap.size w V -> From V (LM.shAt k.sheets i).ao (LM.shAt k.sheets i).fixes.length ((LM.shAt k.sheets i).fixes.flatMap cellFx)):=fun V hV=>HFX.out V i hV hlt
    have HSN : Hid (∀ s,LM.plain s = LM.plain (LM.shAt k.sheets i) -> KM.Same (k.sheets.take (i + 1)) (hs' ++ [s])):=fun s hp=>same_snoc hsame hlt hp
    obtain ⟨s,hse⟩ : ∃ s,s = LM.shAt k.sheets i:=⟨_,rfl⟩
    rw [<- hse] at z0 z1 z2 hfl HFY HSN
    obtain ⟨pg,dt,fx,ao,cap⟩:=s
    simp only at z0 z1 z2 hfl HFY HSN
    obtain ⟨WS,hWS⟩ : ∃ WS,WS = wr.alloc (.cells #[.int .i64 pg,.string dt,.slice ao fx.length cap] 50):=⟨_,rfl⟩
    have hbS : Below wr.heap.size wr WS:=by rw [hWS];exact (Below.refl _ _).alloc (Nat.le_refl _) _
    have hzS : WS.heap.size = wr.heap.size + 1:=by rw [hWS];exact World.size_alloc _ _
    have BS : WS.heap[wr.heap.size]? = some (.cells #[.int .i64 pg,.string dt,.slice ao fx.length cap] 50 (0,0)):=by rw [hWS];exact B.new _ _ _
    have s2 : WS.cell? ⟨wr.heap.size,2,none⟩ = some (.slice ao fx.length cap):=B.cell BS 2 rfl
    have s2' : (WS.alloc (.cells #[] 52)).cell? ⟨wr.heap.size,2,none⟩ = some (.slice ao fx.length cap):=B.cell (B.alloc BS _) 2 rfl
    have HMK : Hid ((WS.alloc (.cells #[] 52)).ownsRow wr.heap.size 52 2 (.slice (some ⟨WS.heap.size,0,none⟩) 0 0) 0 []):=mk4 hbS.size _ _
    have HFW : Hid (From (WS.alloc (.cells #[] 52)) ao fx.length (fx.flatMap cellFx)):=HFY.out _ ((hwl.trans (hbS.mono hwl.size)).alloc (Nat.le_trans hwl.size hbS.size) _)
    have HLX:=hideC (rows_length cellFx 2 (fun _=>rfl) fx)
    have HSZ : Hid (wr.heap.size <= (WS.alloc (.cells #[] 52)).heap.size):=by show _ <= _;rw [World.size_alloc];omega
    have HST : Hid (∀ wX aX cX,wX.ownsRow wr.heap.size 52 2 (.slice aX fx.length cX) fx.length ([] ++ fx.flatMap cellFx) -> (WS.alloc (.cells #[] 52)).grownBy wX (some WS.heap.size) -> ((Value.slice aX fx.length cX).ownBlock = some WS.heap.size ∨ (Value.slice aX fx.length cX).ownBlock = some (WS.alloc (.cells #[] 52)).heap.size) -> wX.cell? ⟨wr.heap.size,2,none⟩ = some (.slice ao fx.length cap) /\ wX.frozen? ⟨wr.heap.size,2,none⟩ = false /\ Below wr.heap.size wr (wX.setCell ⟨wr.heap.size,2,none⟩ (.slice aX fx.length cX)) /\ (wX.setCell ⟨wr.heap.size,2,none⟩ (.slice aX fx.length cX)).heap[wr.heap.size]? = some (.cells #[.int .i64 pg,.string dt,.slice aX fx.length cX] 50 (0,0)) /\ (wX.setCell ⟨wr.heap.size,2,none⟩ (.slice aX fx.length cX)).ownsRow wr.heap.size 52 2 (.slice aX fx.length cX) fx.length (fx.flatMap cellFx)):=fun wX aX cX h1 h2 h3=>fixStep hbS hzS BS h1 h2 h3
    have HRW : Hid (∀ V O,Below wr.heap.size wr V -> (V.alloc O).ownsRow cb 50 3 (.slice aS i cS) i (hs'.flatMap cellSh)):=fun V O hV=>by
     have:=((Kp.ofBelow (D:=fun _=>False) hV).trans (Kp.alloc _ V O) (fun _ _ g=>g)).row hkm.sheets (fun _ _ g=>g)
     have : (V.alloc O).ownsRow cb 50 3 (.slice aS i cS) hs'.length (hs'.flatMap cellSh):=this
     rw [hsl] at this
     exact this
    have HPU : Hid (∀ W6 wG O v' aX cX,Below wr.heap.size wr W6 -> W6.ownsRow wr.heap.size 52 2 (.slice aX fx.length cX) fx.length (fx.flatMap cellFx) -> (W6.alloc O).grownBy wG (Value.slice aS i cS).ownBlock -> wG.ownsRow cb 50 3 v' (i + 1) (hs'.flatMap cellSh ++ cellSh ⟨pg,dt,fx,aX,cX⟩) -> (v'.ownBlock = (Value.slice aS i cS).ownBlock ∨ v'.ownBlock = some (W6.alloc O).heap.size) -> wG.cell? ⟨cb,0,none⟩ = some (.slice aS i cS) /\ wG.frozen? ⟨cb,0,none⟩ = false /\ (∃ lab',Km cb cb 27 [] (wG.setCell ⟨cb,0,none⟩ v') ⟨lab',v',.slice none 0 0,.slice none 0 0,.slice none 0 0,[]⟩ ⟨hs' ++ [⟨pg,dt,fx,aX,cX⟩],[],[],[],k.hand⟩) /\ Below cb WA (wG.setCell ⟨cb,0,none⟩ v')):=fun W6 wG O v' aX cX h1 h2 h3 h4 h5=>by
     have m1:=hkm.pushS (s:=⟨pg,dt,fx,aX,cX⟩) (Nat.le_of_lt hcl) h1 h2 h3 (by rw [show (KM.Kn.mk hs' [] [] [] k.hand).sheets.length = i from hsl];exact h4) h5
     have hgH : wG.heap[cb]? = some (.cells #[.slice aS i cS,.slice none 0 0,.slice none 0 0,.slice none 0 0,.int .i64 k.hand] 27 (0,0)):=(((Kp.ofBelow (D:=blk (.slice aS i cS)) h1).trans (Kp.alloc _ W6 O) (fun _ _ g=>g)).trans (Kp.grown h3 (fun _ e=>e)) (fun _ _ g=>g)).keep hkm.head (fun x=>by have:=hkm.lS cb x;rw [hkm.lH] at this;simp at this)
     refine ⟨B.cell hgH 0 rfl,B.free hgH 0,⟨_,m1.1⟩,?_⟩
     exact Kp.below hbw m1.2 (Nat.le_of_lt hcl) (fun b hb=>(hkm.bnd b hb).1)
    have HC6 : Hid (∀ V,Below wr.heap.size wr V -> V.cell? ⟨cb,0,none⟩ = some (.slice aS i cS)):=fun V hV=>(hkm.below hV).c0
    have HWS:=hideC hWS
    have HWSZ:=hideC hzS
    clear hkm hbw hwl hk1 hsame hse hWS hbS BS HFY HSH hsl hzS
    go_upto_region 6 with fail
    rw [<- HWS.out]
    go_upto_region 7 with (at_builtin;refine wpList_append_src (P:=Tryz.prog) rfl _ _ 48 rfl wr.heap.size 52 ix (.agg #[.int .i64 0,.string ⟨#[]⟩]) 2 24 Tryz.underlying48 HIX0.out HIX1.out HIX2.out HIX3.out rfl (by decide) (.slice (some ⟨WS.heap.size,0,none⟩) 0 0) 0 [] (by rfl) HMK.out ao fx.length cap (fx.flatMap cellFx) (by rfl) HLX.out HFW.out (fx_one _) (by unfold maxLen;omega) (by omega) HSZ.out ?_;intro vX wX hoX hgX haX;rw [Nat.zero_add] at hoX;obtain ⟨aX,cX,hvX,_,_⟩:=row_form hoX;subst hvX;obtain ⟨y0,y1,hb6,h6,hr6⟩:=HST.out _ _ _ hoX hgX haX;have HB6:=hideC hb6;have HH6:=hideC h6;have HR6:=hideC hr6;clear hoX hgX haX hb6 h6 hr6)
    obtain ⟨W6,hW6⟩ : ∃ W6,W6 = wX.setCell ⟨wr.heap.size,2,none⟩ (.slice aX fx.length cX):=⟨_,rfl⟩
    rw [<- hW6] at HB6 HH6 HR6 ⊢
    have q0 : W6.cell? ⟨wr.heap.size,0,none⟩ = some (.int .i64 pg):=B.cell HH6.out 0 rfl
    have q1 : W6.cell? ⟨wr.heap.size,1,none⟩ = some (.string dt):=B.cell HH6.out 1 rfl
    have q2 : W6.cell? ⟨wr.heap.size,2,none⟩ = some (.slice aX fx.length cX):=B.cell HH6.out 2 rfl
    have q3 : W6.cell? ⟨cb,0,none⟩ = some (.slice aS i cS):=HC6.out _ HB6.out
    have HZ6 : Hid (∀ O,cb <= (W6.alloc O).heap.size):=fun O=>by rw [World.size_alloc];have:=HB6.out.size;omega
    clear hW6 HST HMK HFW HSZ y0 y1 s2 s2' x0 z0 z1 z2
    go_wp2_with (at_builtin;refine wpList_append_src (P:=Tryz.prog) rfl _ _ 22 rfl cb 50 ih (.agg #[.int .i64 0,.string ⟨#[]⟩,.slice none 0 0]) 3 48 Tryz.underlying22 HIH0.out HIH1.out HIH2.out HIH3.out rfl (by decide) (.slice aS i cS) i (hs'.flatMap cellSh) (by rfl) (HRW.out _ _ HB6.out) (some ⟨W6.heap.size,0,none⟩) 1 1 (cellSh ⟨pg,dt,fx,aX,cX⟩) (by rfl) rfl (fun _=>⟨_,rfl,new_cells W6 _ _⟩) (sh_cells _) (by unfold maxLen;omega) (by omega) (HZ6.out _) ?_;intro vG wG hoG hgG haG;obtain ⟨aG,cG,hvG,_,_⟩:=row_form hoG;subst hvG;obtain ⟨p0,p1,hp2,hp3⟩:=HPU.out _ _ _ _ _ _ HB6.out HR6.out hgG hoG haG;have HP2:=hideC hp2;have HP3:=hideC hp3;clear hoG hgG haG hp2 hp3)
    go_roundw
    case rel =>
     obtain ⟨lab',h1⟩:=HP2.out
     refine ⟨_,?_,?_,lab',_,_,HSN.out ⟨pg,dt,fx,aX,cX⟩ rfl,h1,HP3.out⟩
     · omega
     · go_num
    case measure=>simp [intOf];omega
  · obtain rfl : i = k.sheets.length:=by omega
    rw [List.take_length] at hsame
    have HSM:=hideC hsame
    have x1 : wr.cell? ⟨w.heap.size,1,none⟩ = some (.slice a.aF k.frames.length a.cF):=B.cell hk1 1 rfl
    have x0 : wr.cell? ⟨w.heap.size,0,none⟩ = some (.slice a.aS k.sheets.length a.cS):=B.cell hk1 0 rfl
    have y1 : wr.cell? ⟨cb,1,none⟩ = some (.slice none 0 0):=hkm.c1
    have HFF:=hideC (HRF.out _ hwl)
    have HNF : Hid (∀ w1 v',wr.grownBy w1 none -> w1.ownsRow cb 40 4 v' k.frames.length (k.frames.flatMap cellFr) -> (v'.ownBlock = none ∨ v'.ownBlock = some wr.heap.size) -> w1.cell? ⟨cb,1,none⟩ = some (.slice none 0 0) /\ w1.frozen? ⟨cb,1,none⟩ = false /\ (∃ lab',Km cb cb 27 [] (w1.setCell ⟨cb,1,none⟩ v') ⟨lab',.slice aS k.sheets.length cS,v',.slice none 0 0,.slice none 0 0,[]⟩ ⟨hs',k.frames,[],[],k.hand⟩) /\ Below cb WA (w1.setCell ⟨cb,1,none⟩ v')):=fun w1 v' h1 h2 h3=>by
     have m1:=hkm.newF h1 h2 h3
     have hh:=(Kp.grown (D:=fun _=>False) h1 (fun _ e=>nomatch e)).keep hkm.head (fun g=>g)
     refine ⟨B.cell hh 1 rfl,B.free hh 1,⟨_,m1.1⟩,?_⟩
     exact Kp.below hbw m1.2 (Nat.le_of_lt hcl) (fun b hb=>(hkm.bnd b hb).1)
    clear hkm hbw hwl hk1 hsame HSH HFX hlt
    go_upto_region 9 with (at_builtin;refine wpList_append_src (P:=Tryz.prog) rfl _ _ 23 rfl cb 40 jf (.agg #[.string ⟨#[]⟩,.int .i64 0,.bool false,.bool false]) 4 32 Tryz.underlying23 HIF0.out HIF1.out HIF2.out HIF3.out rfl (by decide) (.slice none 0 0) 0 [] (by rfl) (World.ownsRow_nil _ _ _ _) a.aF k.frames.length a.cF (k.frames.flatMap cellFr) (by rfl) HLF.out HFF.out (fr_one _) (by unfold maxLen;omega) (by omega) (Nat.le_of_lt hcl) ?_;intro vF w1 hoF hgF haF;rw [Nat.zero_add,List.nil_append] at hoF;obtain ⟨aF,cF,hvF,_,_⟩:=row_form hoF;subst hvF;obtain ⟨p0,p1,hp2,hp3⟩:=HNF.out _ _ hgF hoF haF;have HP2:=hideC hp2;have HP3:=hideC hp3;clear hoF hgF haF hp2 hp3)
    obtain ⟨W8,hW8⟩ : ∃ W8,W8 = w1.setCell ⟨cb,1,none⟩ (.slice aF k.frames.length cF):=⟨_,rfl⟩
    rw [<- hW8] at HP2 HP3 ⊢
    obtain ⟨lab8,hkm⟩:=HP2.out
    have hbw:=HP3.out
    have hwl : Below w.heap.size w W8:=HBW.out _ hbw
    have hk1:=HKB.out _ hbw
    have hcl8 : cb < W8.heap.size:=hkm.lt
    have x2 : W8.cell? ⟨w.heap.size,2,none⟩ = some (.slice a.aL k.slots.length a.cL):=B.cell hk1 2 rfl
    have y2 : W8.cell? ⟨cb,2,none⟩ = some (.slice none 0 0):=hkm.c2
    have HFL:=hideC (HRL.out _ hwl)
    have HNL : Hid (∀ w1 v',W8.grownBy w1 none -> w1.ownsRow cb 86 2 v' k.slots.length (k.slots.flatMap cellSl) -> (v'.ownBlock = none ∨ v'.ownBlock = some W8.heap.size) -> w1.cell? ⟨cb,2,none⟩ = some (.slice none 0 0) /\ w1.frozen? ⟨cb,2,none⟩ = false /\ (∃ lab',Km cb cb 27 [] (w1.setCell ⟨cb,2,none⟩ v') ⟨lab',.slice aS k.sheets.length cS,.slice aF k.frames.length cF,v',.slice none 0 0,[]⟩ ⟨hs',k.frames,k.slots,[],k.hand⟩) /\ Below cb WA (w1.setCell ⟨cb,2,none⟩ v')):=fun w1 v' h1 h2 h3=>by
     have m1:=hkm.newL h1 h2 h3
     have hh:=(Kp.grown (D:=fun _=>False) h1 (fun _ e=>nomatch e)).keep hkm.head (fun g=>g)
     refine ⟨B.cell hh 2 rfl,B.free hh 2,⟨_,m1.1⟩,?_⟩
     exact Kp.below hbw m1.2 (Nat.le_of_lt hcl8) (fun b hb=>(hkm.bnd b hb).1)
    clear hkm hbw hwl hk1 hW8 HP2 HP3 HNF HFF p0 p1 x0 x1 y1
    go_upto_region 10 with (at_builtin;refine wpList_append_src (P:=Tryz.prog) rfl _ _ 24 rfl cb 86 jl (.agg #[.string ⟨#[]⟩,.int .i64 0]) 2 24 Tryz.underlying24 HIL0.out HIL1.out HIL2.out HIL3.out rfl (by decide) (.slice none 0 0) 0 [] (by rfl) (World.ownsRow_nil _ _ _ _) a.aL k.slots.length a.cL (k.slots.flatMap cellSl) (by rfl) HLL.out HFL.out (sl_one _) (by unfold maxLen;omega) (by omega) (Nat.le_of_lt hcl8) ?_;intro vL w2 hoL hgL haL;rw [Nat.zero_add,List.nil_append] at hoL;obtain ⟨aL,cL,hvL,_,_⟩:=row_form hoL;subst hvL;obtain ⟨p0,p1,hp2,hp3⟩:=HNL.out _ _ hgL hoL haL;have HP2:=hideC hp2;have HP3:=hideC hp3;clear hoL hgL haL hp2 hp3)
    obtain ⟨W9,hW9⟩ : ∃ W9,W9 = w2.setCell ⟨cb,2,none⟩ (.slice aL k.slots.length cL):=⟨_,rfl⟩
    rw [<- hW9] at HP2 HP3 ⊢
    clear hW9 p0 p1 x2 y2 HNL HFL
    go_wp2
    go_loopw [6] (fun iv wq=>∃ (m : Nat) (S : St),m <= k.spaces.length /\ iv = .int .i64 (m : Int) /\ Km cb cb 27 [] wq S (KM.withS ⟨k.sheets,k.frames,k.slots,k.spaces.take m,k.hand⟩ hs') /\ Below cb WA wq) (fun iv _=>k.spaces.length - (intOf iv).toNat)
    case atStart =>
     obtain ⟨lab9,h9⟩:=HP2.out
     exact ⟨0,_,by omega,rfl,h9,HP3.out⟩
    case round =>
     obtain ⟨m,S,hm,rfl,hkm,hbw⟩:=hrel
     clear HP2 HP3
     have hcl : cb < wr.heap.size:=hkm.lt
     have hwl : Below w.heap.size w wr:=HBW.out _ hbw
     have hk1:=HKB.out _ hbw
     by_cases hlt2 : m < k.spaces.length
     · have hmi : (m : Int) < (k.spaces.length : Int):=by omega
       have x3 : wr.cell? ⟨w.heap.size,3,none⟩ = some (.slice a.aP k.spaces.length a.cP):=B.cell hk1 3 rfl
       obtain ⟨pb,po,hpo,hpl,hli⟩:=HKS.out (by omega)
       rw [hpo] at x3
       obtain ⟨va,ap,cp,v0,v1,v2,hha,hhp,_⟩:=hli m hlt2
       have hha2:=hha
       obtain ⟨aa,ca,hva,_⟩:=hha
       subst hva
       have z0:=(hwl.cell (p:=⟨pb,po + m * 3,none⟩) hpl).trans v0
       have z1:=(hwl.cell (p:=⟨pb,po + m * 3 + 1,none⟩) hpl).trans v1
       have z2:=(hwl.cell (p:=⟨pb,po + m * 3 + 2,none⟩) hpl).trans v2
       have har:=HAR.out m hlt2
       have hen:=HEN.out m hlt2
       have htk:=sp_take k.spaces m hlt2
       obtain ⟨sp,hsp⟩ : ∃ sp,sp = KM.spAt k.spaces m:=⟨_,rfl⟩
       rw [<- hsp] at z0 z1 z2 har hen htk hha2 hhp
       obtain ⟨lv,ars,ens⟩:=sp
       simp only at z0 z1 z2 har hen hha2 hhp
       obtain ⟨na,hna⟩ : ∃ na,na = ars.length:=⟨_,rfl⟩
       obtain ⟨np,hnp'⟩ : ∃ np,np = ens.length:=⟨_,rfl⟩
       rw [<- hna] at z1 har hha2
       rw [<- hnp'] at z2 hen
       have HNA:=hideC hna
       have HNP:=hideC hnp'
       have hLl : S.L.length <= 1000000:=by have:=hkm.len;have e : (KM.withS ⟨k.sheets,k.frames,k.slots,k.spaces.take m,k.hand⟩ hs').spaces.length = (k.spaces.take m).length:=rfl;rw [e,List.length_take] at this;omega
       obtain ⟨v,hv⟩ : ∃ v,v = S.vP:=⟨_,rfl⟩
       obtain ⟨WB,hWB⟩ : ∃ WB,WB = wr.alloc (.cells #[.bool lv,.slice aa na ca,.slice ap np cp] 43):=⟨_,rfl⟩
       have hbL : Below wr.heap.size wr WB:=by rw [hWB];exact (Below.refl _ _).alloc (Nat.le_refl _) _
       have BL : WB.heap[wr.heap.size]? = some (.cells #[.bool lv,.slice aa na ca,.slice ap np cp] 43 (0,0)):=by rw [hWB];exact B.new _ _ _
       have hkB:=hkm.below hbL
       have hlB : cb <= WB.heap.size:=Nat.le_trans (Nat.le_of_lt hcl) hbL.size
       have nH : ¬ blk v cb:=fun g=>by rw [hv] at g;have:=hkm.lP _ g;rw [hkm.lH] at this;simp at this
       have nS : ¬ blk v wr.heap.size:=fun g=>by rw [hv] at g;have:=(hkm.spaces.lt _ g).2;omega
       have HCC : Hid (∀ V,Kp (fun b=>blk v b) WB V -> V.cell? ⟨cb,3,none⟩ = some v /\ V.cell? ⟨wr.heap.size,0,none⟩ = some (.bool lv) /\ V.cell? ⟨wr.heap.size,1,none⟩ = some (.slice aa na ca) /\ V.cell? ⟨wr.heap.size,2,none⟩ = some (.slice ap np cp)):=fun V hV=>by
        have b1:=hV.keep hkB.head nH
        have b2:=hV.keep BL nS
        refine ⟨?_,B.cell b2 0 rfl,B.cell b2 1 rfl,B.cell b2 2 rfl⟩
        rw [hv]
        exact B.cell b1 3 rfl
       have HFZ : Hid (∀ V,Kp (fun b=>blk v b) WB V -> V.frozen? ⟨cb,3,none⟩ = false):=fun V hV=>B.free (hV.keep hkB.head nH) 3
       have HS0 : Hid (Kp (fun b=>blk v b) WB WB.drew):=Kp.drew _ _
       have KB2 : Hid (∀ V,Below WB.heap.size WB V -> Kp (fun b=>blk v b) WB V):=fun V h=>Kp.ofBelow h
       have HBV : Hid (∀ V,Kp (fun b=>blk v b) WB V -> Below w.heap.size w V):=fun V hV=>Kp.below (hwl.trans (hbL.mono hwl.size)) hV (Nat.le_trans hwl.size hbL.size) (fun g hg=>by rw [hv] at hg;have:=(hkm.spaces.lt g hg).1;have:=HWC.out;omega)
       have HFA : Hid (∀ V,Kp (fun b=>blk v b) WB V -> From V aa na (AM.areaCells ars)):=fun V hV=>(KS.areas_from (hha2.below (HBV.out V hV))).2
       have HLA : Hid ((AM.areaCells ars).length = na * 4):=by show _ = _;rw [hna];exact AM.areaCells_length _
       have HOA : Hid (∀ u ∈ AM.areaCells ars,u.oneCell' = true):=AM.areaCells_one _
       have HFP : Hid (∀ V,Kp (fun b=>blk v b) WB V -> From V ap np (ens.flatMap cellEn)):=fun V hV=>by rw [HNP.out];exact row_from (f:=cellEn) (n:=3) (fun _=>rfl) (hhp.below (HBV.out V hV))
       have HLP : Hid ((ens.flatMap cellEn).length = np * 3):=by show _ = _;rw [HNP.out];exact rows_length cellEn 3 (fun _=>rfl) _
       have HOP : Hid (∀ u ∈ ens.flatMap cellEn,u.oneCell' = true):=en_one _
       have HRW : Hid (∀ w2 o,Below WB.heap.size WB w2 -> (w2.alloc o).ownsRow cb 43 3 v S.L.length (S.L.flatMap cellLc)):=fun w2 o hb=>by
        have:=((Kp.ofBelow (D:=fun _=>False) hb).trans (Kp.alloc _ w2 o) (fun _ _ g=>g)).row hkB.spaces (fun _ _ g=>g)
        rw [hv]
        exact this
       have HPU : Hid (∀ w2 w4 O v' l,Below WB.heap.size WB w2 -> SpOwn WB.heap.size w2 l ⟨lv,ars,ens⟩ -> (∀ b,blk l.vp b -> ¬ blk l.va b) -> (w2.alloc O).grownBy w4 v.ownBlock -> w4.ownsRow cb 43 3 v' (S.L.length + 1) (S.L.flatMap cellLc ++ cellLc l) -> (v'.ownBlock = v.ownBlock ∨ v'.ownBlock = some (w2.alloc O).heap.size) -> ∃ S',Km cb cb 27 [] (w4.setCell ⟨cb,3,none⟩ v') S' (KM.withS ⟨k.sheets,k.frames,k.slots,k.spaces.take (m + 1),k.hand⟩ hs') /\ Below cb WA (w4.setCell ⟨cb,3,none⟩ v')):=fun w2 w4 O v' l h1 h2 h3 h4 h5 h6=>by
        rw [hv] at h4 h6
        have m1:=hkB.push hlB h1 h2 h3 h4 h5 h6
        have m2:=m1.1
        rw [htk]
        have hbA:=hbw.trans (hbL.mono (Nat.le_of_lt hcl))
        exact ⟨_,m2,Kp.below hbA m1.2.2 hlB (fun b hb=>(hkB.bnd b hb).1)⟩
       have HWB:=hideC hWB
       clear hkm hkB hbw hwl hk1 v0 v1 v2 hha2 hhp htk hsp hWB hbL BL hli hna hnp' nH nS hv hpo
       go_upto_region 14 with fail
       rw [<- HWB.out]
       refine GZ.begin_ (S:=fun V=>Kp (fun b=>blk v b) WB V) (z:=16) (by kernel_rfl) ?_
       refine GZ.tk 0 HS0.out ?_ ?_ ?_
       rotate_left 1
       · intro V hSw
         obtain ⟨k0,k1,k2,k3⟩:=HCC.out V hSw
         go_simp
         try with_reducible rfl
       refine GZ.tk 1 HS0.out ?_ ?_ ?_
       rotate_left 1
       · intro V hSw
         obtain ⟨k0,k1,k2,k3⟩:=HCC.out V hSw
         go_simp
         try with_reducible rfl
       refine GZ.tk 2 HS0.out ?_ ?_ ?_
       rotate_left 1
       · intro V hSw
         obtain ⟨k0,k1,k2,k3⟩:=HCC.out V hSw
         go_simp
         try with_reducible rfl
       refine GZ.tk 3 HS0.out ?_ ?_ ?_
       rotate_left 1
       · intro V hSw
         obtain ⟨k0,k1,k2,k3⟩:=HCC.out V hSw
         go_simp
         try with_reducible rfl
       refine GZ.tk 5 HS0.out ?_ ?_ ?_
       rotate_left 1
       · intro V hSw
         obtain ⟨k0,k1,k2,k3⟩:=HCC.out V hSw
         go_simp
         try with_reducible rfl
       refine GZ.tk 6 HS0.out ?_ ?_ ?_
       rotate_left 1
       · intro V hSw
         obtain ⟨k0,k1,k2,k3⟩:=HCC.out V hSw
         go_simp
         try with_reducible rfl
       refine GZ.tk 9 HS0.out ?_ ?_ ?_
       rotate_left 1
       · intro V hSw
         obtain ⟨k0,k1,k2,k3⟩:=HCC.out V hSw
         go_simp
         try with_reducible rfl
       refine GZ.tk 10 HS0.out ?_ ?_ ?_
       rotate_left 1
       · intro V hSw
         obtain ⟨k0,k1,k2,k3⟩:=HCC.out V hSw
         go_simp
         try with_reducible rfl
       refine GZ.all (rs:=[4,8]) (by kernel_rfl) (by simp) ?_
       refine GZ.AllZ.cons rfl (fun K hK=>?_) ?_
       · go_simp
         refine hK.out _ _ (fun _=>?_) ?_
         · exact KB2.out _ (al1 WB _)
         clear hK K
         try simp only [Act.put,List.setIfInBounds_toArray,List.set_cons_zero,List.set_cons_succ]
         refine GZ.all (rs:=[7,8]) (by kernel_rfl) (by simp) ?_
         refine GZ.AllZ.cons rfl (fun K hK=>?_) ?_
         · rw [if_pos (by rfl)];refine wp_append_src (P:=Tryz.prog) _ _ 28 rfl WB.heap.size 47 ia (.agg #[.int .i64 0,.int .i64 0,.int .i64 0,.bool false]) 4 32 Tryz.underlying28 HIA0.out HIA1.out HIA2.out HIA3.out rfl (by decide) (.slice (some ⟨WB.heap.size,0,none⟩) 0 0) 0 [] rfl (mk1 WB _ _) aa na ca (AM.areaCells ars) rfl HLA.out (HFA.out _ (KB2.out _ (al1 WB _))) HOA.out (by unfold maxLen;omega) (by omega) (by first | omega | (simp;done) | (simp;omega)) ?_;intro vC wC hoC hgC haC;rw [Nat.zero_add] at hoC;obtain ⟨aC,cC,hvC,_,_⟩:=row_form hoC;subst hvC;have HBC : Hid (Below WB.heap.size WB wC):=grown_below (al1 WB _) (Nat.le_refl _) hgC (fun g hg=>by have hg' : some WB.heap.size = some g:=hg;injection hg' with hg';exact Nat.le_of_eq hg');have HRC:=hideC hoC;clear hoC hgC haC
           refine hK.out _ _ (fun _=>?_) ?_
           · exact KB2.out _ HBC.out
           clear hK K
           try simp only [Act.put,List.setIfInBounds_toArray,List.set_cons_zero,List.set_cons_succ]
           refine GZ.all (rs:=[8]) (by kernel_rfl) (by simp) ?_
           refine GZ.AllZ.cons rfl (fun K hK=>?_) ?_
           · go_simp
             refine hK.out _ _ (fun _=>?_) ?_
             · exact KB2.out _ (HBC.out.alloc HBC.out.size _)
             clear hK K
             try simp only [Act.put,List.setIfInBounds_toArray,List.set_cons_zero,List.set_cons_succ]
             refine GZ.all (rs:=[11]) (by kernel_rfl) (by simp) ?_
             refine GZ.AllZ.cons rfl (fun K hK=>?_) ?_
             · rw [if_pos (by rfl)];refine wp_append_src (P:=Tryz.prog) _ _ 41 rfl WB.heap.size 45 ip (.agg #[.int .i64 0,.int .i64 0,.int .i64 0]) 3 24 Tryz.underlying41 HIP0.out HIP1.out HIP2.out HIP3.out rfl (by decide) (.slice (some ⟨wC.heap.size,0,none⟩) 0 0) 0 [] rfl (mk4 HBC.out.size _ _) ap np cp (ens.flatMap cellEn) rfl HLP.out (HFP.out _ (KB2.out _ (HBC.out.alloc HBC.out.size _))) HOP.out (by unfold maxLen;omega) (by omega) (by rw [World.size_alloc];have:=HBC.out.size;omega) ?_;intro vE wE hoE hgE haE;rw [Nat.zero_add] at hoE;obtain ⟨aE,cE,hvE,_,_⟩:=row_form hoE;subst hvE;have HTE:=hideC (tailE (HBC.out.alloc HBC.out.size _) (Nat.le_refl _) (Kp.row (Kp.alloc (fun _=>False) wC _) HRC.out (fun _ _ g=>g)) HBC.out.size (fun b hb=>Nat.ne_of_lt (HRC.out.lt b hb).2) hgE haE);clear HBC HRC;have HSE:=hideC (KB2.out _ HTE.out.1);have HRE:=hideC hoE;clear hoE hgE haE
               refine hK.out _ _ (fun _=>?_) ?_
               · exact HSE.out
               clear hK K
               try simp only [Act.put,List.setIfInBounds_toArray,List.set_cons_zero,List.set_cons_succ]
               refine GZ.tk 12 HSE.out ?_ ?_ ?_
               rotate_left 1
               · intro V hSw
                 obtain ⟨k0,k1,k2,k3⟩:=HCC.out V hSw
                 go_simp
                 try with_reducible rfl
               refine GZ.all (rs:=[13]) (by kernel_rfl) (by simp) ?_
               refine GZ.AllZ.cons rfl (fun K hK=>?_) ?_
               · go_simp
                 refine hK.out _ _ (fun _=>?_) ?_
                 · exact KB2.out _ (HTE.out.1.alloc HTE.out.1.size _)
                 clear hK K
                 try simp only [Act.put,List.setIfInBounds_toArray,List.set_cons_zero,List.set_cons_succ]
                 refine GZ.all (rs:=[14]) (by kernel_rfl) (by simp) ?_
                 refine GZ.AllZ.cons rfl (fun K hK=>?_) ?_
                 · rw [if_pos (by rfl)];refine wp_append_src (P:=Tryz.prog) _ _ 25 rfl cb 43 is (.agg #[.bool false,.slice none 0 0,.slice none 0 0]) 3 56 Tryz.underlying25 HIS0.out HIS1.out HIS2.out HIS3.out rfl (by decide) (v) S.L.length (S.L.flatMap cellLc) rfl (HRW.out _ _ HTE.out.1) (some ⟨wE.heap.size,0,none⟩) 1 1 (cellLc ⟨lv,.slice aC na cC,.slice aE np cE⟩) rfl rfl (fun _=>⟨_,rfl,new_cells wE _ _⟩) (lc_one _ _ _ _ _ _ _) (by unfold maxLen;omega) (by omega) (by rw [World.size_alloc];have:=HTE.out.1.size;omega) ?_;intro vG wG hoG hgG haG;obtain ⟨aG,cG,hvG,_,_⟩:=row_form hoG;subst hvG;have HPF:=hideC (HPU.out wE wG _ _ ⟨lv,.slice aC na cC,.slice aE np cE⟩ HTE.out.1 (hasOwn HTE.out.2.1 HRE.out HNP.out HNA.out) HTE.out.2.2 hgG hoG haG);have HSG : Hid (Kp (fun b=>blk v b) WB wG):=(KB2.out _ (HTE.out.1.alloc HTE.out.1.size _)).trans (Kp.grown hgG (fun _ e=>e)) (fun _ _ g=>g);have hoc:=(HCC.out wG HSG.out).1;have hof : wG.frozen? ⟨cb,3,none⟩ = false:=HFZ.out wG HSG.out;clear hoG hgG haG HTE HSE HRE
                   refine hK.out _ _ (fun _=>?_) ?_
                   · exact HSG.out
                   clear hK K
                   try simp only [Act.put,List.setIfInBounds_toArray,List.set_cons_zero,List.set_cons_succ]
                   refine GZ.tk 15 HSG.out ?_ ?_ ?_
                   rotate_left 1
                   · intro V hSw
                     obtain ⟨k0,k1,k2,k3⟩:=HCC.out V hSw
                     go_simp
                     try with_reducible rfl
                   refine GZ.all (rs:=[16]) (by kernel_rfl) (by simp) ?_
                   refine GZ.AllZ.cons rfl (fun K hK=>?_) GZ.AllZ.nil
                   go_simp
                   refine hK.out _ _ (fun g=>absurd rfl g) ?_
                   refine GZ.done (by kernel_rfl) ?_ _
                   go_wp2
                   go_roundw
                   case rel =>
                    obtain ⟨S',h1,h2⟩:=HPF.out
                    exact ⟨m + 1,S',by omega,by go_num,h1,h2⟩
                   case measure=>simp [intOf];omega
                 exact GZ.AllZ.nil
               exact GZ.AllZ.nil
             exact GZ.AllZ.nil
           exact GZ.AllZ.nil
         refine GZ.AllZ.cons rfl (fun K hK=>?_) ?_
         · go_simp
           refine hK.out _ _ (fun _=>?_) ?_
           · exact KB2.out _ (al2 WB _ _)
           clear hK K
           try simp only [Act.put,List.setIfInBounds_toArray,List.set_cons_zero,List.set_cons_succ]
           refine GZ.all (rs:=[7]) (by kernel_rfl) (by simp) ?_
           refine GZ.AllZ.cons rfl (fun K hK=>?_) ?_
           · rw [if_pos (by rfl)];refine wp_append_src (P:=Tryz.prog) _ _ 28 rfl WB.heap.size 47 ia (.agg #[.int .i64 0,.int .i64 0,.int .i64 0,.bool false]) 4 32 Tryz.underlying28 HIA0.out HIA1.out HIA2.out HIA3.out rfl (by decide) (.slice (some ⟨WB.heap.size,0,none⟩) 0 0) 0 [] rfl (mk2 WB _ _ _) aa na ca (AM.areaCells ars) rfl HLA.out (HFA.out _ (KB2.out _ (al2 WB _ _))) HOA.out (by unfold maxLen;omega) (by omega) (by first | omega | (simp;done) | (simp;omega)) ?_;intro vC wC hoC hgC haC;rw [Nat.zero_add] at hoC;obtain ⟨aC,cC,hvC,_,_⟩:=row_form hoC;subst hvC;have HTC:=hideC (tailC (GB:=WB.heap.size) (GD:=WB.heap.size + 1) (al2 WB _ _) (Nat.le_refl _) (mk3 WB _ _ 3) (by omega) (by omega) hgC haC);have HRC:=hideC hoC;clear hoC hgC haC
             refine hK.out _ _ (fun _=>?_) ?_
             · exact KB2.out _ HTC.out.1
             clear hK K
             try simp only [Act.put,List.setIfInBounds_toArray,List.set_cons_zero,List.set_cons_succ]
             refine GZ.all (rs:=[11]) (by kernel_rfl) (by simp) ?_
             refine GZ.AllZ.cons rfl (fun K hK=>?_) ?_
             · rw [if_pos (by rfl)];refine wp_append_src (P:=Tryz.prog) _ _ 41 rfl WB.heap.size 45 ip (.agg #[.int .i64 0,.int .i64 0,.int .i64 0]) 3 24 Tryz.underlying41 HIP0.out HIP1.out HIP2.out HIP3.out rfl (by decide) (.slice (some ⟨WB.heap.size + 1,0,none⟩) 0 0) 0 [] rfl HTC.out.2.1 ap np cp (ens.flatMap cellEn) rfl HLP.out (HFP.out _ (KB2.out _ HTC.out.1)) HOP.out (by unfold maxLen;omega) (by omega) HTC.out.1.size ?_;intro vE wE hoE hgE haE;rw [Nat.zero_add] at hoE;obtain ⟨aE,cE,hvE,_,_⟩:=row_form hoE;subst hvE;have HTE:=hideC (tailE HTC.out.1 (Nat.le_refl _) HRC.out (by first | exact Nat.le_refl _ | exact Nat.le_succ _) HTC.out.2.2 hgE haE);clear HTC HRC;have HSE:=hideC (KB2.out _ HTE.out.1);have HRE:=hideC hoE;clear hoE hgE haE
               refine hK.out _ _ (fun _=>?_) ?_
               · exact HSE.out
               clear hK K
               try simp only [Act.put,List.setIfInBounds_toArray,List.set_cons_zero,List.set_cons_succ]
               refine GZ.tk 12 HSE.out ?_ ?_ ?_
               rotate_left 1
               · intro V hSw
                 obtain ⟨k0,k1,k2,k3⟩:=HCC.out V hSw
                 go_simp
                 try with_reducible rfl
               refine GZ.all (rs:=[13]) (by kernel_rfl) (by simp) ?_
               refine GZ.AllZ.cons rfl (fun K hK=>?_) ?_
               · go_simp
                 refine hK.out _ _ (fun _=>?_) ?_
                 · exact KB2.out _ (HTE.out.1.alloc HTE.out.1.size _)
                 clear hK K
                 try simp only [Act.put,List.setIfInBounds_toArray,List.set_cons_zero,List.set_cons_succ]
                 refine GZ.all (rs:=[14]) (by kernel_rfl) (by simp) ?_
                 refine GZ.AllZ.cons rfl (fun K hK=>?_) ?_
                 · rw [if_pos (by rfl)];refine wp_append_src (P:=Tryz.prog) _ _ 25 rfl cb 43 is (.agg #[.bool false,.slice none 0 0,.slice none 0 0]) 3 56 Tryz.underlying25 HIS0.out HIS1.out HIS2.out HIS3.out rfl (by decide) (v) S.L.length (S.L.flatMap cellLc) rfl (HRW.out _ _ HTE.out.1) (some ⟨wE.heap.size,0,none⟩) 1 1 (cellLc ⟨lv,.slice aC na cC,.slice aE np cE⟩) rfl rfl (fun _=>⟨_,rfl,new_cells wE _ _⟩) (lc_one _ _ _ _ _ _ _) (by unfold maxLen;omega) (by omega) (by rw [World.size_alloc];have:=HTE.out.1.size;omega) ?_;intro vG wG hoG hgG haG;obtain ⟨aG,cG,hvG,_,_⟩:=row_form hoG;subst hvG;have HPF:=hideC (HPU.out wE wG _ _ ⟨lv,.slice aC na cC,.slice aE np cE⟩ HTE.out.1 (hasOwn HTE.out.2.1 HRE.out HNP.out HNA.out) HTE.out.2.2 hgG hoG haG);have HSG : Hid (Kp (fun b=>blk v b) WB wG):=(KB2.out _ (HTE.out.1.alloc HTE.out.1.size _)).trans (Kp.grown hgG (fun _ e=>e)) (fun _ _ g=>g);have hoc:=(HCC.out wG HSG.out).1;have hof : wG.frozen? ⟨cb,3,none⟩ = false:=HFZ.out wG HSG.out;clear hoG hgG haG HTE HSE HRE
                   refine hK.out _ _ (fun _=>?_) ?_
                   · exact HSG.out
                   clear hK K
                   try simp only [Act.put,List.setIfInBounds_toArray,List.set_cons_zero,List.set_cons_succ]
                   refine GZ.tk 15 HSG.out ?_ ?_ ?_
                   rotate_left 1
                   · intro V hSw
                     obtain ⟨k0,k1,k2,k3⟩:=HCC.out V hSw
                     go_simp
                     try with_reducible rfl
                   refine GZ.all (rs:=[16]) (by kernel_rfl) (by simp) ?_
                   refine GZ.AllZ.cons rfl (fun K hK=>?_) GZ.AllZ.nil
                   go_simp
                   refine hK.out _ _ (fun g=>absurd rfl g) ?_
                   refine GZ.done (by kernel_rfl) ?_ _
                   go_wp2
                   go_roundw
                   case rel =>
                    obtain ⟨S',h1,h2⟩:=HPF.out
                    exact ⟨m + 1,S',by omega,by go_num,h1,h2⟩
                   case measure=>simp [intOf];omega
                 exact GZ.AllZ.nil
               exact GZ.AllZ.nil
             exact GZ.AllZ.nil
           exact GZ.AllZ.nil
         exact GZ.AllZ.nil
       refine GZ.AllZ.cons rfl (fun K hK=>?_) ?_
       · go_simp
         refine hK.out _ _ (fun _=>?_) ?_
         · exact KB2.out _ (al1 WB _)
         clear hK K
         try simp only [Act.put,List.setIfInBounds_toArray,List.set_cons_zero,List.set_cons_succ]
         refine GZ.all (rs:=[4]) (by kernel_rfl) (by simp) ?_
         refine GZ.AllZ.cons rfl (fun K hK=>?_) ?_
         · go_simp
           refine hK.out _ _ (fun _=>?_) ?_
           · exact KB2.out _ (al2 WB _ _)
           clear hK K
           try simp only [Act.put,List.setIfInBounds_toArray,List.set_cons_zero,List.set_cons_succ]
           refine GZ.all (rs:=[7]) (by kernel_rfl) (by simp) ?_
           refine GZ.AllZ.cons rfl (fun K hK=>?_) ?_
           · rw [if_pos (by rfl)];refine wp_append_src (P:=Tryz.prog) _ _ 28 rfl WB.heap.size 47 ia (.agg #[.int .i64 0,.int .i64 0,.int .i64 0,.bool false]) 4 32 Tryz.underlying28 HIA0.out HIA1.out HIA2.out HIA3.out rfl (by decide) (.slice (some ⟨WB.heap.size + 1,0,none⟩) 0 0) 0 [] rfl (mk3 WB _ _ _) aa na ca (AM.areaCells ars) rfl HLA.out (HFA.out _ (KB2.out _ (al2 WB _ _))) HOA.out (by unfold maxLen;omega) (by omega) (by first | omega | (simp;done) | (simp;omega)) ?_;intro vC wC hoC hgC haC;rw [Nat.zero_add] at hoC;obtain ⟨aC,cC,hvC,_,_⟩:=row_form hoC;subst hvC;have HTC:=hideC (tailC (GB:=WB.heap.size + 1) (GD:=WB.heap.size) (al2 WB _ _) (Nat.le_refl _) (mk2 WB _ _ 3) (by omega) (by omega) hgC haC);have HRC:=hideC hoC;clear hoC hgC haC
             refine hK.out _ _ (fun _=>?_) ?_
             · exact KB2.out _ HTC.out.1
             clear hK K
             try simp only [Act.put,List.setIfInBounds_toArray,List.set_cons_zero,List.set_cons_succ]
             refine GZ.all (rs:=[11]) (by kernel_rfl) (by simp) ?_
             refine GZ.AllZ.cons rfl (fun K hK=>?_) ?_
             · rw [if_pos (by rfl)];refine wp_append_src (P:=Tryz.prog) _ _ 41 rfl WB.heap.size 45 ip (.agg #[.int .i64 0,.int .i64 0,.int .i64 0]) 3 24 Tryz.underlying41 HIP0.out HIP1.out HIP2.out HIP3.out rfl (by decide) (.slice (some ⟨WB.heap.size,0,none⟩) 0 0) 0 [] rfl HTC.out.2.1 ap np cp (ens.flatMap cellEn) rfl HLP.out (HFP.out _ (KB2.out _ HTC.out.1)) HOP.out (by unfold maxLen;omega) (by omega) HTC.out.1.size ?_;intro vE wE hoE hgE haE;rw [Nat.zero_add] at hoE;obtain ⟨aE,cE,hvE,_,_⟩:=row_form hoE;subst hvE;have HTE:=hideC (tailE HTC.out.1 (Nat.le_refl _) HRC.out (by first | exact Nat.le_refl _ | exact Nat.le_succ _) HTC.out.2.2 hgE haE);clear HTC HRC;have HSE:=hideC (KB2.out _ HTE.out.1);have HRE:=hideC hoE;clear hoE hgE haE
               refine hK.out _ _ (fun _=>?_) ?_
               · exact HSE.out
               clear hK K
               try simp only [Act.put,List.setIfInBounds_toArray,List.set_cons_zero,List.set_cons_succ]
               refine GZ.tk 12 HSE.out ?_ ?_ ?_
               rotate_left 1
               · intro V hSw
                 obtain ⟨k0,k1,k2,k3⟩:=HCC.out V hSw
                 go_simp
                 try with_reducible rfl
               refine GZ.all (rs:=[13]) (by kernel_rfl) (by simp) ?_
               refine GZ.AllZ.cons rfl (fun K hK=>?_) ?_
               · go_simp
                 refine hK.out _ _ (fun _=>?_) ?_
                 · exact KB2.out _ (HTE.out.1.alloc HTE.out.1.size _)
                 clear hK K
                 try simp only [Act.put,List.setIfInBounds_toArray,List.set_cons_zero,List.set_cons_succ]
                 refine GZ.all (rs:=[14]) (by kernel_rfl) (by simp) ?_
                 refine GZ.AllZ.cons rfl (fun K hK=>?_) ?_
                 · rw [if_pos (by rfl)];refine wp_append_src (P:=Tryz.prog) _ _ 25 rfl cb 43 is (.agg #[.bool false,.slice none 0 0,.slice none 0 0]) 3 56 Tryz.underlying25 HIS0.out HIS1.out HIS2.out HIS3.out rfl (by decide) (v) S.L.length (S.L.flatMap cellLc) rfl (HRW.out _ _ HTE.out.1) (some ⟨wE.heap.size,0,none⟩) 1 1 (cellLc ⟨lv,.slice aC na cC,.slice aE np cE⟩) rfl rfl (fun _=>⟨_,rfl,new_cells wE _ _⟩) (lc_one _ _ _ _ _ _ _) (by unfold maxLen;omega) (by omega) (by rw [World.size_alloc];have:=HTE.out.1.size;omega) ?_;intro vG wG hoG hgG haG;obtain ⟨aG,cG,hvG,_,_⟩:=row_form hoG;subst hvG;have HPF:=hideC (HPU.out wE wG _ _ ⟨lv,.slice aC na cC,.slice aE np cE⟩ HTE.out.1 (hasOwn HTE.out.2.1 HRE.out HNP.out HNA.out) HTE.out.2.2 hgG hoG haG);have HSG : Hid (Kp (fun b=>blk v b) WB wG):=(KB2.out _ (HTE.out.1.alloc HTE.out.1.size _)).trans (Kp.grown hgG (fun _ e=>e)) (fun _ _ g=>g);have hoc:=(HCC.out wG HSG.out).1;have hof : wG.frozen? ⟨cb,3,none⟩ = false:=HFZ.out wG HSG.out;clear hoG hgG haG HTE HSE HRE
                   refine hK.out _ _ (fun _=>?_) ?_
                   · exact HSG.out
                   clear hK K
                   try simp only [Act.put,List.setIfInBounds_toArray,List.set_cons_zero,List.set_cons_succ]
                   refine GZ.tk 15 HSG.out ?_ ?_ ?_
                   rotate_left 1
                   · intro V hSw
                     obtain ⟨k0,k1,k2,k3⟩:=HCC.out V hSw
                     go_simp
                     try with_reducible rfl
                   refine GZ.all (rs:=[16]) (by kernel_rfl) (by simp) ?_
                   refine GZ.AllZ.cons rfl (fun K hK=>?_) GZ.AllZ.nil
                   go_simp
                   refine hK.out _ _ (fun g=>absurd rfl g) ?_
                   refine GZ.done (by kernel_rfl) ?_ _
                   go_wp2
                   go_roundw
                   case rel =>
                    obtain ⟨S',h1,h2⟩:=HPF.out
                    exact ⟨m + 1,S',by omega,by go_num,h1,h2⟩
                   case measure=>simp [intOf];omega
                 exact GZ.AllZ.nil
               exact GZ.AllZ.nil
             exact GZ.AllZ.nil
           exact GZ.AllZ.nil
         exact GZ.AllZ.nil
       exact GZ.AllZ.nil
     · obtain rfl : m = k.spaces.length:=by omega
       rw [List.take_length] at hkm
       obtain ⟨bS,nS,dS,eS⟩ : ∃ b n d,S.vS = .slice b n d:=by obtain ⟨b,d,e,_⟩:=row_form hkm.sheets;exact ⟨b,_,d,e⟩
       obtain ⟨bF,nF,dF,eF⟩ : ∃ b n d,S.vF = .slice b n d:=by obtain ⟨b,d,e,_⟩:=row_form hkm.frames;exact ⟨b,_,d,e⟩
       obtain ⟨bL,nL,dL,eL⟩ : ∃ b n d,S.vL = .slice b n d:=by obtain ⟨b,d,e,_⟩:=row_form hkm.slots;exact ⟨b,_,d,e⟩
       obtain ⟨bP,nP,dP,eP⟩ : ∃ b n d,S.vP = .slice b n d:=by obtain ⟨b,d,e,_⟩:=row_form hkm.spaces;exact ⟨b,_,d,e⟩
       have x3 : wr.cell? ⟨w.heap.size,3,none⟩ = some (.slice a.aP k.spaces.length a.cP):=B.cell hk1 3 rfl
       have c0:=hkm.c0
       have c1:=hkm.c1
       have c2:=hkm.c2
       have c3:=hkm.c3
       have c4 : wr.cell? ⟨cb,4,none⟩ = some (.int .i64 k.hand):=hkm.c4
       rw [eS] at c0
       rw [eF] at c1
       rw [eL] at c2
       rw [eP] at c3
       have R1:=HRB.out _ hbw
       obtain ⟨y0,y1,y2,y3,y4⟩:=B.c5 R1
       have f0:=B.free R1 0
       have f1:=B.free R1 1
       have f2:=B.free R1 2
       have f3:=B.free R1 3
       have f4:=B.free R1 4
       have HFIN : Hid (∀ V,Kp (fun b=>b = w.heap.size + 1) wr V -> P (.returned (.agg #[.slice bS nS dS,.slice bF nF dF,.slice bL nL dL,.slice bP nP dP,.int .i64 k.hand])) V):=fun V hV=>by
        rw [HP.out]
        refine ⟨S,hs',HSM.out,by rw [eS,eF,eL,eP],(hkm.toKr.kp hV (fun b hb e=>by have:=(hkm.bnd b hb).1;have:=HWC.out;omega)).mono (by have:=HWC.out;omega),?_⟩
        exact Kp.below hwl hV hwl.size (fun b e=>by omega)
       have h5 : Hid (∀ s f l p h,(((((wr.setCell ⟨w.heap.size + 1,0,none⟩ s).setCell ⟨w.heap.size + 1,1,none⟩ f).setCell ⟨w.heap.size + 1,2,none⟩ l).setCell ⟨w.heap.size + 1,3,none⟩ p).setCell ⟨w.heap.size + 1,4,none⟩ h).heap[w.heap.size + 1]? = some (.cells #[s,f,l,p,h] 27 (0,0)) /\ Kp (fun b=>b = w.heap.size + 1) wr (((((wr.setCell ⟨w.heap.size + 1,0,none⟩ s).setCell ⟨w.heap.size + 1,1,none⟩ f).setCell ⟨w.heap.size + 1,2,none⟩ l).setCell ⟨w.heap.size + 1,3,none⟩ p).setCell ⟨w.heap.size + 1,4,none⟩ h)):=fun s f l p h=>⟨B.set (B.set (B.set (B.set (B.set R1 0 s) 1 f) 2 l) 3 p) 4 h,((((Kp.set (fun b=>b = w.heap.size + 1) wr ⟨w.heap.size + 1,0,none⟩ s rfl).trans (Kp.set (fun b=>b = w.heap.size + 1) _ ⟨w.heap.size + 1,1,none⟩ f rfl) (fun _ _ g=>g)).trans (Kp.set (fun b=>b = w.heap.size + 1) _ ⟨w.heap.size + 1,2,none⟩ l rfl) (fun _ _ g=>g)).trans (Kp.set (fun b=>b = w.heap.size + 1) _ ⟨w.heap.size + 1,3,none⟩ p rfl) (fun _ _ g=>g)).trans (Kp.set (fun b=>b = w.heap.size + 1) _ ⟨w.heap.size + 1,4,none⟩ h rfl) (fun _ _ g=>g)⟩
       clear hkm hbw eS eF eL eP hwl R1 hk1 hlt2
       go_wp2
       obtain ⟨q1,q2⟩:=h5.out (.slice bS nS dS) (.slice bF nF dF) (.slice bL nL dL) (.slice bP nP dP) (.int .i64 k.hand)
       obtain ⟨y0,y1,y2,y3,y4⟩:=B.c5 q1
       refine bodyPost_ret (v:=.agg #[.slice bS nS dS,.slice bF nF dF,.slice bL nL dL,.slice bP nP dP,.int .i64 k.hand]) (by simp [results,Tryz.results16,go_sem,y0,y1,y2,y3,y4]) rfl ?_
       exact HFIN.out _ q2
end KR
end Go.Proofs.YtpgifpeohlllfaaGreat
