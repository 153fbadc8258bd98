import Derived.Test.YtpgifpeohlllfaaGreatGJ16
import Derived.Test.YtpgifpeohlllfaaGreatGJ02
import Derived.Deep.RegionHeld3
set_option maxHeartbeats 20000000
set_option linter.unusedVariables false
set_option maxRecDepth 100000
set_option linter.unusedSimpArgs false
namespace Go.Proofs.YtpgifpeohlllfaaGreat
namespace KW
open Go.RowKit GK
open FW (hideC add_below)
theorem find_first (es : List KM.En) (p : Int) (i : Nat) (hi : i < es.length) (h : (KM.enAt es i).page = p) (hno : ∀ j,j < i -> ¬ (KM.enAt es j).page = p) : KM.entOf es p = some (KM.enAt es i):=by
 induction es generalizing i with
 | nil=>cases hi
 | cons a r ih =>
  cases i with
  | zero =>
   have h : a.page = p:=h
   show (a :: r).find? _ = some a
   rw [List.find?_cons,decide_eq_true h]
  | succ i =>
   have h0 : ¬ a.page = p:=hno 0 (by omega)
   show (a :: r).find? _ = some (KM.enAt r i)
   rw [List.find?_cons,decide_eq_false h0]
   exact ih i (Nat.lt_of_succ_lt_succ hi) h (fun j hj=>hno (j + 1) (by omega))
theorem find_none (es : List KM.En) (p : Int) (hno : ∀ j,j < es.length -> ¬ (KM.enAt es j).page = p) : KM.entOf es p = none:=KM.ent_none.2 fun e he=>by
 obtain ⟨j,hj,rfl⟩:=KM.mem_getD KM.en0 he
 exact hno j hj
def entryN (es : List KM.En) (p : Int) : KM.En × Bool:=match KM.entOf es p with
 | some e=>(e,true)
 | none=>(KM.en0,false)
def aggEn (e : KM.En) : Value:=.agg #[.int .i64 e.page,.int .i64 e.kind,.int .i64 e.loc]
set_option maxHeartbeats 8000000 in
theorem entry_any (es : List KM.En) (p : Int) (j n mb pb po cP : Nat) (ae : Option Addr) (ce : Nat) (w : World) (hm : w.cell? ⟨mb,3,none⟩ = some (.slice (some ⟨pb,po,none⟩) n cP)) (hj : j < n) (hce : w.cell? ⟨pb,po + j * 3 + 2,none⟩ = some (.slice ae es.length ce)) (he : HasRow cellEn 3 KM.en0 w ae es) (hl : es.length <= 1000000) (hn : n <= 1000000) :
  Calls Tryz.prog 118 #[.pointer (some ⟨mb,0,none⟩),.int .i64 (j : Int),.int .i64 p] w fun e w'=>e = .returned (.tuple #[aggEn (entryN es p).1,.bool (entryN es p).2]) /\ Below w.heap.size w w':=by
 have hml:=World.block_lt_of_cell? w _ hm
 have hpl:=World.block_lt_of_cell? w _ hce
 have hml : mb < w.heap.size:=hml
 have hpl : pb < w.heap.size:=hpl
 have hmn : ¬ mb = w.heap.size:=by omega
 have hmn1 : ¬ mb = w.heap.size + 1:=by omega
 have hpn : ¬ pb = w.heap.size:=by omega
 have hpn1 : ¬ pb = w.heap.size + 1:=by omega
 have HHE:=hideC he
 obtain ⟨W,hW⟩ : ∃ W,W = (w.alloc (.cells #[.int .i64 p] 3)).alloc (.cells #[.int .i64 0,.int .i64 0,.int .i64 0] 45):=⟨_,rfl⟩
 have HB0 : Hid (Below w.heap.size w W):=by rw [hW];exact ((Below.refl w.heap.size w).alloc (Nat.le_refl _) _).alloc (by simp) _
 have X0 : Hid (W.heap[w.heap.size]? = some (.cells #[.int .i64 p] 3 (0,0))):=by rw [hW];exact B.alloc (B.new w _ _) _
 have R0 : Hid (W.heap[w.heap.size + 1]? = some (.cells #[.int .i64 0,.int .i64 0,.int .i64 0] 45 (0,0))):=by
  have:=B.new (w.alloc (.cells #[.int .i64 p] 3)) #[.int .i64 0,.int .i64 0,.int .i64 0] 45
  rw [World.size_alloc] at this
  rw [hW];exact this
 have d3 : W.cell? ⟨mb,3,none⟩ = some (.slice (some ⟨pb,po,none⟩) n cP):=(HB0.out.cell (p:=⟨mb,3,none⟩) hml).trans hm
 have d2 : W.cell? ⟨pb,po + j * 3 + 2,none⟩ = some (.slice ae es.length ce):=(HB0.out.cell (p:=⟨pb,po + j * 3 + 2,none⟩) hpl).trans hce
 have HIX:=hideC (ixE_any 154 (.inl rfl) (fun e=>decide (e.page = p)) es ae ce w.heap.size W (he.below HB0.out) hl (fun V e hV=>entry1_any p e w.heap.size V (B.cell (B.below X0.out hV (B.isLt X0.out)) 0 rfl)))
 have HF:=hideC (find_first es p)
 have HN:=hideC (find_none es p)
 have hji : (j : Int) < (n : Int):=by omega
 have hj0 : (0 : Int) <= (j : Int):=by omega
 have HW:=hideC hW
 clear hm hce he hW
 have q1 : W.frozen? ⟨w.heap.size + 1,0,none⟩ = false:=B.free R0.out 0
 by_cases hex : ∃ j,j < es.length /\ (KM.enAt es j).page = p
 · obtain ⟨j0,hj0l,hj0p⟩:=hex
   have HI2 : Hid (Calls Tryz.prog 153 #[.slice ae es.length ce,.func (.func 154) #[] #[.pointer (some ⟨w.heap.size,0,none⟩)]] W fun e w'=>∃ i : Nat,i < es.length /\ e = .returned (.int .i64 (i : Int)) /\ entryN es p = (KM.enAt es i,true) /\ Below W.heap.size W w'):=HIX.out.mono fun e w' ⟨hb,h⟩=>by
    rcases h with ⟨_,hno⟩ | ⟨i,hi,he,hyes,hno⟩
    · exact absurd hj0p (by have:=hno j0 hj0l;simpa using this)
    · refine ⟨i,hi,he,?_,hb⟩
      unfold entryN
      rw [HF.out i hi (by simpa using hyes) (fun j hj=>by have:=hno j hj;simpa using this)]
   clear HIX HF HN hj0l hj0p
   go_enter Tryz.func118,Tryz.ntmps118
   go_upto_region 1 with fail
   rw [<- HW.out]
   go_upto_region 3 with (go_at_call 153;refine HI2.out.mono ?_;rintro e w1 ⟨i,hi,rfl,hen,hb1⟩;have HEN:=hideC hen;have HB1:=hideC (HB0.out.trans (hb1.mono HB0.out.size));have R1:=hideC (B.below R0.out hb1 (B.isLt R0.out));clear hb1 hen)
   obtain ⟨eb,eo,hao,hbl,hlie⟩:=HHE.out (by omega)
   subst hao
   have y0:=(HB1.out.cell (p:=⟨eb,eo + i * 3 + 0,none⟩) hbl).trans (hlie i hi 0 (by omega))
   have y1:=(HB1.out.cell (p:=⟨eb,eo + i * 3 + 1,none⟩) hbl).trans (hlie i hi 1 (by omega))
   have y2:=(HB1.out.cell (p:=⟨eb,eo + i * 3 + 2,none⟩) hbl).trans (hlie i hi 2 (by omega))
   rw [Nat.add_zero] at y0
   obtain ⟨E,hE⟩ : ∃ E,E = KM.enAt es i:=⟨_,rfl⟩
   have x0 : w1.cell? ⟨eb,eo + i * 3,none⟩ = some (.int .i64 E.page):=by rw [hE];exact y0
   have x1 : w1.cell? ⟨eb,eo + i * 3 + 1,none⟩ = some (.int .i64 E.kind):=by rw [hE];exact y1
   have x2 : w1.cell? ⟨eb,eo + i * 3 + 2,none⟩ = some (.int .i64 E.loc):=by rw [hE];exact y2
   rw [<- hE] at HEN
   obtain ⟨r0,r1,r2⟩:=B.c3 R1.out
   have f0:=B.free R1.out 0
   have f1:=B.free R1.out 1
   have f2:=B.free R1.out 2
   have hi1 : (i : Int) < (es.length : Int):=by omega
   have hi0 : (0 : Int) <= (i : Int):=by omega
   clear hE y0 y1 y2 hlie
   go_wp2
   have R2 : (((w1.setCell ⟨w.heap.size + 1,0,none⟩ (.int .i64 E.page)).setCell ⟨w.heap.size + 1,1,none⟩ (.int .i64 E.kind)).setCell ⟨w.heap.size + 1,2,none⟩ (.int .i64 E.loc)).heap[w.heap.size + 1]? = some (.cells #[.int .i64 E.page,.int .i64 E.kind,.int .i64 E.loc] 45 (0,0)):=B.set (B.set (B.set R1.out 0 _) 1 _) 2 _
   obtain ⟨v0,v1,v2⟩:=B.c3 R2
   refine bodyPost_ret (v:=.tuple #[aggEn E,.bool true]) (by simp [results,Tryz.results118,go_sem,aggEn,v0,v1,v2]) rfl ?_
   rw [HEN.out]
   refine ⟨rfl,?_⟩
   exact ((HB1.out.setCell (p:=⟨w.heap.size + 1,0,none⟩) (by show w.heap.size <= w.heap.size + 1;omega) _).setCell (p:=⟨w.heap.size + 1,1,none⟩) (by show w.heap.size <= w.heap.size + 1;omega) _).setCell (p:=⟨w.heap.size + 1,2,none⟩) (by show w.heap.size <= w.heap.size + 1;omega) _
 · have HI2 : Hid (Calls Tryz.prog 153 #[.slice ae es.length ce,.func (.func 154) #[] #[.pointer (some ⟨w.heap.size,0,none⟩)]] W fun e w'=>e = .returned (.int .i64 (-1)) /\ Below W.heap.size W w'):=HIX.out.mono fun e w' ⟨hb,h⟩=>by
    rcases h with ⟨he,_⟩ | ⟨i,hi,_,hyes,_⟩
    · exact ⟨he,hb⟩
    · exact absurd ⟨i,hi,by simpa using hyes⟩ hex
   have HEN : Hid (entryN es p = (KM.en0,false)):=by
    show _ = _
    unfold entryN
    rw [HN.out (fun j hj e=>hex ⟨j,hj,e⟩)]
   clear HIX HF HN hex
   go_enter Tryz.func118,Tryz.ntmps118
   go_upto_region 1 with fail
   rw [<- HW.out]
   go_upto_region 3 with (go_at_call 153;refine HI2.out.mono ?_;rintro e w1 ⟨rfl,hb1⟩;have HB1:=hideC (HB0.out.trans (hb1.mono HB0.out.size));have R1:=hideC (B.below R0.out hb1 (B.isLt R0.out));clear hb1)
   obtain ⟨r0,r1,r2⟩:=B.c3 R1.out
   have f0:=B.free R1.out 0
   have f1:=B.free R1.out 1
   have f2:=B.free R1.out 2
   go_wp2
   have R2 : (((w1.setCell ⟨w.heap.size + 1,0,none⟩ (.int .i64 0)).setCell ⟨w.heap.size + 1,1,none⟩ (.int .i64 0)).setCell ⟨w.heap.size + 1,2,none⟩ (.int .i64 0)).heap[w.heap.size + 1]? = some (.cells #[.int .i64 0,.int .i64 0,.int .i64 0] 45 (0,0)):=B.set (B.set (B.set R1.out 0 _) 1 _) 2 _
   obtain ⟨v0,v1,v2⟩:=B.c3 R2
   refine bodyPost_ret (v:=.tuple #[aggEn KM.en0,.bool false]) (by simp [results,Tryz.results118,go_sem,aggEn,KM.en0,v0,v1,v2]) rfl ?_
   rw [HEN.out]
   refine ⟨rfl,?_⟩
   exact ((HB1.out.setCell (p:=⟨w.heap.size + 1,0,none⟩) (by show w.heap.size <= w.heap.size + 1;omega) _).setCell (p:=⟨w.heap.size + 1,1,none⟩) (by show w.heap.size <= w.heap.size + 1;omega) _).setCell (p:=⟨w.heap.size + 1,2,none⟩) (by show w.heap.size <= w.heap.size + 1;omega) _
theorem peek_entry (k : KM.Kn) (j : Nat) (p : Int) (hR : KM.RightK k) (hj : j < k.spaces.length) : KM.peekK k j p = if (entryN (KM.spAt k.spaces j).ents p).1.kind = 1 then (KM.frAt k.frames (entryN (KM.spAt k.spaces j).ents p).1.loc.toNat).data else if (entryN (KM.spAt k.spaces j).ents p).1.kind = 2 then (KM.slAt k.slots (entryN (KM.spAt k.spaces j).ents p).1.loc.toNat).data else KM.fillK k.sheets p (KM.zeroAt k j p):=by
 unfold KM.peekK entryN
 cases g : KM.entOf (KM.spAt k.spaces j).ents p with
 | none=>rfl
 | some e =>
  have he:=(KM.ent_iff (hR.sp hj).rise).1 g
  show (if e.kind = 1 then _ else _) = if e.kind = 1 then _ else if e.kind = 2 then _ else _
  rcases KM.loc_bd hR hj he.1 with b | b
  · rw [if_pos b.1,if_pos b.1]
  · rw [if_neg (by omega),if_neg (by omega),if_pos b.1]
set_option maxHeartbeats 8000000 in
theorem holds_any (k : KM.Kn) (a : KAt) (j mb : Nat) (p : Int) (ar : AM.Ar) (w : World) (hK : HasK w a k) (hR : KM.RightK k) (hj : j < k.spaces.length) (hm : w.heap[mb]? = some (.cells (memK a k) 104 (0,0))) (hp : KM.mapped k j p) (hz : ar.zero = KM.zeroAt k j p) :
  Calls Tryz.prog 71 #[.pointer (some ⟨mb,0,none⟩),.int .i64 (j : Int),.int .i64 p,.agg (AW.cellsOf ar)] w fun e w'=>e = .returned (.string (KM.peekK k j p)) /\ Below w.heap.size w w':=by
 have hpp:=KM.mapped_pos hp
 have hcc:=hR.c
 have HPK:=hideC (peek_entry k j p hR hj)
 have hml:=B.isLt hm
 obtain ⟨pb,po,hao,hbl,hlie⟩:=hK.spaces (by omega)
 obtain ⟨va,ap,cp,_,_,y2,_,y4,_⟩:=hlie j hj
 have hel : (KM.spAt k.spaces j).ents.length <= 1000000:=by
  have h1:=KM.ents_pages (hR.sp hj)
  have h2:=total_bd (KM.spAt k.spaces j).areas
  omega
 have c1 : w.cell? ⟨mb,1,none⟩ = some (.slice a.aF k.frames.length a.cF):=B.cell hm 1 rfl
 have c2 : w.cell? ⟨mb,2,none⟩ = some (.slice a.aL k.slots.length a.cL):=B.cell hm 2 rfl
 have c3 : w.cell? ⟨mb,3,none⟩ = some (.slice (some ⟨pb,po,none⟩) k.spaces.length a.cP):=(B.cell (v:=.slice a.aP k.spaces.length a.cP) hm 3 rfl).trans (by rw [hao])
 have HEN:=hideC (fun V (hV : Below w.heap.size w V)=>entry_any (KM.spAt k.spaces j).ents p j k.spaces.length mb pb po a.cP ap cp V ((hV.cell (p:=⟨mb,3,none⟩) hml).trans c3) hj ((hV.cell (p:=⟨pb,po + j * 3 + 2,none⟩) hbl).trans y2) (y4.below hV) hel (by omega))
 have HFI:=hideC (fun V (hV : Below w.heap.size w V)=>fill_any k.sheets p ar.zero mb V (mem_fill (B.below hm hV hml) hR.rise) (by omega))
 have HBD : Hid (∀ e : KM.En,(entryN (KM.spAt k.spaces j).ents p).1 = e -> (e.kind = 1 -> 0 <= e.loc /\ e.loc < (k.frames.length : Int)) /\ (e.kind = 2 -> 0 <= e.loc /\ e.loc < (k.slots.length : Int))):=fun e he=>by
  unfold entryN at he
  cases g : KM.entOf (KM.spAt k.spaces j).ents p with
  | none =>
   rw [g] at he
   have he : KM.en0 = e:=he
   subst he
   exact ⟨fun x=>absurd x (by decide),fun x=>absurd x (by decide)⟩
  | some e2 =>
   rw [g] at he
   have he : e2 = e:=he
   subst he
   have hm2:=(KM.ent_iff (hR.sp hj).rise).1 g
   have:=((hR.sp hj).ent e2 hm2.1).2
   exact ⟨fun x=>by omega,fun x=>by omega⟩
 have HF:=hideC hK.frames
 have HS:=hideC hK.slots
 rw [hz] at HFI
 obtain ⟨EN,hEN⟩ : ∃ EN,EN = entryN (KM.spAt k.spaces j).ents p:=⟨_,rfl⟩
 rw [<- hEN] at HPK HEN HBD
 obtain ⟨⟨pg,kd,lc⟩,fd⟩:=EN
 unfold aggEn at HEN
 have HBD2:=hideC (HBD.out _ rfl)
 obtain ⟨FK,hFK⟩ : ∃ FK,FK = KM.fillK k.sheets p (KM.zeroAt k j p):=⟨_,rfl⟩
 rw [<- hFK] at HPK HFI
 obtain ⟨PK,hPK⟩ : ∃ PK,PK = KM.peekK k j p:=⟨_,rfl⟩
 rw [<- hPK] at HPK ⊢
 obtain ⟨f1,f2,f3,z⟩:=ar
 unfold AW.cellsOf
 simp only at HPK HEN HBD2 HFI hz ⊢
 rw [<- hz] at HFI
 have HB0:=hideC ((Below.refl w.heap.size w).alloc (Nat.le_refl _) (.cells #[.int .i64 f1,.int .i64 f2,.int .i64 f3,.bool z] 47))
 have AB:=hideC (B.new w #[.int .i64 f1,.int .i64 f2,.int .i64 f3,.bool z] 47)
 clear hEN hFK hPK hz hao hlie y2 y4 HBD hK hR hm hp hcc hel c3 hj
 rcases (show kd = 1 ∨ (¬ kd = 1 /\ kd = 2) ∨ (¬ kd = 1 /\ ¬ kd = 2) by omega) with g | ⟨g,g2⟩ | ⟨g,g2⟩
 · rw [if_pos g] at HPK
   have kb1 : (kd == 1) = true:=by simpa using g
   obtain ⟨l0,l1⟩:=HBD2.out.1 g
   obtain ⟨i,rfl⟩ : ∃ i : Nat,lc = (i : Int):=⟨lc.toNat,by omega⟩
   rw [Int.toNat_natCast] at HPK
   obtain ⟨fb,fo,hfo,hfl,hfe⟩:=HF.out (by omega)
   have x0:=hfe i (by omega) 0 (by omega)
   rw [hfo] at c1
   have x0 : w.cell? ⟨fb,fo + i * 4,none⟩ = some (.string PK):=by rw [HPK.out];exact x0
   clear g HF HS HFI HBD2 hfe
   go_enter Tryz.func71,Tryz.ntmps71
   go_wp2_with (go_at_call 118;refine (HEN.out _ HB0.out).mono ?_;rintro e w1 ⟨rfl,hb1⟩;have HB1:=hideC (add_below HB0.out hb1);have HBA:=hideC (HB1.out.alloc HB1.out.size (.cells #[.int .i64 pg,.int .i64 kd,.int .i64 (i : Int)] 45));have d1 : (w1.alloc (.cells #[.int .i64 pg,.int .i64 kd,.int .i64 (i : Int)] 45)).cell? ⟨mb,1,none⟩ = some (.slice (some ⟨fb,fo,none⟩) k.frames.length a.cF):=(HBA.out.cell (p:=⟨mb,1,none⟩) hml).trans c1;have d2 : (w1.alloc (.cells #[.int .i64 pg,.int .i64 kd,.int .i64 (i : Int)] 45)).cell? ⟨mb,2,none⟩ = some (.slice a.aL k.slots.length a.cL):=(HBA.out.cell (p:=⟨mb,2,none⟩) hml).trans c2;have A0:=hideC (B.alloc (B.below AB.out hb1 (B.isLt AB.out)) (.cells #[.int .i64 pg,.int .i64 kd,.int .i64 (i : Int)] 45));clear hb1)
   have xA:=(HBA.out.cell (p:=⟨fb,fo + i * 4,none⟩) hfl).trans x0
   go_region
   go_wp2
   go_ret
   exact ⟨rfl,HBA.out.drew⟩
 · rw [if_neg g,if_pos g2] at HPK
   have kb1 : (kd == 1) = false:=by simpa using g
   have kb2 : (kd == 2) = true:=by simpa using g2
   obtain ⟨l0,l1⟩:=HBD2.out.2 g2
   obtain ⟨i,rfl⟩ : ∃ i : Nat,lc = (i : Int):=⟨lc.toNat,by omega⟩
   rw [Int.toNat_natCast] at HPK
   obtain ⟨fb,fo,hfo,hfl,hfe⟩:=HS.out (by omega)
   have x0:=hfe i (by omega) 0 (by omega)
   rw [hfo] at c2
   have x0 : w.cell? ⟨fb,fo + i * 2,none⟩ = some (.string PK):=by rw [HPK.out];exact x0
   clear g g2 HF HS HFI HBD2 hfe
   go_enter Tryz.func71,Tryz.ntmps71
   go_wp2_with (go_at_call 118;refine (HEN.out _ HB0.out).mono ?_;rintro e w1 ⟨rfl,hb1⟩;have HB1:=hideC (add_below HB0.out hb1);have HBA:=hideC (HB1.out.alloc HB1.out.size (.cells #[.int .i64 pg,.int .i64 kd,.int .i64 (i : Int)] 45));have d1 : (w1.alloc (.cells #[.int .i64 pg,.int .i64 kd,.int .i64 (i : Int)] 45)).cell? ⟨mb,1,none⟩ = some (.slice a.aF k.frames.length a.cF):=(HBA.out.cell (p:=⟨mb,1,none⟩) hml).trans c1;have d2 : (w1.alloc (.cells #[.int .i64 pg,.int .i64 kd,.int .i64 (i : Int)] 45)).cell? ⟨mb,2,none⟩ = some (.slice (some ⟨fb,fo,none⟩) k.slots.length a.cL):=(HBA.out.cell (p:=⟨mb,2,none⟩) hml).trans c2;have A0:=hideC (B.alloc (B.below AB.out hb1 (B.isLt AB.out)) (.cells #[.int .i64 pg,.int .i64 kd,.int .i64 (i : Int)] 45));clear hb1)
   have xA:=(HBA.out.cell (p:=⟨fb,fo + i * 2,none⟩) hfl).trans x0
   go_region
   go_wp2
   go_ret
   exact ⟨rfl,HBA.out.drew⟩
 · rw [if_neg g,if_neg g2] at HPK
   have kb1 : (kd == 1) = false:=by simpa using g
   have kb2 : (kd == 2) = false:=by simpa using g2
   clear g g2 HF HS HBD2
   go_enter Tryz.func71,Tryz.ntmps71
   go_wp2_with (first | (go_at_call 118;refine (HEN.out _ HB0.out).mono ?_;rintro e w1 ⟨rfl,hb1⟩;have HB1:=hideC (add_below HB0.out hb1);have HBA:=hideC (HB1.out.alloc HB1.out.size (.cells #[.int .i64 pg,.int .i64 kd,.int .i64 lc] 45));have d1 : (w1.alloc (.cells #[.int .i64 pg,.int .i64 kd,.int .i64 lc] 45)).cell? ⟨mb,1,none⟩ = some (.slice a.aF k.frames.length a.cF):=(HBA.out.cell (p:=⟨mb,1,none⟩) hml).trans c1;have d2 : (w1.alloc (.cells #[.int .i64 pg,.int .i64 kd,.int .i64 lc] 45)).cell? ⟨mb,2,none⟩ = some (.slice a.aL k.slots.length a.cL):=(HBA.out.cell (p:=⟨mb,2,none⟩) hml).trans c2;have A0:=hideC (B.alloc (B.below AB.out hb1 (B.isLt AB.out)) (.cells #[.int .i64 pg,.int .i64 kd,.int .i64 lc] 45));have a3 : (w1.alloc (.cells #[.int .i64 pg,.int .i64 kd,.int .i64 lc] 45)).cell? ⟨w.heap.size,3,none⟩ = some (.bool z):=B.cell A0.out 3 rfl;clear hb1) | (go_at_call 119;refine (HFI.out _ HBA.out).mono ?_;rintro e w2 ⟨rfl,hb2⟩;have HB2:=hideC (add_below HBA.out hb2);clear hb2))
   go_ret
   exact ⟨congrArg (fun d=>Ending.returned (.string d)) HPK.out.symm,HB2.out⟩
def peekR (k : KM.Kn) (sp p : Int) : ByteArray × Int:=if liveK k sp = 0 then (if (AM.findN (KM.spAt k.spaces sp.toNat).areas p).2 then (KM.peekK k sp.toNat p,0) else (⟨#[]⟩,6)) else (⟨#[]⟩,liveK k sp)
theorem live_parts {k : KM.Kn} {sp : Int} (h : liveK k sp = 0) : KM.checkK k = 0 /\ 0 <= sp /\ sp < (k.spaces.length : Int) /\ (KM.spAt k.spaces sp.toNat).live = true:=by
 unfold liveK at h
 by_cases c : KM.checkK k = 0
 · rw [if_pos c] at h
   by_cases d : 0 <= sp /\ sp < (k.spaces.length : Int) /\ (KM.spAt k.spaces sp.toNat).live = true
   · exact ⟨c,d⟩
   · rw [if_neg d] at h;cases h
 · rw [if_neg c] at h;exact absurd h c
set_option maxHeartbeats 8000000 in
theorem peek_any (k : KM.Kn) (a : KAt) (sp p : Int) (w : World) (hK : HasK w a k) (hF : FitK k) (hsp : M.I64 sp) : Calls Tryz.prog 30 #[.agg (cellsK a k),.int .i64 sp,.int .i64 p] w fun e w'=>e = .returned (.tuple #[.string (peekR k sp p).1,.int .i64 (peekR k sp p).2]) /\ Below w.heap.size w w':=by
 have HO:=hideC (fun V (hV : Below w.heap.size w V)=>open_any k a sp V (hK.below hV) hF hsp)
 have HB0:=hideC ((Below.refl w.heap.size w).alloc (Nat.le_refl _) (.cells (cellsK a k) 27))
 by_cases hl : liveK k sp = 0
 · have hpt:=live_parts hl
   have hR:=(KM.check_iff k).1 hpt.1
   obtain ⟨j,rfl⟩ : ∃ j : Nat,sp = (j : Int):=⟨sp.toNat,by omega⟩
   have hj : j < k.spaces.length:=by omega
   have HPR : Hid (peekR k (j : Int) p = if (AM.findN (KM.spAt k.spaces j).areas p).2 then (KM.peekK k j p,0) else (⟨#[]⟩,6)):=by show _ = _;unfold peekR;rw [if_pos hl,Int.toNat_natCast]
   have HO2 : Hid (∀ V,Below w.heap.size w V -> Calls Tryz.prog 69 #[.agg (cellsK a k),.int .i64 (j : Int)] V fun e w'=>∃ mb,e = .returned (.tuple #[.pointer (some ⟨mb,0,none⟩),.int .i64 0]) /\ w.heap.size <= mb /\ w'.heap[mb]? = some (.cells (memK a k) 104 (0,0)) /\ Below V.heap.size V w'):=fun V hV=>(HO.out V hV).mono fun e w' ⟨hb,h⟩=>by
    rcases h with ⟨_,mb,h1,h2,h3⟩ | ⟨h1,_⟩
    · exact ⟨mb,h1,Nat.le_trans hV.size h2,h3,hb⟩
    · exact absurd hl h1
   have hcc:=hR.c
   obtain ⟨pb,po,hao,hbl,hlie⟩:=hK.spaces (by omega)
   obtain ⟨va,ap,cp,_,y1,_,y3,_,_⟩:=hlie j hj
   obtain ⟨aa,ca,hva,_⟩:=id y3
   subst hva
   have HFD:=hideC (fun V (hV : Below w.heap.size w V)=>AW.find_any (KM.spAt k.spaces j).areas _ p V (y3.below hV) (hF.sp j hj).areas)
   have HHO:=hideC (fun mb V (hV : Below w.heap.size w V) (hm : V.heap[mb]? = some (.cells (memK a k) 104 (0,0))) (hp : KM.mapped k j p)=>holds_any k a j mb p (AM.findN (KM.spAt k.spaces j).areas p).1 V (hK.below hV) hR hj hm hp rfl)
   have HM3 : Hid (∀ (V : World) mb,V.heap[mb]? = some (.cells (memK a k) 104 (0,0)) -> V.cell? ⟨mb,3,none⟩ = some (.slice (some ⟨pb,po,none⟩) k.spaces.length a.cP)):=fun V mb h=>(B.cell (v:=.slice a.aP k.spaces.length a.cP) h 3 rfl).trans (by rw [hao])
   have HMP : Hid ((AM.findN (KM.spAt k.spaces j).areas p).2 = true -> KM.mapped k j p):=fun h=>h
   obtain ⟨⟨⟨f1,f2,f3,z⟩,ok⟩,hFN⟩ : ∃ F,F = AM.findN (KM.spAt k.spaces j).areas p:=⟨_,rfl⟩
   rw [<- hFN] at HPR HFD HHO HMP
   unfold AW.cellsOf at HFD HHO
   simp only at HPR HFD HHO HMP
   have hji : (j : Int) < (k.spaces.length : Int):=by omega
   have hj0 : (0 : Int) <= (j : Int):=by omega
   clear hFN HO hl hpt hR hK hF hsp hao hlie y3 hcc
   obtain ⟨PR,hPR⟩ : ∃ PR,PR = peekR k (j : Int) p:=⟨_,rfl⟩
   rw [<- hPR] at HPR ⊢
   clear hPR
   unfold cellsK at HO2 HB0 ⊢
   cases ok with
   | false =>
    have HPR2 : Hid (PR = (⟨#[]⟩,6)):=HPR
    clear HPR HHO HMP
    go_enter Tryz.func30,Tryz.ntmps30
    go_wp2_with (first | (go_at_call 69;refine (HO2.out _ HB0.out).mono ?_;rintro e w1 ⟨mb,rfl,hm1,hm2,hb1⟩;have HMB:=hideC hm2;have HB1:=hideC (add_below HB0.out hb1);have c3:=HM3.out w1 mb hm2;have c1:=(HB1.out.cell (p:=⟨pb,po + j * 3 + 1,none⟩) hbl).trans y1;clear hb1 hm2) | (go_at_call 70;refine (HFD.out _ HB1.out).mono ?_;rintro e w2 ⟨rfl,hb2⟩;have HB2:=hideC (add_below HB1.out hb2);have HBA:=hideC (HB2.out.alloc HB2.out.size (.cells #[.int .i64 f1,.int .i64 f2,.int .i64 f3,.bool z] 47));have MA:=hideC (B.alloc (B.below HMB.out hb2 (B.isLt HMB.out)) (.cells #[.int .i64 f1,.int .i64 f2,.int .i64 f3,.bool z] 47));clear hb2))
    go_ret2
    rw [HPR2.out]
    exact ⟨rfl,HBA.out⟩
   | true =>
    have HPR2 : Hid (PR = (KM.peekK k j p,0)):=HPR
    clear HPR
    obtain ⟨PK,hPK⟩ : ∃ PK,PK = KM.peekK k j p:=⟨_,rfl⟩
    rw [<- hPK] at HHO HPR2
    clear hPK
    go_enter Tryz.func30,Tryz.ntmps30
    go_wp2_with (first | (go_at_call 69;refine (HO2.out _ HB0.out).mono ?_;rintro e w1 ⟨mb,rfl,hm1,hm2,hb1⟩;have HMB:=hideC hm2;have HB1:=hideC (add_below HB0.out hb1);have c3:=HM3.out w1 mb hm2;have c1:=(HB1.out.cell (p:=⟨pb,po + j * 3 + 1,none⟩) hbl).trans y1;clear hb1 hm2) | (go_at_call 70;refine (HFD.out _ HB1.out).mono ?_;rintro e w2 ⟨rfl,hb2⟩;have HB2:=hideC (add_below HB1.out hb2);have HBA:=hideC (HB2.out.alloc HB2.out.size (.cells #[.int .i64 f1,.int .i64 f2,.int .i64 f3,.bool z] 47));have MA:=hideC (B.alloc (B.below HMB.out hb2 (B.isLt HMB.out)) (.cells #[.int .i64 f1,.int .i64 f2,.int .i64 f3,.bool z] 47));clear hb2) | (go_at_call 71;refine (HHO.out mb _ HBA.out MA.out (HMP.out trivial)).mono ?_;rintro e w3 ⟨rfl,hb3⟩;have HB3:=hideC (add_below HBA.out hb3);clear hb3))
    go_ret2
    rw [HPR2.out]
    exact ⟨rfl,HB3.out⟩
 · have HO2 : Hid (∀ V,Below w.heap.size w V -> Calls Tryz.prog 69 #[.agg (cellsK a k),.int .i64 sp] V fun e w'=>e = .returned (.tuple #[.pointer none,.int .i64 (liveK k sp)]) /\ Below V.heap.size V w'):=fun V hV=>(HO.out V hV).mono fun e w' ⟨hb,h⟩=>by
    rcases h with ⟨h1,_⟩ | ⟨_,h1⟩
    · exact absurd h1 hl
    · exact ⟨h1,hb⟩
   have HPR : Hid (peekR k sp p = (⟨#[]⟩,liveK k sp)):=by show _ = _;unfold peekR;rw [if_neg hl]
   obtain ⟨PR,hPR⟩ : ∃ PR,PR = peekR k sp p:=⟨_,rfl⟩
   rw [<- hPR] at HPR ⊢
   obtain ⟨C,hC⟩ : ∃ C,C = liveK k sp:=⟨_,rfl⟩
   rw [<- hC] at HPR HO2 hl
   have cb : (C != 0) = true:=by simpa using hl
   clear hPR hC HO hK hF hsp hl
   unfold cellsK at HO2 HB0 ⊢
   go_enter Tryz.func30,Tryz.ntmps30
   go_wp2_with (go_at_call 69;refine (HO2.out _ HB0.out).mono ?_;rintro e w1 ⟨rfl,hb1⟩;have HB1:=hideC (add_below HB0.out hb1);clear hb1)
   go_ret2
   rw [HPR.out]
   exact ⟨rfl,HB1.out⟩
def cellI (n : Int) : List Value:=[.int .i64 n]
def itAt (l : List Int) (i : Nat) : Int:=l.getD i 0
set_option maxHeartbeats 4000000 in
theorem indexI_any (l : List Int) (x : Int) (ao : Option Addr) (cap : Nat) (w : World) (h : HasRow cellI 1 0 w ao l) (hl : l.length <= 1000000) :
  Calls Tryz.prog 139 #[.slice ao l.length cap,.int .i64 x] w fun e w'=>w' = w /\ ((e = .returned (.int .i64 (-1)) /\ ∀ j,j < l.length -> itAt l j ≠ x) ∨ ∃ i : Nat,i < l.length /\ e = .returned (.int .i64 (i : Int)) /\ itAt l i = x):=by
 have HH:=hideC h
 clear h
 go_enter Tryz.func139,Tryz.ntmps139
 go_wp2
 go_loopw [8] (fun iv wr=>∃ k : Nat,k <= l.length /\ iv = .int .i64 (k : Int) /\ (∀ j,j < k -> itAt l j ≠ x) /\ wr = w) (fun iv _=>l.length - (intOf iv).toNat)
 case atStart=>exact ⟨0,by omega,rfl,fun j hj=>by omega,rfl⟩
 case round =>
  obtain ⟨k,hk,rfl,hno,rfl⟩:=hrel
  have HNO:=hideC hno
  clear hno
  by_cases hlt : k < l.length
  · have hki : (k : Int) < (l.length : Int):=by omega
    obtain ⟨eb,eo,hao,hbl,hlie⟩:=HH.out (by omega)
    subst hao
    have y0:=hlie k hlt 0 (by omega)
    rw [Nat.add_zero,Nat.mul_one] at y0
    obtain ⟨E,hE⟩ : ∃ E,E = itAt l k:=⟨_,rfl⟩
    have x0 : wr.cell? ⟨eb,eo + k,none⟩ = some (.int .i64 E):=by rw [hE];exact y0
    have HE:=hideC hE
    clear hE y0 hlie
    by_cases c : x = E
    · have cb : (x == E) = true:=by simpa using c
      have HC:=hideC c
      clear c
      go_wp2
      go_ret
      exact ⟨rfl,.inr ⟨k,hlt,rfl,by rw [<- HE.out,HC.out]⟩⟩
    · have cb : (x == E) = false:=by simpa using c
      have HC:=hideC c
      clear c
      go_wp2
      go_roundw
      case rel=>exact ⟨k + 1,by omega,by go_num,fun j hj=>by
       by_cases q : j = k
       · subst q;exact fun e=>HC.out (by rw [HE.out];exact e.symm)
       · exact HNO.out j (by omega),trivial⟩
      case measure=>simp [intOf];omega
  · obtain rfl : k = l.length:=by omega
    go_wp2
    go_ret
    exact ⟨rfl,.inl ⟨rfl,HNO.out⟩⟩
theorem itAt_mem (l : List Int) (x : Int) : x ∈ l ↔ ∃ i,i < l.length /\ itAt l i = x:=⟨fun h=>KM.mem_getD 0 h,fun ⟨i,hi,e⟩=>e ▸ KM.getD_mem hi⟩
set_option maxHeartbeats 4000000 in
theorem containsI_any (l : List Int) (x : Int) (ao : Option Addr) (cap : Nat) (w : World) (h : HasRow cellI 1 0 w ao l) (hl : l.length <= 1000000) :
  Calls Tryz.prog 95 #[.slice ao l.length cap,.int .i64 x] w fun e w'=>e = .returned (.bool (decide (x ∈ l))) /\ w' = w:=by
 have HI:=hideC (indexI_any l x ao cap w h hl)
 clear h
 by_cases c : x ∈ l
 · have HI2 : Hid (Calls Tryz.prog 139 #[.slice ao l.length cap,.int .i64 x] w fun e w'=>∃ i : Nat,i < l.length /\ e = .returned (.int .i64 (i : Int)) /\ w' = w):=HI.out.mono fun e w' ⟨hw,h⟩=>by
    rcases h with ⟨_,hno⟩ | ⟨i,hi,he,_⟩
    · obtain ⟨i,hi,e2⟩:=(itAt_mem l x).1 c
      exact absurd e2 (hno i hi)
    · exact ⟨i,hi,he,hw⟩
   rw [decide_eq_true c]
   clear HI c
   go_enter Tryz.func95,Tryz.ntmps95
   go_wp2_with (go_at_call 139;refine HI2.out.mono ?_;rintro e w1 ⟨i,hi,rfl,rfl⟩;have hi0 : (0 : Int) <= (i : Int):=(by omega))
   go_ret
   exact ⟨rfl,rfl⟩
 · have HI2 : Hid (Calls Tryz.prog 139 #[.slice ao l.length cap,.int .i64 x] w fun e w'=>e = .returned (.int .i64 (-1)) /\ w' = w):=HI.out.mono fun e w' ⟨hw,h⟩=>by
    rcases h with ⟨he,_⟩ | ⟨i,hi,_,e2⟩
    · exact ⟨he,hw⟩
    · exact absurd ((itAt_mem l x).2 ⟨i,hi,e2⟩) c
   rw [decide_eq_false c]
   clear HI c
   go_enter Tryz.func95,Tryz.ntmps95
   go_wp2_with (go_at_call 139;refine HI2.out.mono ?_;rintro e w1 ⟨rfl,rfl⟩)
   go_ret
   exact ⟨rfl,rfl⟩
end KW
namespace KS
open Go.RowKit GK
open FW (hideC add_below)
open KW (cellEn HasRow)
structure Lc where
 lv : Bool
 va : Value
 vp : Value
def cellLc (l : Lc) : List Value:=[.bool l.lv,l.va,l.vp]
def lc0 : Lc:=⟨false,.slice none 0 0,.slice none 0 0⟩
def lcAt (l : List Lc) (k : Nat) : Lc:=l.getD k lc0
def blk (v : Value) (b : Nat) : Prop:=v.ownBlock = some b
structure SpOwn (lo : Nat) (w : World) (l : Lc) (s : KM.Sp) : Prop where
 live : l.lv = s.live
 areas : AW.Own lo w l.va s.areas
 pages : w.ownsRow lo 45 3 l.vp s.ents.length (s.ents.flatMap cellEn)
theorem SpOwn.kp {lo : Nat} {w w' : World} {D : Nat -> Prop} {l : Lc} {s : KM.Sp} (h : SpOwn lo w l s) (hk : Kp D w w') (ha : ∀ b,blk l.va b -> ¬ D b) (hp : ∀ b,blk l.vp b -> ¬ D b) : SpOwn lo w' l s:=⟨h.live,hk.row h.areas ha,hk.row h.pages hp⟩
theorem SpOwn.mono {lo lo' : Nat} {w : World} {l : Lc} {s : KM.Sp} (h : SpOwn lo w l s) (hl : lo' <= lo) : SpOwn lo' w l s:=⟨h.live,h.areas.mono hl,row_base h.pages (fun g hg=>Nat.le_trans hl (h.pages.lt g hg).1)⟩
theorem from_rows {α : Type} {w : World} (f : α -> List Value) (k : Nat) (hf : ∀ x,(f x).length = k) (d : α) (l : List α) (b off : Nat) (h : ∀ i,i < l.length -> ∀ j,j < k -> w.cell? ⟨b,off + i * k + j,none⟩ = (f (l.getD i d))[j]?) : From w (some ⟨b,off,none⟩) l.length (l.flatMap f):=fun hm=>by
 refine ⟨_,rfl,fun j u hu=>?_⟩
 have hlt : j < l.length * k:=by
  rw [<- rows_length f k hf l]
  rcases Nat.lt_or_ge j (l.flatMap f).length with g | g
  · exact g
  · rw [List.getElem?_eq_none g] at hu
    cases hu
 have hk : 0 < k:=by
  rcases Nat.eq_zero_or_pos k with g | g
  · subst g;omega
  · exact g
 have e : j = j / k * k + j % k:=by rw [Nat.mul_comm];exact (Nat.div_add_mod j k).symm
 have h1 : j / k < l.length:=(Nat.div_lt_iff_lt_mul hk).2 hlt
 have h2 : j % k < k:=Nat.mod_lt _ hk
 have hg:=rows_get f k hf d l (j / k) (j % k) h1 h2
 rw [<- e] at hg
 rw [hg] at hu
 rw [Addr.add_lit,<- hu,<- h (j / k) h1 (j % k) h2]
 congr 2
 rw [Nat.add_assoc,<- e]
theorem areas_from {w : World} {ao : Option Addr} {n c : Nat} {l : List AM.Ar} (h : AW.Has w (.slice ao n c) l) : n = l.length /\ From w ao n (AM.areaCells l):=by
 obtain ⟨ao',cap,e,h⟩:=h
 injection e with e1 e2 e3
 subst e1 e2 e3
 refine ⟨rfl,fun hm=>?_⟩
 rcases h with h | ⟨b,off,rfl,hl⟩
 · subst h;simp at hm
 · have:=from_rows (w:=w) AM.four 4 (fun _=>rfl) AM.nil l b off (fun i hi j hj=>by
    obtain ⟨c0,c1,c2,c3⟩:=hl i hi
    match j,hj with
    | 0,_=>exact c0
    | 1,_=>exact c1
    | 2,_=>exact c2
    | 3,_=>exact c3)
   have e : AM.areaCells l = l.flatMap AM.four:=by
    clear this hl hm
    induction l with
    | nil=>rfl
    | cons a r ih=>rw [List.flatMap_cons,<- ih];rfl
   rw [e]
   exact this hm
theorem pages_from {w : World} {ap : Option Addr} {l : List KM.En} (h : HasRow cellEn 3 KM.en0 w ap l) : From w ap l.length (l.flatMap cellEn):=fun hm=>by
 obtain ⟨b,off,rfl,hb,hl⟩:=h hm
 exact from_rows (w:=w) cellEn 3 (fun _=>rfl) KM.en0 l b off (fun i hi j hj=>hl i hi j hj) hm
theorem cells_one : ∀ (l : List KM.En),∀ u ∈ l.flatMap cellEn,u.oneCell' = true:=fun l u hu=>by
 obtain ⟨y,_,hy⟩:=List.mem_flatMap.1 hu
 simp [cellEn] at hy
 rcases hy with rfl | rfl | rfl <;> rfl
def OutSp (w : World) (s : KM.Sp) (e : Ending) (w' : World) : Prop:=∃ va vp,e = .returned (.agg #[.bool s.live,va,vp]) /\ SpOwn w.heap.size w' ⟨s.live,va,vp⟩ s /\ (∀ b,blk vp b -> ¬ blk va b) /\ Below w.heap.size w w'
set_option maxHeartbeats 4000000 in
theorem copyOf_any (s : KM.Sp) (aa ap : Option Addr) (na ca cp : Nat) (w : World) (ha : AW.Has w (.slice aa na ca) s.areas) (hp : HasRow cellEn 3 KM.en0 w ap s.ents) (hna : s.areas.length <= 1000000) (hnp : s.ents.length <= 1000000) :
  Calls Tryz.prog 86 #[.agg #[.bool s.live,.slice aa na ca,.slice ap s.ents.length cp]] w (OutSp w s):=by
 obtain ⟨hn,hfa⟩:=areas_from ha
 have HFA:=hideC hfa
 have HFP:=hideC (pages_from hp)
 obtain ⟨lv,ars,pgs⟩:=s
 simp only at hn HFA HFP hna hnp ⊢
 subst hn
 have HLA:=hideC (AM.areaCells_length ars)
 have HLP:=hideC (rows_length cellEn 3 (fun _=>rfl) pgs)
 have H1A:=hideC (AM.areaCells_one ars)
 have H1P:=hideC (cells_one pgs)
 have HFIN : Hid (∀ va vp (w' : World),AW.Own w.heap.size w' va ars -> w'.ownsRow w.heap.size 45 3 vp pgs.length (pgs.flatMap cellEn) -> (∀ b,blk vp b -> ¬ blk va b) -> Below w.heap.size w w' -> OutSp w ⟨lv,ars,pgs⟩ (.returned (.agg #[.bool lv,va,vp])) w'):=fun va vp w' h1 h2 h3 h4=>⟨va,vp,rfl,⟨rfl,h1,h2⟩,h3,h4⟩
 obtain ⟨XA,hXA⟩ : ∃ XA,XA = AM.areaCells ars:=⟨_,rfl⟩
 obtain ⟨XP,hXP⟩ : ∃ XP,XP = pgs.flatMap cellEn:=⟨_,rfl⟩
 unfold AW.Own at HFIN
 rw [<- hXA] at HFA HLA H1A HFIN
 rw [<- hXP] at HFP HLP H1P HFIN
 obtain ⟨na,hna'⟩ : ∃ na,na = ars.length:=⟨_,rfl⟩
 obtain ⟨np,hnp'⟩ : ∃ np,np = pgs.length:=⟨_,rfl⟩
 rw [<- hna'] at HFA HLA HFIN hna ⊢
 rw [<- hnp'] at HFP HLP HFIN hnp ⊢
 clear hfa ha hp hXA hXP hna' hnp'
 have HB0:=hideC (((Below.refl w.heap.size w).alloc (Nat.le_refl _) (.cells #[.bool lv,.slice aa na ca,.slice ap np cp] 43)).alloc (by simp) (.cells #[.bool false,.slice none 0 0,.slice none 0 0] 43))
 have X0:=hideC (B.alloc (B.new w #[.bool lv,.slice aa na ca,.slice ap np cp] 43) (.cells #[.bool false,.slice none 0 0,.slice none 0 0] 43))
 have Y0 : Hid (((w.alloc (.cells #[.bool lv,.slice aa na ca,.slice ap np cp] 43)).alloc (.cells #[.bool false,.slice none 0 0,.slice none 0 0] 43)).heap[w.heap.size + 1]? = some (.cells #[.bool false,.slice none 0 0,.slice none 0 0] 43 (0,0))):=by
  have:=B.new (w.alloc (.cells #[.bool lv,.slice aa na ca,.slice ap np cp] 43)) #[.bool false,.slice none 0 0,.slice none 0 0] 43
  rw [World.size_alloc] at this
  exact this
 go_enter Tryz.func86,Tryz.ntmps86
 go_wp2
 obtain ⟨WA,hWA⟩ : ∃ WA,WA = (w.alloc (.cells #[.bool lv,.slice aa na ca,.slice ap np cp] 43)).alloc (.cells #[.bool false,.slice none 0 0,.slice none 0 0] 43):=⟨_,rfl⟩
 rw [<- hWA] at HB0 X0 Y0 ⊢
 clear hWA
 have HB00:=hideC HB0.out
 obtain ⟨xb,hxb⟩ : ∃ xb,xb = w.heap.size:=⟨_,rfl⟩
 rw [<- hxb] at X0 Y0 HB0 HFIN ⊢
 have HXB:=hideC hxb
 clear hxb
 have HS : Hid (∀ V,Below WA.heap.size WA V -> V.cell? ⟨xb,0,none⟩ = some (.bool lv) /\ V.cell? ⟨xb,1,none⟩ = some (.slice aa na ca) /\ V.cell? ⟨xb,2,none⟩ = some (.slice ap np cp)):=fun V hb=>by
  have h1:=B.below X0.out hb (B.isLt X0.out)
  exact ⟨B.cell h1 0 rfl,B.cell h1 1 rfl,B.cell h1 2 rfl⟩
 have HCA : Hid (∀ V,Below WA.heap.size WA V -> Calls Tryz.prog 129 #[.slice aa na ca] V fun e w'=>∃ a c,e = .returned (.slice a na c) /\ w'.ownsRow V.heap.size 47 4 (.slice a na c) na XA /\ Below V.heap.size V w'):=fun V hV=>(cloneAr aa na ca XA V HLA.out (HFA.out.below (HB00.out.trans (hV.mono HB00.out.size))) H1A.out hna).mono fun e w' ⟨v,h1,h2,h3⟩=>by
   obtain ⟨a,c,rfl,_⟩:=row_form h2
   exact ⟨a,c,h1,h2,h3⟩
 have HCP : Hid (∀ V,Below WA.heap.size WA V -> Calls Tryz.prog 130 #[.slice ap np cp] V fun e w'=>∃ a c,e = .returned (.slice a np c) /\ w'.ownsRow V.heap.size 45 3 (.slice a np c) np XP /\ Below V.heap.size V w'):=fun V hV=>(cloneEn ap np cp XP V HLP.out (HFP.out.below (HB00.out.trans (hV.mono HB00.out.size))) H1P.out hnp).mono fun e w' ⟨v,h1,h2,h3⟩=>by
   obtain ⟨a,c,rfl,_⟩:=row_form h2
   exact ⟨a,c,h1,h2,h3⟩
 have HSY : Hid (∀ V : World,(V.cell? ⟨xb,0,none⟩ = some (.bool lv) /\ V.cell? ⟨xb,1,none⟩ = some (.slice aa na ca) /\ V.cell? ⟨xb,2,none⟩ = some (.slice ap np cp)) -> ∀ v0 v1 v2,(((V.setCell ⟨xb + 1,0,none⟩ v0).setCell ⟨xb + 1,1,none⟩ v1).setCell ⟨xb + 1,2,none⟩ v2).cell? ⟨xb,0,none⟩ = some (.bool lv) /\ (((V.setCell ⟨xb + 1,0,none⟩ v0).setCell ⟨xb + 1,1,none⟩ v1).setCell ⟨xb + 1,2,none⟩ v2).cell? ⟨xb,1,none⟩ = some (.slice aa na ca) /\ (((V.setCell ⟨xb + 1,0,none⟩ v0).setCell ⟨xb + 1,1,none⟩ v1).setCell ⟨xb + 1,2,none⟩ v2).cell? ⟨xb,2,none⟩ = some (.slice ap np cp)):=fun V ⟨h0,h1,h2⟩ v0 v1 v2=>by
  have hne : xb ≠ xb + 1:=by omega
  rw [cell_other _ _ _ _ _ _ hne,cell_other _ _ _ _ _ _ hne,cell_other _ _ _ _ _ _ hne,cell_other _ _ _ _ _ _ hne,cell_other _ _ _ _ _ _ hne,cell_other _ _ _ _ _ _ hne,cell_other _ _ _ _ _ _ hne,cell_other _ _ _ _ _ _ hne,cell_other _ _ _ _ _ _ hne]
  exact ⟨h0,h1,h2⟩
 have HK0:=hideC (Below.refl WA.heap.size WA).drew
 have HS0:=hideC (HS.out _ HK0.out)
 go_region_held3 (fun V=>V.cell? ⟨xb,0,none⟩ = some (.bool lv) /\ V.cell? ⟨xb,1,none⟩ = some (.slice aa na ca) /\ V.cell? ⟨xb,2,none⟩ = some (.slice ap np cp)) (first | exact HS3.out | exact HS2.out | exact HS0.out | exact HSX.out _ _ _)
  (first
   | (go_at_call 129;refine (HCA.out _ HK0.out).mono ?_;rintro e w2 ⟨a2,c2,rfl,hr2,hb2⟩;have HK2:=hideC (HK0.out.trans (hb2.mono HK0.out.size));have HS2:=hideC (HS.out _ HK2.out);have HR2:=hideC hr2;clear hb2 hr2)
   | (go_at_call 130;refine (HCP.out _ HK2.out).mono ?_;rintro e w3 ⟨a3,c3,rfl,hr3,hb3⟩;have HK3:=hideC (HK2.out.trans (hb3.mono HK2.out.size));have HS3:=hideC (HS.out _ HK3.out);have HR3:=hideC hr3;have HB3:=hideC hb3;have y0 : w3.cell? ⟨xb + 1,0,none⟩ = some (.bool false):=B.cell (B.below Y0.out HK3.out (B.isLt Y0.out)) 0 rfl;have z0 : w3.frozen? ⟨xb + 1,0,none⟩ = false:=B.free (B.below Y0.out HK3.out (B.isLt Y0.out)) 0;have y1 : w3.cell? ⟨xb + 1,1,none⟩ = some (.slice none 0 0):=B.cell (B.below Y0.out HK3.out (B.isLt Y0.out)) 1 rfl;have z1 : w3.frozen? ⟨xb + 1,1,none⟩ = false:=B.free (B.below Y0.out HK3.out (B.isLt Y0.out)) 1;have y2 : w3.cell? ⟨xb + 1,2,none⟩ = some (.slice none 0 0):=B.cell (B.below Y0.out HK3.out (B.isLt Y0.out)) 2 rfl;have z2 : w3.frozen? ⟨xb + 1,2,none⟩ = false:=B.free (B.below Y0.out HK3.out (B.isLt Y0.out)) 2;have HSX:=hideC (fun v0 v1 v2=>HSY.out w3 HS3.out v0 v1 v2);clear hb3 hr3))
 all_goals clear HSX HSY HS HS0 HS2 HS3 HCA HCP
 all_goals go_wp2
 · refine bodyPost_ret (v:=.agg #[.bool lv,.slice a2 na c2,.slice a3 np c3]) (by simp [results,Tryz.results86,go_sem,y0,y1,y2]) rfl ?_
   have k3 : Kp (fun b=>b = xb + 1) w3 _:=kp_set3 w3 (xb + 1) 0 1 2 (.bool lv) (.slice a2 na c2) (.slice a3 np c3) rfl
   have l1:=B.isLt Y0.out
   have l2:=HB00.out.size
   have l3:=HK2.out.size
   have hx:=HXB.out
   have e2 : ∀ g,(Value.slice a2 na c2).ownBlock = some g -> WA.heap.size <= g /\ g < w2.heap.size:=fun g hg=>HR2.out.lt g hg
   have e3 : ∀ g,(Value.slice a3 np c3).ownBlock = some g -> w2.heap.size <= g /\ g < w3.heap.size:=fun g hg=>HR3.out.lt g hg
   have r2:=(Kp.ofBelow (D:=fun _=>False) HB3.out).row HR2.out (fun _ _ g=>g)
   refine HFIN.out _ _ _ (k3.row (row_base r2 (fun g hg=>by have:=e2 g hg;omega)) (fun g hg e=>by have:=e2 g hg;omega)) (k3.row (row_base HR3.out (fun g hg=>by have:=e3 g hg;omega)) (fun g hg e=>by have:=e3 g hg;omega)) (fun b h1 h2=>by have:=e2 b h2;have:=e3 b h1;omega) ?_
   exact Kp.below (HB0.out.trans (HK3.out.mono (by omega))) k3 (by have:=HK3.out.size;omega) (fun b e=>by omega)
end KS
end Go.Proofs.YtpgifpeohlllfaaGreat
