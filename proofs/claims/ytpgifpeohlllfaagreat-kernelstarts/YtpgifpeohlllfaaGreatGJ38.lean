import Derived.Test.YtpgifpeohlllfaaGreatGJ08
import Derived.Test.YtpgifpeohlllfaaGreatGJ20
import Derived.Test.YtpgifpeohlllfaaGreatGJ37
import Derived.Test.YtpgifpeohlllfaaGreatGJ33
import Derived.Deep.RegionLaw
import Derived.Deep.DeepCutAuto
import Derived.Deep.CutBlock
import Derived.Test.YtpgifpeohlllfaaGreatGJ30
set_option maxHeartbeats 20000000
set_option linter.unusedVariables false
set_option maxRecDepth 100000
set_option linter.unusedSimpArgs false
namespace Go.Proofs.YtpgifpeohlllfaaGreat
namespace KR
open Go.RowKit GK
open FW (hideC add_below)
open KW (HasRow KAt HasK cellsK FitK FitSp HasSp cellEn cellFr cellSl)
theorem eqFr (d : ByteArray) (r : Int) (x y : Bool) (V : World) : (Op.equalIn 10000 40 (.agg #[.string d,.int .i64 r,.bool x,.bool y]) (.agg #[.string d,.int .i64 r,.bool x,.bool y])).run Tryz.prog V = .ok true V:=by
 simp [go_sem]
theorem eqSl (d : ByteArray) (r : Int) (V : World) : (Op.equalIn 10000 86 (.agg #[.string d,.int .i64 r]) (.agg #[.string d,.int .i64 r])).run Tryz.prog V = .ok true V:=by
 simp [go_sem]
theorem eqEn (p q r : Int) (V : World) : (Op.equalIn 10000 45 (.agg #[.int .i64 p,.int .i64 q,.int .i64 r]) (.agg #[.int .i64 p,.int .i64 q,.int .i64 r])).run Tryz.prog V = .ok true V:=by
 simp [go_sem]
theorem same_h {xs ys : List LM.Sh} (h : KM.Same xs ys) : LW.SameH xs ys:=by
 refine ⟨h.len.symm,fun k hk=>?_,fun k hk=>?_,fun k hk=>?_⟩
 · exact (KM.plain_eq (h.at k)).1
 · exact (KM.plain_eq (h.at k)).2.1
 · exact (KM.plain_eq (h.at k)).2.2
structure Two (w : World) (c d : Array Value) (V : World) : Prop where
 x : V.heap[w.heap.size]? = some (.cells c 27 (0,0))
 y : V.heap[w.heap.size + 1]? = some (.cells d 27 (0,0))
 bel : Below w.heap.size w V
theorem Two.below {w V U : World} {c d : Array Value} (h : Two w c d V) (hb : Below V.heap.size V U) : Two w c d U:=⟨B.below h.x hb (B.isLt h.x),B.below h.y hb (B.isLt h.y),h.bel.trans (hb.mono h.bel.size)⟩
set_option maxHeartbeats 8000000 in
theorem sameKernels_yes (k : KM.Kn) (hs : List LM.Sh) (a b : KAt) (w : World) (hA : HasK w a k) (hB : HasK w b (KM.withS k hs)) (hS : KM.Same k.sheets hs) (hF : FitK k) :
  Calls Tryz.prog 20 #[.agg (cellsK a k),.agg (cellsK b (KM.withS k hs))] w fun e w'=>e = .returned (.bool true) /\ Below w.heap.size w w':=by
 have hBs : LM.HasH w b.aS hs:=hB.sheets
 have hBf : HasRow cellFr 4 KM.fr0 w b.aF k.frames:=hB.frames
 have hBl : HasRow cellSl 2 KM.sl0 w b.aL k.slots:=hB.slots
 have hBp : HasSp w b.aP k.spaces:=hB.spaces
 have HSS : Hid (∀ V,Below w.heap.size w V -> Calls Tryz.prog 57 #[.slice a.aS k.sheets.length a.cS,.slice b.aS hs.length b.cS] V fun e w'=>e = .returned (.bool true) /\ Below V.heap.size V w'):=fun V hV=>LW.sameSheets_yes k.sheets hs a.aS b.aS a.cS b.cS V (hA.sheets.below hV) (hBs.below hV) (same_h hS) hF.sheets.1 (fun i hi=>(hF.sheets.2 i hi).fixes)
 obtain ⟨WA,hWA⟩ : ∃ WA,WA = (w.alloc (.cells #[.slice a.aS k.sheets.length a.cS,.slice a.aF k.frames.length a.cF,.slice a.aL k.slots.length a.cL,.slice a.aP k.spaces.length a.cP,.int .i64 k.hand] 27)).alloc (.cells #[.slice b.aS hs.length b.cS,.slice b.aF k.frames.length b.cF,.slice b.aL k.slots.length b.cL,.slice b.aP k.spaces.length b.cP,.int .i64 k.hand] 27):=⟨_,rfl⟩
 have HT0 : Hid (Two w #[.slice a.aS k.sheets.length a.cS,.slice a.aF k.frames.length a.cF,.slice a.aL k.slots.length a.cL,.slice a.aP k.spaces.length a.cP,.int .i64 k.hand] #[.slice b.aS hs.length b.cS,.slice b.aF k.frames.length b.cF,.slice b.aL k.slots.length b.cL,.slice b.aP k.spaces.length b.cP,.int .i64 k.hand] WA):=by
  rw [hWA]
  refine ⟨B.alloc (B.new w _ _) _,?_,((Below.refl _ _).alloc (Nat.le_refl _) _).alloc (by simp) _⟩
  have:=B.new (w.alloc (.cells #[.slice a.aS k.sheets.length a.cS,.slice a.aF k.frames.length a.cF,.slice a.aL k.slots.length a.cL,.slice a.aP k.spaces.length a.cP,.int .i64 k.hand] 27)) #[.slice b.aS hs.length b.cS,.slice b.aF k.frames.length b.cF,.slice b.aL k.slots.length b.cL,.slice b.aP k.spaces.length b.cP,.int .i64 k.hand] 27
  rw [World.size_alloc] at this
  exact this
 have HCX : Hid (∀ V,Two w #[.slice a.aS k.sheets.length a.cS,.slice a.aF k.frames.length a.cF,.slice a.aL k.slots.length a.cL,.slice a.aP k.spaces.length a.cP,.int .i64 k.hand] #[.slice b.aS hs.length b.cS,.slice b.aF k.frames.length b.cF,.slice b.aL k.slots.length b.cL,.slice b.aP k.spaces.length b.cP,.int .i64 k.hand] V -> (V.cell? ⟨w.heap.size,0,none⟩ = some (.slice a.aS k.sheets.length a.cS) /\ V.cell? ⟨w.heap.size,1,none⟩ = some (.slice a.aF k.frames.length a.cF) /\ V.cell? ⟨w.heap.size,2,none⟩ = some (.slice a.aL k.slots.length a.cL) /\ V.cell? ⟨w.heap.size,3,none⟩ = some (.slice a.aP k.spaces.length a.cP) /\ V.cell? ⟨w.heap.size,4,none⟩ = some (.int .i64 k.hand)) /\ (V.cell? ⟨w.heap.size + 1,0,none⟩ = some (.slice b.aS hs.length b.cS) /\ V.cell? ⟨w.heap.size + 1,1,none⟩ = some (.slice b.aF k.frames.length b.cF) /\ V.cell? ⟨w.heap.size + 1,2,none⟩ = some (.slice b.aL k.slots.length b.cL) /\ V.cell? ⟨w.heap.size + 1,3,none⟩ = some (.slice b.aP k.spaces.length b.cP) /\ V.cell? ⟨w.heap.size + 1,4,none⟩ = some (.int .i64 k.hand))):=fun V h=>⟨B.c5 h.x,B.c5 h.y⟩
 have HFR : Hid (∀ V i,Below w.heap.size w V -> i < k.frames.length -> ∃ fb fo gb go,a.aF = some ⟨fb,fo,none⟩ /\ b.aF = some ⟨gb,go,none⟩ /\ (V.cell? ⟨fb,fo + i * 4,none⟩ = some (.string (KM.frAt k.frames i).data) /\ V.cell? ⟨fb,fo + i * 4 + 1,none⟩ = some (.int .i64 (KM.frAt k.frames i).refs) /\ V.cell? ⟨fb,fo + i * 4 + 2,none⟩ = some (.bool (KM.frAt k.frames i).dirty) /\ V.cell? ⟨fb,fo + i * 4 + 3,none⟩ = some (.bool (KM.frAt k.frames i).seen)) /\ (V.cell? ⟨gb,go + i * 4,none⟩ = some (.string (KM.frAt k.frames i).data) /\ V.cell? ⟨gb,go + i * 4 + 1,none⟩ = some (.int .i64 (KM.frAt k.frames i).refs) /\ V.cell? ⟨gb,go + i * 4 + 2,none⟩ = some (.bool (KM.frAt k.frames i).dirty) /\ V.cell? ⟨gb,go + i * 4 + 3,none⟩ = some (.bool (KM.frAt k.frames i).seen))):=fun V i hV hi=>by
  obtain ⟨fb,fo,e1,e2,e3⟩:=(hA.frames.below hV) (by omega)
  obtain ⟨gb,go,g1,g2,g3⟩:=(hBf.below hV) (by omega)
  have z:=e3 i hi 0 (by omega)
  have y:=g3 i hi 0 (by omega)
  rw [Nat.add_zero] at z y
  exact ⟨fb,fo,gb,go,e1,g1,⟨z,e3 i hi 1 (by omega),e3 i hi 2 (by omega),e3 i hi 3 (by omega)⟩,⟨y,g3 i hi 1 (by omega),g3 i hi 2 (by omega),g3 i hi 3 (by omega)⟩⟩
 have HSL : Hid (∀ V i,Below w.heap.size w V -> i < k.slots.length -> ∃ fb fo gb go,a.aL = some ⟨fb,fo,none⟩ /\ b.aL = some ⟨gb,go,none⟩ /\ (V.cell? ⟨fb,fo + i * 2,none⟩ = some (.string (KM.slAt k.slots i).data) /\ V.cell? ⟨fb,fo + i * 2 + 1,none⟩ = some (.int .i64 (KM.slAt k.slots i).refs)) /\ (V.cell? ⟨gb,go + i * 2,none⟩ = some (.string (KM.slAt k.slots i).data) /\ V.cell? ⟨gb,go + i * 2 + 1,none⟩ = some (.int .i64 (KM.slAt k.slots i).refs))):=fun V i hV hi=>by
  obtain ⟨fb,fo,e1,e2,e3⟩:=(hA.slots.below hV) (by omega)
  obtain ⟨gb,go,g1,g2,g3⟩:=(hBl.below hV) (by omega)
  have z:=e3 i hi 0 (by omega)
  have y:=g3 i hi 0 (by omega)
  rw [Nat.add_zero] at z y
  exact ⟨fb,fo,gb,go,e1,g1,⟨z,e3 i hi 1 (by omega)⟩,⟨y,g3 i hi 1 (by omega)⟩⟩
 have HSP:=hideC hA.spaces
 have HSQ:=hideC hBp
 have HFS:=hideC hF.sp
 have hn1 : k.frames.length <= 140737488351232:=hF.nf
 have hn2 : k.slots.length <= 140737488351232:=hF.ns
 have hn3 : k.spaces.length <= 140737488351232:=hF.np
 have HWA:=hideC hWA
 have ec : cellsK b (KM.withS k hs) = #[.slice b.aS hs.length b.cS,.slice b.aF k.frames.length b.cF,.slice b.aL k.slots.length b.cL,.slice b.aP k.spaces.length b.cP,.int .i64 k.hand]:=rfl
 rw [ec]
 unfold cellsK
 obtain ⟨X,hX⟩ : ∃ X : Array Value,X = #[.slice a.aS k.sheets.length a.cS,.slice a.aF k.frames.length a.cF,.slice a.aL k.slots.length a.cL,.slice a.aP k.spaces.length a.cP,.int .i64 k.hand]:=⟨_,rfl⟩
 obtain ⟨Y,hY⟩ : ∃ Y : Array Value,Y = #[.slice b.aS hs.length b.cS,.slice b.aF k.frames.length b.cF,.slice b.aL k.slots.length b.cL,.slice b.aP k.spaces.length b.cP,.int .i64 k.hand]:=⟨_,rfl⟩
 rw [<- hX,<- hY] at HT0 HCX
 clear hA hB hS hF hBs hBf hBl hBp hWA ec hX hY
 obtain ⟨⟨x0,x1,x2,x3,x4⟩,y0,y1,y2,y3,y4⟩:=HCX.out WA HT0.out
 go_enter Tryz.func20,Tryz.ntmps20
 go_upto_region 1 with fail
 rw [<- HWA.out]
 go_upto_region 3 with (go_at_call 57;refine (HSS.out _ HT0.out.bel).mono ?_;rintro e w1 ⟨rfl,hb1⟩;have HT1:=hideC (HT0.out.below hb1);obtain ⟨⟨x0,x1,x2,x3,x4⟩,y0,y1,y2,y3,y4⟩:=HCX.out w1 HT1.out;clear hb1)
 clear x0 x1 x2 x3 x4 y0 y1 y2 y3 y4 HT0 HSS
 go_wp2
 go_loopw [5] (fun iv wq=>∃ i : Nat,i <= k.frames.length /\ iv = .int .i64 (i : Int) /\ Two w X Y wq) (fun iv _=>k.frames.length - (intOf iv).toNat)
 case atStart=>exact ⟨0,by omega,rfl,HT1.out⟩
 case round =>
  obtain ⟨i,hi,rfl,ht⟩:=hrel
  have HT:=hideC ht
  obtain ⟨⟨x0,x1,x2,x3,x4⟩,y0,y1,y2,y3,y4⟩:=HCX.out wr ht
  by_cases hlt : i < k.frames.length
  · have hii : (i : Int) < (k.frames.length : Int):=by omega
    obtain ⟨fb,fo,gb,go,e1,e2,⟨z0,z1,z2,z3⟩,⟨v0,v1,v2,v3⟩⟩:=HFR.out wr i ht.bel hlt
    rw [e1] at x1
    rw [e2] at y1
    obtain ⟨f,hf⟩ : ∃ f,f = KM.frAt k.frames i:=⟨_,rfl⟩
    rw [<- hf] at z0 z1 z2 z3 v0 v1 v2 v3
    obtain ⟨d,r,p,q⟩:=f
    simp only at z0 z1 z2 z3 v0 v1 v2 v3
    have hEQ:=eqFr d r p q
    have HTD:=hideC (fun n=>ht.below (below_drewN (Below.refl wr.heap.size wr) n))
    clear ht hf e1 e2 HFR HSL HSP HSQ HFS HT1
    go_wp2
    go_quiet (fail)
    go_wp2
    go_roundw
    case rel=>exact ⟨i + 1,by omega,by go_num,HTD.out _⟩
    case measure=>simp [intOf];omega
  · obtain rfl : k.frames.length = i:=by omega
    clear HFR ht hlt
    go_wp2
    go_loopw [6] (fun iv wq=>∃ i : Nat,i <= k.slots.length /\ iv = .int .i64 (i : Int) /\ Two w X Y wq) (fun iv _=>k.slots.length - (intOf iv).toNat)
    case atStart=>exact ⟨0,by omega,rfl,HT.out⟩
    case round =>
     obtain ⟨i,hi,rfl,ht⟩:=hrel
     have HT2:=hideC ht
     obtain ⟨⟨x0,x1,x2,x3,x4⟩,y0,y1,y2,y3,y4⟩:=HCX.out wr ht
     by_cases hlt : i < k.slots.length
     · have hii : (i : Int) < (k.slots.length : Int):=by omega
       obtain ⟨fb,fo,gb,go,e1,e2,⟨z0,z1⟩,⟨v0,v1⟩⟩:=HSL.out wr i ht.bel hlt
       rw [e1] at x2
       rw [e2] at y2
       obtain ⟨f,hf⟩ : ∃ f,f = KM.slAt k.slots i:=⟨_,rfl⟩
       rw [<- hf] at z0 z1 v0 v1
       obtain ⟨d,r⟩:=f
       simp only at z0 z1 v0 v1
       have hEQ:=eqSl d r
       have HTD:=hideC (fun n=>ht.below (below_drewN (Below.refl wr.heap.size wr) n))
       clear ht hf e1 e2 HSL HSP HSQ HFS
       go_wp2
       go_quiet (fail)
       go_wp2
       go_roundw
       case rel=>exact ⟨i + 1,by omega,by go_num,HTD.out _⟩
       case measure=>simp [intOf];omega
     · obtain rfl : k.slots.length = i:=by omega
       clear HSL ht hlt
       go_wp2
       go_loopw [7] (fun iv wq=>∃ i : Nat,i <= k.spaces.length /\ iv = .int .i64 (i : Int) /\ Two w X Y wq) (fun iv _=>k.spaces.length - (intOf iv).toNat)
       case atStart=>exact ⟨0,by omega,rfl,HT2.out⟩
       case round =>
        obtain ⟨i,hi,rfl,ht⟩:=hrel
        have HT3:=hideC ht
        obtain ⟨⟨x0,x1,x2,x3,x4⟩,y0,y1,y2,y3,y4⟩:=HCX.out wr ht
        by_cases hlt : i < k.spaces.length
        · have hii : (i : Int) < (k.spaces.length : Int):=by omega
          obtain ⟨pb,po,hao,hbl,hlie⟩:=(HSP.out.below ht.bel) (by omega)
          obtain ⟨qb,qo,hao',hbl',hlie'⟩:=(HSQ.out.below ht.bel) (by omega)
          obtain ⟨va,ap,cp,e0,e1,e2,e3,e4,e5⟩:=hlie i hlt
          obtain ⟨vb,aq,cq,g0,g1,g2,g3,g4,g5⟩:=hlie' i hlt
          have hfk:=HFS.out i hlt
          obtain ⟨s,hss⟩ : ∃ s,s = KM.spAt k.spaces i:=⟨_,rfl⟩
          rw [<- hss] at e0 e2 e3 e4 e5 g0 g2 g3 g4 g5 hfk
          obtain ⟨lv,ars,ents⟩:=s
          simp only at e0 e2 e3 e4 e5 g0 g2 g3 g4 g5
          obtain ⟨aa,na,ca,rfl⟩:=FW.isSl e3
          obtain ⟨ab,nb,cb,rfl⟩:=FW.isSl g3
          have HE3:=hideC e3
          have HE4:=hideC e4
          have HG3:=hideC g3
          have HG4:=hideC g4
          have HFK:=hideC hfk
          rw [hao] at x3
          rw [hao'] at y3
          have l1:=B.isLt ht.y
          have l0:=B.isLt ht.x
          have l2 : ¬ w.heap.size = wr.heap.size:=by omega
          have l3 : ¬ w.heap.size + 1 = wr.heap.size:=by omega
          have l4 : ¬ pb = wr.heap.size:=by omega
          have l5 : ¬ qb = wr.heap.size:=by omega
          clear e3 e4 e5 g3 g4 g5 hlie hlie' hss hfk ht HSP HSQ HFS hao hao'
          have q1 : Hid (((wr.alloc (.cells #[.bool lv,.slice aa na ca,.slice ap ents.length cp] 43)).alloc (.cells #[.bool lv,.slice ab nb cb,.slice aq ents.length cq] 43)).heap[wr.heap.size]? = some (.cells #[.bool lv,.slice aa na ca,.slice ap ents.length cp] 43 (0,0))):=B.alloc (B.new wr #[.bool lv,.slice aa na ca,.slice ap ents.length cp] 43) _
          have q2 : Hid (((wr.alloc (.cells #[.bool lv,.slice aa na ca,.slice ap ents.length cp] 43)).alloc (.cells #[.bool lv,.slice ab nb cb,.slice aq ents.length cq] 43)).heap[wr.heap.size + 1]? = some (.cells #[.bool lv,.slice ab nb cb,.slice aq ents.length cq] 43 (0,0))):=by
           have:=B.new (wr.alloc (.cells #[.bool lv,.slice aa na ca,.slice ap ents.length cp] 43)) #[.bool lv,.slice ab nb cb,.slice aq ents.length cq] 43
           rw [World.size_alloc] at this
           exact this
          have q3 : Hid (((wr.alloc (.cells #[.bool lv,.slice ab nb cb,.slice aq ents.length cq] 43)).alloc (.cells #[.bool lv,.slice aa na ca,.slice ap ents.length cp] 43)).heap[wr.heap.size]? = some (.cells #[.bool lv,.slice ab nb cb,.slice aq ents.length cq] 43 (0,0))):=B.alloc (B.new wr #[.bool lv,.slice ab nb cb,.slice aq ents.length cq] 43) _
          have q4 : Hid (((wr.alloc (.cells #[.bool lv,.slice ab nb cb,.slice aq ents.length cq] 43)).alloc (.cells #[.bool lv,.slice aa na ca,.slice ap ents.length cp] 43)).heap[wr.heap.size + 1]? = some (.cells #[.bool lv,.slice aa na ca,.slice ap ents.length cp] 43 (0,0))):=by
           have:=B.new (wr.alloc (.cells #[.bool lv,.slice ab nb cb,.slice aq ents.length cq] 43)) #[.bool lv,.slice aa na ca,.slice ap ents.length cp] 43
           rw [World.size_alloc] at this
           exact this
          have q5 : Hid (Below wr.heap.size wr ((wr.alloc (.cells #[.bool lv,.slice aa na ca,.slice ap ents.length cp] 43)).alloc (.cells #[.bool lv,.slice ab nb cb,.slice aq ents.length cq] 43)).drew):=(((Below.refl wr.heap.size wr).alloc (Nat.le_refl _) (.cells #[.bool lv,.slice aa na ca,.slice ap ents.length cp] 43)).alloc (by simp) (.cells #[.bool lv,.slice ab nb cb,.slice aq ents.length cq] 43)).drew
          have q6 : Hid (Below wr.heap.size wr ((wr.alloc (.cells #[.bool lv,.slice ab nb cb,.slice aq ents.length cq] 43)).alloc (.cells #[.bool lv,.slice aa na ca,.slice ap ents.length cp] 43)).drew):=(((Below.refl wr.heap.size wr).alloc (Nat.le_refl _) (.cells #[.bool lv,.slice ab nb cb,.slice aq ents.length cq] 43)).alloc (by simp) (.cells #[.bool lv,.slice aa na ca,.slice ap ents.length cp] 43)).drew
          go_upto_region 16 with fail
          go_cut [8,9] (fun x6 x7 wx=>∃ g h : Nat,x6 = .pointer (some ⟨g,0,none⟩) /\ x7 = .pointer (some ⟨h,0,none⟩) /\ wx.heap[g]? = some (.cells #[.bool lv,.slice aa na ca,.slice ap ents.length cp] 43 (0,0)) /\ wx.heap[h]? = some (.cells #[.bool lv,.slice ab nb cb,.slice aq ents.length cq] 43 (0,0)) /\ Below wr.heap.size wr wx)
          case first =>
           go_region
           all_goals
            go_wp2_with fail
            go_meet
            case rel=>first | exact ⟨_,_,rfl,rfl,q1.out,q2.out,q5.out⟩ | exact ⟨_,_,rfl,rfl,q4.out,q3.out,q6.out⟩
          case rest =>
           obtain ⟨g,h,rfl,rfl,hg,hh,hbc⟩:=hcut
           obtain ⟨WR,hWR⟩ : ∃ WR,WR = wr:=⟨_,rfl⟩
           subst hWR
           have HSA : Hid (∀ V,Below WR.heap.size WR V -> Calls Tryz.prog 58 #[.slice aa na ca,.slice ab nb cb] V fun e w'=>e = .returned (.bool true) /\ Below V.heap.size V w'):=fun V hV=>(AW.same_any ars ars _ _ V (HE3.out.below hV) (HG3.out.below hV) HFK.out.areas.2 HFK.out.areas.2).mono fun e w' ⟨r,h1,h2,h3⟩=>by
            obtain rfl : r = true:=h2.2 rfl
            exact ⟨h1,h3⟩
           have hlp : ents.length <= 140737488351232:=HFK.out.ents
           have HBC:=hideC hbc
           have HGC:=hideC hg
           have HHC:=hideC hh
           obtain ⟨f0,f1,f2⟩:=B.c3 hg
           obtain ⟨f3,f4,f5⟩:=B.c3 hh
           clear hg hh hbc q1 q2 q3 q4 q5 q6 e0 e1 e2 g0 g1 g2 l1 l0 l2 l3 l4 l5 x0 x1 x2 x3 x4 y0 y1 y2 y3 y4
           go_wp2_with (go_at_call 58;refine (HSA.out _ HBC.out).mono ?_;rintro e w3 ⟨rfl,hb3⟩;have HB3:=hideC (HBC.out.trans (hb3.mono HBC.out.size));have HG3':=hideC (B.below HGC.out hb3 (B.isLt HGC.out));have HH3':=hideC (B.below HHC.out hb3 (B.isLt HHC.out));clear hb3;have f6 : w3.cell? ⟨g,2,none⟩ = some (.slice ap ents.length cp):=B.cell HG3'.out 2 rfl;have f7 : w3.cell? ⟨h,2,none⟩ = some (.slice aq ents.length cq):=B.cell HH3'.out 2 rfl)
           clear f0 f1 f2 f3 f4 f5
           go_loopw [10] (fun iv wi=>∃ m : Nat,m <= ents.length /\ iv = .int .i64 (m : Int) /\ wi.heap[g]? = some (.cells #[.bool lv,.slice aa na ca,.slice ap ents.length cp] 43 (0,0)) /\ wi.heap[h]? = some (.cells #[.bool lv,.slice ab nb cb,.slice aq ents.length cq] 43 (0,0)) /\ Below WR.heap.size WR wi) (fun iv _=>ents.length - (intOf iv).toNat)
           case atStart=>exact ⟨0,by omega,rfl,HG3'.out,HH3'.out,HB3.out⟩
           case round =>
            obtain ⟨m,hm,rfl,hg,hh,hbi⟩:=hrel
            have HGi:=hideC hg
            have HHi:=hideC hh
            have HBi:=hideC hbi
            have f2 : wr.cell? ⟨g,2,none⟩ = some (.slice ap ents.length cp):=B.cell hg 2 rfl
            have f5 : wr.cell? ⟨h,2,none⟩ = some (.slice aq ents.length cq):=B.cell hh 2 rfl
            clear hg hh HSA HG3' HH3' HB3 f6 f7
            by_cases hmt : m < ents.length
            · obtain ⟨bp,offp,hap,hbpl,hlp1⟩:=(HE4.out.below hbi) (show 0 < ents.length by omega)
              obtain ⟨bq,offq,haq,hbql,hlp2⟩:=(HG4.out.below hbi) (show 0 < ents.length by omega)
              rw [hap] at f2
              rw [haq] at f5
              have z0:=hlp1 m hmt 0 (by omega)
              have z1:=hlp1 m hmt 1 (by omega)
              have z2:=hlp1 m hmt 2 (by omega)
              have v0:=hlp2 m hmt 0 (by omega)
              have v1:=hlp2 m hmt 1 (by omega)
              have v2:=hlp2 m hmt 2 (by omega)
              rw [Nat.add_zero] at z0 v0
              obtain ⟨z,hz⟩ : ∃ z,z = ents.getD m KM.en0:=⟨_,rfl⟩
              rw [<- hz] at z0 z1 z2 v0 v1 v2
              obtain ⟨p,q,r⟩:=z
              replace z0 : wr.cell? ⟨bp,offp + m * 3,none⟩ = some (.int .i64 p):=z0
              replace z1 : wr.cell? ⟨bp,offp + m * 3 + 1,none⟩ = some (.int .i64 q):=z1
              replace z2 : wr.cell? ⟨bp,offp + m * 3 + 2,none⟩ = some (.int .i64 r):=z2
              replace v0 : wr.cell? ⟨bq,offq + m * 3,none⟩ = some (.int .i64 p):=v0
              replace v1 : wr.cell? ⟨bq,offq + m * 3 + 1,none⟩ = some (.int .i64 q):=v1
              replace v2 : wr.cell? ⟨bq,offq + m * 3 + 2,none⟩ = some (.int .i64 r):=v2
              have hEQ:=eqEn p q r
              have hmi : (m : Int) < (ents.length : Int):=by omega
              have HGD:=hideC (fun n=>B.below HGi.out (below_drewN (Below.refl wr.heap.size wr) n) (B.isLt HGi.out))
              have HHD:=hideC (fun n=>B.below HHi.out (below_drewN (Below.refl wr.heap.size wr) n) (B.isLt HHi.out))
              have HBD:=hideC (fun n=>below_drewN HBi.out n)
              clear hz hlp1 hlp2 hbi hap haq HGi HHi HBi
              go_wp2
              go_quiet (fail)
              go_wp2
              go_roundw
              case rel=>exact ⟨m + 1,by omega,by go_num,HGD.out _,HHD.out _,HBD.out _⟩
              case measure=>simp [intOf];omega
            · obtain rfl : ents.length = m:=by omega
              have HTE:=hideC (HT3.out.below hbi)
              clear hbi hmt
              go_wp2
              go_roundw
              case rel=>exact ⟨i + 1,by omega,by go_num,HTE.out⟩
              case measure=>simp [intOf];omega
        · obtain rfl : k.spaces.length = i:=by omega
          have HBE:=hideC ht.bel
          clear ht
          go_wp2
          go_ret
          exact ⟨rfl,HBE.out⟩
end KR
namespace KG
open Go.RowKit GK KO
open KW (KAt HasK cellsK FitK FitSp)
theorem sheet_fit {s : LM.Sh} (h : LM.sheetB s = true) : LM.FitH s:=by
 unfold LM.sheetB LM.headB at h
 rw [Bool.and_eq_true,decide_eq_true_eq] at h
 obtain ⟨⟨h1,h2,h3⟩,hf⟩:=h
 have hl:=LM.endTo_ge _ _ hf
 refine ⟨⟨by omega,by omega⟩,by unfold M.Short;omega,by unfold M.Short;omega,fun k hk=>?_⟩
 have all : ∀ n,LM.fixesTo s.fixes n = true -> ∀ i,i < n -> LM.fixesTo s.fixes i = true /\ LM.fixB (LM.endTo s.fixes i) (LM.fxAt s.fixes i) = true:=fun n=>by
  induction n with
  | zero=>intro _ i hi;omega
  | succ n ih =>
   intro hn i hi
   simp only [LM.fixesTo,Bool.and_eq_true] at hn
   by_cases c : i = n
   · rw [c];exact hn
   · exact ih hn.1 i (by omega)
 obtain ⟨g1,g2⟩:=all _ hf k hk
 have g3:=LM.endTo_ge _ _ g1
 unfold LM.fixB at g2
 rw [decide_eq_true_eq] at g2
 exact ⟨⟨by omega,by omega⟩,by unfold M.Short;omega⟩
theorem sheets_fit {hs : List LM.Sh} (h : LM.riseB hs = true) (hl : hs.length <= 255) : LM.FitHs hs:=⟨by unfold M.Short;omega,fun k hk=>sheet_fit (LM.riseTo_ok hs hs.length h k hk).1⟩
theorem fit_right {k : KM.Kn} (h : KM.RightK k) : FitK k:=by
 have hc:=h.c
 obtain ⟨r1,r2⟩:=KX.refs_few h
 have hh:=h.hand
 refine ⟨sheets_fit h.rise (by omega),by unfold M.Short;omega,fun i hi=>⟨?_,?_⟩,by unfold M.Short;omega,fun i hi=>⟨?_,?_⟩,by unfold M.Short;omega,fun i hi=>⟨?_,?_,fun n hn=>?_⟩,⟨by omega,by omega⟩⟩
 · have f:=h.frm i hi
   unfold M.Short
   by_cases c : KM.names k.spaces 1 i = []
   · rw [f.zero c];exact Nat.zero_le _
   · rw [f.size c];decide
 · have:=r1 i hi
   exact ⟨by omega,by omega⟩
 · have f:=h.slt i hi
   unfold M.Short
   by_cases c : KM.names k.spaces 2 i = []
   · rw [f.zero c];exact Nat.zero_le _
   · rw [f.size c];decide
 · have:=r2 i hi
   exact ⟨by omega,by omega⟩
 · exact AM.fits_of_check _ (h.sp hi).areas
 · have:=KX.ents_few h hi
   unfold M.Short;omega
 · have s:=h.sp hi
   have he : KM.enAt (KM.spAt k.spaces i).ents n ∈ (KM.spAt k.spaces i).ents:=KM.getD_mem hn
   obtain ⟨e1,e2⟩:=s.ent _ he
   have e3:=FM.found_page s.areas e1
   rcases e2 with ⟨e4,e5,e6⟩ | ⟨e4,e5,e6⟩
   · exact ⟨⟨by omega,by omega⟩,by rw [e4];exact ⟨by decide,by decide⟩,⟨by omega,by omega⟩⟩
   · exact ⟨⟨by omega,by omega⟩,by rw [e4];exact ⟨by decide,by decide⟩,⟨by omega,by omega⟩⟩
theorem out_keep {lo : Nat} {w : World} {S : St} {k : KM.Kn} (h : Kr lo w S k) : ∃ a,#[S.vS,S.vF,S.vL,S.vP,.int .i64 k.hand] = cellsK a k /\ ∀ U,Kp (fun b=>b < lo) w U -> HasK U a k:=by
 obtain ⟨a,p,_⟩:=h.has
 refine ⟨a,by unfold cellsK;rw [p.eS,p.eF,p.eL,p.eP],fun U hU=>?_⟩
 obtain ⟨a',p',ha⟩:=(h.kp hU (fun b hb e=>by have:=(h.bnd b hb).1;omega)).has
 have e1:=p.eS.symm.trans p'.eS
 have e2:=p.eF.symm.trans p'.eF
 have e3:=p.eL.symm.trans p'.eL
 have e4:=p.eP.symm.trans p'.eP
 injection e1 with q1 _ q2
 injection e2 with q3 _ q4
 injection e3 with q5 _ q6
 injection e4 with q7 _ q8
 have : a' = a:=by
  cases a
  cases a'
  simp only at q1 q2 q3 q4 q5 q6 q7 q8
  subst q1 q2 q3 q4 q5 q6 q7 q8
  rfl
 rw [<- this]
 exact ha
def OutR (w : World) (k : KM.Kn) (vs : List Value) (e : Ending) (w' : World) : Prop:=∃ hs a,KM.Same k.sheets hs /\ e = .returned (.tuple (Value.agg (cellsK a (KM.withS k hs)) :: vs).toArray) /\ (∀ U,Kp (fun b=>b < w.heap.size) w' U -> HasK U a (KM.withS k hs)) /\ Below w.heap.size w w'
theorem out_r {w : World} {k : KM.Kn} {vs : List Value} {e : Ending} {w' : World} (h : KZ.OutKn w k vs e w') : OutR w k vs e w':=by
 obtain ⟨S,hs,h1,h2,h3,h4⟩:=h
 obtain ⟨a,e1,e2⟩:=out_keep h3
 exact ⟨hs,a,h1,by rw [h2,<- e1];rfl,e2,h4⟩
end KG
end Go.Proofs.YtpgifpeohlllfaaGreat
