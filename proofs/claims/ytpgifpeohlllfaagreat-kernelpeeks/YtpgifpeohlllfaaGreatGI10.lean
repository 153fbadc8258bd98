import Derived.Test.YtpgifpeohlllfaaGreatGI09
import Derived.Test.YtpgifpeohlllfaaGreatGI01
import Derived.Test.YtpgifpeohlllfaaGreatGI06
import Derived.Test.YtpgifpeohlllfaaGreatGI05
set_option maxHeartbeats 20000000
set_option linter.unusedVariables false
set_option maxRecDepth 100000
set_option linter.unusedSimpArgs false
namespace Go.Proofs.YtpgifpeohlllfaaGreat
namespace LW
open Go.RowKit
open W (hideC)
theorem slice_eq {a a' : Option Addr} {n n' m m' : Nat} (h1 : a = a') (h2 : n = n') (h3 : m = m') : Value.slice a n m = .slice a' n' m':=by rw [h1,h2,h3]
set_option maxHeartbeats 3000000 in
theorem forEach_any (l : List AM.Ar) (hs : List LM.Sh) (en : Int) (va : Value) (ao : Option Addr) (cap : Nat) (w : World) (ha : AW.Has w va l) (hc : AM.checkN l = 0) (h : LM.HasH w ao hs) (hn : hs.length <= 140737488351232) (hcap : hs.length <= cap) :
  Calls Tryz.prog 100 #[.agg #[va,.slice ao hs.length cap,.int .i64 en]] w fun e w'=>e = .returned (.bool (LM.forEachB l hs)) /\ Below w.heap.size w w':=by
 obtain ⟨b,off,hbo⟩ : ∃ b off,0 < hs.length -> ao = some ⟨b,off,none⟩ /\ b < w.heap.size /\ LM.LieH w b off hs:=by
  by_cases h0 : 0 < hs.length
  · obtain ⟨b,off,h1,h2,h3⟩:=h h0
    exact ⟨b,off,fun _=>⟨h1,h2,h3⟩⟩
  · exact ⟨0,0,fun g=>(h0 g).elim⟩
 have HBO:=hideC hbo
 have HC:=hideC hc
 have hlen:=AM.good_len l hc
 obtain ⟨aa,ca,rfl,hal⟩:=ha
 have HAL : Hid (0 < l.length -> ∃ b off,aa = some ⟨b,off,none⟩ /\ AM.Lie w b off l):=fun g=>by
  rcases hal with rfl | ⟨b,off,e,hl⟩
  · exact (Nat.lt_irrefl 0 g).elim
  · exact ⟨b,off,e,hl⟩
 clear hbo hc h hal
 have HB:=hideC ((Below.refl w.heap.size w).alloc (Nat.le_refl _) (.cells #[.slice aa l.length ca,.slice ao hs.length cap,.int .i64 en] 30))
 go_enter Tryz.func100,Tryz.ntmps100
 go_wp2
 go_loopw [12,3] (fun ix v wr=>∃ (i c : Nat) (ao' : Option Addr),i <= l.length /\ ix = .int .i64 i /\ v = .slice ao' (hs.length - c) (cap - c) /\ c <= hs.length /\ (c < hs.length -> ao' = some ⟨b,off + c * 3,none⟩) /\ (hs.take c).map (·.page) = LM.pagesTo l i /\ Below w.heap.size w wr) (fun ix _ _=>l.length - (intOf ix).toNat)
 case atStart=>exact ⟨0,0,ao,by omega,rfl,rfl,by omega,fun g=>by rw [(HBO.out g).1,Nat.zero_mul,Nat.add_zero],rfl,HB.out⟩
 case round =>
  obtain ⟨i,c,ao',hi,rfl,rfl,hcl,hao,htk,hb⟩:=hrel
  have HAO:=hideC hao
  have HTK:=hideC htk
  have HBr:=hideC hb
  clear hao htk
  by_cases hlt : i < l.length
  · obtain ⟨ba,offa,hae,hl⟩:=HAL.out (by omega)
    subst hae
    obtain ⟨c0,c1,c2,c3⟩:=(hl.below hb) i hlt
    have hbk:=AM.okAt_pages l i (AM.good_pages l HC.out i hlt)
    have HSP : Hid (∀ n,n < (AM.at_ l i).pages.toNat -> ∃ t,LM.pagesOf l = (LM.pagesTo l i ++ LM.pagesN (AM.at_ l i) n) ++ ((AM.at_ l i).page + (n : Int)) :: t):=fun n hn=>LM.pages_split l i hlt n hn
    have HNX : Hid (LM.pagesTo l (i + 1) = LM.pagesTo l i ++ LM.pagesN (AM.at_ l i) (AM.at_ l i).pages.toNat):=rfl
    obtain ⟨a,hae⟩ : ∃ a,a = AM.at_ l i:=⟨_,rfl⟩
    rw [<- hae] at c0 c1 c2 c3 hbk HSP HNX
    clear hae hb
    obtain ⟨P,hP⟩ : ∃ P : Nat,a.pages = (P : Int):=⟨a.pages.toNat,by omega⟩
    rw [hP] at c1 hbk HSP HNX
    rw [Int.toNat_natCast] at HSP HNX
    have HBA:=hideC (HBr.out.alloc HBr.out.size (.cells #[.int .i64 a.page,.int .i64 (P : Int),.int .i64 a.prot,.bool a.zero] 47))
    have BA:=hideC (B.new wr #[.int .i64 a.page,.int .i64 (P : Int),.int .i64 a.prot,.bool a.zero] 47)
    go_wp2
    go_loopw [18,3] (fun nx v wi=>∃ (n c : Nat) (ao' : Option Addr),n <= P /\ nx = .int .i64 n /\ v = .slice ao' (hs.length - c) (cap - c) /\ c <= hs.length /\ (c < hs.length -> ao' = some ⟨b,off + c * 3,none⟩) /\ (hs.take c).map (·.page) = LM.pagesTo l i ++ LM.pagesN a n /\ Below w.heap.size w wi /\ wi.heap[wr.heap.size]? = some (.cells #[.int .i64 a.page,.int .i64 (P : Int),.int .i64 a.prot,.bool a.zero] 47 (0,0))) (fun nx _ _=>P - (intOf nx).toNat)
    case atStart=>exact ⟨0,c,ao',by omega,rfl,rfl,hcl,HAO.out,by rw [HTK.out];simp [LM.pagesN],HBA.out,BA.out⟩
    case round =>
     obtain ⟨n,c,ao',hn',rfl,rfl,hcl,hao,htk,hb,hba⟩:=hrel
     have HAO:=hideC hao
     have HTK:=hideC htk
     have HBi:=hideC hb
     have BAi:=hideC hba
     have x0:=B.cell hba 0 rfl
     clear hao htk hba
     by_cases hlp : n < P
     · obtain ⟨t,ht⟩:=HSP.out n hlp
       have HT:=hideC ht
       clear ht
       by_cases hce : c = hs.length
       · have HX : Hid (LM.forEachB l hs = false):=LM.each_short (by have h:=HTK.out;rw [hce] at h;exact h) HT.out
         have hz : hs.length - c = 0:=by omega
         rw [hz]
         clear hz hce
         go_wp2
         go_quiet (fail)
         go_wp2
         go_ret
         exact ⟨ret_bool HX.out.symm,below_drewN HBi.out _⟩
       · have hcl' : c < hs.length:=by omega
         have hcz : (((hs.length - c : Nat) : Int) == 0) = false:=by simp;omega
         have hcz2 : 0 < hs.length - c:=by omega
         obtain ⟨-,g2,g3⟩:=HBO.out (by omega)
         obtain ⟨d0,d1,d2,d3⟩:=(LM.lieH (hb.mono (Nat.le_of_eq rfl)) g2 g3) c hcl'
         have hae:=HAO.out hcl'
         subst hae
         have hle1 : (1 : Int) <= ((hs.length - c : Nat) : Int):=by omega
         by_cases hpg : (LM.shAt hs c).page = a.page + (n : Int)
         · have HX : Hid ((hs.take (c + 1)).map (·.page) = LM.pagesTo l i ++ LM.pagesN a (n + 1)):=by
            show _ = _
            rw [LM.map_take_snoc hs c hcl',HTK.out,hpg,LM.pagesN_succ,List.append_assoc]
           rw [hpg] at d0
           clear hpg d1 d2 d3 hb hce
           by_cases hc1 : cap - c = 1
           · go_wp2
             go_quiet (fail)
             go_wp2
             go_roundw
             case rel=>exact ⟨n + 1,c + 1,_,by omega,by go_num,slice_eq rfl (by omega) (by omega),by omega,fun g=>by omega,HX.out,below_drewN HBi.out _,BAi.out⟩
             case measure=>simp [intOf];omega
           · go_wp2
             go_quiet (fail)
             go_wp2
             go_roundw
             case rel=>exact ⟨n + 1,c + 1,_,by omega,by go_num,slice_eq rfl (by omega) (by omega),by omega,fun g=>by simp [Nat.add_mul,Nat.add_assoc],HX.out,below_drewN HBi.out _,BAi.out⟩
             case measure=>simp [intOf];omega
         · have HX : Hid (LM.forEachB l hs = false):=LM.each_other hcl' HTK.out HT.out hpg
           have hpz : ((LM.shAt hs c).page == a.page + (n : Int)) = false:=by simpa using hpg
           clear hpg d1 d2 d3 hb hce
           go_wp2
           go_quiet (fail)
           go_wp2
           go_ret
           exact ⟨ret_bool HX.out.symm,below_drewN HBi.out _⟩
     · obtain rfl : n = P:=by omega
       go_wp2
       go_roundw
       case rel=>exact ⟨i + 1,c,ao',by omega,by go_num,rfl,hcl,HAO.out,by rw [HNX.out];exact HTK.out,HBi.out⟩
       case measure=>simp [intOf];omega
  · obtain rfl : i = l.length:=by omega
    have HX:=hideC (LM.each_done hcl HTK.out)
    go_wp2
    go_ret
    refine ⟨ret_bool ?_,HBr.out⟩
    rw [HX.out]
    rw [Bool.eq_iff_iff]
    simp
    omega
theorem ret_int {k : IntKind} {a b : Int} (h : a = b) : Ending.returned (.int k a) = .returned (.int k b):=by rw [h]
set_option maxHeartbeats 3000000 in
theorem rightEntry_any (l : List AM.Ar) (va vs : Value) (en : Int) (w : World) (ha : AW.Has w va l) (hf : AW.AllFit l) (hc : AM.checkN l = 0) (he : M.I64 en) (hva : ∃ ao n c,va = .slice ao n c) (hvs : ∃ ao n c,vs = .slice ao n c) :
  Calls Tryz.prog 102 #[.agg #[va,vs,.int .i64 en]] w fun e w'=>e = .returned (.bool (LM.entB l en)) /\ Below w.heap.size w w':=by
 have HFN : Hid (AM.findN l (en.tdiv 16) = AM.findFrom l (en.tdiv 16)):=by show _ = _;simp [AM.findN,hc]
 have HPR:=hideC (LM.found_prot l hc (en.tdiv 16))
 have HE : Hid (LM.entB l en = ((AM.findFrom l (en.tdiv 16)).2 && (decide (2 <= (AM.findFrom l (en.tdiv 16)).1.prot) && decide (en.tmod 8 = 0)))):=rfl
 have HFD : Hid (∀ W,Below w.heap.size w W -> Calls Tryz.prog 70 #[va,.int .i64 (en.tdiv 16)] W fun e w'=>e = .returned (.tuple #[.agg (AW.cellsOf (AM.findFrom l (en.tdiv 16)).1),.bool (AM.findFrom l (en.tdiv 16)).2]) /\ Below W.heap.size W w'):=fun W hb=>by
  have h:=AW.find_any l va (en.tdiv 16) W (ha.below hb) hf
  rw [HFN.out] at h
  exact h
 obtain ⟨r,hr⟩ : ∃ r,r = AM.findFrom l (en.tdiv 16):=⟨_,rfl⟩
 rw [<- hr] at HPR HE HFD
 clear hr HFN ha hf hc
 obtain ⟨⟨pg,pn,pr,zr⟩,ok⟩:=r
 simp only [AW.cellsOf] at HFD HPR HE
 obtain ⟨aa,na,ca,rfl⟩:=hva
 obtain ⟨ao,no,co,rfl⟩:=hvs
 unfold M.I64 at he
 have HB:=hideC ((Below.refl w.heap.size w).alloc (Nat.le_refl _) (.cells #[.slice aa na ca,.slice ao no co,.int .i64 en] 30))
 have BX:=hideC (B.new w #[.slice aa na ca,.slice ao no co,.int .i64 en] 30)
 rw [HE.out]
 cases ok with
 | false =>
  go_enter Tryz.func102,Tryz.ntmps102
  go_wp2_with (go_at_call 70;refine (HFD.out _ HB.out).mono ?_;rintro e w1 ⟨rfl,hb⟩;have HB:=hideC (HB.out.trans (hb.mono HB.out.size));clear hb)
  go_ret
  exact ⟨rfl,HB.out.alloc HB.out.size _⟩
 | true =>
  have hpr:=LM.prot_cases (HPR.out rfl)
  have b0 : bits BinOp.and IntKind.i64 0 2 = 0:=by decide
  have b1 : bits BinOp.and IntKind.i64 1 2 = 0:=by decide
  have b2 : bits BinOp.and IntKind.i64 2 2 = 2:=by decide
  have b3 : bits BinOp.and IntKind.i64 3 2 = 2:=by decide
  clear HPR
  by_cases h8 : en.tmod 8 = 0
  · rcases hpr with rfl | rfl | rfl | rfl
    all_goals
     go_enter Tryz.func102,Tryz.ntmps102
     go_wp2_with (go_at_call 70;refine (HFD.out _ HB.out).mono ?_;rintro e w1 ⟨rfl,hb⟩;have HB:=hideC (HB.out.trans (hb.mono HB.out.size));have BX:=hideC (B.below BX.out hb (B.isLt BX.out));have hbx:=B.isLt BX.out;have x2:=B.cell BX.out 2 rfl;clear hb)
     go_ret
     exact ⟨ret_bool (by simp [h8]),HB.out.alloc HB.out.size _⟩
  · have h8' : (en.tmod 8 == 0) = false:=by simpa using h8
    rcases hpr with rfl | rfl | rfl | rfl
    all_goals
     go_enter Tryz.func102,Tryz.ntmps102
     go_wp2_with (go_at_call 70;refine (HFD.out _ HB.out).mono ?_;rintro e w1 ⟨rfl,hb⟩;have HB:=hideC (HB.out.trans (hb.mono HB.out.size));have BX:=hideC (B.below BX.out hb (B.isLt BX.out));have hbx:=B.isLt BX.out;have x2:=B.cell BX.out 2 rfl;clear hb)
     go_ret
     exact ⟨ret_bool (by simp [h8]),HB.out.alloc HB.out.size _⟩
theorem isSlice {w : World} {v : Value} {l : List AM.Ar} (h : AW.Has w v l) : ∃ ao n c,v = .slice ao n c:=by
 obtain ⟨ao,cap,h,_⟩:=h
 exact ⟨ao,_,cap,h⟩
set_option maxHeartbeats 3000000 in
theorem check_any (l : List AM.Ar) (hs : List LM.Sh) (en : Int) (va : Value) (ao : Option Addr) (cap : Nat) (w : World) (ha : AW.Has w va l) (hf : AW.AllFit l) (h : LM.HasH w ao hs) (hfs : LM.FitHs hs) (hcap : hs.length <= cap) (he : M.I64 en) :
  Calls Tryz.prog 53 #[.agg #[va,.slice ao hs.length cap,.int .i64 en]] w fun e w'=>e = .returned (.int .i64 (LM.checkL l hs en)) /\ Below w.heap.size w w':=by
 have HCK : Hid (∀ W,Below w.heap.size w W -> Calls Tryz.prog 98 #[va] W fun e w'=>e = .returned (.int .i64 (AM.checkN l)) /\ Below W.heap.size W w'):=fun W hb=>AW.check_any l va W (ha.below hb) hf
 have HZ : Hid (∀ W,Below w.heap.size w W -> Calls Tryz.prog 99 #[va] W fun e w'=>e = .returned (.bool (LM.anyZeroB l)) /\ Below W.heap.size W w'):=fun W hb=>anyZero_any l va W (ha.below hb) hf
 have HEA : Hid (AM.checkN l = 0 -> ∀ W,Below w.heap.size w W -> Calls Tryz.prog 100 #[.agg #[va,.slice ao hs.length cap,.int .i64 en]] W fun e w'=>e = .returned (.bool (LM.forEachB l hs)) /\ Below W.heap.size W w'):=fun hc W hb=>forEach_any l hs en va ao cap W (ha.below hb) hc (h.below hb) hfs.1 hcap
 have HSH : Hid (∀ W,Below w.heap.size w W -> Calls Tryz.prog 101 #[.slice ao hs.length cap] W fun e w'=>e = .returned (.bool (LM.sheetsB hs)) /\ Below W.heap.size W w'):=fun W hb=>rightSheets_any hs ao cap W (h.below hb) hfs
 have HEN : Hid (AM.checkN l = 0 -> ∀ W,Below w.heap.size w W -> Calls Tryz.prog 102 #[.agg #[va,.slice ao hs.length cap,.int .i64 en]] W fun e w'=>e = .returned (.bool (LM.entB l en)) /\ Below W.heap.size W w'):=fun hc W hb=>rightEntry_any l va _ en W (ha.below hb) hf hc he (isSlice ha) ⟨_,_,_,rfl⟩
 have HR : Hid (LM.checkL l hs en = if AM.checkN l = 0 then (if !LM.anyZeroB l && (LM.forEachB l hs && (LM.sheetsB hs && LM.entB l en)) then 0 else 1) else AM.checkN l):=rfl
 obtain ⟨aa,na,ca,rfl⟩:=isSlice ha
 clear ha hf h hfs hcap he
 obtain ⟨N,hN⟩ : ∃ N,N = hs.length:=⟨_,rfl⟩
 rw [<- hN] at HEA HSH HEN
 rw [<- hN]
 obtain ⟨z,hz⟩ : ∃ z,z = LM.anyZeroB l:=⟨_,rfl⟩
 rw [<- hz] at HZ HR
 obtain ⟨q,hq⟩ : ∃ q,q = LM.forEachB l hs:=⟨_,rfl⟩
 rw [<- hq] at HEA HR
 obtain ⟨s,hs'⟩ : ∃ s,s = LM.sheetsB hs:=⟨_,rfl⟩
 rw [<- hs'] at HSH HR
 obtain ⟨r,hr⟩ : ∃ r,r = LM.entB l en:=⟨_,rfl⟩
 rw [<- hr] at HEN HR
 obtain ⟨C,hC⟩ : ∃ C,C = AM.checkN l:=⟨_,rfl⟩
 rw [<- hC] at HCK HEA HEN HR
 rw [HR.out]
 clear hN hz hq hs' hr hC HR
 have HB:=hideC ((Below.refl w.heap.size w).alloc (Nat.le_refl _) (.cells #[.slice aa na ca,.slice ao N cap,.int .i64 en] 30))
 have BX:=hideC (B.new w #[.slice aa na ca,.slice ao N cap,.int .i64 en] 30)
 by_cases hc : C = 0
 · subst hc
   have HEA1:=hideC (HEA.out rfl)
   have HEN1:=hideC (HEN.out rfl)
   clear HEA HEN
   rw [if_pos rfl]
   cases z <;> cases q <;> cases s <;> cases r
   all_goals
    go_enter Tryz.func53,Tryz.ntmps53
    go_wp2_with (first
     | (go_at_call 98;refine (HCK.out _ HB.out).mono ?_;rintro e w1 ⟨rfl,hb⟩;have HB:=hideC (HB.out.trans (hb.mono HB.out.size));have BX:=hideC (B.below BX.out hb (B.isLt BX.out));have x0:=B.cell BX.out 0 rfl;have x1:=B.cell BX.out 1 rfl;have x2:=B.cell BX.out 2 rfl;clear hb)
     | (go_at_call 99;refine (HZ.out _ HB.out).mono ?_;rintro e w1 ⟨rfl,hb⟩;have HB:=hideC (HB.out.trans (hb.mono HB.out.size));have BX:=hideC (B.below BX.out hb (B.isLt BX.out));have x0:=B.cell BX.out 0 rfl;have x1:=B.cell BX.out 1 rfl;have x2:=B.cell BX.out 2 rfl;clear hb)
     | (go_at_call 100;refine (HEA1.out _ HB.out).mono ?_;rintro e w1 ⟨rfl,hb⟩;have HB:=hideC (HB.out.trans (hb.mono HB.out.size));have BX:=hideC (B.below BX.out hb (B.isLt BX.out));have x0:=B.cell BX.out 0 rfl;have x1:=B.cell BX.out 1 rfl;have x2:=B.cell BX.out 2 rfl;clear hb)
     | (go_at_call 101;refine (HSH.out _ HB.out).mono ?_;rintro e w1 ⟨rfl,hb⟩;have HB:=hideC (HB.out.trans (hb.mono HB.out.size));have BX:=hideC (B.below BX.out hb (B.isLt BX.out));have x0:=B.cell BX.out 0 rfl;have x1:=B.cell BX.out 1 rfl;have x2:=B.cell BX.out 2 rfl;clear hb)
     | (go_at_call 102;refine (HEN1.out _ HB.out).mono ?_;rintro e w1 ⟨rfl,hb⟩;have HB:=hideC (HB.out.trans (hb.mono HB.out.size));clear hb))
    go_ret
    exact ⟨rfl,HB.out⟩
 · have hc' : (C == 0) = false:=by simpa using hc
   rw [if_neg hc]
   go_enter Tryz.func53,Tryz.ntmps53
   go_wp2_with (go_at_call 98;refine (HCK.out _ HB.out).mono ?_;rintro e w1 ⟨rfl,hb⟩;have HB:=hideC (HB.out.trans (hb.mono HB.out.size));clear hb)
   go_ret
   exact ⟨rfl,HB.out⟩
end LW
namespace LM
open Go.RowKit
structure Ob where
 i : M.Im
 a : M.At
 base : Int
def ob0 : Ob:=⟨⟨⟨#[]⟩,[],[],[],[],0⟩,⟨none,0,none,0,none,0,none,0⟩,0⟩
def obAt (l : List Ob) (k : Nat) : Ob:=l.getD k ob0
def cellsO (o : Ob) : Array Value:=#[.string o.i.name,.slice o.a.an o.i.needs.length o.a.cn,.slice o.a.ag o.i.segs.length o.a.cg,.slice o.a.ay o.i.syms.length o.a.cy,.slice o.a.ar o.i.rels.length o.a.cr,.int .i64 o.i.entry,.int .i64 o.base]
def LieO (w : World) (b off : Nat) (l : List Ob) : Prop:=∀ k,k < l.length ->
 (w.cell? ⟨b,off + k * 7,none⟩ = some (.string (obAt l k).i.name) /\ w.cell? ⟨b,off + k * 7 + 1,none⟩ = some (.slice (obAt l k).a.an (obAt l k).i.needs.length (obAt l k).a.cn) /\
  w.cell? ⟨b,off + k * 7 + 2,none⟩ = some (.slice (obAt l k).a.ag (obAt l k).i.segs.length (obAt l k).a.cg) /\ w.cell? ⟨b,off + k * 7 + 3,none⟩ = some (.slice (obAt l k).a.ay (obAt l k).i.syms.length (obAt l k).a.cy) /\
  w.cell? ⟨b,off + k * 7 + 4,none⟩ = some (.slice (obAt l k).a.ar (obAt l k).i.rels.length (obAt l k).a.cr) /\ w.cell? ⟨b,off + k * 7 + 5,none⟩ = some (.int .i64 (obAt l k).i.entry) /\ w.cell? ⟨b,off + k * 7 + 6,none⟩ = some (.int .i64 (obAt l k).base)) /\ M.HasIm w (obAt l k).a (obAt l k).i
theorem lieO {w w' : World} {b off : Nat} {l : List Ob} (hb : Below w.heap.size w w') (hlt : b < w.heap.size) (h : LieO w b off l) : LieO w' b off l:=fun k hk=>by
 obtain ⟨⟨c0,c1,c2,c3,c4,c5,c6⟩,hi⟩:=h k hk
 exact ⟨⟨(M.below_cell hb hlt).trans c0,(M.below_cell hb hlt).trans c1,(M.below_cell hb hlt).trans c2,(M.below_cell hb hlt).trans c3,(M.below_cell hb hlt).trans c4,(M.below_cell hb hlt).trans c5,(M.below_cell hb hlt).trans c6⟩,hi.below hb⟩
def HasO (w : World) (ao : Option Addr) (l : List Ob) : Prop:=M.HasBy LieO w ao l
theorem HasO.below {w w' : World} {ao : Option Addr} {l : List Ob} (h : HasO w ao l) (hb : Below w.heap.size w w') : HasO w' ao l:=M.HasBy.below (lie:=LieO) (fun hb hlt h=>lieO hb hlt h) h hb
def lastSeg (i : M.Im) : M.Sg:=M.sgAt i.segs (i.segs.length - 1)
def endO (o : Ob) : Int:=o.base + (lastSeg o.i).page + (lastSeg o.i).pages
def addrO (o : Ob) (at' : Int) : Int:=o.base * 16 + at'
def protN (s : M.Sg) : Int:=if s.wr then (if s.ex then 3 else 1) else (if s.ex then 2 else 0)
theorem seg_bounds {i : M.Im} (hc : M.chkN i = 0) (k : Nat) (hk : k < i.segs.length) : 0 <= (M.sgAt i.segs k).page /\ 1 <= (M.sgAt i.segs k).pages /\ (M.sgAt i.segs k).page + (M.sgAt i.segs k).pages <= 255 /\ ((M.sgAt i.segs k).data.size : Int) <= (M.sgAt i.segs k).pages * 16:=by
 unfold M.chkN at hc
 split at hc
 · simp at hc
 · split at hc
   · simp at hc
   · split at hc
     · simp at hc
     · rename_i h
       have h' : M.rangesB i = true:=by simpa using h
       unfold M.rangesB at h'
       have:=M.all_at M.rangeB M.sg0 i.segs k hk h'
       unfold M.rangeB at this
       exact of_decide_eq_true this
theorem counts_of {i : M.Im} (hc : M.chkN i = 0) : 1 <= i.segs.length /\ i.segs.length <= 6 /\ i.needs.length <= 4 /\ i.syms.length <= 12 /\ i.rels.length <= 16:=by
 unfold M.chkN at hc
 split at hc
 · simp at hc
 · split at hc
   · simp at hc
   · rename_i h
     have h' : M.countsB i = true:=by simpa using h
     unfold M.countsB at h'
     exact of_decide_eq_true h'
theorem last_bounds {i : M.Im} (hc : M.chkN i = 0) : 0 <= (lastSeg i).page /\ 1 <= (lastSeg i).pages /\ (lastSeg i).page + (lastSeg i).pages <= 255:=by
 have h1:=counts_of hc
 have h2:=seg_bounds hc (i.segs.length - 1) (by omega)
 exact ⟨h2.1,h2.2.1,h2.2.2.1⟩
end LM
namespace LW
open Go.RowKit
open W (hideC)
set_option maxHeartbeats 1000000 in
theorem end_any (o : LM.Ob) (w : World) (h : M.HasIm w o.a o.i) (hc : M.chkN o.i = 0) (h0 : 0 <= o.base) (h1 : o.base <= 100000) :
  Calls Tryz.prog 134 #[.agg (LM.cellsO o)] w fun e w'=>e = .returned (.int .i64 (LM.endO o)) /\ Below w.heap.size w w':=by
 have hl:=LM.last_bounds hc
 have hn:=LM.counts_of hc
 have HS:=h.segs
 obtain ⟨⟨nm,ns,gs,ys,rs,en⟩,⟨an,cn,ag,cg,ay,cy,ar,cr⟩,ba⟩:=o
 simp only [LM.cellsO]
 simp only at HS hn h0 h1
 obtain ⟨b,off,hag,hbl,hlie⟩:=HS (by omega)
 subst hag
 have E : Hid (LM.endO ⟨⟨nm,ns,gs,ys,rs,en⟩,⟨an,cn,some ⟨b,off,none⟩,cg,ay,cy,ar,cr⟩,ba⟩ = ba + (M.sgAt gs (gs.length - 1)).page + (M.sgAt gs (gs.length - 1)).pages):=rfl
 have hl' : 0 <= (M.sgAt gs (gs.length - 1)).page /\ 1 <= (M.sgAt gs (gs.length - 1)).pages /\ (M.sgAt gs (gs.length - 1)).page + (M.sgAt gs (gs.length - 1)).pages <= 255:=hl
 obtain ⟨c0,c1,c2,c3,c4⟩:=hlie (gs.length - 1) (by omega)
 rw [E.out]
 obtain ⟨s,hs⟩ : ∃ s,s = M.sgAt gs (gs.length - 1):=⟨_,rfl⟩
 rw [<- hs] at c0 c1 c2 c3 c4 hl'
 rw [<- hs]
 clear hs hl hlie HS h E
 obtain ⟨G,hG⟩ : ∃ G,G = gs.length:=⟨_,rfl⟩
 rw [<- hG] at c0 c1 c2 c3 c4 hn
 rw [<- hG]
 clear hG hc
 have hG1 : (1 : Int) <= (G : Int):=by omega
 have hG2 : 0 < G:=by omega
 have HB:=hideC ((Below.refl w.heap.size w).alloc (Nat.le_refl _) (.cells #[.string nm,.slice an ns.length cn,.slice (some ⟨b,off,none⟩) G cg,.slice ay ys.length cy,.slice ar rs.length cr,.int .i64 en,.int .i64 ba] 195))
 go_enter Tryz.func134,Tryz.ntmps134
 go_wp2
 go_ret
 exact ⟨rfl,HB.out.alloc HB.out.size _⟩
theorem address_any (o : LM.Ob) (at' : Int) (w : World) (h0 : 0 <= o.base) (h1 : o.base <= 100000) (h2 : 0 <= at') (h3 : at' <= 100000) :
  Calls Tryz.prog 137 #[.agg (LM.cellsO o),.int .i64 at'] w fun e w'=>e = .returned (.int .i64 (LM.addrO o at')) /\ Below w.heap.size w w':=by
 obtain ⟨⟨nm,ns,gs,ys,rs,en⟩,⟨an,cn,ag,cg,ay,cy,ar,cr⟩,ba⟩:=o
 simp only [LM.cellsO,LM.addrO]
 simp only at h0 h1
 go_enter Tryz.func137,Tryz.ntmps137
 go_wp2
 go_ret
 exact ⟨rfl,(Below.refl _ _).alloc (Nat.le_refl _) _⟩
theorem prot_any (s : M.Sg) (w : World) :
  Calls Tryz.prog 164 #[.agg #[.int .i64 s.page,.int .i64 s.pages,.string s.data,.bool s.wr,.bool s.ex]] w fun e w'=>e = .returned (.int .i64 (LM.protN s)) /\ Below w.heap.size w w':=by
 obtain ⟨pg,pn,dt,wr,ex⟩:=s
 have b1 : bits BinOp.or IntKind.i64 0 1 = 1:=by decide
 have b2 : bits BinOp.or IntKind.i64 0 2 = 2:=by decide
 have b3 : bits BinOp.or IntKind.i64 1 2 = 3:=by decide
 cases wr <;> cases ex
 all_goals
  go_enter Tryz.func164,Tryz.ntmps164
  go_wp2
  go_ret
  exact ⟨ret_int (by first | rfl | simp [LM.protN,b1,b2,b3]),(Below.refl _ _).alloc (Nat.le_refl _) _⟩
end LW
namespace W
open Go.RowKit
set_option maxHeartbeats 2000000 in
theorem rightCounts_any (i : M.Im) (a : M.At) (w : World) (hf : M.Fit i) : Calls Tryz.prog 176 #[.agg (M.cellsI a i)] w fun e w'=>e = .returned (.bool (M.countsB i)) /\ Below w.heap.size w w':=by
 obtain ⟨an,cn,ag,cg,ay,cy,ar,cr⟩:=a
 obtain ⟨nm,ns,gs,ys,rs,en⟩:=i
 obtain ⟨f1,f2,f3,f4,f5,f6,f7,f8,f9,f10⟩:=hf
 simp only at f2 f4 f6 f8
 unfold M.Short at f2 f4 f6 f8
 simp only [M.cellsI,M.countsB]
 have HB0 : ∀ o,Hid (Below w.heap.size w (w.alloc o)):=fun o=>(Below.refl w.heap.size w).alloc (Nat.le_refl _) o
 obtain ⟨r,hr⟩ : ∃ r,r = decide (1 <= gs.length /\ gs.length <= 6 /\ ns.length <= 4 /\ ys.length <= 12 /\ rs.length <= 16):=⟨_,rfl⟩
 rw [<- hr]
 have HR:=hideC hr
 clear hr f1 f3 f5 f7 f9 f10
 obtain ⟨ln,hln⟩ : ∃ n,n = ns.length:=⟨_,rfl⟩
 obtain ⟨lg,hlg⟩ : ∃ n,n = gs.length:=⟨_,rfl⟩
 obtain ⟨ly,hly⟩ : ∃ n,n = ys.length:=⟨_,rfl⟩
 obtain ⟨lr,hlr⟩ : ∃ n,n = rs.length:=⟨_,rfl⟩
 rw [<- hln,<- hlg,<- hly,<- hlr] at HR
 rw [<- hln,<- hlg,<- hly,<- hlr]
 rw [<- hln] at f2
 rw [<- hlg] at f4
 rw [<- hly] at f6
 rw [<- hlr] at f8
 clear hln hlg hly hlr
 by_cases d1 : 1 <= (lg : Int)
 · by_cases d2 : (lg : Int) <= 6
   · by_cases d3 : (ln : Int) <= 4
     · by_cases d4 : (ly : Int) <= 12
       · by_cases d5 : (lr : Int) <= 16
         · have e : r = true:=by rw [HR.out];exact decide_eq_true (by omega)
           subst e
           have q1 : 1 <= lg:=by omega
           have q2 : lg <= 6:=by omega
           have q3 : ln <= 4:=by omega
           have q4 : ly <= 12:=by omega
           have q5 : lr <= 16:=by omega
           go_enter Tryz.func176,Tryz.ntmps176
           go_wp2
           go_ret
           exact ⟨rfl,(HB0 _).out⟩
         · have e : r = false:=by rw [HR.out];exact decide_eq_false (by omega)
           subst e
           have q1 : 1 <= lg:=by omega
           have q2 : lg <= 6:=by omega
           have q3 : ln <= 4:=by omega
           have q4 : ly <= 12:=by omega
           have q5 : decide ((lr : Int) <= 16) = false:=decide_eq_false d5
           have q6 : decide (lr <= 16) = false:=decide_eq_false (by omega)
           have q7 : ¬ lr <= 16:=by omega
           go_enter Tryz.func176,Tryz.ntmps176
           go_wp2
           go_ret
           exact ⟨rfl,(HB0 _).out⟩
       · have e : r = false:=by rw [HR.out];exact decide_eq_false (by omega)
         subst e
         have q1 : 1 <= lg:=by omega
         have q2 : lg <= 6:=by omega
         have q3 : ln <= 4:=by omega
         have q4 : decide ((ly : Int) <= 12) = false:=decide_eq_false d4
         have q6 : decide (ly <= 12) = false:=decide_eq_false (by omega)
         have q7 : ¬ ly <= 12:=by omega
         go_enter Tryz.func176,Tryz.ntmps176
         go_wp2
         go_ret
         exact ⟨rfl,(HB0 _).out⟩
     · have e : r = false:=by rw [HR.out];exact decide_eq_false (by omega)
       subst e
       have q1 : 1 <= lg:=by omega
       have q2 : lg <= 6:=by omega
       have q4 : decide ((ln : Int) <= 4) = false:=decide_eq_false d3
       have q6 : decide (ln <= 4) = false:=decide_eq_false (by omega)
       have q7 : ¬ ln <= 4:=by omega
       go_enter Tryz.func176,Tryz.ntmps176
       go_wp2
       go_ret
       exact ⟨rfl,(HB0 _).out⟩
   · have e : r = false:=by rw [HR.out];exact decide_eq_false (by omega)
     subst e
     have q1 : 1 <= lg:=by omega
     have q4 : decide ((lg : Int) <= 6) = false:=decide_eq_false d2
     have q6 : decide (lg <= 6) = false:=decide_eq_false (by omega)
     have q7 : ¬ lg <= 6:=by omega
     go_enter Tryz.func176,Tryz.ntmps176
     go_wp2
     go_ret
     exact ⟨rfl,(HB0 _).out⟩
 · have e : r = false:=by rw [HR.out];exact decide_eq_false (by omega)
   subst e
   have q4 : decide ((1 : Int) <= (lg : Int)) = false:=decide_eq_false d1
   obtain rfl : lg = 0:=by omega
   go_enter Tryz.func176,Tryz.ntmps176
   go_wp2
   go_ret
   exact ⟨rfl,(HB0 _).out⟩
set_option maxHeartbeats 4000000 in
theorem rightRanges_any (l : List M.Sg) (ao : Option Addr) (cap : Nat) (w : World) (h : M.HasBy M.LieG w ao l) (hn : M.Short l.length) (hf : ∀ k,k < l.length -> M.FitG (M.sgAt l k)) :
  Calls Tryz.prog 177 #[.slice ao l.length cap] w fun e w'=>e = .returned (.bool (l.all M.rangeB)) /\ Below w.heap.size w w':=by
 unfold M.Short at hn
 have H:=hideC h
 have F:=hideC hf
 clear h hf
 go_enter Tryz.func177,Tryz.ntmps177
 go_wp2
 go_loopw [7] (fun i wr=>∃ k : Nat,k <= l.length /\ i = .int .i64 k /\ (∀ j,j < k -> M.rangeB (M.sgAt l j) = true) /\ Below w.heap.size w wr) (fun i _=>l.length - (intOf i).toNat)
 case atStart=>exact ⟨0,by omega,rfl,fun j h=>by omega,Below.refl _ _⟩
 case round =>
  obtain ⟨k,hk,rfl,hall,hb⟩:=hrel
  have HA:=hideC hall
  have HB:=hideC hb
  clear hall
  by_cases hlt : k < l.length
  · obtain ⟨b,off,hao,hbl,hl⟩:=H.out (by omega)
    subst hao
    obtain ⟨c0,c1,c2,c3,c4⟩:=M.lieG hb hbl hl k hlt
    obtain ⟨g1,g2,g3⟩:=F.out k hlt
    obtain ⟨s,hs⟩ : ∃ s,s = M.sgAt l k:=⟨_,rfl⟩
    rw [<- hs] at c0 c1 c2 c3 c4 g1 g2 g3
    have HS:=hideC hs
    clear hs hb hl
    obtain ⟨p,n,d,x,y⟩:=s
    simp only at c0 c1 c2 c3 c4 g1 g2 g3
    unfold M.I64 at g1 g2
    unfold M.Short at g3
    have hml : d.size <= maxLen:=by unfold maxLen;omega
    have hli : (k : Int) < (l.length : Int):=by omega
    have hbad : Hid (¬ (0 <= p /\ 1 <= n /\ p + n <= 255 /\ (d.size : Int) <= n * 16) -> l.all M.rangeB = false):=fun hx =>
     M.all_false M.rangeB M.sg0 l k hlt (by show M.rangeB (M.sgAt l k) = false;rw [<- HS.out];exact decide_eq_false hx)
    by_cases d1 : 0 <= p
    · have d1' : ¬ p < 0:=by omega
      by_cases d2 : 1 <= n
      · have d2' : ¬ n < 1:=by omega
        by_cases d3 : p + n <= 255
        · have d3' : ¬ 255 - p < n:=by omega
          by_cases d4 : (d.size : Int) <= n * 16
          · have d4' : ¬ n * 16 < (d.size : Int):=by omega
            have hgood : Hid (M.rangeB ⟨p,n,d,x,y⟩ = true):=decide_eq_true ⟨d1,d2,d3,d4⟩
            go_wp2
            go_roundw
            case rel=>exact ⟨k + 1,by omega,by go_num,fun j h=>if e : j = k then by rw [e,<- HS.out];exact hgood.out else HA.out j (by omega),HB.out.alloc HB.out.size _⟩
            case measure=>simp [intOf];omega
          · have d4' : n * 16 < (d.size : Int):=by omega
            have HR:=hideC (hbad.out (by omega))
            go_wp2
            go_ret
            exact ⟨ret_bool HR.out.symm,HB.out.alloc HB.out.size _⟩
        · have d3' : 255 - p < n:=by omega
          have HR:=hideC (hbad.out (by omega))
          go_wp2
          go_ret
          exact ⟨ret_bool HR.out.symm,HB.out.alloc HB.out.size _⟩
      · have d2' : n < 1:=by omega
        have HR:=hideC (hbad.out (by omega))
        go_wp2
        go_ret
        exact ⟨ret_bool HR.out.symm,HB.out.alloc HB.out.size _⟩
    · have d1' : p < 0:=by omega
      have HR:=hideC (hbad.out (by omega))
      go_wp2
      go_ret
      exact ⟨ret_bool HR.out.symm,HB.out.alloc HB.out.size _⟩
  · obtain rfl : k = l.length:=by omega
    have HR:=hideC (M.all_true M.rangeB M.sg0 l (fun j hj=>HA.out j hj))
    clear hb
    go_wp2
    go_ret
    exact ⟨ret_bool HR.out.symm,HB.out⟩
theorem over_mono (l : List M.Sg) (k n : Nat) (h : M.overTo l k = false) (hk : k <= n) : M.overTo l n = false:=by
 induction n with
 | zero => obtain rfl : k = 0 := by omega
           exact h
 | succ n ih =>
  rcases Nat.lt_or_ge n k with g | g
  · obtain rfl : k = n + 1:=by omega
    exact h
  · simp only [M.overTo]
    rw [ih g];rfl
theorem apart_no (l : List M.Sg) (k : Nat) (hk : k < l.length) (h : M.overTo l (k + 1) = false) : M.apartB l = false:=over_mono l (k + 1) l.length h hk
set_option maxHeartbeats 4000000 in
theorem overlap_any (l : List M.Sg) (ao : Option Addr) (cap : Nat) (w : World) (h : M.HasBy M.LieG w ao l) (hn : M.Short l.length) (hr : l.all M.rangeB = true) :
  Calls Tryz.prog 178 #[.slice ao l.length cap] w fun e w'=>e = .returned (.bool (!M.apartB l)) /\ Below w.heap.size w w':=by
 unfold M.Short at hn
 have H:=hideC h
 have F:=hideC hr
 clear h hr
 go_enter Tryz.func178,Tryz.ntmps178
 go_wp2
 go_loopw [3] (fun i wr=>∃ k : Nat,1 <= k /\ (k <= l.length ∨ k = 1) /\ i = .int .i64 k /\ M.overTo l k = true /\ Below w.heap.size w wr) (fun i _=>l.length - (intOf i).toNat)
 case atStart=>exact ⟨1,by omega,.inr rfl,rfl,rfl,Below.refl _ _⟩
 case round =>
  obtain ⟨k,hk1,hk,rfl,hall,hb⟩:=hrel
  have HA:=hideC hall
  have HB:=hideC hb
  clear hall
  by_cases hlt : k < l.length
  · obtain ⟨b,off,hao,hbl,hl⟩:=H.out (by omega)
    subst hao
    obtain ⟨c0,c1,c2,c3,c4⟩:=M.lieG hb hbl hl k hlt
    obtain ⟨e0,e1,e2,e3,e4⟩:=M.lieG hb hbl hl (k - 1) (by omega)
    have g1 : 0 <= (M.sgAt l (k - 1)).page /\ 1 <= (M.sgAt l (k - 1)).pages /\ (M.sgAt l (k - 1)).page + (M.sgAt l (k - 1)).pages <= 255 /\ _:=of_decide_eq_true (M.all_at M.rangeB M.sg0 l (k - 1) (by omega) F.out)
    have hov : Hid (M.overTo l (k + 1) = decide ((M.sgAt l (k - 1)).page + (M.sgAt l (k - 1)).pages <= (M.sgAt l k).page)):=by
     show _ = _
     simp only [M.overTo,HA.out,Bool.true_and,M.overAt]
     rw [show (k == 0) = false from by simp;omega,Bool.false_or]
    obtain ⟨s,hs⟩ : ∃ s,s = M.sgAt l k:=⟨_,rfl⟩
    obtain ⟨t,ht⟩ : ∃ t,t = M.sgAt l (k - 1):=⟨_,rfl⟩
    rw [<- hs] at c0 c1 c2 c3 c4 hov
    rw [<- ht] at e0 e1 e2 e3 e4 g1 hov
    clear hs ht hb hl
    obtain ⟨sp,sn,sd,sx,sy⟩:=s
    obtain ⟨tp,tn,td,tx,ty⟩:=t
    simp only at c0 c1 c2 c3 c4 e0 e1 e2 e3 e4 g1 hov
    obtain ⟨g1,g2,g3,g4⟩:=g1
    clear c1 c2 c3 c4 e2 e3 e4 g4
    have hli : (k : Int) < (l.length : Int):=by omega
    have hkin:=Q.kin_some wr
    have hkc:=@Q.cell_kin wr
    have hbr : b < wr.heap.size:=Nat.lt_of_lt_of_le hbl HB.out.size
    have k0 : ∀ x : Q.Kin wr.heap.size wr,x.world.cell? ⟨b,off + k * 5,none⟩ = some (.int .i64 sp):=fun x=>by rw [hkc x _ _ hbr,c0]
    have k1 : ∀ x : Q.Kin wr.heap.size wr,x.world.cell? ⟨b,off + (k - 1) * 5,none⟩ = some (.int .i64 tp):=fun x=>by rw [hkc x _ _ hbr,e0]
    have k2 : ∀ x : Q.Kin wr.heap.size wr,x.world.cell? ⟨b,off + (k - 1) * 5 + 1,none⟩ = some (.int .i64 tn):=fun x=>by rw [hkc x _ _ hbr,e1]
    clear hkc c0 e0 e1
    by_cases d : sp < tp + tn
    · have hno : Hid (M.overTo l (k + 1) = false):=by show _ = _;rw [hov.out];exact decide_eq_false (by omega)
      go_wp2
      refine Q.region_kin (by kernel_rfl) (by kernel_rfl) ?_
      repeat (first | go_big_quiet_step (fail) | quiet_step (fail))
      refine wpQuiet_nil ?_
      intro _ hw'
      obtain ⟨x,hw''⟩:=hw'
      subst hw''
      go_wp2
      go_ret
      exact ⟨ret_bool (by rw [apart_no l k hlt hno.out];rfl),HB.out.trans (x.keeps.mono HB.out.size)⟩
    · have hyes : Hid (M.overTo l (k + 1) = true):=by show _ = _;rw [hov.out];exact decide_eq_true (by omega)
      go_wp2
      refine Q.region_kin (by kernel_rfl) (by kernel_rfl) ?_
      repeat (first | go_big_quiet_step (fail) | quiet_step (fail))
      refine wpQuiet_nil ?_
      intro _ hw'
      obtain ⟨x,hw''⟩:=hw'
      subst hw''
      go_wp2
      go_roundw
      case rel=>exact ⟨k + 1,by omega,.inl (by omega),by go_num,hyes.out,HB.out.trans (x.keeps.mono HB.out.size)⟩
      case measure=>simp [intOf];omega
  · have HR : Hid (M.apartB l = true):=by
     show _ = _
     unfold M.apartB
     rcases hk with hk | hk
     · rw [show l.length = k by omega];exact HA.out
     · rcases Nat.lt_or_ge l.length 1 with h0 | h0
       · rw [show l.length = 0 by omega];rfl
       · rw [show l.length = k by omega];exact HA.out
    have hge : ¬ (k : Int) < (l.length : Int):=by omega
    clear hb
    go_wp2
    go_ret
    exact ⟨ret_bool (by rw [HR.out];rfl),HB.out⟩
def cellsG (s : M.Sg) : Array Value:=#[.int .i64 s.page,.int .i64 s.pages,.string s.data,.bool s.wr,.bool s.ex]
def segOr (l : List M.Sg) (a : Int) : M.Sg:=(M.segIn l a).getD M.sg0
theorem segIn_none : ∀ (l : List M.Sg) (a : Int),(∀ j,j < l.length -> M.inSeg (M.sgAt l j) a = false) -> M.segIn l a = none
 | [],_,_=>rfl
 | s :: r,a,h=>by
  have h0 : M.inSeg s a = false:=h 0 (by simp)
  unfold M.segIn
  rw [h0,if_neg (by simp)]
  exact segIn_none r a (fun j hj=>h (j + 1) (by simpa using hj))
theorem segIn_some : ∀ (l : List M.Sg) (a : Int) (k : Nat),k < l.length -> (∀ j,j < k -> M.inSeg (M.sgAt l j) a = false) -> M.inSeg (M.sgAt l k) a = true -> M.segIn l a = some (M.sgAt l k)
 | s :: r,a,0,_,_,h=>by
  have h0 : M.inSeg s a = true:=h
  unfold M.segIn
  rw [h0,if_pos rfl]
  rfl
 | s :: r,a,k + 1,hk,hj,h=>by
  have h0 : M.inSeg s a = false:=hj 0 (by omega)
  unfold M.segIn
  rw [h0,if_neg (by simp)]
  exact segIn_some r a k (by simpa using hk) (fun j h=>hj (j + 1) (by omega)) h
theorem range_at {l : List M.Sg} (h : l.all M.rangeB = true) (k : Nat) (hk : k < l.length) : 0 <= (M.sgAt l k).page /\ 1 <= (M.sgAt l k).pages /\ (M.sgAt l k).page + (M.sgAt l k).pages <= 255 /\ ((M.sgAt l k).data.size : Int) <= (M.sgAt l k).pages * 16 :=
 of_decide_eq_true (M.all_at M.rangeB M.sg0 l k hk h)
theorem segIn_neg {l : List M.Sg} (h : l.all M.rangeB = true) (a : Int) (ha : a < 0) : M.segIn l a = none :=
 segIn_none l a (fun j hj=>by
  have:=range_at h j hj
  exact decide_eq_false (by omega))
theorem ret_seg {a b : M.Sg} {x y : Bool} (h : a = b) (g : x = y) : Ending.returned (.tuple #[.agg (cellsG a),.bool x]) = .returned (.tuple #[.agg (cellsG b),.bool y]):=by rw [h,g]
set_option maxHeartbeats 4000000 in
theorem segAt_any (l : List M.Sg) (ao : Option Addr) (cap : Nat) (a : Int) (w : World) (h : M.HasBy M.LieG w ao l) (hn : M.Short l.length) (hr : l.all M.rangeB = true) (ha : M.I64 a) :
  Calls Tryz.prog 199 #[.slice ao l.length cap,.int .i64 a] w fun e w'=>e = .returned (.tuple #[.agg (cellsG (segOr l a)),.bool (M.placedB l a)]) /\ Below w.heap.size w w':=by
 unfold M.Short at hn
 unfold M.I64 at ha
 have H:=hideC h
 have F:=hideC hr
 clear h hr
 by_cases h0 : a < 0
 · have HN:=hideC (segIn_neg F.out a h0)
   have HZ:=hideC ((Below.refl w.heap.size w).alloc (Nat.le_refl _) (.cells #[.int .i64 0,.int .i64 0,.string ⟨#[]⟩,.bool false,.bool false] 145))
   go_enter Tryz.func199,Tryz.ntmps199
   go_wp2
   exact bodyPost_ret (v:=.tuple #[.agg #[.int .i64 0,.int .i64 0,.string ⟨#[]⟩,.bool false,.bool false],.bool false]) (by simp [results,Tryz.results199,go_sem]) rfl ⟨ret_seg (a:=M.sg0) (x:=false) (by unfold segOr;rw [HN.out];rfl) (by unfold M.placedB;rw [HN.out];rfl),HZ.out⟩
 · have h0' : 0 <= a:=by omega
   have hbz : Below w.heap.size w (w.alloc (.cells #[.int .i64 0,.int .i64 0,.string ⟨#[]⟩,.bool false,.bool false] 145)):=(Below.refl _ _).alloc (Nat.le_refl _) _
   have HZ:=hideC hbz
   clear hbz
   go_enter Tryz.func199,Tryz.ntmps199
   go_wp2
   go_loopw [16] (fun i wr=>∃ k : Nat,k <= l.length /\ i = .int .i64 k /\ (∀ j,j < k -> M.inSeg (M.sgAt l j) a = false) /\ Below (w.heap.size + 1) (w.alloc (.cells #[.int .i64 0,.int .i64 0,.string ⟨#[]⟩,.bool false,.bool false] 145)) wr) (fun i _=>l.length - (intOf i).toNat)
   case atStart=>exact ⟨0,by omega,rfl,fun j hj=>by omega,Below.refl _ _⟩
   case round =>
    obtain ⟨k,hk,rfl,hno,hb⟩:=hrel
    have HN:=hideC hno
    have HB:=hideC hb
    have hbw : Hid (Below w.heap.size w wr):=HZ.out.trans (hb.mono (Nat.le_succ _))
    have hsz : w.heap.size + 1 <= wr.heap.size:=by have:=hb.size;simpa using this
    have HR:=hideC (B.below (B.new w #[.int .i64 0,.int .i64 0,.string ⟨#[]⟩,.bool false,.bool false] 145) hb (Nat.lt_succ_self _))
    clear hno hb
    by_cases hlt : k < l.length
    · obtain ⟨b,off,hao,hbl,hl⟩:=H.out (by omega)
      subst hao
      obtain ⟨c0,c1,c2,c3,c4⟩:=M.lieG hbw.out hbl hl k hlt
      obtain ⟨g1,g2,g3,g4⟩:=range_at F.out k hlt
      obtain ⟨s,hs⟩ : ∃ s,s = M.sgAt l k:=⟨_,rfl⟩
      rw [<- hs] at c0 c1 c2 c3 c4 g1 g2 g3 g4
      have HS:=hideC hs
      clear hs hl
      obtain ⟨p,n,d,x,y⟩:=s
      simp only at c0 c1 c2 c3 c4 g1 g2 g3 g4
      have hml : d.size <= maxLen:=by unfold maxLen;omega
      have hli : (k : Int) < (l.length : Int):=by omega
      clear g4
      by_cases d1 : p <= a / 16
      · by_cases d2 : a / 16 < p + n
        · have hin : Hid (M.inSeg (M.sgAt l k) a = true):=by show _ = _;rw [<- HS.out];exact decide_eq_true (show p * 16 <= a /\ a < (p + n) * 16 by omega)
          have t0:=B.cell (B.alloc HR.out (.cells #[.int .i64 p,.int .i64 n,.string d,.bool x,.bool y] 145)) 0 rfl
          have t1:=B.cell (B.alloc HR.out (.cells #[.int .i64 p,.int .i64 n,.string d,.bool x,.bool y] 145)) 1 rfl
          have t2:=B.cell (B.alloc HR.out (.cells #[.int .i64 p,.int .i64 n,.string d,.bool x,.bool y] 145)) 2 rfl
          have t3:=B.cell (B.alloc HR.out (.cells #[.int .i64 p,.int .i64 n,.string d,.bool x,.bool y] 145)) 3 rfl
          have t4:=B.cell (B.alloc HR.out (.cells #[.int .i64 p,.int .i64 n,.string d,.bool x,.bool y] 145)) 4 rfl
          have u0:=B.free (B.alloc HR.out (.cells #[.int .i64 p,.int .i64 n,.string d,.bool x,.bool y] 145))
          have HW2:=hideC (hbw.out.alloc hbw.out.size (.cells #[.int .i64 p,.int .i64 n,.string d,.bool x,.bool y] 145))
          go_wp2
          exact bodyPost_ret (v:=.tuple #[.agg #[.int .i64 p,.int .i64 n,.string d,.bool x,.bool y],.bool true]) (by simp [results,Tryz.results199,go_sem,t0,t1,t2,t3,t4]) rfl ⟨ret_seg (a:=⟨p,n,d,x,y⟩) (x:=true) (by unfold segOr;rw [segIn_some l a k hlt HN.out hin.out];exact HS.out) (by unfold M.placedB;rw [segIn_some l a k hlt HN.out hin.out];rfl),(((((HW2.out.setCell (Nat.le_refl _) _).setCell (Nat.le_refl _) _).setCell (Nat.le_refl _) _).setCell (Nat.le_refl _) _).setCell (Nat.le_refl _) _)⟩
        · have hmiss : Hid (M.inSeg (M.sgAt l k) a = false):=by show _ = _;rw [<- HS.out];exact decide_eq_false (show ¬ (p * 16 <= a /\ a < (p + n) * 16) by omega)
          go_wp2
          go_roundw
          case rel=>exact ⟨k + 1,by omega,by go_num,fun j hj=>if e : j = k then by rw [e];exact hmiss.out else HN.out j (by omega),HB.out.alloc (by simpa using hsz) _⟩
          case measure=>simp [intOf];omega
      · have hmiss : Hid (M.inSeg (M.sgAt l k) a = false):=by show _ = _;rw [<- HS.out];exact decide_eq_false (show ¬ (p * 16 <= a /\ a < (p + n) * 16) by omega)
        have d1' : decide (p <= a / 16) = false:=decide_eq_false d1
        go_wp2
        go_roundw
        case rel=>exact ⟨k + 1,by omega,by go_num,fun j hj=>if e : j = k then by rw [e];exact hmiss.out else HN.out j (by omega),HB.out.alloc (by simpa using hsz) _⟩
        case measure=>simp [intOf];omega
    · obtain rfl : k = l.length:=by omega
      have HNo:=hideC (segIn_none l a HN.out)
      have t0:=B.cell HR.out 0 rfl
      have t1:=B.cell HR.out 1 rfl
      have t2:=B.cell HR.out 2 rfl
      have t3:=B.cell HR.out 3 rfl
      have t4:=B.cell HR.out 4 rfl
      have u0:=B.free HR.out
      go_wp2
      exact bodyPost_ret (v:=.tuple #[.agg #[.int .i64 0,.int .i64 0,.string ⟨#[]⟩,.bool false,.bool false],.bool false]) (by simp [results,Tryz.results199,go_sem,t0,t1,t2,t3,t4]) rfl ⟨ret_seg (a:=M.sg0) (x:=false) (by unfold segOr;rw [HNo.out];rfl) (by unfold M.placedB;rw [HNo.out];rfl),(((((hbw.out.setCell (Nat.le_refl _) _).setCell (Nat.le_refl _) _).setCell (Nat.le_refl _) _).setCell (Nat.le_refl _) _).setCell (Nat.le_refl _) _)⟩
theorem placed_bounds {l : List M.Sg} (h : l.all M.rangeB = true) (a : Int) (hp : M.placedB l a = true) : 0 <= a /\ a < 4080:=by
 induction l with
 | nil=>cases hp
 | cons s r ih =>
  have h' : M.rangeB s = true /\ r.all M.rangeB = true:=by simpa using h
  have hs : 0 <= s.page /\ 1 <= s.pages /\ s.page + s.pages <= 255 /\ (s.data.size : Int) <= s.pages * 16:=of_decide_eq_true h'.1
  unfold M.placedB M.segIn at hp
  cases e : M.inSeg s a
  · rw [e,if_neg (by simp)] at hp
    exact ih h'.2 hp
  · have:=of_decide_eq_true e
    omega
end W
end Go.Proofs.YtpgifpeohlllfaaGreat
