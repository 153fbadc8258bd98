import Derived.Test.YtpgifpeohlllfaaGreatGJ12
import Derived.Test.YtpgifpeohlllfaaGreatGJ13
import Derived.Test.YtpgifpeohlllfaaGreatGJ14
import Derived.Test.YtpgifpeohlllfaaGreatGJ10
import Derived.Test.YtpgifpeohlllfaaGreatGJ00
import Derived.Laws.CopyOwn
import Derived.Lib.AppendZerosOnto
import Derived.Lib.Overlaps
import Derived.Laws.Tables
import Derived.Laws.MakeOwn
import Derived.Lib.SliceRun
set_option maxHeartbeats 20000000
set_option linter.unusedVariables false
set_option maxRecDepth 100000
set_option linter.unusedSimpArgs false
namespace Go.Proofs.YtpgifpeohlllfaaGreat
namespace LW
open Go.RowKit
open W (hideC)
theorem zeros_any (w : World) : Calls Tryz.prog 155 #[.string ⟨#[0]⟩,.int .i64 16] w fun e w'=>e = .returned (.string LM.zeros16) /\ Below w.heap.size w w' :=
 Tryz.strings_Repeat_main ⟨#[0]⟩ 16 w (by decide) (by decide) (by decide) (by decide)
set_option maxHeartbeats 2000000 in
theorem pageOf_any (s : M.Sg) (n : Nat) (w : World) (hn : n <= 1000) (hs : s.data.size <= 100000) :
  Calls Tryz.prog 162 #[.agg #[.int .i64 s.page,.int .i64 s.pages,.string s.data,.bool s.wr,.bool s.ex],.int .i64 n] w fun e w'=>e = .returned (.string (LM.pageN s n)) /\ Below w.heap.size w w':=by
 obtain ⟨pg,pn,dt,wr,ex⟩:=s
 simp only at hs
 have hml : dt.size <= maxLen:=by unfold maxLen;omega
 obtain ⟨b,hb⟩ : ∃ b : Nat,b = min (n * 16) dt.size:=⟨_,rfl⟩
 obtain ⟨e,he⟩ : ∃ e : Nat,e = min (b + 16) dt.size:=⟨_,rfl⟩
 have HPN : Hid (LM.pageN ⟨pg,pn,dt,wr,ex⟩ n = CL.over LM.zeros16 0 (dt.extract b e)):=by
  show _ = _
  unfold LM.pageN
  simp only
  rw [<- hb,<- he]
 have hbI : min ((n : Int) * 16) (dt.size : Int) = (b : Int):=by omega
 have heI : min ((b : Int) + 16) (dt.size : Int) = (e : Int):=by omega
 have h1 : b <= e:=by omega
 have h2 : e <= dt.size:=by omega
 have h3 : e <= b + 16:=by omega
 have HLY : Hid (∀ V,Calls Tryz.prog 65 #[.string LM.zeros16,.int .i64 0,.string (dt.extract b e)] V fun e w'=>e = .returned (.tuple #[.string (LM.pageN ⟨pg,pn,dt,wr,ex⟩ n),.int .i64 0]) /\ Below V.heap.size V w'):=fun V=>by
  rw [HPN.out]
  exact CW.lay_yes LM.zeros16 (dt.extract b e) 0 V (by rw [LM.zeros16_size];omega) (by rw [LM.zeros16_size,LM.extract_size _ _ _ h1 h2];omega)
 have BX:=hideC (B.new w #[.int .i64 pg,.int .i64 pn,.string dt,.bool wr,.bool ex] 145)
 have HB:=hideC ((Below.refl w.heap.size w).alloc (Nat.le_refl _) (.cells #[.int .i64 pg,.int .i64 pn,.string dt,.bool wr,.bool ex] 145))
 obtain ⟨W,hW⟩ : ∃ W,W = w.alloc (.cells #[.int .i64 pg,.int .i64 pn,.string dt,.bool wr,.bool ex] 145):=⟨_,rfl⟩
 rw [<- hW] at BX HB
 have HW:=hideC hW
 clear hW hb he
 have hbx:=B.isLt BX.out
 have hkin:=Q.kin_some W
 have hkc:=@Q.cell_kin W
 have e2 : ∀ x : Q.Kin W.heap.size W,x.world.cell? ⟨w.heap.size,2,none⟩ = some (.string dt):=fun x=>by rw [hkc x _ _ hbx];exact B.cell BX.out 2 rfl
 have HZ : Hid (∀ V,Below W.heap.size W V -> Calls Tryz.prog 155 #[.string ⟨#[0]⟩,.int .i64 16] V fun e w'=>e = .returned (.string LM.zeros16) /\ Below V.heap.size V w'):=fun V _=>zeros_any V
 have HL2 : Hid (∀ V,Below W.heap.size W V -> Calls Tryz.prog 65 #[.string LM.zeros16,.int .i64 0,.string (dt.extract b e)] V fun e w'=>e = .returned (.tuple #[.string (LM.pageN ⟨pg,pn,dt,wr,ex⟩ n),.int .i64 0]) /\ Below V.heap.size V w'):=fun V _=>HLY.out V
 clear hkc HLY
 go_enter Tryz.func162,Tryz.ntmps162
 go_wp2
 rw [<- HW.out]
 refine Q.region_kin (by kernel_rfl) (by kernel_rfl) ?_
 repeat (first | go_big_quiet_step ((first | (go_at_call 155;exact calls_kin _ HZ.out) | (go_at_call 65;exact calls_kin _ HL2.out))) | quiet_step ((first | (go_at_call 155;exact calls_kin _ HZ.out) | (go_at_call 65;exact calls_kin _ HL2.out))))
 refine wpQuiet_nil ?_
 intro _ hw'
 obtain ⟨x,hw''⟩:=hw'
 subst hw''
 go_wp2
 go_ret
 exact ⟨rfl,HB.out.trans (x.keeps.mono HB.out.size)⟩
theorem infoFx : (Tryz.prog.info? 52).map (fun i=>(i.zero,i.size,i.bytes)) = some (some (.agg #[.int .i64 0,.string ⟨#[]⟩]),2,24):=by kernel_rfl
set_option maxHeartbeats 3000000 in
theorem fixesOf_any (page : Int) (ps : List LM.Pt) (ao : Option Addr) (cap : Nat) (w : World) (h0 : 0 <= page) (h1 : page <= 3000) (h : LM.HasP w ao ps) (hn : ps.length <= 1000) (hf : ∀ k,k < ps.length -> LM.FitP (LM.ptAt ps k)) :
  Calls Tryz.prog 163 #[.int .i64 page,.slice ao ps.length cap] w fun e w'=>(∃ v,e = .returned v /\ w'.ownsRow w.heap.size 52 2 v (LM.fixesN page ps).length ((LM.fixesN page ps).flatMap LM.cellF)) /\ Below w.heap.size w w':=by
 have HH:=hideC h
 have HF:=hideC hf
 clear h hf
 obtain ⟨i0,hi,hz0,hz1,hz2⟩:=info_parts infoFx
 go_enter Tryz.func163,Tryz.ntmps163
 go_wp2
 go_loopw [17,6] (fun i v wr=>∃ k : Nat,k <= ps.length /\ i = .int .i64 k /\ wr.ownsRow w.heap.size 52 2 v (LM.fixesN page (ps.take k)).length ((LM.fixesN page (ps.take k)).flatMap LM.cellF) /\ Below w.heap.size w wr) (fun i _ _=>ps.length - (intOf i).toNat)
 case atStart=>exact ⟨0,by omega,rfl,World.ownsRow_nil _ _ _ _,Below.refl _ _⟩
 case round =>
  obtain ⟨k,hk,rfl,hown,hb⟩:=hrel
  have HOW:=hideC hown
  have HBr:=hideC hb
  have hsz:=hb.size
  by_cases hlt : k < ps.length
  · obtain ⟨b,off,hao,hbl,hlie⟩:=(HH.out.below hb) (by omega)
    subst hao
    obtain ⟨c0,c1⟩:=hlie k hlt
    obtain ⟨f1,f2,f3⟩:=HF.out k hlt
    have HT : Hid (LM.fixesN page (ps.take (k + 1)) = LM.fixesN page (ps.take k) ++ LM.cutP page (LM.ptAt ps k)):=by
     show _ = _
     rw [LM.take_snoc ps LM.pt0 k hlt,LM.fixesN_snoc]
     rfl
    have hlen:=LM.fixes_len page (ps.take k)
    rw [List.length_take] at hlen
    obtain ⟨G,hG⟩ : ∃ G,G = LM.fixesN page (ps.take k):=⟨_,rfl⟩
    rw [<- hG] at HOW HT hlen
    obtain ⟨p,hp⟩ : ∃ p,p = LM.ptAt ps k:=⟨_,rfl⟩
    rw [<- hp] at c0 c1 f1 f2 f3 HT
    clear hG hp hlie hb hown
    obtain ⟨P,by_⟩:=p
    simp only at c0 c1 f1 f2 f3
    have HBA:=hideC (HBr.out.alloc HBr.out.size (.cells #[.int .i64 P,.string by_] 259))
    have HRA:=hideC ((Below.refl wr.heap.size wr).alloc (Nat.le_refl _) (.cells #[.int .i64 P,.string by_] 259))
    obtain ⟨A,hA⟩ : ∃ A,A = max (page * 16) P:=⟨_,rfl⟩
    obtain ⟨E,hE⟩ : ∃ E,E = min (page * 16 + 16) (P + 8):=⟨_,rfl⟩
    have hAb : page * 16 <= A /\ P <= A /\ A <= 1000000:=by omega
    have hEb : E <= page * 16 + 16 /\ E <= P + 8:=by omega
    have hA' : max (page * 16) P = A:=hA.symm
    have hE' : min (page * 16 + 16) (P + 8) = E:=hE.symm
    have HCUT : Hid (LM.cutP page ⟨P,by_⟩ = if A < E then [⟨A - page * 16,by_.extract (A - P).toNat (A - P + (E - A)).toNat⟩] else []):=by
     show _ = _
     unfold LM.cutP
     simp only
     rw [hA',hE']
    clear hA hE
    by_cases hAE : A < E
    · rw [HCUT.out,if_pos hAE] at HT
      obtain ⟨u,hu⟩ : ∃ u : Nat,A - P = (u : Int):=⟨(A - P).toNat,by omega⟩
      obtain ⟨n,hn⟩ : ∃ n : Nat,E - A = (n : Int):=⟨(E - A).toNat,by omega⟩
      have hun : (A - P + (E - A)).toNat = u + n:=by omega
      have hu2 : (A - P).toNat = u:=by omega
      rw [hun,hu2] at HT
      have HPT : Hid (∀ V,Calls Tryz.prog 63 #[.string by_,.int .i64 (A - P),.int .i64 (E - A)] V fun e w'=>e = .returned (.tuple #[.string (by_.extract u (u + n)),.int .i64 0]) /\ Below V.heap.size V w'):=fun V=>by
       rw [hu,hn]
       exact CW.part_yes by_ u n V (by omega) (by omega)
      obtain ⟨s,hs⟩ : ∃ s,s = by_.extract u (u + n):=⟨_,rfl⟩
      rw [<- hs] at HPT HT
      clear hu hn hun hu2 hs HCUT
      have hAE' : ¬ E <= A:=by omega
      go_wp2_with (first
       | (go_at_call 63;refine (HPT.out _).mono ?_;rintro e w1 ⟨rfl,hb⟩;have HB1:=hideC (HBA.out.trans (hb.mono HBA.out.size));have HOW1:=hideC ((row_grown HOW.out (HRA.out.trans (hb.mono HRA.out.size))).alloc (.cells #[.int .i64 (A - page * 16),.string s] 52));have hrow1:=HOW1.out.lt;have HN1:=hideC (B.new w1 #[.int .i64 (A - page * 16),.string s] 52);have BP:=hideC (B.below (B.new wr #[.int .i64 P,.string by_] 259) hb (by simp));have y0:=B.cell BP.out 0 rfl;have y1:=B.cell BP.out 1 rfl;clear hb)
       | (at_builtin;refine wpList_append_lies _ rfl _ _ 48 rfl w.heap.size 52 i0 (.agg #[.int .i64 0,.string ⟨#[]⟩]) 2 24 Tryz.underlying48 hi hz0 hz1 hz2 rfl (by decide) _ _ _ rfl HOW1.out ⟨w1.heap.size,0,none⟩ 1 1 [.int .i64 (A - page * 16),.string s] rfl rfl (B.news HN1.out) (by intro u hu;simp at hu;rcases hu with rfl | rfl <;> rfl) (by decide) (by unfold maxLen;omega) (by omega) (by have:=HB1.out.size;simp;omega) (w1.heap.size + 1) (by simp) ?_;intro gg capg w2 hown2 hgrow hatt hlt2;have HOW2:=hideC hown2;have HB2:=hideC ((HB1.out.alloc HB1.out.size (.cells #[.int .i64 (A - page * 16),.string s] 52)).grown hgrow (by have:=HB1.out.size;simp;omega) (fun q hq=>(hrow1 _ hq).1));clear hown2 hgrow hatt))
      go_roundw
      case rel=>exact ⟨k + 1,by omega,by go_num,by rw [HT.out,List.length_append,List.flatMap_append];exact HOW2.out,HB2.out⟩
      case measure=>simp [intOf];omega
    · rw [HCUT.out,if_neg hAE,List.append_nil] at HT
      have hAE' : E <= A:=by omega
      clear HCUT
      go_wp2
      go_roundw
      case rel=>exact ⟨k + 1,by omega,by go_num,by rw [HT.out];exact HOW.out.alloc _,HBA.out⟩
      case measure=>simp [intOf];omega
  · obtain rfl : k = ps.length:=by omega
    rw [List.take_length] at HOW
    clear hown hb
    go_wp2
    go_ret
    exact ⟨⟨_,rfl,HOW.out⟩,HBr.out⟩
end LW
namespace KW
open Go.RowKit GK
open FW (hideC add_below)
theorem empty_ba (d : ByteArray) : d.toList.isEmpty = decide (d.size = 0):=by
 rw [Go.ByteArray.toList_eq]
 obtain ⟨⟨l⟩⟩:=d
 cases l with
 | nil=>rfl
 | cons a r=>rfl
theorem tl_nil (d : ByteArray) : (d.toList = []) = (d.size = 0):=by
 rw [Go.ByteArray.toList_eq]
 obtain ⟨⟨l⟩⟩:=d
 cases l with
 | nil=>simp [ByteArray.size]
 | cons a r=>simp [ByteArray.size]
set_option maxHeartbeats 4000000 in
theorem isZero_any (f : KM.Fr) (w : World) : Calls Tryz.prog 168 #[.agg #[.string f.data,.int .i64 f.refs,.bool f.dirty,.bool f.seen]] w fun e w'=>e = .returned (.bool (KM.isZ f)) /\ Below w.heap.size w w':=by
 obtain ⟨d,r,dy,sn⟩:=f
 unfold KM.isZ
 simp only
 obtain ⟨A,hA⟩ : ∃ A,A = decide (d.size = 0 /\ r = 0 /\ dy = false /\ sn = false):=⟨_,rfl⟩
 rw [<- hA]
 have HA:=hideC hA
 clear hA
 go_enter Tryz.func168,Tryz.ntmps168
 go_wp2
 all_goals
  go_ret
  refine ⟨congrArg (fun b=>Ending.returned (.bool b)) ?_,(Below.refl _ _).alloc (Nat.le_refl _) _⟩
  rw [HA.out]
  clear HA
  simp_all [tl_nil]
theorem zero_eq : LM.zeros16 = KM.zero16:=by decide
set_option maxHeartbeats 4000000 in
theorem fill_any (hs : List LM.Sh) (p : Int) (z : Bool) (mb : Nat) (w : World) (hfl : ∀ n : Nat,n < 256 -> w.cell? ⟨mb,5 + n,none⟩ = some (.string (KM.filled hs n))) (hp : 0 <= p /\ p < 256) :
  Calls Tryz.prog 119 #[.pointer (some ⟨mb,0,none⟩),.int .i64 p,.bool z] w fun e w'=>e = .returned (.string (KM.fillK hs p z)) /\ Below w.heap.size w w':=by
 have HZ : Hid (∀ V,Calls Tryz.prog 155 #[.string ⟨#[0]⟩,.int .i64 16] V fun e w'=>e = .returned (.string KM.zero16) /\ Below V.heap.size V w'):=fun V=>by rw [<- zero_eq];exact LW.zeros_any V
 cases z with
 | true =>
  have HF : Hid (KM.fillK hs p true = KM.zero16):=rfl
  rw [HF.out]
  clear hfl
  obtain ⟨Z,hZ⟩ : ∃ Z,Z = KM.zero16:=⟨_,rfl⟩
  rw [<- hZ] at HZ ⊢
  clear hZ HF
  go_enter Tryz.func119,Tryz.ntmps119
  go_wp2_with (go_at_call 155;refine (HZ.out _).mono ?_;rintro e w1 ⟨rfl,hb1⟩;have HB1:=hideC hb1;clear hb1)
  go_ret
  exact ⟨rfl,HB1.out⟩
 | false =>
  obtain ⟨n,rfl⟩ : ∃ n : Nat,p = (n : Int):=⟨p.toNat,by omega⟩
  have q:=hfl n (by omega)
  have HF : Hid (KM.fillK hs (n : Int) false = KM.filled hs n):=rfl
  rw [HF.out]
  obtain ⟨D,hD⟩ : ∃ D,D = KM.filled hs (n : Int):=⟨_,rfl⟩
  rw [<- hD] at q ⊢
  have n0:=hp.1
  have n1:=hp.2
  clear hD HF hfl HZ
  go_enter Tryz.func119,Tryz.ntmps119
  go_wp2
  go_ret
  exact ⟨rfl,Below.refl _ _⟩
theorem kinC {P : Program} {f : FuncId} {args : Array Value} {v : Value} {w : World} (x : Q.Kin w.heap.size w) (h : ∀ W,Below w.heap.size w W -> Calls P f args W fun e w'=>e = .returned v /\ Below W.heap.size W w') :
  Calls P f args x.world fun e w''=>e = .returned v /\ ∃ y : Q.Kin w.heap.size w,w'' = y.world :=
 (h x.world x.keeps).mono fun e w'' ⟨he,hb⟩=>⟨he,⟨w'',x.keeps.trans (hb.mono x.keeps.size)⟩,rfl⟩
theorem ba_eq (x y : ByteArray) : (x.toList == y.toList) = decide (x = y):=by
 rw [Go.ByteArray.toList_eq,Go.ByteArray.toList_eq]
 by_cases c : x = y
 · rw [decide_eq_true c,c];exact beq_self_eq_true _
 · rw [decide_eq_false c,beq_eq_false_iff_ne]
   exact fun e=>c (by cases x;cases y;congr 1;exact Array.toList_inj.1 e)
set_option maxHeartbeats 8000000 in
theorem rightFrame_any (hs : List LM.Sh) (f : KM.Fr) (u : KM.Us) (mb : Nat) (w : World) (hmb : mb < w.heap.size) (hfl : ∀ n : Nat,n < 256 -> w.cell? ⟨mb,5 + n,none⟩ = some (.string (KM.filled hs n))) (hp : u.refs ≠ 0 -> 0 <= u.page /\ u.page < 256) (hd : M.Short f.data.size) :
  Calls Tryz.prog 151 #[.pointer (some ⟨mb,0,none⟩),.agg #[.string f.data,.int .i64 f.refs,.bool f.dirty,.bool f.seen],.agg #[.int .i64 u.refs,.int .i64 u.page,.bool u.zero]] w fun e w'=>e = .returned (.bool (KM.rightFr hs f u)) /\ Below w.heap.size w w':=by
 obtain ⟨A,hA⟩ : ∃ A,A = KM.rightFr hs f u:=⟨_,rfl⟩
 rw [<- hA]
 unfold KM.rightFr at hA
 have HA:=hideC hA
 have HIZ:=hideC (fun V=>isZero_any f V)
 obtain ⟨IZ,hIZ⟩ : ∃ IZ,IZ = KM.isZ f:=⟨_,rfl⟩
 rw [<- hIZ] at HA HIZ
 clear hIZ
 obtain ⟨d,r,dy,sn⟩:=f
 obtain ⟨ur,up,uz⟩:=u
 simp only at HA HIZ hp hd ⊢
 unfold M.Short at hd
 have HB:=hideC (((Below.refl w.heap.size w).alloc (Nat.le_refl _) (.cells #[.string d,.int .i64 r,.bool dy,.bool sn] 40)).alloc (by simp) (.cells #[.int .i64 ur,.int .i64 up,.bool uz] 211))
 have HFL:=hideC hfl
 clear hA hfl
 by_cases c : ur = 0
 · subst c
   rw [if_pos rfl] at HA
   go_enter Tryz.func151,Tryz.ntmps151
   go_wp2_with (go_at_call 168;refine (HIZ.out _).mono ?_;rintro e w1 ⟨rfl,hb1⟩;have HB1:=hideC (add_below HB.out hb1);clear hb1)
   go_ret
   exact ⟨congrArg (fun b=>Ending.returned (.bool b)) HA.out.symm,HB1.out⟩
 · rw [if_neg c] at HA
   have cb : (ur == 0) = false:=by simpa using c
   have hpp:=hp c
   clear HIZ hp
   by_cases c1 : r = ur
   · have c1b : (r != ur) = false:=by simpa using c1
     by_cases c2 : d.size = 16
     · have c2i : ((d.size : Int) != 16) = false:=by rw [bne_eq_false_iff_eq];omega
       have HA2 : Hid (A = (dy || decide (d = KM.fillK hs up uz))):=by show _ = _;rw [HA.out,decide_eq_true ⟨c1,c2⟩,Bool.true_and]
       have HFI : Hid (∀ V,Below w.heap.size w V -> Calls Tryz.prog 119 #[.pointer (some ⟨mb,0,none⟩),.int .i64 up,.bool uz] V fun e w'=>e = .returned (.string (KM.fillK hs up uz)) /\ Below V.heap.size V w'):=fun V hV=>fill_any hs up uz mb V (fun n hn=>(hV.cell (p:=⟨mb,5 + n,none⟩) hmb).trans (HFL.out n hn)) hpp
       obtain ⟨FK,hFK⟩ : ∃ FK,FK = KM.fillK hs up uz:=⟨_,rfl⟩
       rw [<- hFK] at HA2 HFI
       have BF:=hideC (B.alloc (B.new w #[.string d,.int .i64 r,.bool dy,.bool sn] 40) (.cells #[.int .i64 ur,.int .i64 up,.bool uz] 211))
       have BU:=hideC (B.new (w.alloc (.cells #[.string d,.int .i64 r,.bool dy,.bool sn] 40)) #[.int .i64 ur,.int .i64 up,.bool uz] 211)
       rw [World.size_alloc] at BU
       clear hFK HA c c1 c2
       go_enter Tryz.func151,Tryz.ntmps151
       go_wp2_with fail
       obtain ⟨W,hW⟩ : ∃ W,W = (w.alloc (.cells #[.string d,.int .i64 r,.bool dy,.bool sn] 40)).alloc (.cells #[.int .i64 ur,.int .i64 up,.bool uz] 211):=⟨_,rfl⟩
       rw [<- hW] at HB BF BU ⊢
       have hkin:=Q.kin_some W
       have k0 : ∀ x : Q.Kin W.heap.size W,x.world.cell? ⟨w.heap.size,0,none⟩ = some (.string d):=fun x=>by rw [Q.cell_kin x _ _ (B.isLt BF.out)];exact B.cell BF.out 0 rfl
       have k2 : ∀ x : Q.Kin W.heap.size W,x.world.cell? ⟨w.heap.size,2,none⟩ = some (.bool dy):=fun x=>by rw [Q.cell_kin x _ _ (B.isLt BF.out)];exact B.cell BF.out 2 rfl
       have l1 : ∀ x : Q.Kin W.heap.size W,x.world.cell? ⟨w.heap.size + 1,1,none⟩ = some (.int .i64 up):=fun x=>by rw [Q.cell_kin x _ _ (B.isLt BU.out)];exact B.cell BU.out 1 rfl
       have l2 : ∀ x : Q.Kin W.heap.size W,x.world.cell? ⟨w.heap.size + 1,2,none⟩ = some (.bool uz):=fun x=>by rw [Q.cell_kin x _ _ (B.isLt BU.out)];exact B.cell BU.out 2 rfl
       have HFI2:=hideC (fun V (hV : Below W.heap.size W V)=>HFI.out V (HB.out.trans (hV.mono HB.out.size)))
       clear hW HFI BF BU
       cases dy with
       | true =>
        have HA3 : Hid (A = true):=HA2
        clear HA2
        refine Q.region_kin (by kernel_rfl) (by kernel_rfl) ?_
        repeat (first | go_big_quiet_step (fail) | quiet_step (fail))
        refine wpQuiet_nil ?_
        rintro _ ⟨x,rfl⟩
        go_wp2
        go_ret
        exact ⟨congrArg (fun b=>Ending.returned (.bool b)) HA3.out.symm,HB.out.trans (x.keeps.mono HB.out.size)⟩
       | false =>
        have HA3 : Hid (A = (d.toList == FK.toList)):=by show _ = _;rw [HA2.out,ba_eq];rfl
        clear HA2
        refine Q.region_kin (by kernel_rfl) (by kernel_rfl) ?_
        repeat (first | go_big_quiet_step ((go_at_call 119;exact kinC _ HFI2.out)) | quiet_step ((go_at_call 119;exact kinC _ HFI2.out)))
        refine wpQuiet_nil ?_
        rintro _ ⟨x,rfl⟩
        go_wp2
        go_ret
        exact ⟨congrArg (fun b=>Ending.returned (.bool b)) HA3.out.symm,HB.out.trans (x.keeps.mono HB.out.size)⟩
     · have c2i : ((d.size : Int) != 16) = true:=by rw [bne_iff_ne];omega
       have HA2 : Hid (A = false):=by show _ = _;rw [HA.out,decide_eq_false (fun g=>c2 g.2),Bool.false_and]
       clear HA c c1 c2
       go_enter Tryz.func151,Tryz.ntmps151
       go_wp2
       go_ret
       exact ⟨congrArg (fun b=>Ending.returned (.bool b)) HA2.out.symm,HB.out⟩
   · have c1b : (r != ur) = true:=by simpa using c1
     have HA2 : Hid (A = false):=by show _ = _;rw [HA.out,decide_eq_false (fun g=>c1 g.1),Bool.false_and]
     clear HA c c1
     go_enter Tryz.func151,Tryz.ntmps151
     go_wp2
     go_ret
     exact ⟨congrArg (fun b=>Ending.returned (.bool b)) HA2.out.symm,HB.out⟩
theorem all_no {n : Nat} {p : Nat -> Bool} {i : Nat} (hi : i < n) (h : p i = false) : (List.range n).all p = false:=by
 cases q : (List.range n).all p with
 | false=>rfl
 | true=>rw [List.all_eq_true] at q;rw [q i (List.mem_range.2 hi)] at h;cases h
theorem all_yes {n : Nat} {p : Nat -> Bool} (h : ∀ i,i < n -> p i = true) : (List.range n).all p = true:=by
 rw [List.all_eq_true];exact fun i hi=>h i (List.mem_range.1 hi)
set_option maxHeartbeats 8000000 in
theorem rightFrames_any (hs : List LM.Sh) (fs : List KM.Fr) (us : List KM.Us) (aF : Option Addr) (cF mb lo g cap : Nat) (w : World) (hF : HasRow cellFr 4 KM.fr0 w aF fs) (hU : OwnU lo w g fs.length cap us) (hmb : mb < w.heap.size) (hm1 : w.cell? ⟨mb,1,none⟩ = some (.slice aF fs.length cF)) (hfl : ∀ n : Nat,n < 256 -> w.cell? ⟨mb,5 + n,none⟩ = some (.string (KM.filled hs n))) (hp : ∀ i,i < fs.length -> (KM.usAt us i).refs ≠ 0 -> 0 <= (KM.usAt us i).page /\ (KM.usAt us i).page < 256) (hd : ∀ i,i < fs.length -> M.Short (KM.frAt fs i).data.size) (hn : fs.length <= 64) :
  Calls Tryz.prog 113 #[.pointer (some ⟨mb,0,none⟩),.slice (some ⟨g,0,none⟩) fs.length cap] w fun e w'=>e = .returned (.bool ((List.range fs.length).all fun i=>KM.rightFr hs (KM.frAt fs i) (KM.usAt us i))) /\ Below w.heap.size w w':=by
 have HH:=hideC hF
 have HU:=hideC hU
 have hg:=hU.lt.2
 have HRF : Hid (∀ i,i < fs.length -> ∀ V,Below w.heap.size w V -> Calls Tryz.prog 151 #[.pointer (some ⟨mb,0,none⟩),.agg #[.string (KM.frAt fs i).data,.int .i64 (KM.frAt fs i).refs,.bool (KM.frAt fs i).dirty,.bool (KM.frAt fs i).seen],.agg #[.int .i64 (KM.usAt us i).refs,.int .i64 (KM.usAt us i).page,.bool (KM.usAt us i).zero]] V fun e w'=>e = .returned (.bool (KM.rightFr hs (KM.frAt fs i) (KM.usAt us i))) /\ Below V.heap.size V w'):=fun i hi V hV=>rightFrame_any hs _ _ mb V (Nat.lt_of_lt_of_le hmb hV.size) (fun n hn=>(hV.cell (p:=⟨mb,5 + n,none⟩) hmb).trans (hfl n hn)) (hp i hi) (hd i hi)
 have HNO:=hideC (fun i (hi : i < fs.length)=>@all_no fs.length (fun i=>KM.rightFr hs (KM.frAt fs i) (KM.usAt us i)) i hi)
 have HYES:=hideC (@all_yes fs.length (fun i=>KM.rightFr hs (KM.frAt fs i) (KM.usAt us i)))
 obtain ⟨A,hA⟩ : ∃ A,A = (List.range fs.length).all fun i=>KM.rightFr hs (KM.frAt fs i) (KM.usAt us i):=⟨_,rfl⟩
 rw [<- hA] at HNO HYES ⊢
 obtain ⟨n,hnn⟩ : ∃ n,n = fs.length:=⟨_,rfl⟩
 rw [<- hnn] at HU HRF HNO HYES hm1 hn ⊢
 have HNN:=hideC hnn
 clear hF hU hfl hp hd hA hnn
 go_enter Tryz.func113,Tryz.ntmps113
 go_wp2
 go_loopw [13] (fun iv wr=>∃ k : Nat,k <= n /\ iv = .int .i64 (k : Int) /\ Below w.heap.size w wr /\ ∀ i,i < k -> KM.rightFr hs (KM.frAt fs i) (KM.usAt us i) = true) (fun iv _=>n - (intOf iv).toNat)
 case atStart=>exact ⟨0,by omega,rfl,Below.refl _ _,fun i hi=>by omega⟩
 case round =>
  obtain ⟨k,hk,rfl,hb,hpast⟩:=hrel
  have HB:=hideC hb
  have HP:=hideC hpast
  clear hpast
  by_cases hlt : k < n
  · obtain ⟨fb,fo,hao,hbl,hlie⟩:=HH.out (by rw [<- HNN.out];omega)
    subst hao
    have ce : ∀ j,j < 4 -> wr.cell? ⟨fb,fo + k * 4 + j,none⟩ = (cellFr (KM.frAt fs k))[j]?:=fun j hj=>(hb.cell (p:=⟨fb,fo + k * 4 + j,none⟩) hbl).trans (hlie k (by rw [<- HNN.out];exact hlt) j hj)
    have y0:=ce 0 (by omega)
    have y1:=ce 1 (by omega)
    have y2:=ce 2 (by omega)
    have y3:=ce 3 (by omega)
    rw [Nat.add_zero] at y0
    obtain ⟨z0,z1,z2⟩:=HU.out.at k hlt
    have HRF:=hideC (HRF.out k hlt)
    have HNO:=hideC (HNO.out k hlt)
    have HP2 : Hid (KM.rightFr hs (KM.frAt fs k) (KM.usAt us k) = true -> ∀ i,i < k + 1 -> KM.rightFr hs (KM.frAt fs i) (KM.usAt us i) = true):=fun g i hi=>by
     by_cases e : i = k
     · rw [e];exact g
     · exact HP.out i (by omega)
    obtain ⟨R,hR⟩ : ∃ R,R = KM.rightFr hs (KM.frAt fs k) (KM.usAt us k):=⟨_,rfl⟩
    have HNO : Hid (R = false -> A = false):=fun g=>HNO.out (by rw [<- hR];exact g)
    rw [<- hR] at HRF HP2
    obtain ⟨f,hf⟩ : ∃ f,f = KM.frAt fs k:=⟨_,rfl⟩
    obtain ⟨u,hu⟩ : ∃ u,u = KM.usAt us k:=⟨_,rfl⟩
    rw [<- hf] at HRF y0 y1 y2 y3
    rw [<- hu] at HRF z0 z1 z2
    obtain ⟨d,r,dy,sn⟩:=f
    obtain ⟨ur,up,uz⟩:=u
    simp only at HRF z0 z1 z2
    have x0 : wr.cell? ⟨fb,fo + k * 4,none⟩ = some (.string d):=y0
    have x1 : wr.cell? ⟨fb,fo + k * 4 + 1,none⟩ = some (.int .i64 r):=y1
    have x2 : wr.cell? ⟨fb,fo + k * 4 + 2,none⟩ = some (.bool dy):=y2
    have x3 : wr.cell? ⟨fb,fo + k * 4 + 3,none⟩ = some (.bool sn):=y3
    have hbsz:=hb.size
    have hfb : ¬ fb = wr.heap.size:=by omega
    have HBA:=hideC (HB.out.alloc HB.out.size (.cells #[.string d,.int .i64 r,.bool dy,.bool sn] 40))
    have BF:=hideC (B.new wr #[.string d,.int .i64 r,.bool dy,.bool sn] 40)
    clear hR hf hu y0 y1 y2 y3 ce hlie hb HYES
    go_wp2_with fail
    obtain ⟨W,hW⟩ : ∃ W,W = wr.alloc (.cells #[.string d,.int .i64 r,.bool dy,.bool sn] 40):=⟨_,rfl⟩
    rw [<- hW] at HBA BF ⊢
    obtain ⟨sb,hsb⟩ : ∃ sb,sb = wr.heap.size:=⟨_,rfl⟩
    rw [<- hsb] at BF ⊢
    clear hW hsb x0 x1 x2 x3 hfb
    have hkin:=Q.kin_some W
    have k0 : ∀ x : Q.Kin W.heap.size W,x.world.cell? ⟨sb,0,none⟩ = some (.string d):=fun x=>by rw [Q.cell_kin x _ _ (B.isLt BF.out)];exact B.cell BF.out 0 rfl
    have k1 : ∀ x : Q.Kin W.heap.size W,x.world.cell? ⟨sb,1,none⟩ = some (.int .i64 r):=fun x=>by rw [Q.cell_kin x _ _ (B.isLt BF.out)];exact B.cell BF.out 1 rfl
    have k2 : ∀ x : Q.Kin W.heap.size W,x.world.cell? ⟨sb,2,none⟩ = some (.bool dy):=fun x=>by rw [Q.cell_kin x _ _ (B.isLt BF.out)];exact B.cell BF.out 2 rfl
    have k3 : ∀ x : Q.Kin W.heap.size W,x.world.cell? ⟨sb,3,none⟩ = some (.bool sn):=fun x=>by rw [Q.cell_kin x _ _ (B.isLt BF.out)];exact B.cell BF.out 3 rfl
    have hgW : g < W.heap.size:=by have:=HBA.out.size;omega
    have l0 : ∀ x : Q.Kin W.heap.size W,x.world.cell? ⟨g,k * 3,none⟩ = some (.int .i64 ur):=fun x=>by rw [Q.cell_kin x _ _ hgW];exact (HBA.out.cell (p:=⟨g,k * 3,none⟩) hg).trans z0
    have l1 : ∀ x : Q.Kin W.heap.size W,x.world.cell? ⟨g,k * 3 + 1,none⟩ = some (.int .i64 up):=fun x=>by rw [Q.cell_kin x _ _ hgW];exact (HBA.out.cell (p:=⟨g,k * 3 + 1,none⟩) hg).trans z1
    have l2 : ∀ x : Q.Kin W.heap.size W,x.world.cell? ⟨g,k * 3 + 2,none⟩ = some (.bool uz):=fun x=>by rw [Q.cell_kin x _ _ hgW];exact (HBA.out.cell (p:=⟨g,k * 3 + 2,none⟩) hg).trans z2
    have HRF2:=hideC (fun V (hV : Below W.heap.size W V)=>HRF.out V (HBA.out.trans (hV.mono HBA.out.size)))
    have kk0 : (0 : Int) <= (k : Int):=by omega
    have kk1 : (k : Int) < (n : Int):=by omega
    clear HRF BF z0 z1 z2
    refine Q.region_kin (by kernel_rfl) (by kernel_rfl) ?_
    repeat (first | go_big_quiet_step ((go_at_call 151;exact kinC _ HRF2.out)) | quiet_step ((go_at_call 151;exact kinC _ HRF2.out)))
    refine wpQuiet_nil ?_
    rintro _ ⟨x,rfl⟩
    have HBX:=hideC (HBA.out.trans (x.keeps.mono HBA.out.size))
    clear k0 k1 k2 k3 l0 l1 l2 HRF2
    cases R with
    | false =>
     have HA:=hideC (HNO.out rfl)
     go_wp2
     go_ret
     exact ⟨congrArg (fun b=>Ending.returned (.bool b)) HA.out.symm,HBX.out⟩
    | true =>
     have HP3:=hideC (HP2.out rfl)
     clear HP2 HNO
     go_wp2
     go_roundw
     case rel=>exact ⟨k + 1,by omega,by go_num,HBX.out,HP3.out⟩
     case measure=>simp [intOf];omega
  · obtain rfl : k = n:=by omega
    have HA:=hideC (HYES.out HP.out)
    clear hb
    go_wp2
    go_ret
    exact ⟨congrArg (fun b=>Ending.returned (.bool b)) HA.out.symm,HB.out⟩
set_option maxHeartbeats 8000000 in
theorem rightSlots_any (fs : List KM.Sl) (us : List KM.Us) (aF : Option Addr) (cF mb lo g cap : Nat) (w : World) (hF : HasRow cellSl 2 KM.sl0 w aF fs) (hU : OwnU lo w g fs.length cap us) (hm1 : w.cell? ⟨mb,2,none⟩ = some (.slice aF fs.length cF)) (hr : ∀ i,i < fs.length -> 0 <= (KM.usAt us i).refs) (hd : ∀ i,i < fs.length -> M.Short (KM.slAt fs i).data.size) (hn : fs.length <= 512) :
  Calls Tryz.prog 114 #[.pointer (some ⟨mb,0,none⟩),.slice (some ⟨g,0,none⟩) fs.length cap] w fun e w'=>e = .returned (.bool ((List.range fs.length).all fun i=>KM.rightSl (KM.slAt fs i) (KM.usAt us i))) /\ Below w.heap.size w w':=by
 have HH:=hideC hF
 have HU:=hideC hU
 have hg:=hU.lt.2
 have HNO:=hideC (fun i (hi : i < fs.length)=>@all_no fs.length (fun i=>KM.rightSl (KM.slAt fs i) (KM.usAt us i)) i hi)
 have HYES:=hideC (@all_yes fs.length (fun i=>KM.rightSl (KM.slAt fs i) (KM.usAt us i)))
 have HR:=hideC hr
 have HD:=hideC hd
 obtain ⟨A,hA⟩ : ∃ A,A = (List.range fs.length).all fun i=>KM.rightSl (KM.slAt fs i) (KM.usAt us i):=⟨_,rfl⟩
 rw [<- hA] at HNO HYES ⊢
 obtain ⟨n,hnn⟩ : ∃ n,n = fs.length:=⟨_,rfl⟩
 rw [<- hnn] at HU HNO HYES HR HD hm1 hn ⊢
 have HNN:=hideC hnn
 clear hF hU hr hd hA hnn
 go_enter Tryz.func114,Tryz.ntmps114
 go_wp2
 go_loopw [14] (fun iv wr=>∃ k : Nat,k <= n /\ iv = .int .i64 (k : Int) /\ Below w.heap.size w wr /\ ∀ i,i < k -> KM.rightSl (KM.slAt fs i) (KM.usAt us i) = true) (fun iv _=>n - (intOf iv).toNat)
 case atStart=>exact ⟨0,by omega,rfl,Below.refl _ _,fun i hi=>by omega⟩
 case round =>
  obtain ⟨k,hk,rfl,hb,hpast⟩:=hrel
  have HB:=hideC hb
  have HP:=hideC hpast
  clear hpast
  by_cases hlt : k < n
  · obtain ⟨fb,fo,hao,hbl,hlie⟩:=HH.out (by rw [<- HNN.out];omega)
    subst hao
    have ce : ∀ j,j < 2 -> wr.cell? ⟨fb,fo + k * 2 + j,none⟩ = (cellSl (KM.slAt fs k))[j]?:=fun j hj=>(hb.cell (p:=⟨fb,fo + k * 2 + j,none⟩) hbl).trans (hlie k (by rw [<- HNN.out];exact hlt) j hj)
    have y0:=ce 0 (by omega)
    have y1:=ce 1 (by omega)
    rw [Nat.add_zero] at y0
    obtain ⟨a0,_,_⟩:=HU.out.at k hlt
    have z0:=(hb.cell (p:=⟨g,k * 3,none⟩) hg).trans a0
    have hrk:=HR.out k hlt
    have hdk:=HD.out k hlt
    unfold M.Short at hdk
    have HNO:=hideC (HNO.out k hlt)
    have HP2 : Hid (KM.rightSl (KM.slAt fs k) (KM.usAt us k) = true -> ∀ i,i < k + 1 -> KM.rightSl (KM.slAt fs i) (KM.usAt us i) = true):=fun g i hi=>by
     by_cases e : i = k
     · rw [e];exact g
     · exact HP.out i (by omega)
    unfold KM.rightSl KM.isZS at HNO HP2
    obtain ⟨f,hf⟩ : ∃ f,f = KM.slAt fs k:=⟨_,rfl⟩
    obtain ⟨u,hu⟩ : ∃ u,u = KM.usAt us k:=⟨_,rfl⟩
    have HP3 : Hid ((if u.refs = 0 then decide (f.data.size = 0 /\ f.refs = 0) else decide (f.refs = u.refs /\ f.data.size = 16)) = true -> ∀ i,i < k + 1 -> KM.rightSl (KM.slAt fs i) (KM.usAt us i) = true):=by rw [hf,hu];exact HP2
    have HNO2 : Hid ((if u.refs = 0 then decide (f.data.size = 0 /\ f.refs = 0) else decide (f.refs = u.refs /\ f.data.size = 16)) = false -> A = false):=by rw [hf,hu];exact HNO
    rw [<- hf] at y0 y1 hdk
    rw [<- hu] at z0 hrk
    obtain ⟨d,r⟩:=f
    obtain ⟨ur,up,uz⟩:=u
    simp only at HP3 HNO2 z0 hrk hdk
    have x0 : wr.cell? ⟨fb,fo + k * 2,none⟩ = some (.string d):=y0
    have x1 : wr.cell? ⟨fb,fo + k * 2 + 1,none⟩ = some (.int .i64 r):=y1
    have hbsz:=hb.size
    have hfb : ¬ fb = wr.heap.size:=by omega
    have hgb : ¬ g = wr.heap.size:=by omega
    have HBA:=hideC (HB.out.alloc HB.out.size (.cells #[.string d,.int .i64 r] 86))
    have kk0 : (0 : Int) <= (k : Int):=by omega
    have kk1 : (k : Int) < (n : Int):=by omega
    have zA : (wr.alloc (.cells #[.string d,.int .i64 r] 86)).cell? ⟨g,k * 3,none⟩ = some (.int .i64 ur):=(Below.cell ((Below.refl wr.heap.size wr).alloc (Nat.le_refl _) _) (p:=⟨g,k * 3,none⟩) (by show g < _;omega)).trans z0
    clear hf hu y0 y1 ce hlie hb HYES HP2 HNO a0
    by_cases c : ur = 0
    · subst c
      rw [if_pos rfl] at HP3 HNO2
      rcases (show (d.toList = [] /\ r = 0) ∨ (d.toList = [] /\ ¬ r = 0) ∨ ¬ d.toList = [] by
       by_cases a : d.toList = []
       · by_cases b : r = 0
         · exact .inl ⟨a,b⟩
         · exact .inr (.inl ⟨a,b⟩)
       · exact .inr (.inr a)) with ⟨g1,g2⟩ | ⟨g1,g2⟩ | g1
      · have HP4:=hideC (HP3.out (by rw [tl_nil] at g1;exact decide_eq_true ⟨g1,g2⟩))
        subst g2
        clear HP3 HNO2
        go_wp2
        go_roundw
        case rel=>exact ⟨k + 1,by omega,by go_num,HBA.out,HP4.out⟩
        case measure=>simp [intOf];omega
      · have HA:=hideC (HNO2.out (decide_eq_false (fun x=>g2 x.2)))
        clear HP3 HNO2
        go_wp2
        go_ret
        exact ⟨congrArg (fun b=>Ending.returned (.bool b)) HA.out.symm,HBA.out⟩
      · have HA:=hideC (HNO2.out (decide_eq_false (fun x=>g1 (by rw [tl_nil];exact x.1))))
        clear HP3 HNO2
        go_wp2
        go_ret
        exact ⟨congrArg (fun b=>Ending.returned (.bool b)) HA.out.symm,HBA.out⟩
    · rw [if_neg c] at HP3 HNO2
      have cb : (ur == 0) = false:=by simpa using c
      have cp : 0 < ur:=by omega
      rcases (show (r = ur /\ d.size = 16) ∨ (r = ur /\ ¬ d.size = 16) ∨ ¬ r = ur by omega) with ⟨g1,g2⟩ | ⟨g1,g2⟩ | g1
      · have HP4:=hideC (HP3.out (decide_eq_true ⟨g1,g2⟩))
        have b1 : (r != ur) = false:=by simpa using g1
        have b2 : ((d.size : Int) != 16) = false:=by rw [bne_eq_false_iff_eq];omega
        clear HP3 HNO2 g1 g2 c
        go_wp2
        go_roundw
        case rel=>exact ⟨k + 1,by omega,by go_num,HBA.out,HP4.out⟩
        case measure=>simp [intOf];omega
      · have HA:=hideC (HNO2.out (decide_eq_false (fun x=>g2 x.2)))
        have b1 : (r != ur) = false:=by simpa using g1
        have b2 : ((d.size : Int) != 16) = true:=by rw [bne_iff_ne];omega
        clear HP3 HNO2 g1 g2 c
        go_wp2
        go_ret
        exact ⟨congrArg (fun b=>Ending.returned (.bool b)) HA.out.symm,HBA.out⟩
      · have HA:=hideC (HNO2.out (decide_eq_false (fun x=>g1 x.1)))
        have b1 : (r != ur) = true:=by simpa using g1
        clear HP3 HNO2 g1 c
        go_wp2
        go_ret
        exact ⟨congrArg (fun b=>Ending.returned (.bool b)) HA.out.symm,HBA.out⟩
  · obtain rfl : k = n:=by omega
    have HA:=hideC (HYES.out HP.out)
    clear hb
    go_wp2
    go_ret
    exact ⟨congrArg (fun b=>Ending.returned (.bool b)) HA.out.symm,HB.out⟩
end KW
namespace GK
open Go.RowKit
theorem run_copy_rows {P : Program} (w : World) (dT sT ty elem : TypeId) (size : Nat) (hu : P.underlying dT = some (.slice elem)) (hsz : ∀ w,(sizeOf elem).run P w = .ok size w) (g off dLen dCap : Nat) (sp : Option Addr) (sLen sCap : Nat)
  (cur : List Value) (t : TypeId) (hg : w.heap[g]? = some (.cells cur.toArray t (0,0))) (cs : List Value) (hn : cs.length = Nat.min sLen dLen * size) (hsrc : 0 < cs.length -> ∃ ad,sp = some ad /\ ∀ j v,cs[j]? = some v -> w.cell? (ad.add j) = some v)
  (hfit : off + cs.length <= cur.length) (h1 : ∀ v ∈ cs,v.oneCell' = true) :
  (Builtin.copy_ #[dT,sT] ty #[.slice (some ⟨g,off,none⟩) dLen dCap,.slice sp sLen sCap]).run P w = .ok (goInt (Nat.min sLen dLen)) (w.setRow g (splice cur off cs).toArray):=by
 have hst:=run_storeCells_at (P:=P) g off t cs 0 cur.toArray w hg (by simpa using hfit) h1
 have hfc : (Builtin.firstCells size (Nat.min sLen dLen) (.slice sp sLen sCap)).run P w = .ok cs.toArray w:=by
  by_cases h0 : 0 < cs.length
  · obtain ⟨ad,rfl,hc⟩:=hsrc h0
    exact run_firstCells_some w size (Nat.min sLen dLen) ad sLen sCap cs hn hc
  · have hcs : cs = []:=List.eq_nil_of_length_eq_zero (by omega)
    subst hcs
    cases sp with
    | none=>exact run_firstCells_none w size _ _ _
    | some ad=>exact run_firstCells_some w size (Nat.min sLen dLen) ad sLen sCap [] hn (fun j v h=>by cases h)
 simp only [Nat.add_zero] at hst
 unfold Builtin.copy_
 simp [run_underlying hu,Builtin.lenOf,hsz,hfc,hst,splice]
def zeroRow (z : List Value) : Nat -> List Value
 | 0=>[]
 | n + 1=>z ++ zeroRow z n
theorem zeroRow_length (z : List Value) : ∀ n,(zeroRow z n).length = n * z.length
 | 0=>by simp [zeroRow]
 | n + 1=>by rw [zeroRow,List.length_append,zeroRow_length z n,Nat.succ_mul,Nat.add_comm]
theorem zeroRow_get (z : List Value) : ∀ (n j : Nat),j < n * z.length -> (zeroRow z n)[j]? = z[j % z.length]?
 | 0,j,h=>by omega
 | n + 1,j,h=>by
  have hz : 0 < z.length:=by
   rcases Nat.eq_zero_or_pos z.length with g | g
   · rw [g] at h;omega
   · exact g
  rw [zeroRow]
  by_cases c : j < z.length
  · rw [List.getElem?_append_left c,Nat.mod_eq_of_lt c]
  · rw [List.getElem?_append_right (by omega),zeroRow_get z n (j - z.length) (by rw [Nat.succ_mul] at h;omega),<- Nat.mod_eq_sub_mod (by omega)]
theorem zero_cells (z : Array Value) (n : Nat) (hz : 0 < z.size) : (Builtin.zeroCells z n).toList = zeroRow z.toList n:=by
 apply List.ext_getElem?
 intro j
 by_cases c : j < n * z.size
 · rw [zeroRow_get z.toList n j (by simpa using c)]
   unfold Builtin.zeroCells
   have hm : j % z.size < z.size:=Nat.mod_lt _ hz
   simp [c,hm,getElem!_pos]
 · rw [List.getElem?_eq_none (by simp [Builtin.zeroCells];omega),List.getElem?_eq_none (by rw [zeroRow_length];simp;omega)]
theorem zeroRow_one (z : List Value) (h : ∀ u ∈ z,u.oneCell' = true) : ∀ n,∀ u ∈ zeroRow z n,u.oneCell' = true
 | 0,u,hu=>by cases hu
 | n + 1,u,hu=>by
  rcases List.mem_append.1 hu with g | g
  · exact h u g
  · exact zeroRow_one z h n u g
theorem run_clear_rows {P : Program} (w : World) (t ty elem : TypeId) (z : Value) (hu : P.underlying t = some (.slice elem)) (hv : ∀ w,(zeroValue elem).run P w = .ok z w) (hz : 0 < z.cells.size) (h1 : ∀ u ∈ z.cells.toList,u.oneCell' = true) (g off n c : Nat)
  (cur : List Value) (te : TypeId) (hg : w.heap[g]? = some (.cells cur.toArray te (0,0))) (hfit : off + n * z.cells.size <= cur.length) :
  (Builtin.clear_ #[t] ty #[.slice (some ⟨g,off,none⟩) n c]).run P w = .ok (.tuple #[]) (w.setRow g (splice cur off (zeroRow z.cells.toList n)).toArray):=by
 have hzl : (zeroRow z.cells.toList n).length = n * z.cells.size:=by rw [zeroRow_length];simp
 have hst:=run_storeCells_at (P:=P) g off te (zeroRow z.cells.toList n) 0 cur.toArray w hg (by simp [hzl];omega) (zeroRow_one _ h1 n)
 simp only [Nat.add_zero] at hst
 cases n with
 | zero =>
  unfold Builtin.clear_
  have e : splice cur off (zeroRow z.cells.toList 0) = cur:=by simp [splice,zeroRow]
  rw [e,setRow_self w g cur.toArray te (0,0) hg]
  simp [run_underlying hu]
 | succ n =>
  unfold Builtin.clear_
  simp [run_underlying hu,hv,zero_cells z.cells (n + 1) hz,hst,splice]
end GK
namespace KW
open Go.RowKit GK
open FW (hideC add_below)
theorem infoUs : (Tryz.prog.info? 211).map (fun i=>(i.zero,i.size,i.bytes)) = some (some (.agg #[.int .i64 0,.int .i64 0,.bool false]),3,24):=by kernel_rfl
theorem builtM (a b c d e : Value) : Tryz.prog.built 104 [(0,.agg #[a,b,c,d,e])] = some (memC a b c d e none256):=by kernel_rfl
theorem wpList_built {P : Program} {ops : Array Oper} {rest : List Oper} {o : Oper} {a : Act} {w : World} {Q : Exit -> Act -> World -> Prop} (hg : o.guard = none) (t : TypeId) (x : Operand) (ho : o.op = .build t #[(0,x)]) (v : Value) (hx : a.eval x = v) (cells : Array Value) (hb : P.built t [(0,v)] = some cells) (h : wpList P ops Q rest (a.put o.dst (.agg cells)) w) : wpList P ops Q (o :: rest) a w :=
 wpList_build hg t #[(0,x)] ho (by simp [hx,hb]) (by simpa [hx,hb] using h)
def zu (n : Nat) : Array Value:=madeCells #[.int .i64 0,.int .i64 0,.bool false] (n * 3)
theorem mkUs (V : World) (n : Nat) (hn : n <= 1000) : (Instr.makeSlice 162 (.int .i64 (n : Int)) (.int .i64 (n : Int))).run Tryz.prog V = .ok (.slice (some ⟨V.heap.size,0,none⟩) n n) (V.alloc (.cells (zu n) 211)):=by
 obtain ⟨i0,hi,hz0,hz1,hz2⟩:=info_parts infoUs
 have h:=run_make (P:=Tryz.prog) V 162 211 i0 (.agg #[.int .i64 0,.int .i64 0,.bool false]) Tryz.underlying162 hi hz0 .i64 .i64 (n : Int) (n : Int) (by omega) (Int.le_refl _) (by rw [hz2];omega) (by omega)
 rw [hz1,Int.toNat_natCast] at h
 exact h
theorem zr_us : ∀ n,zeroRow [.int .i64 0,.int .i64 0,.bool false] n = (List.replicate n KM.us0).flatMap cellUs
 | 0=>rfl
 | n + 1=>by rw [zeroRow,zr_us n,List.replicate_succ,List.flatMap_cons];rfl
theorem zu_cells (n : Nat) : (zu n).toList = (List.replicate n KM.us0).flatMap cellUs:=by
 rw [<- zr_us]
 apply List.ext_getElem?
 intro j
 by_cases c : j < n * 3
 · rw [zeroRow_get [.int .i64 0,.int .i64 0,.bool false] n j c]
   unfold zu madeCells
   have hm : j % 3 < 3:=Nat.mod_lt _ (by omega)
   have h3 : j % 3 = 0 ∨ j % 3 = 1 ∨ j % 3 = 2:=by omega
   rcases h3 with h | h | h <;> simp [c,h]
 · rw [List.getElem?_eq_none (by simp [zu,madeCells];omega),List.getElem?_eq_none (by rw [zeroRow_length];simp;omega)]
theorem zu_size (n : Nat) : (zu n).size = n * 3:=by simp [zu,madeCells]
theorem zu_own (lo : Nat) (V : World) (n : Nat) (hl : lo <= V.heap.size) (hn : n <= 1000) : OwnU lo (V.alloc (.cells (zu n) 211)) V.heap.size n n (List.replicate n KM.us0):=by
 refine ⟨List.length_replicate,?_⟩
 rw [<- zu_cells]
 refine ⟨by rw [Array.length_toList,zu_size],.inr ⟨V.heap.size,n,zu n,rfl,hl,B.new V (zu n) _,Nat.le_refl _,?_,by rw [zu_size],?_⟩⟩
 · unfold maxLen;omega
 · rw [List.take_of_length_le (by rw [Array.length_toList,zu_size];exact Nat.le_refl _)]
end KW
end Go.Proofs.YtpgifpeohlllfaaGreat
