import Derived.Test.YtpgifpeohlllfaaGreatGJ08
import Derived.Test.YtpgifpeohlllfaaGreatGJ07
set_option maxHeartbeats 20000000
set_option linter.unusedVariables false
set_option maxRecDepth 100000
set_option linter.unusedSimpArgs false
namespace Go.Proofs.YtpgifpeohlllfaaGreat
namespace KW
open Go.RowKit GK
open FW (hideC add_below)
set_option maxHeartbeats 8000000 in
theorem rightSpace_any (hs : List LM.Sh) (s : KM.Sp) (va : Value) (ap : Option Addr) (cp mb : Nat) (w : World) (ha : AW.Has w va s.areas) (hf : FitSp s) (hmb : mb < w.heap.size) (hfl : ∀ n : Nat,n < 256 -> w.cell? ⟨mb,5 + n,none⟩ = some (.string (KM.filled hs n))) :
  Calls Tryz.prog 111 #[.pointer (some ⟨mb,0,none⟩),.agg #[.bool s.live,va,.slice ap s.ents.length cp]] w fun e w'=>e = .returned (.bool (KM.rightSp hs s)) /\ Below w.heap.size w w':=by
 have HCK:=hideC (fun V (hV : Below w.heap.size w V)=>AW.check_any s.areas va V (ha.below hV) hf.areas)
 have HHS : Hid (AM.checkN s.areas = 0 -> ∀ V,Below w.heap.size w V -> Calls Tryz.prog 149 #[.pointer (some ⟨mb,0,none⟩),va] V fun e w'=>e = .returned (.bool (KM.haveB hs s.areas)) /\ Below V.heap.size V w'):=fun hc V hV=>haveSheets_any hs s.areas va mb V (ha.below hV) hc (Nat.lt_of_lt_of_le hmb hV.size) (fun n hn=>(hV.cell (p:=⟨mb,5 + n,none⟩) hmb).trans (hfl n hn))
 obtain ⟨A,hA⟩ : ∃ A,A = KM.rightSp hs s:=⟨_,rfl⟩
 rw [<- hA]
 obtain ⟨aa,ca,hva,_⟩:=ha
 subst hva
 have hln:=hf.areas.2
 have hlp : s.ents.length <= 140737488351232:=hf.ents
 unfold KM.rightSp at hA
 have HA:=hideC hA
 clear hf hfl hA
 obtain ⟨na,hna⟩ : ∃ na,na = s.areas.length:=⟨_,rfl⟩
 obtain ⟨np,hnp⟩ : ∃ np,np = s.ents.length:=⟨_,rfl⟩
 obtain ⟨C,hC⟩ : ∃ C,C = AM.checkN s.areas:=⟨_,rfl⟩
 obtain ⟨E,hE⟩ : ∃ E,E = KM.haveB hs s.areas:=⟨_,rfl⟩
 obtain ⟨lv,hlv⟩ : ∃ lv,lv = s.live:=⟨_,rfl⟩
 rw [<- hna] at HA HCK HHS hln ⊢
 rw [<- hnp] at HA hlp ⊢
 rw [<- hC] at HA HCK HHS
 rw [<- hE] at HA HHS
 rw [<- hlv] at HA ⊢
 clear hna hnp hC hE hlv
 have HB:=hideC ((Below.refl w.heap.size w).alloc (Nat.le_refl _) (.cells #[.bool lv,.slice aa na ca,.slice ap np cp] 43))
 have X0:=hideC (B.new w #[.bool lv,.slice aa na ca,.slice ap np cp] 43)
 cases lv with
 | false =>
  have HA2 : Hid (A = (decide (na = 0) && decide (np = 0))):=HA
  clear HA HCK HHS
  rcases (show (na = 0 /\ np = 0) ∨ (na = 0 /\ ¬ np = 0) ∨ ¬ na = 0 by omega) with ⟨g,k⟩ | ⟨g,k⟩ | g
  · have h0 : ((na : Int) == 0) = true:=by rw [beq_iff_eq];omega
    have h1 : ((np : Int) == 0) = true:=by rw [beq_iff_eq];omega
    have HA3 : Hid (A = true):=by show _ = _;rw [HA2.out,decide_eq_true g,decide_eq_true k];rfl
    clear HA2 g k
    go_enter Tryz.func111,Tryz.ntmps111
    go_wp2
    go_ret
    exact ⟨congrArg (fun b=>Ending.returned (.bool b)) HA3.out.symm,HB.out⟩
  · have h0 : ((na : Int) == 0) = true:=by rw [beq_iff_eq];omega
    have h1 : ((np : Int) == 0) = false:=by rw [beq_eq_false_iff_ne];omega
    have HA3 : Hid (A = false):=by show _ = _;rw [HA2.out,decide_eq_false k,Bool.and_false]
    clear HA2 g k
    go_enter Tryz.func111,Tryz.ntmps111
    go_wp2
    go_ret
    exact ⟨congrArg (fun b=>Ending.returned (.bool b)) HA3.out.symm,HB.out⟩
  · have h0 : ((na : Int) == 0) = false:=by rw [beq_eq_false_iff_ne];omega
    have HA3 : Hid (A = false):=by show _ = _;rw [HA2.out,decide_eq_false g,Bool.false_and]
    clear HA2 g
    go_enter Tryz.func111,Tryz.ntmps111
    go_wp2
    go_ret
    exact ⟨congrArg (fun b=>Ending.returned (.bool b)) HA3.out.symm,HB.out⟩
 | true =>
  have HA2 : Hid (A = (decide (C = 0) && E)):=HA
  clear HA
  by_cases g : C = 0
  · subst g
    have HHT:=hideC (HHS.out rfl)
    have HA3 : Hid (A = E):=HA2
    clear HA2 HHS
    go_enter Tryz.func111,Tryz.ntmps111
    go_wp2_with (first | (go_at_call 98;refine (HCK.out _ HB.out).mono ?_;rintro e w1 ⟨rfl,hb1⟩;have HB1:=hideC (add_below HB.out hb1);have X1:=hideC (B.below X0.out hb1 (by simp));have x1 : w1.cell? ⟨w.heap.size,1,none⟩ = some (.slice aa na ca):=B.cell X1.out 1 rfl;clear hb1) | (go_at_call 149;refine (HHT.out _ HB1.out).mono ?_;rintro e w2 ⟨rfl,hb2⟩;have HB2:=hideC (add_below HB1.out hb2);clear hb2))
    go_ret
    exact ⟨congrArg (fun b=>Ending.returned (.bool b)) HA3.out.symm,HB2.out⟩
  · have HA3 : Hid (A = false):=by show _ = _;rw [HA2.out,decide_eq_false g,Bool.false_and]
    have g0 : (C == 0) = false:=by rw [beq_eq_false_iff_ne];exact g
    clear HA2 HHS
    go_enter Tryz.func111,Tryz.ntmps111
    go_wp2_with (go_at_call 98;refine (HCK.out _ HB.out).mono ?_;rintro e w1 ⟨rfl,hb1⟩;have HB1:=hideC (add_below HB.out hb1);clear hb1)
    go_ret
    exact ⟨congrArg (fun b=>Ending.returned (.bool b)) HA3.out.symm,HB1.out⟩
theorem total_bd (l : List AM.Ar) : 0 <= AM.totalN l /\ AM.totalN l <= 65025:=by
 unfold AM.totalN
 split
 · rename_i h
   have h1:=AM.good_len l h
   have h2:=AM.sumTo_bd l h l.length (Nat.le_refl _)
   omega
 · omega
theorem room_bd (l : List KM.Sp) : ∀ k,0 <= KM.roomTo l k /\ KM.roomTo l k <= 65025 * k
 | 0=>⟨Int.le_refl _,by show (0 : Int) <= _;omega⟩
 | k + 1=>by
  have h1:=room_bd l k
  have h2:=total_bd (KM.spAt l k).areas
  show 0 <= KM.roomTo l k + AM.totalN (KM.spAt l k).areas /\ KM.roomTo l k + AM.totalN (KM.spAt l k).areas <= _
  omega
set_option maxHeartbeats 4000000 in
theorem pages_any (l : List KM.Sp) (ao : Option Addr) (cap mb : Nat) (w : World) (h : HasSp w ao l) (hf : ∀ k,k < l.length -> AW.AllFit (KM.spAt l k).areas) (hn : l.length <= 1000000) (hmb : w.cell? ⟨mb,3,none⟩ = some (.slice ao l.length cap)) :
  Calls Tryz.prog 83 #[.pointer (some ⟨mb,0,none⟩)] w fun e w'=>e = .returned (.int .i64 (KM.room l)) /\ Below w.heap.size w w':=by
 have HF:=hideC hf
 have HH:=hideC h
 have HRB:=hideC (room_bd l)
 have HRS : Hid (∀ k,KM.roomTo l (k + 1) = KM.roomTo l k + AM.totalN (KM.spAt l k).areas):=fun k=>rfl
 clear h hf
 go_enter Tryz.func83,Tryz.ntmps83
 go_wp2
 go_loopw [3,12] (fun sv iv wr=>∃ k : Nat,k <= l.length /\ iv = .int .i64 (k : Int) /\ sv = .int .i64 (KM.roomTo l k) /\ Below w.heap.size w wr) (fun _ iv _=>l.length - (intOf iv).toNat)
 case atStart=>exact ⟨0,by omega,rfl,rfl,Below.refl _ _⟩
 case round =>
  obtain ⟨k,hk,rfl,rfl,hb⟩:=hrel
  have HB:=hideC hb
  have hrb:=HRB.out k
  by_cases hlt : k < l.length
  · obtain ⟨b,off,hao,hbl,hlie⟩:=(HH.out.below hb) (by omega)
    subst hao
    obtain ⟨va,ap,cp,c0,c1,c2,c3,c4,c5⟩:=hlie k hlt
    have hfk:=HF.out k hlt
    have hst:=HRS.out k
    have htb:=total_bd (KM.spAt l k).areas
    obtain ⟨aa,ca,rfl,_⟩:=id c3
    have HT : Hid (∀ W,Below wr.heap.size wr W -> Calls Tryz.prog 54 #[.slice aa (KM.spAt l k).areas.length ca] W fun e w'=>e = .returned (.int .i64 (AM.totalN (KM.spAt l k).areas)) /\ Below W.heap.size W w'):=fun W hW=>AW.total_any _ _ _ (c3.below hW) hfk
    obtain ⟨n,hnn⟩ : ∃ n,n = (KM.spAt l k).ents.length:=⟨_,rfl⟩
    obtain ⟨na,hna⟩ : ∃ na,na = (KM.spAt l k).areas.length:=⟨_,rfl⟩
    obtain ⟨lv,hlv⟩ : ∃ lv,lv = (KM.spAt l k).live:=⟨_,rfl⟩
    obtain ⟨T,hT⟩ : ∃ T,T = AM.totalN (KM.spAt l k).areas:=⟨_,rfl⟩
    obtain ⟨R,hR⟩ : ∃ R,R = KM.roomTo l k:=⟨_,rfl⟩
    rw [<- hnn] at c2 c5
    rw [<- hna] at c1 HT
    rw [<- hlv] at c0
    rw [<- hT] at HT hst htb
    rw [<- hR] at hst hrb ⊢
    have HST:=hideC hst
    clear hnn hna hlv hT hR c3 c4 c5 hfk hlie hb hst
    have HBA:=hideC (HB.out.alloc HB.out.size (.cells #[.bool lv,.slice aa na ca,.slice ap n cp] 43))
    go_wp2_with (go_at_call 54;refine (HT.out _ ((Below.refl _ _).alloc (Nat.le_refl _) _)).mono ?_;rintro e w1 ⟨rfl,hb1⟩;have HB1:=hideC (add_below HBA.out hb1);clear hb1)
    go_roundw
    case rel=>exact ⟨k + 1,by omega,by go_num,by rw [HST.out],HB1.out⟩
    case measure=>simp [intOf];omega
  · obtain rfl : k = l.length:=by omega
    clear hb
    go_wp2
    go_ret
    exact ⟨rfl,HB.out⟩
def cellUs (u : KM.Us) : List Value:=[.int .i64 u.refs,.int .i64 u.page,.bool u.zero]
theorem cellUs_len (u : KM.Us) : (cellUs u).length = 3:=rfl
def OwnU (lo : Nat) (w : World) (g n cap : Nat) (us : List KM.Us) : Prop:=us.length = n /\ w.ownsRow lo 211 3 (.slice (some ⟨g,0,none⟩) n cap) n (us.flatMap cellUs)
theorem OwnU.kp {lo : Nat} {w w' : World} {D : Nat -> Prop} {g n cap : Nat} {us : List KM.Us} (h : OwnU lo w g n cap us) (hk : Kp D w w') (hd : ¬ D g) : OwnU lo w' g n cap us:=⟨h.1,hk.row h.2 (fun b hb=>by injection hb with hb;rw [<- hb];exact hd)⟩
theorem OwnU.lt {lo : Nat} {w : World} {g n cap : Nat} {us : List KM.Us} (h : OwnU lo w g n cap us) : lo <= g /\ g < w.heap.size:=h.2.lt g rfl
theorem OwnU.at {lo : Nat} {w : World} {g n cap : Nat} {us : List KM.Us} (h : OwnU lo w g n cap us) (i : Nat) (hi : i < n) : w.cell? ⟨g,i * 3,none⟩ = some (.int .i64 (KM.usAt us i).refs) /\ w.cell? ⟨g,i * 3 + 1,none⟩ = some (.int .i64 (KM.usAt us i).page) /\ w.cell? ⟨g,i * 3 + 2,none⟩ = some (.bool (KM.usAt us i).zero):=by
 obtain ⟨h1,h2⟩:=h
 subst h1
 exact ⟨row_at cellUs cellUs_len KM.us0 h2 i 0 hi (by omega),row_at cellUs cellUs_len KM.us0 h2 i 1 hi (by omega),row_at cellUs cellUs_len KM.us0 h2 i 2 hi (by omega)⟩
theorem kpD {D : Nat -> Prop} {w w' : World} (h : Kp D w w') : Kp D w w'.drew:=h.trans (Kp.drew D w') (fun _ _ x=>x)
theorem OwnU.d {lo : Nat} {w : World} {g n cap : Nat} {us : List KM.Us} (h : OwnU lo w g n cap us) : OwnU lo w.drew g n cap us:=h.kp (Kp.drew (fun _=>False) w) (fun x=>x)
theorem rows_set3 {α : Type} (f : α -> List Value) (hf : ∀ x,(f x).length = 3) (d : α) (x : α) (a b c : Value) (hx : f x = [a,b,c]) (l : List α) (i : Nat) (hi : i < l.length) : (l.set i x).flatMap f = (((l.flatMap f).set (i * 3) a).set (i * 3 + 1) b).set (i * 3 + 2) c:=by
 induction l generalizing i with
 | nil=>cases hi
 | cons y r ih =>
  cases i with
  | zero =>
   rw [List.set_cons_zero,List.flatMap_cons,List.flatMap_cons,hx]
   obtain ⟨p,q,s,e⟩ : ∃ p q s,f y = [p,q,s]:=by
    have:=hf y
    match h : f y with
    | [p,q,s]=>exact ⟨p,q,s,rfl⟩
    | []=>rw [h] at this;cases this
    | [_]=>rw [h] at this;cases this
    | [_,_]=>rw [h] at this;cases this
    | _ :: _ :: _ :: _ :: _=>rw [h] at this;simp at this
   rw [e]
   rfl
  | succ i =>
   have h3:=hf y
   rw [List.set_cons_succ,List.flatMap_cons,List.flatMap_cons,ih i (Nat.lt_of_succ_lt_succ hi),List.set_append_right _ _ (by omega),List.set_append_right _ _ (by omega),List.set_append_right _ _ (by omega),h3,show (i + 1) * 3 - 3 = i * 3 by omega,show (i + 1) * 3 + 1 - 3 = i * 3 + 1 by omega,show (i + 1) * 3 + 2 - 3 = i * 3 + 2 by omega]
theorem OwnU.set {lo : Nat} {w : World} {g n cap : Nat} {us : List KM.Us} (h : OwnU lo w g n cap us) (i : Nat) (hi : i < n) (u : KM.Us) : OwnU lo (((w.setCell ⟨g,i * 3,none⟩ (.int .i64 u.refs)).setCell ⟨g,i * 3 + 1,none⟩ (.int .i64 u.page)).setCell ⟨g,i * 3 + 2,none⟩ (.bool u.zero)) g n cap (us.set i u):=by
 refine ⟨by rw [List.length_set];exact h.1,?_⟩
 rw [rows_set3 cellUs cellUs_len KM.us0 u _ _ _ rfl us i (by rw [h.1];exact hi)]
 exact row_set (row_set (row_set h.2 _ _) _ _) _ _
set_option maxHeartbeats 8000000 in
theorem use_any (us : List KM.Us) (e : KM.En) (z : Bool) (lo g n cap : Nat) (w : World) (h : OwnU lo w g n cap us) (hn : n <= 1000) (he : M.I64 e.page /\ M.I64 e.loc) (hr : ∀ i,i < n -> 0 <= (KM.usAt us i).refs /\ (KM.usAt us i).refs <= 1000000) :
  Calls Tryz.prog 150 #[.slice (some ⟨g,0,none⟩) n cap,.agg #[.int .i64 e.page,.int .i64 e.kind,.int .i64 e.loc],.bool z] w fun x w'=>x = .returned (.bool (KM.useOk us e z)) /\ Kp (fun b=>b = g) w w' /\ OwnU lo w' g n cap (if KM.useOk us e z then KM.useN us e z else us):=by
 obtain ⟨A,hA⟩ : ∃ A,A = KM.useOk us e z:=⟨_,rfl⟩
 rw [<- hA]
 obtain ⟨R,hR⟩ : ∃ R,R = if A then KM.useN us e z else us:=⟨_,rfl⟩
 rw [<- hR]
 have HA:=hideC hA
 have HR:=hideC hR
 clear hA hR
 have hglt:=h.lt.2
 have HU:=hideC h
 have hun : us.length = n:=h.1
 obtain ⟨pg,kd,lc⟩:=e
 simp only at he ⊢
 have HKA:=hideC (Kp.alloc (fun b=>b = g) w (.cells #[.int .i64 pg,.int .i64 kd,.int .i64 lc] 45))
 have HUA:=hideC (h.kp (Kp.alloc (fun _=>False) w (.cells #[.int .i64 pg,.int .i64 kd,.int .i64 lc] 45)) (fun x=>x))
 have hgn : ¬ g = w.heap.size:=by omega
 clear h
 by_cases c : 0 <= lc /\ lc < (n : Int)
 · obtain ⟨i,rfl⟩ : ∃ i : Nat,lc = (i : Int):=⟨lc.toNat,by omega⟩
   have hi : i < n:=by omega
   obtain ⟨u0,u1,u2⟩:=HU.out.at i hi
   have hri:=hr i hi
   have HA2 : Hid (A = !(decide (0 < (KM.usAt us i).refs) && (decide ((KM.usAt us i).page ≠ pg) || (KM.usAt us i).zero != z))):=by
    show _ = _
    rw [HA.out]
    unfold KM.useOk
    simp only [hun,Int.toNat_natCast]
    rw [decide_eq_true c,Bool.true_and]
   have HUS:=hideC (HUA.out.set i hi ⟨(KM.usAt us i).refs + 1,pg,z⟩)
   have HUN : Hid (KM.useN us ⟨pg,kd,(i : Int)⟩ z = us.set i ⟨(KM.usAt us i).refs + 1,pg,z⟩):=by
    show _ = _
    unfold KM.useN
    simp only [Int.toNat_natCast]
   obtain ⟨U,hU⟩ : ∃ U,U = KM.usAt us i:=⟨_,rfl⟩
   rw [<- hU] at u0 u1 u2 hri HA2 HUS HUN
   obtain ⟨ur,up,uz⟩:=U
   simp only at u0 u1 u2 hri HA2 HUS HUN
   have cl : (i : Int) < (n : Int):=c.2
   have c0 : (0 : Int) <= (i : Int):=c.1
   have HUI:=hideC hU
   clear hU hr HA
   have wr1 : IntKind.i64.wrap (ur + 1) = ur + 1:=by rw [IntKind.wrap_i64];omega
   have BE:=hideC (B.new w #[.int .i64 pg,.int .i64 kd,.int .i64 (i : Int)] 45)
   have HFIN : Hid (∀ V,Kp (fun b=>b = g) w V -> ∀ us',OwnU lo V g n cap us' -> A = true -> us' = us.set i ⟨ur + 1,pg,z⟩ -> OwnU lo V g n cap R):=fun V _ us' ho ha e=>by
    have : R = us':=by rw [HR.out,if_pos ha,HUN.out,e]
    rw [this];exact ho
   have HFIF : Hid (A = false -> R = us):=fun ha=>by rw [HR.out,ha];rfl
   clear HR HUN
   rcases (show ¬ 0 < ur ∨ (0 < ur /\ up = pg /\ uz = z) ∨ (0 < ur /\ up = pg /\ ¬ uz = z) ∨ (0 < ur /\ ¬ up = pg) by
    by_cases a : 0 < ur
    · by_cases b : up = pg
      · by_cases d : uz = z
        · exact .inr (.inl ⟨a,b,d⟩)
        · exact .inr (.inr (.inl ⟨a,b,d⟩))
      · exact .inr (.inr (.inr ⟨a,b⟩))
    · exact .inl a) with g1 | ⟨g1,g2,g3⟩ | ⟨g1,g2,g3⟩ | ⟨g1,g2⟩
   · have d1 : decide (0 < ur) = false:=decide_eq_false g1
     have HA3 : Hid (A = true):=by show _ = _;rw [HA2.out,d1];rfl
     clear HA2
     go_enter Tryz.func150,Tryz.ntmps150
     go_wp2
     obtain ⟨W,hW⟩ : ∃ W,W = w.alloc (.cells #[.int .i64 pg,.int .i64 kd,.int .i64 (i : Int)] 45):=⟨_,rfl⟩
     rw [<- hW] at HKA HUA HUS BE ⊢
     obtain ⟨eb,heb⟩ : ∃ eb,eb = w.heap.size:=⟨_,rfl⟩
     rw [<- heb] at BE ⊢
     clear hW heb
     obtain ⟨y0,y1,y2⟩:=HUA.out.at i hi
     have v0 : W.cell? ⟨g,i * 3,none⟩ = some (.int .i64 ur):=by rw [y0,<- HUI.out]
     have v1 : W.cell? ⟨g,i * 3 + 1,none⟩ = some (.int .i64 up):=by rw [y1,<- HUI.out]
     have v2 : W.cell? ⟨g,i * 3 + 2,none⟩ = some (.bool uz):=by rw [y2,<- HUI.out]
     have f0 : W.frozen? ⟨g,i * 3,none⟩ = false:=row_free HUA.out.2 _
     have f1 : W.frozen? ⟨g,i * 3 + 1,none⟩ = false:=row_free HUA.out.2 _
     have f2 : W.frozen? ⟨g,i * 3 + 2,none⟩ = false:=row_free HUA.out.2 _
     have w0 : W.cell? ⟨eb,0,none⟩ = some (.int .i64 pg):=B.cell BE.out 0 rfl
     have w2 : W.cell? ⟨eb,2,none⟩ = some (.int .i64 (i : Int)):=B.cell BE.out 2 rfl
     clear u0 u1 u2 hgn y0 y1 y2
     go_region
     go_wp2
     go_region
     go_wp2
     go_ret
     have K:=HKA.out.trans (kp_set3 (D:=fun b=>b = g) W g (i * 3) (i * 3 + 1) (i * 3 + 2) (.int .i64 (ur + 1)) (.int .i64 pg) (.bool z) rfl) (fun _ _ x=>x)
     exact ⟨congrArg (fun b=>Ending.returned (.bool b)) HA3.out.symm,kpD (kpD K),HFIN.out _ (kpD (kpD K)) _ HUS.out.d.d HA3.out rfl⟩
   · have b1 : (up != pg) = false:=by simpa using g2
     have b2 : (uz == z) = true:=by simpa using g3
     have HA3 : Hid (A = true):=by show _ = _;rw [HA2.out,g2,g3];simp
     clear HA2 g2 g3
     go_enter Tryz.func150,Tryz.ntmps150
     go_wp2
     obtain ⟨W,hW⟩ : ∃ W,W = w.alloc (.cells #[.int .i64 pg,.int .i64 kd,.int .i64 (i : Int)] 45):=⟨_,rfl⟩
     rw [<- hW] at HKA HUA HUS BE ⊢
     obtain ⟨eb,heb⟩ : ∃ eb,eb = w.heap.size:=⟨_,rfl⟩
     rw [<- heb] at BE ⊢
     clear hW heb
     obtain ⟨y0,y1,y2⟩:=HUA.out.at i hi
     have v0 : W.cell? ⟨g,i * 3,none⟩ = some (.int .i64 ur):=by rw [y0,<- HUI.out]
     have v1 : W.cell? ⟨g,i * 3 + 1,none⟩ = some (.int .i64 up):=by rw [y1,<- HUI.out]
     have v2 : W.cell? ⟨g,i * 3 + 2,none⟩ = some (.bool uz):=by rw [y2,<- HUI.out]
     have f0 : W.frozen? ⟨g,i * 3,none⟩ = false:=row_free HUA.out.2 _
     have f1 : W.frozen? ⟨g,i * 3 + 1,none⟩ = false:=row_free HUA.out.2 _
     have f2 : W.frozen? ⟨g,i * 3 + 2,none⟩ = false:=row_free HUA.out.2 _
     have w0 : W.cell? ⟨eb,0,none⟩ = some (.int .i64 pg):=B.cell BE.out 0 rfl
     have w2 : W.cell? ⟨eb,2,none⟩ = some (.int .i64 (i : Int)):=B.cell BE.out 2 rfl
     clear u0 u1 u2 hgn y0 y1 y2
     go_region
     go_wp2
     go_region
     go_wp2
     go_ret
     have K:=HKA.out.trans (kp_set3 (D:=fun b=>b = g) W g (i * 3) (i * 3 + 1) (i * 3 + 2) (.int .i64 (ur + 1)) (.int .i64 pg) (.bool z) rfl) (fun _ _ x=>x)
     exact ⟨congrArg (fun b=>Ending.returned (.bool b)) HA3.out.symm,kpD (kpD K),HFIN.out _ (kpD (kpD K)) _ HUS.out.d.d HA3.out rfl⟩
   · have b1 : (up != pg) = false:=by simpa using g2
     have b2 : (uz == z) = false:=by simpa using g3
     have HA3 : Hid (A = false):=by show _ = _;rw [HA2.out,decide_eq_true g1,show (uz != z) = true by simpa using g3];simp
     clear HA2 g2 g3 HFIN
     go_enter Tryz.func150,Tryz.ntmps150
     go_wp2
     obtain ⟨W,hW⟩ : ∃ W,W = w.alloc (.cells #[.int .i64 pg,.int .i64 kd,.int .i64 (i : Int)] 45):=⟨_,rfl⟩
     rw [<- hW] at HKA HUA HUS BE ⊢
     obtain ⟨eb,heb⟩ : ∃ eb,eb = w.heap.size:=⟨_,rfl⟩
     rw [<- heb] at BE ⊢
     clear hW heb
     obtain ⟨y0,y1,y2⟩:=HUA.out.at i hi
     have v0 : W.cell? ⟨g,i * 3,none⟩ = some (.int .i64 ur):=by rw [y0,<- HUI.out]
     have v1 : W.cell? ⟨g,i * 3 + 1,none⟩ = some (.int .i64 up):=by rw [y1,<- HUI.out]
     have v2 : W.cell? ⟨g,i * 3 + 2,none⟩ = some (.bool uz):=by rw [y2,<- HUI.out]
     have f0 : W.frozen? ⟨g,i * 3,none⟩ = false:=row_free HUA.out.2 _
     have f1 : W.frozen? ⟨g,i * 3 + 1,none⟩ = false:=row_free HUA.out.2 _
     have f2 : W.frozen? ⟨g,i * 3 + 2,none⟩ = false:=row_free HUA.out.2 _
     have w0 : W.cell? ⟨eb,0,none⟩ = some (.int .i64 pg):=B.cell BE.out 0 rfl
     have w2 : W.cell? ⟨eb,2,none⟩ = some (.int .i64 (i : Int)):=B.cell BE.out 2 rfl
     clear u0 u1 u2 hgn y0 y1 y2 HUS
     go_region
     go_wp2
     go_ret
     rw [HFIF.out HA3.out]
     exact ⟨congrArg (fun b=>Ending.returned (.bool b)) HA3.out.symm,kpD HKA.out,HUA.out.d⟩
   · have b1 : (up != pg) = true:=by simpa using g2
     have HA3 : Hid (A = false):=by show _ = _;rw [HA2.out,decide_eq_true g1,decide_eq_true g2];rfl
     clear HA2 g2 HFIN
     go_enter Tryz.func150,Tryz.ntmps150
     go_wp2
     obtain ⟨W,hW⟩ : ∃ W,W = w.alloc (.cells #[.int .i64 pg,.int .i64 kd,.int .i64 (i : Int)] 45):=⟨_,rfl⟩
     rw [<- hW] at HKA HUA HUS BE ⊢
     obtain ⟨eb,heb⟩ : ∃ eb,eb = w.heap.size:=⟨_,rfl⟩
     rw [<- heb] at BE ⊢
     clear hW heb
     obtain ⟨y0,y1,y2⟩:=HUA.out.at i hi
     have v0 : W.cell? ⟨g,i * 3,none⟩ = some (.int .i64 ur):=by rw [y0,<- HUI.out]
     have v1 : W.cell? ⟨g,i * 3 + 1,none⟩ = some (.int .i64 up):=by rw [y1,<- HUI.out]
     have v2 : W.cell? ⟨g,i * 3 + 2,none⟩ = some (.bool uz):=by rw [y2,<- HUI.out]
     have f0 : W.frozen? ⟨g,i * 3,none⟩ = false:=row_free HUA.out.2 _
     have f1 : W.frozen? ⟨g,i * 3 + 1,none⟩ = false:=row_free HUA.out.2 _
     have f2 : W.frozen? ⟨g,i * 3 + 2,none⟩ = false:=row_free HUA.out.2 _
     have w0 : W.cell? ⟨eb,0,none⟩ = some (.int .i64 pg):=B.cell BE.out 0 rfl
     have w2 : W.cell? ⟨eb,2,none⟩ = some (.int .i64 (i : Int)):=B.cell BE.out 2 rfl
     clear u0 u1 u2 hgn y0 y1 y2 HUS
     go_region
     go_wp2
     go_ret
     rw [HFIF.out HA3.out]
     exact ⟨congrArg (fun b=>Ending.returned (.bool b)) HA3.out.symm,kpD HKA.out,HUA.out.d⟩
 · have HA3 : Hid (A = false):=by
    show _ = _
    rw [HA.out]
    unfold KM.useOk
    rw [decide_eq_false (by simp only [hun];exact c),Bool.false_and]
   have HFIF : Hid (R = us):=by show _ = _;rw [HR.out,HA3.out];rfl
   clear HA hr HR
   rcases (show lc < 0 ∨ (0 <= lc /\ (n : Int) <= lc) by omega) with g1 | ⟨g1,g2⟩
   all_goals
    go_enter Tryz.func150,Tryz.ntmps150
    go_wp2
    go_ret
    rw [HFIF.out]
    exact ⟨congrArg (fun b=>Ending.returned (.bool b)) HA3.out.symm,HKA.out,HUA.out⟩
end KW
namespace KM
open Go.RowKit
def UsBd (us : List Us) (n : Nat) (B : Int) : Prop:=us.length = n /\ ∀ i,i < n -> 0 <= (usAt us i).refs /\ (usAt us i).refs <= B
theorem UsBd.mono {us : List Us} {n : Nat} {B C : Int} (h : UsBd us n B) (hc : B <= C) : UsBd us n C:=⟨h.1,fun i hi=>⟨(h.2 i hi).1,Int.le_trans (h.2 i hi).2 hc⟩⟩
theorem UsBd.use {us : List Us} {n : Nat} {B : Int} (h : UsBd us n B) (e : En) (z : Bool) (hok : useOk us e z = true) : UsBd (useN us e z) n (B + 1):=by
 have hb:=(useOk_iff.1 hok).1
 obtain ⟨h1,h2⟩:=h
 refine ⟨by unfold useN;rw [List.length_set];exact h1,fun i hi=>?_⟩
 unfold useN
 rw [usAt_set _ _ _ _ (by omega)]
 by_cases c : e.loc.toNat = i
 · rw [if_pos c,c]
   have:=h2 i hi
   show 0 <= (usAt us i).refs + 1 /\ (usAt us i).refs + 1 <= B + 1
   omega
 · rw [if_neg c]
   have:=h2 i hi
   omega
theorem entB_parts {ar : List AM.Ar} {last : Int} {uf us : List Us} {e : En} (h : entB ar last uf us e = true) : (AM.findN ar e.page).2 = true /\ last < e.page /\ ((e.kind = 1 /\ useOk uf e (AM.findN ar e.page).1.zero = true) ∨ (e.kind = 2 /\ useOk us e (AM.findN ar e.page).1.zero = true)):=by
 unfold entB at h
 rw [Bool.and_eq_true,Bool.and_eq_true,decide_eq_true_eq] at h
 refine ⟨h.1,h.2.1,?_⟩
 have g:=h.2.2
 by_cases c : e.kind = 1
 · rw [if_pos c] at g;exact .inl ⟨c,g⟩
 · rw [if_neg c] at g
   by_cases d : e.kind = 2
   · rw [if_pos d] at g;exact .inr ⟨d,g⟩
   · rw [if_neg d] at g;cases g
theorem ents_bd (ar : List AM.Ar) (es : List En) (u : List Us × List Us) (nf ns : Nat) (B : Int) (h1 : UsBd u.1 nf B) (h2 : UsBd u.2 ns B) : ∀ k,k <= es.length -> entsB ar es u k = true -> UsBd (entsU ar es u k).1 nf (B + k) /\ UsBd (entsU ar es u k).2 ns (B + k) /\ (k : Int) <= (if k = 0 then 0 else (enAt es (k - 1)).page) /\ (if k = 0 then 0 else (enAt es (k - 1)).page) < 256
 | 0,_,_=>⟨h1.mono (by omega),h2.mono (by omega),Int.le_refl _,by rw [if_pos rfl];decide⟩
 | k + 1,hk,hb=>by
  unfold entsB at hb
  rw [Bool.and_eq_true] at hb
  obtain ⟨a1,a2,a3,a4⟩:=ents_bd ar es u nf ns B h1 h2 k (by omega) hb.1
  obtain ⟨b1,b2,b3⟩:=entB_parts hb.2
  have hm:=mapped_pos b1
  rw [if_neg (by omega),Nat.add_sub_cancel]
  unfold lastP at b2
  refine ⟨?_,?_,by omega,hm.2⟩
  · show UsBd (entU ar (entsU ar es u k) (enAt es k)).1 nf _
    unfold entU
    rcases b3 with g | g
    · rw [if_pos g.1];exact (a1.use _ _ g.2).mono (by omega)
    · rw [if_neg (by omega)];exact a1.mono (by omega)
  · show UsBd (entU ar (entsU ar es u k) (enAt es k)).2 ns _
    unfold entU
    rcases b3 with g | g
    · rw [if_pos g.1];exact a2.mono (by omega)
    · rw [if_neg (by omega)];exact (a2.use _ _ g.2).mono (by omega)
theorem ents_small (ar : List AM.Ar) (es : List En) (u : List Us × List Us) (nf ns : Nat) (B : Int) (h1 : UsBd u.1 nf B) (h2 : UsBd u.2 ns B) (k : Nat) (hk : k <= es.length) (hb : entsB ar es u k = true) : k <= 255:=by
 have:=ents_bd ar es u nf ns B h1 h2 k hk hb
 omega
theorem ents_false (ar : List AM.Ar) (es : List En) (u : List Us × List Us) : ∀ (k n : Nat),k <= n -> entsB ar es u k = false -> entsB ar es u n = false
 | k,0,h,e=>by
  obtain rfl : k = 0:=by omega
  exact e
 | k,n + 1,h,e=>by
  by_cases c : k = n + 1
  · rw [<- c];exact e
  · rw [entsB,ents_false ar es u k n (by omega) e,Bool.false_and]
theorem ents_bad (ar : List AM.Ar) (es : List En) (u : List Us × List Us) (k : Nat) (hk : k < es.length) (h : entB ar (lastP es k) (entsU ar es u k).1 (entsU ar es u k).2 (enAt es k) = false) : entsB ar es u es.length = false :=
 ents_false ar es u (k + 1) es.length hk (by rw [entsB,h,Bool.and_false])
theorem us0_bd (n : Nat) : UsBd (List.replicate n us0) n 0:=by
 refine ⟨List.length_replicate,fun i hi=>?_⟩
 unfold usAt
 rw [List.getD_eq_getElem?_getD,List.getElem?_replicate,if_pos hi]
 exact ⟨Int.le_refl _,Int.le_refl _⟩
theorem sps_bd (hs : List LM.Sh) (ss : List Sp) (u : List Us × List Us) (nf ns : Nat) (h1 : UsBd u.1 nf 0) (h2 : UsBd u.2 ns 0) : ∀ k,k <= ss.length -> spsB hs ss u k = true -> UsBd (spsU ss u k).1 nf (255 * k) /\ UsBd (spsU ss u k).2 ns (255 * k)
 | 0,_,_=>⟨h1,h2⟩
 | k + 1,hk,hb=>by
  unfold spsB at hb
  rw [Bool.and_eq_true,Bool.and_eq_true] at hb
  obtain ⟨a1,a2⟩:=sps_bd hs ss u nf ns h1 h2 k (by omega) hb.1
  obtain ⟨b1,b2,_,_⟩:=ents_bd (spAt ss k).areas (spAt ss k).ents (spsU ss u k) nf ns (255 * k) a1 a2 _ (Nat.le_refl _) hb.2.2
  have hsm:=ents_small (spAt ss k).areas (spAt ss k).ents (spsU ss u k) nf ns (255 * k) a1 a2 _ (Nat.le_refl _) hb.2.2
  exact ⟨b1.mono (by omega),b2.mono (by omega)⟩
theorem users_page {k : Kn} (hr : LM.riseB k.sheets = true) (hb : spsB k.sheets k.spaces (List.replicate k.frames.length us0,List.replicate k.slots.length us0) k.spaces.length = true) (i : Nat) (hi : i < k.frames.length) (hn : (usAt (users k).1 i).refs ≠ 0) : 0 <= (usAt (users k).1 i).page /\ (usAt (users k).1 i).page < 256:=by
 obtain ⟨a1,a2⟩:=sps_all hr (sum_zero k.frames.length k.slots.length) k.spaces _ (Nat.le_refl _) hb
 have hs:=a1.2.1 i hi
 have hs : Sum (names (k.spaces.take k.spaces.length) 1 i) (usAt (users k).1 i):=hs
 rw [List.take_length] at hs
 have hne : names k.spaces 1 i ≠ []:=fun e=>hn ((sum_nil hs).2 e)
 obtain ⟨x,hx⟩:=List.exists_mem_of_ne_nil _ hne
 have e:=hs.2 x hx
 obtain ⟨s,hsm,en,hen,_,_,hxe⟩:=mem_names.1 hx
 obtain ⟨j,hj,rfl⟩:=mem_getD sp0 hsm
 have hm:=mapped_pos ((a2 j hj).ent en hen).1
 rw [hxe] at e
 injection e with e1 e2
 omega
theorem sps_false (hs : List LM.Sh) (ss : List Sp) (u : List Us × List Us) : ∀ (k n : Nat),k <= n -> spsB hs ss u k = false -> spsB hs ss u n = false
 | k,0,h,e=>by
  obtain rfl : k = 0:=by omega
  exact e
 | k,n + 1,h,e=>by
  by_cases c : k = n + 1
  · rw [<- c];exact e
  · rw [spsB,sps_false hs ss u k n (by omega) e,Bool.false_and]
end KM
end Go.Proofs.YtpgifpeohlllfaaGreat
