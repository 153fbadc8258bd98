import Derived.Test.YtpgifpeohlllfaaGreatGI08
import Derived.Test.YtpgifpeohlllfaaGreatGI05
import Derived.Test.YtpgifpeohlllfaaGreatGI07
import Derived.Test.YtpgifpeohlllfaaGreatGI01
import Derived.Test.YtpgifpeohlllfaaGreatGI06
set_option maxHeartbeats 20000000
set_option linter.unusedVariables false
set_option maxRecDepth 100000
set_option linter.unusedSimpArgs false
namespace Go.Proofs.YtpgifpeohlllfaaGreat
namespace KW
open Go.RowKit GK
open FW (hideC add_below)
def cellUs (u : KM.Us) : List Value:=[.int .i64 u.refs,.int .i64 u.page,.bool u.zero]
theorem cellUs_len (u : KM.Us) : (cellUs u).length = 3:=rfl
def OwnU (lo : Nat) (w : World) (g n cap : Nat) (us : List KM.Us) : Prop:=us.length = n /\ w.ownsRow lo 211 3 (.slice (some ⟨g,0,none⟩) n cap) n (us.flatMap cellUs)
theorem OwnU.kp {lo : Nat} {w w' : World} {D : Nat -> Prop} {g n cap : Nat} {us : List KM.Us} (h : OwnU lo w g n cap us) (hk : Kp D w w') (hd : ¬ D g) : OwnU lo w' g n cap us:=⟨h.1,hk.row h.2 (fun b hb=>by injection hb with hb;rw [<- hb];exact hd)⟩
theorem OwnU.lt {lo : Nat} {w : World} {g n cap : Nat} {us : List KM.Us} (h : OwnU lo w g n cap us) : lo <= g /\ g < w.heap.size:=h.2.lt g rfl
theorem OwnU.at {lo : Nat} {w : World} {g n cap : Nat} {us : List KM.Us} (h : OwnU lo w g n cap us) (i : Nat) (hi : i < n) : w.cell? ⟨g,i * 3,none⟩ = some (.int .i64 (KM.usAt us i).refs) /\ w.cell? ⟨g,i * 3 + 1,none⟩ = some (.int .i64 (KM.usAt us i).page) /\ w.cell? ⟨g,i * 3 + 2,none⟩ = some (.bool (KM.usAt us i).zero):=by
 obtain ⟨h1,h2⟩:=h
 subst h1
 exact ⟨row_at cellUs cellUs_len KM.us0 h2 i 0 hi (by omega),row_at cellUs cellUs_len KM.us0 h2 i 1 hi (by omega),row_at cellUs cellUs_len KM.us0 h2 i 2 hi (by omega)⟩
theorem kpD {D : Nat -> Prop} {w w' : World} (h : Kp D w w') : Kp D w w'.drew:=h.trans (Kp.drew D w') (fun _ _ x=>x)
theorem OwnU.d {lo : Nat} {w : World} {g n cap : Nat} {us : List KM.Us} (h : OwnU lo w g n cap us) : OwnU lo w.drew g n cap us:=h.kp (Kp.drew (fun _=>False) w) (fun x=>x)
theorem rows_set3 {α : Type} (f : α -> List Value) (hf : ∀ x,(f x).length = 3) (d : α) (x : α) (a b c : Value) (hx : f x = [a,b,c]) (l : List α) (i : Nat) (hi : i < l.length) : (l.set i x).flatMap f = (((l.flatMap f).set (i * 3) a).set (i * 3 + 1) b).set (i * 3 + 2) c:=by
 induction l generalizing i with
 | nil=>cases hi
 | cons y r ih =>
  cases i with
  | zero =>
   rw [List.set_cons_zero,List.flatMap_cons,List.flatMap_cons,hx]
   obtain ⟨p,q,s,e⟩ : ∃ p q s,f y = [p,q,s]:=by
    have:=hf y
    match h : f y with
    | [p,q,s]=>exact ⟨p,q,s,rfl⟩
    | []=>rw [h] at this;cases this
    | [_]=>rw [h] at this;cases this
    | [_,_]=>rw [h] at this;cases this
    | _ :: _ :: _ :: _ :: _=>rw [h] at this;simp at this
   rw [e]
   rfl
  | succ i =>
   have h3:=hf y
   rw [List.set_cons_succ,List.flatMap_cons,List.flatMap_cons,ih i (Nat.lt_of_succ_lt_succ hi),List.set_append_right _ _ (by omega),List.set_append_right _ _ (by omega),List.set_append_right _ _ (by omega),h3,show (i + 1) * 3 - 3 = i * 3 by omega,show (i + 1) * 3 + 1 - 3 = i * 3 + 1 by omega,show (i + 1) * 3 + 2 - 3 = i * 3 + 2 by omega]
theorem OwnU.set {lo : Nat} {w : World} {g n cap : Nat} {us : List KM.Us} (h : OwnU lo w g n cap us) (i : Nat) (hi : i < n) (u : KM.Us) : OwnU lo (((w.setCell ⟨g,i * 3,none⟩ (.int .i64 u.refs)).setCell ⟨g,i * 3 + 1,none⟩ (.int .i64 u.page)).setCell ⟨g,i * 3 + 2,none⟩ (.bool u.zero)) g n cap (us.set i u):=by
 refine ⟨by rw [List.length_set];exact h.1,?_⟩
 rw [rows_set3 cellUs cellUs_len KM.us0 u _ _ _ rfl us i (by rw [h.1];exact hi)]
 exact row_set (row_set (row_set h.2 _ _) _ _) _ _
set_option maxHeartbeats 8000000 in
theorem use_any (us : List KM.Us) (e : KM.En) (z : Bool) (lo g n cap : Nat) (w : World) (h : OwnU lo w g n cap us) (hn : n <= 1000) (he : M.I64 e.page /\ M.I64 e.loc) (hr : ∀ i,i < n -> 0 <= (KM.usAt us i).refs /\ (KM.usAt us i).refs <= 1000000) :
  Calls Tryz.prog 150 #[.slice (some ⟨g,0,none⟩) n cap,.agg #[.int .i64 e.page,.int .i64 e.kind,.int .i64 e.loc],.bool z] w fun x w'=>x = .returned (.bool (KM.useOk us e z)) /\ Kp (fun b=>b = g) w w' /\ OwnU lo w' g n cap (if KM.useOk us e z then KM.useN us e z else us):=by
 obtain ⟨A,hA⟩ : ∃ A,A = KM.useOk us e z:=⟨_,rfl⟩
 rw [<- hA]
 obtain ⟨R,hR⟩ : ∃ R,R = if A then KM.useN us e z else us:=⟨_,rfl⟩
 rw [<- hR]
 have HA:=hideC hA
 have HR:=hideC hR
 clear hA hR
 have hglt:=h.lt.2
 have HU:=hideC h
 have hun : us.length = n:=h.1
 obtain ⟨pg,kd,lc⟩:=e
 simp only at he ⊢
 have HKA:=hideC (Kp.alloc (fun b=>b = g) w (.cells #[.int .i64 pg,.int .i64 kd,.int .i64 lc] 45))
 have HUA:=hideC (h.kp (Kp.alloc (fun _=>False) w (.cells #[.int .i64 pg,.int .i64 kd,.int .i64 lc] 45)) (fun x=>x))
 have hgn : ¬ g = w.heap.size:=by omega
 clear h
 by_cases c : 0 <= lc /\ lc < (n : Int)
 · obtain ⟨i,rfl⟩ : ∃ i : Nat,lc = (i : Int):=⟨lc.toNat,by omega⟩
   have hi : i < n:=by omega
   obtain ⟨u0,u1,u2⟩:=HU.out.at i hi
   have hri:=hr i hi
   have HA2 : Hid (A = !(decide (0 < (KM.usAt us i).refs) && (decide ((KM.usAt us i).page ≠ pg) || (KM.usAt us i).zero != z))):=by
    show _ = _
    rw [HA.out]
    unfold KM.useOk
    simp only [hun,Int.toNat_natCast]
    rw [decide_eq_true c,Bool.true_and]
   have HUS:=hideC (HUA.out.set i hi ⟨(KM.usAt us i).refs + 1,pg,z⟩)
   have HUN : Hid (KM.useN us ⟨pg,kd,(i : Int)⟩ z = us.set i ⟨(KM.usAt us i).refs + 1,pg,z⟩):=by
    show _ = _
    unfold KM.useN
    simp only [Int.toNat_natCast]
   obtain ⟨U,hU⟩ : ∃ U,U = KM.usAt us i:=⟨_,rfl⟩
   rw [<- hU] at u0 u1 u2 hri HA2 HUS HUN
   obtain ⟨ur,up,uz⟩:=U
   simp only at u0 u1 u2 hri HA2 HUS HUN
   have cl : (i : Int) < (n : Int):=c.2
   have c0 : (0 : Int) <= (i : Int):=c.1
   have HUI:=hideC hU
   clear hU hr HA
   have wr1 : IntKind.i64.wrap (ur + 1) = ur + 1:=by rw [IntKind.wrap_i64];omega
   have BE:=hideC (B.new w #[.int .i64 pg,.int .i64 kd,.int .i64 (i : Int)] 45)
   have HFIN : Hid (∀ V,Kp (fun b=>b = g) w V -> ∀ us',OwnU lo V g n cap us' -> A = true -> us' = us.set i ⟨ur + 1,pg,z⟩ -> OwnU lo V g n cap R):=fun V _ us' ho ha e=>by
    have : R = us':=by rw [HR.out,if_pos ha,HUN.out,e]
    rw [this];exact ho
   have HFIF : Hid (A = false -> R = us):=fun ha=>by rw [HR.out,ha];rfl
   clear HR HUN
   rcases (show ¬ 0 < ur ∨ (0 < ur /\ up = pg /\ uz = z) ∨ (0 < ur /\ up = pg /\ ¬ uz = z) ∨ (0 < ur /\ ¬ up = pg) by
    by_cases a : 0 < ur
    · by_cases b : up = pg
      · by_cases d : uz = z
        · exact .inr (.inl ⟨a,b,d⟩)
        · exact .inr (.inr (.inl ⟨a,b,d⟩))
      · exact .inr (.inr (.inr ⟨a,b⟩))
    · exact .inl a) with g1 | ⟨g1,g2,g3⟩ | ⟨g1,g2,g3⟩ | ⟨g1,g2⟩
   · have d1 : decide (0 < ur) = false:=decide_eq_false g1
     have HA3 : Hid (A = true):=by show _ = _;rw [HA2.out,d1];rfl
     clear HA2
     go_enter Tryz.func150,Tryz.ntmps150
     go_wp2
     obtain ⟨W,hW⟩ : ∃ W,W = w.alloc (.cells #[.int .i64 pg,.int .i64 kd,.int .i64 (i : Int)] 45):=⟨_,rfl⟩
     rw [<- hW] at HKA HUA HUS BE ⊢
     obtain ⟨eb,heb⟩ : ∃ eb,eb = w.heap.size:=⟨_,rfl⟩
     rw [<- heb] at BE ⊢
     clear hW heb
     obtain ⟨y0,y1,y2⟩:=HUA.out.at i hi
     have v0 : W.cell? ⟨g,i * 3,none⟩ = some (.int .i64 ur):=by rw [y0,<- HUI.out]
     have v1 : W.cell? ⟨g,i * 3 + 1,none⟩ = some (.int .i64 up):=by rw [y1,<- HUI.out]
     have v2 : W.cell? ⟨g,i * 3 + 2,none⟩ = some (.bool uz):=by rw [y2,<- HUI.out]
     have f0 : W.frozen? ⟨g,i * 3,none⟩ = false:=row_free HUA.out.2 _
     have f1 : W.frozen? ⟨g,i * 3 + 1,none⟩ = false:=row_free HUA.out.2 _
     have f2 : W.frozen? ⟨g,i * 3 + 2,none⟩ = false:=row_free HUA.out.2 _
     have w0 : W.cell? ⟨eb,0,none⟩ = some (.int .i64 pg):=B.cell BE.out 0 rfl
     have w2 : W.cell? ⟨eb,2,none⟩ = some (.int .i64 (i : Int)):=B.cell BE.out 2 rfl
     clear u0 u1 u2 hgn y0 y1 y2
     go_region
     go_wp2
     go_region
     go_wp2
     go_ret
     have K:=HKA.out.trans (kp_set3 (D:=fun b=>b = g) W g (i * 3) (i * 3 + 1) (i * 3 + 2) (.int .i64 (ur + 1)) (.int .i64 pg) (.bool z) rfl) (fun _ _ x=>x)
     exact ⟨congrArg (fun b=>Ending.returned (.bool b)) HA3.out.symm,kpD (kpD K),HFIN.out _ (kpD (kpD K)) _ HUS.out.d.d HA3.out rfl⟩
   · have b1 : (up != pg) = false:=by simpa using g2
     have b2 : (uz == z) = true:=by simpa using g3
     have HA3 : Hid (A = true):=by show _ = _;rw [HA2.out,g2,g3];simp
     clear HA2 g2 g3
     go_enter Tryz.func150,Tryz.ntmps150
     go_wp2
     obtain ⟨W,hW⟩ : ∃ W,W = w.alloc (.cells #[.int .i64 pg,.int .i64 kd,.int .i64 (i : Int)] 45):=⟨_,rfl⟩
     rw [<- hW] at HKA HUA HUS BE ⊢
     obtain ⟨eb,heb⟩ : ∃ eb,eb = w.heap.size:=⟨_,rfl⟩
     rw [<- heb] at BE ⊢
     clear hW heb
     obtain ⟨y0,y1,y2⟩:=HUA.out.at i hi
     have v0 : W.cell? ⟨g,i * 3,none⟩ = some (.int .i64 ur):=by rw [y0,<- HUI.out]
     have v1 : W.cell? ⟨g,i * 3 + 1,none⟩ = some (.int .i64 up):=by rw [y1,<- HUI.out]
     have v2 : W.cell? ⟨g,i * 3 + 2,none⟩ = some (.bool uz):=by rw [y2,<- HUI.out]
     have f0 : W.frozen? ⟨g,i * 3,none⟩ = false:=row_free HUA.out.2 _
     have f1 : W.frozen? ⟨g,i * 3 + 1,none⟩ = false:=row_free HUA.out.2 _
     have f2 : W.frozen? ⟨g,i * 3 + 2,none⟩ = false:=row_free HUA.out.2 _
     have w0 : W.cell? ⟨eb,0,none⟩ = some (.int .i64 pg):=B.cell BE.out 0 rfl
     have w2 : W.cell? ⟨eb,2,none⟩ = some (.int .i64 (i : Int)):=B.cell BE.out 2 rfl
     clear u0 u1 u2 hgn y0 y1 y2
     go_region
     go_wp2
     go_region
     go_wp2
     go_ret
     have K:=HKA.out.trans (kp_set3 (D:=fun b=>b = g) W g (i * 3) (i * 3 + 1) (i * 3 + 2) (.int .i64 (ur + 1)) (.int .i64 pg) (.bool z) rfl) (fun _ _ x=>x)
     exact ⟨congrArg (fun b=>Ending.returned (.bool b)) HA3.out.symm,kpD (kpD K),HFIN.out _ (kpD (kpD K)) _ HUS.out.d.d HA3.out rfl⟩
   · have b1 : (up != pg) = false:=by simpa using g2
     have b2 : (uz == z) = false:=by simpa using g3
     have HA3 : Hid (A = false):=by show _ = _;rw [HA2.out,decide_eq_true g1,show (uz != z) = true by simpa using g3];simp
     clear HA2 g2 g3 HFIN
     go_enter Tryz.func150,Tryz.ntmps150
     go_wp2
     obtain ⟨W,hW⟩ : ∃ W,W = w.alloc (.cells #[.int .i64 pg,.int .i64 kd,.int .i64 (i : Int)] 45):=⟨_,rfl⟩
     rw [<- hW] at HKA HUA HUS BE ⊢
     obtain ⟨eb,heb⟩ : ∃ eb,eb = w.heap.size:=⟨_,rfl⟩
     rw [<- heb] at BE ⊢
     clear hW heb
     obtain ⟨y0,y1,y2⟩:=HUA.out.at i hi
     have v0 : W.cell? ⟨g,i * 3,none⟩ = some (.int .i64 ur):=by rw [y0,<- HUI.out]
     have v1 : W.cell? ⟨g,i * 3 + 1,none⟩ = some (.int .i64 up):=by rw [y1,<- HUI.out]
     have v2 : W.cell? ⟨g,i * 3 + 2,none⟩ = some (.bool uz):=by rw [y2,<- HUI.out]
     have f0 : W.frozen? ⟨g,i * 3,none⟩ = false:=row_free HUA.out.2 _
     have f1 : W.frozen? ⟨g,i * 3 + 1,none⟩ = false:=row_free HUA.out.2 _
     have f2 : W.frozen? ⟨g,i * 3 + 2,none⟩ = false:=row_free HUA.out.2 _
     have w0 : W.cell? ⟨eb,0,none⟩ = some (.int .i64 pg):=B.cell BE.out 0 rfl
     have w2 : W.cell? ⟨eb,2,none⟩ = some (.int .i64 (i : Int)):=B.cell BE.out 2 rfl
     clear u0 u1 u2 hgn y0 y1 y2 HUS
     go_region
     go_wp2
     go_ret
     rw [HFIF.out HA3.out]
     exact ⟨congrArg (fun b=>Ending.returned (.bool b)) HA3.out.symm,kpD HKA.out,HUA.out.d⟩
   · have b1 : (up != pg) = true:=by simpa using g2
     have HA3 : Hid (A = false):=by show _ = _;rw [HA2.out,decide_eq_true g1,decide_eq_true g2];rfl
     clear HA2 g2 HFIN
     go_enter Tryz.func150,Tryz.ntmps150
     go_wp2
     obtain ⟨W,hW⟩ : ∃ W,W = w.alloc (.cells #[.int .i64 pg,.int .i64 kd,.int .i64 (i : Int)] 45):=⟨_,rfl⟩
     rw [<- hW] at HKA HUA HUS BE ⊢
     obtain ⟨eb,heb⟩ : ∃ eb,eb = w.heap.size:=⟨_,rfl⟩
     rw [<- heb] at BE ⊢
     clear hW heb
     obtain ⟨y0,y1,y2⟩:=HUA.out.at i hi
     have v0 : W.cell? ⟨g,i * 3,none⟩ = some (.int .i64 ur):=by rw [y0,<- HUI.out]
     have v1 : W.cell? ⟨g,i * 3 + 1,none⟩ = some (.int .i64 up):=by rw [y1,<- HUI.out]
     have v2 : W.cell? ⟨g,i * 3 + 2,none⟩ = some (.bool uz):=by rw [y2,<- HUI.out]
     have f0 : W.frozen? ⟨g,i * 3,none⟩ = false:=row_free HUA.out.2 _
     have f1 : W.frozen? ⟨g,i * 3 + 1,none⟩ = false:=row_free HUA.out.2 _
     have f2 : W.frozen? ⟨g,i * 3 + 2,none⟩ = false:=row_free HUA.out.2 _
     have w0 : W.cell? ⟨eb,0,none⟩ = some (.int .i64 pg):=B.cell BE.out 0 rfl
     have w2 : W.cell? ⟨eb,2,none⟩ = some (.int .i64 (i : Int)):=B.cell BE.out 2 rfl
     clear u0 u1 u2 hgn y0 y1 y2 HUS
     go_region
     go_wp2
     go_ret
     rw [HFIF.out HA3.out]
     exact ⟨congrArg (fun b=>Ending.returned (.bool b)) HA3.out.symm,kpD HKA.out,HUA.out.d⟩
 · have HA3 : Hid (A = false):=by
    show _ = _
    rw [HA.out]
    unfold KM.useOk
    rw [decide_eq_false (by simp only [hun];exact c),Bool.false_and]
   have HFIF : Hid (R = us):=by show _ = _;rw [HR.out,HA3.out];rfl
   clear HA hr HR
   rcases (show lc < 0 ∨ (0 <= lc /\ (n : Int) <= lc) by omega) with g1 | ⟨g1,g2⟩
   all_goals
    go_enter Tryz.func150,Tryz.ntmps150
    go_wp2
    go_ret
    rw [HFIF.out]
    exact ⟨congrArg (fun b=>Ending.returned (.bool b)) HA3.out.symm,HKA.out,HUA.out⟩
end KW
namespace KM
open Go.RowKit
def UsBd (us : List Us) (n : Nat) (B : Int) : Prop:=us.length = n /\ ∀ i,i < n -> 0 <= (usAt us i).refs /\ (usAt us i).refs <= B
theorem UsBd.mono {us : List Us} {n : Nat} {B C : Int} (h : UsBd us n B) (hc : B <= C) : UsBd us n C:=⟨h.1,fun i hi=>⟨(h.2 i hi).1,Int.le_trans (h.2 i hi).2 hc⟩⟩
theorem UsBd.use {us : List Us} {n : Nat} {B : Int} (h : UsBd us n B) (e : En) (z : Bool) (hok : useOk us e z = true) : UsBd (useN us e z) n (B + 1):=by
 have hb:=(useOk_iff.1 hok).1
 obtain ⟨h1,h2⟩:=h
 refine ⟨by unfold useN;rw [List.length_set];exact h1,fun i hi=>?_⟩
 unfold useN
 rw [usAt_set _ _ _ _ (by omega)]
 by_cases c : e.loc.toNat = i
 · rw [if_pos c,c]
   have:=h2 i hi
   show 0 <= (usAt us i).refs + 1 /\ (usAt us i).refs + 1 <= B + 1
   omega
 · rw [if_neg c]
   have:=h2 i hi
   omega
theorem entB_parts {ar : List AM.Ar} {last : Int} {uf us : List Us} {e : En} (h : entB ar last uf us e = true) : (AM.findN ar e.page).2 = true /\ last < e.page /\ ((e.kind = 1 /\ useOk uf e (AM.findN ar e.page).1.zero = true) ∨ (e.kind = 2 /\ useOk us e (AM.findN ar e.page).1.zero = true)):=by
 unfold entB at h
 rw [Bool.and_eq_true,Bool.and_eq_true,decide_eq_true_eq] at h
 refine ⟨h.1,h.2.1,?_⟩
 have g:=h.2.2
 by_cases c : e.kind = 1
 · rw [if_pos c] at g;exact .inl ⟨c,g⟩
 · rw [if_neg c] at g
   by_cases d : e.kind = 2
   · rw [if_pos d] at g;exact .inr ⟨d,g⟩
   · rw [if_neg d] at g;cases g
theorem ents_bd (ar : List AM.Ar) (es : List En) (u : List Us × List Us) (nf ns : Nat) (B : Int) (h1 : UsBd u.1 nf B) (h2 : UsBd u.2 ns B) : ∀ k,k <= es.length -> entsB ar es u k = true -> UsBd (entsU ar es u k).1 nf (B + k) /\ UsBd (entsU ar es u k).2 ns (B + k) /\ (k : Int) <= (if k = 0 then 0 else (enAt es (k - 1)).page) /\ (if k = 0 then 0 else (enAt es (k - 1)).page) < 256
 | 0,_,_=>⟨h1.mono (by omega),h2.mono (by omega),Int.le_refl _,by rw [if_pos rfl];decide⟩
 | k + 1,hk,hb=>by
  unfold entsB at hb
  rw [Bool.and_eq_true] at hb
  obtain ⟨a1,a2,a3,a4⟩:=ents_bd ar es u nf ns B h1 h2 k (by omega) hb.1
  obtain ⟨b1,b2,b3⟩:=entB_parts hb.2
  have hm:=mapped_pos b1
  rw [if_neg (by omega),Nat.add_sub_cancel]
  unfold lastP at b2
  refine ⟨?_,?_,by omega,hm.2⟩
  · show UsBd (entU ar (entsU ar es u k) (enAt es k)).1 nf _
    unfold entU
    rcases b3 with g | g
    · rw [if_pos g.1];exact (a1.use _ _ g.2).mono (by omega)
    · rw [if_neg (by omega)];exact a1.mono (by omega)
  · show UsBd (entU ar (entsU ar es u k) (enAt es k)).2 ns _
    unfold entU
    rcases b3 with g | g
    · rw [if_pos g.1];exact a2.mono (by omega)
    · rw [if_neg (by omega)];exact (a2.use _ _ g.2).mono (by omega)
theorem ents_small (ar : List AM.Ar) (es : List En) (u : List Us × List Us) (nf ns : Nat) (B : Int) (h1 : UsBd u.1 nf B) (h2 : UsBd u.2 ns B) (k : Nat) (hk : k <= es.length) (hb : entsB ar es u k = true) : k <= 255:=by
 have:=ents_bd ar es u nf ns B h1 h2 k hk hb
 omega
theorem ents_false (ar : List AM.Ar) (es : List En) (u : List Us × List Us) : ∀ (k n : Nat),k <= n -> entsB ar es u k = false -> entsB ar es u n = false
 | k,0,h,e=>by
  obtain rfl : k = 0:=by omega
  exact e
 | k,n + 1,h,e=>by
  by_cases c : k = n + 1
  · rw [<- c];exact e
  · rw [entsB,ents_false ar es u k n (by omega) e,Bool.false_and]
theorem ents_bad (ar : List AM.Ar) (es : List En) (u : List Us × List Us) (k : Nat) (hk : k < es.length) (h : entB ar (lastP es k) (entsU ar es u k).1 (entsU ar es u k).2 (enAt es k) = false) : entsB ar es u es.length = false :=
 ents_false ar es u (k + 1) es.length hk (by rw [entsB,h,Bool.and_false])
theorem us0_bd (n : Nat) : UsBd (List.replicate n us0) n 0:=by
 refine ⟨List.length_replicate,fun i hi=>?_⟩
 unfold usAt
 rw [List.getD_eq_getElem?_getD,List.getElem?_replicate,if_pos hi]
 exact ⟨Int.le_refl _,Int.le_refl _⟩
theorem sps_bd (hs : List LM.Sh) (ss : List Sp) (u : List Us × List Us) (nf ns : Nat) (h1 : UsBd u.1 nf 0) (h2 : UsBd u.2 ns 0) : ∀ k,k <= ss.length -> spsB hs ss u k = true -> UsBd (spsU ss u k).1 nf (255 * k) /\ UsBd (spsU ss u k).2 ns (255 * k)
 | 0,_,_=>⟨h1,h2⟩
 | k + 1,hk,hb=>by
  unfold spsB at hb
  rw [Bool.and_eq_true,Bool.and_eq_true] at hb
  obtain ⟨a1,a2⟩:=sps_bd hs ss u nf ns h1 h2 k (by omega) hb.1
  obtain ⟨b1,b2,_,_⟩:=ents_bd (spAt ss k).areas (spAt ss k).ents (spsU ss u k) nf ns (255 * k) a1 a2 _ (Nat.le_refl _) hb.2.2
  have hsm:=ents_small (spAt ss k).areas (spAt ss k).ents (spsU ss u k) nf ns (255 * k) a1 a2 _ (Nat.le_refl _) hb.2.2
  exact ⟨b1.mono (by omega),b2.mono (by omega)⟩
theorem users_page {k : Kn} (hr : LM.riseB k.sheets = true) (hb : spsB k.sheets k.spaces (List.replicate k.frames.length us0,List.replicate k.slots.length us0) k.spaces.length = true) (i : Nat) (hi : i < k.frames.length) (hn : (usAt (users k).1 i).refs ≠ 0) : 0 <= (usAt (users k).1 i).page /\ (usAt (users k).1 i).page < 256:=by
 obtain ⟨a1,a2⟩:=sps_all hr (sum_zero k.frames.length k.slots.length) k.spaces _ (Nat.le_refl _) hb
 have hs:=a1.2.1 i hi
 have hs : Sum (names (k.spaces.take k.spaces.length) 1 i) (usAt (users k).1 i):=hs
 rw [List.take_length] at hs
 have hne : names k.spaces 1 i ≠ []:=fun e=>hn ((sum_nil hs).2 e)
 obtain ⟨x,hx⟩:=List.exists_mem_of_ne_nil _ hne
 have e:=hs.2 x hx
 obtain ⟨s,hsm,en,hen,_,_,hxe⟩:=mem_names.1 hx
 obtain ⟨j,hj,rfl⟩:=mem_getD sp0 hsm
 have hm:=mapped_pos ((a2 j hj).ent en hen).1
 rw [hxe] at e
 injection e with e1 e2
 omega
theorem sps_false (hs : List LM.Sh) (ss : List Sp) (u : List Us × List Us) : ∀ (k n : Nat),k <= n -> spsB hs ss u k = false -> spsB hs ss u n = false
 | k,0,h,e=>by
  obtain rfl : k = 0:=by omega
  exact e
 | k,n + 1,h,e=>by
  by_cases c : k = n + 1
  · rw [<- c];exact e
  · rw [spsB,sps_false hs ss u k n (by omega) e,Bool.false_and]
end KM
namespace KW
open Go.RowKit GK
open FW (hideC add_below)
set_option maxHeartbeats 16000000 in
theorem rightEntries_any (s : KM.Sp) (va : Value) (ap : Option Addr) (cp : Nat) (uf us : List KM.Us) (lo gf nf cf gs ns cs : Nat) (bd : Int) (w0 w : World) (ha : AW.Has w0 va s.areas) (he : HasRow cellEn 3 KM.en0 w0 ap s.ents) (hfit : FitSp s) (hw : Below w0.heap.size w0 w) (hlo : w0.heap.size <= lo) (huf : OwnU lo w gf nf cf uf) (hus : OwnU lo w gs ns cs us) (hne : ¬ gf = gs) (hb1 : KM.UsBd uf nf bd) (hb2 : KM.UsBd us ns bd) (hB : bd <= 100000) (hnf : nf <= 1000) (hns : ns <= 1000) :
  Calls Tryz.prog 112 #[.agg #[.bool s.live,va,.slice ap s.ents.length cp],.slice (some ⟨gf,0,none⟩) nf cf,.slice (some ⟨gs,0,none⟩) ns cs] w fun x w'=>x = .returned (.bool (KM.entsB s.areas s.ents (uf,us) s.ents.length)) /\ Kp (fun b=>b = gf ∨ b = gs) w w' /\ (KM.entsB s.areas s.ents (uf,us) s.ents.length = true -> OwnU lo w' gf nf cf (KM.entsU s.areas s.ents (uf,us) s.ents.length).1 /\ OwnU lo w' gs ns cs (KM.entsU s.areas s.ents (uf,us) s.ents.length).2):=by
 obtain ⟨lv,ar,es⟩:=s
 simp only at ha he hfit ⊢
 have HHA:=hideC ha
 have HHE:=hideC he
 have HFA:=hideC hfit.areas
 have HFE:=hideC hfit.ent
 have hel : es.length <= 140737488351232:=hfit.ents
 have HW:=hideC hw
 have HUF:=hideC huf
 have HUS:=hideC hus
 have hgf:=huf.lt
 have hgs:=hus.lt
 have HBD:=hideC (KM.ents_bd ar es (uf,us) nf ns bd hb1 hb2)
 have HBAD:=hideC (KM.ents_bad ar es (uf,us))
 have HNX : Hid (∀ k,KM.entsB ar es (uf,us) k = true -> KM.entB ar (KM.lastP es k) (KM.entsU ar es (uf,us) k).1 (KM.entsU ar es (uf,us) k).2 (KM.enAt es k) = true -> KM.entsB ar es (uf,us) (k + 1) = true /\ KM.entsU ar es (uf,us) (k + 1) = KM.entU ar (KM.entsU ar es (uf,us) k) (KM.enAt es k)):=fun k h1 h2=>⟨by rw [KM.entsB,h1,h2];rfl,rfl⟩
 have HL1 : Hid (∀ k,KM.lastP es (k + 1) = (KM.enAt es k).page):=fun k=>by unfold KM.lastP;rw [if_neg (by omega),Nat.add_sub_cancel]
 have HL0 : Hid (KM.lastP es 0 = 0):=rfl
 obtain ⟨aa,ca,hva,_⟩:=id ha
 subst hva
 obtain ⟨na,hna⟩ : ∃ na,na = ar.length:=⟨_,rfl⟩
 rw [<- hna] at HHA ⊢
 have HK0:=hideC (Kp.alloc (fun b=>b = gf ∨ b = gs) w (.cells #[.bool lv,.slice aa na ca,.slice ap es.length cp] 43))
 have BS:=hideC (B.new w #[.bool lv,.slice aa na ca,.slice ap es.length cp] 43)
 have HUF0:=hideC (huf.kp (Kp.alloc (fun _=>False) w (.cells #[.bool lv,.slice aa na ca,.slice ap es.length cp] 43)) (fun x=>x))
 have HUS0:=hideC (hus.kp (Kp.alloc (fun _=>False) w (.cells #[.bool lv,.slice aa na ca,.slice ap es.length cp] 43)) (fun x=>x))
 clear ha he hfit hw huf hus hb1 hb2 hna
 go_enter Tryz.func112,Tryz.ntmps112
 go_wp2
 obtain ⟨W,hW⟩ : ∃ W,W = w.alloc (.cells #[.bool lv,.slice aa na ca,.slice ap es.length cp] 43):=⟨_,rfl⟩
 rw [<- hW] at HK0 BS HUF0 HUS0 ⊢
 obtain ⟨sb,hsb⟩ : ∃ sb,sb = w.heap.size:=⟨_,rfl⟩
 have hsbf : ¬ sb = gf:=by omega
 have hsbs : ¬ sb = gs:=by omega
 have hsW : W.heap.size = sb + 1:=by rw [hW,World.size_alloc,hsb]
 have h0s : w0.heap.size <= sb:=by have:=HW.out.size;omega
 have hgf2 : gf < sb:=by omega
 have hgs2 : gs < sb:=by omega
 rw [<- hsb] at BS ⊢
 have HSB:=hideC hsb
 clear hW hsb HUF HUS
 go_loopw [7,15] (fun lv iv wr=>∃ k : Nat,k <= es.length /\ iv = .int .i64 (k : Int) /\ lv = .int .i64 (KM.lastP es k) /\ KM.entsB ar es (uf,us) k = true /\ Kp (fun b=>b = gf ∨ b = gs) W wr /\ OwnU lo wr gf nf cf (KM.entsU ar es (uf,us) k).1 /\ OwnU lo wr gs ns cs (KM.entsU ar es (uf,us) k).2) (fun _ iv _=>es.length - (intOf iv).toNat)
 case atStart=>exact ⟨0,by omega,rfl,rfl,rfl,Kp.refl _ _,HUF0.out,HUS0.out⟩
 case round =>
  obtain ⟨k,hk,rfl,rfl,hbk,hkp,hof,hos⟩:=hrel
  have HKP:=hideC hkp
  have HBK:=hideC hbk
  have HOF:=hideC hof
  have HOS:=hideC hos
  obtain ⟨L,hL⟩ : ∃ L,L = KM.lastP es k:=⟨_,rfl⟩
  rw [<- hL]
  have bs:=hkp.keep BS.out (fun x=>by omega)
  have hsz:=hkp.size
  have s1 : wr.cell? ⟨sb,1,none⟩ = some (.slice aa na ca):=B.cell bs 1 rfl
  have s2 : wr.cell? ⟨sb,2,none⟩ = some (.slice ap es.length cp):=B.cell bs 2 rfl
  have HBS:=hideC bs
  by_cases hlt : k < es.length
  · have hb0:=(hkp.below (HK0.out.below HW.out HW.out.size (fun b hb=>by omega)) (by omega) (fun b hb=>by omega) : Below w0.heap.size w0 wr)
    have HB0:=hideC hb0
    obtain ⟨eb,eo,hao,hbl,hlie⟩:=HHE.out (by omega)
    subst hao
    have ce : ∀ j,j < 3 -> wr.cell? ⟨eb,eo + k * 3 + j,none⟩ = (cellEn (KM.enAt es k))[j]?:=fun j hj=>(hb0.cell (p:=⟨eb,eo + k * 3 + j,none⟩) hbl).trans (hlie k hlt j hj)
    have e0:=ce 0 (by omega)
    have e1:=ce 1 (by omega)
    have e2:=ce 2 (by omega)
    rw [Nat.add_zero] at e0
    have hfe:=HFE.out k hlt
    have HBAD:=hideC (HBAD.out k hlt)
    have HNX:=hideC (HNX.out k HBK.out)
    have HL1:=hideC (HL1.out k)
    obtain ⟨bd1,bd2,bd3,bd4⟩:=HBD.out k (by omega) HBK.out
    have hk5 : (k : Int) <= 255:=by omega
    have HUB : Hid (KM.UsBd (KM.entsU ar es (uf,us) k).1 nf 1000000 /\ KM.UsBd (KM.entsU ar es (uf,us) k).2 ns 1000000):=⟨bd1.mono (by omega),bd2.mono (by omega)⟩
    have HFD : Hid (∀ V,Below w0.heap.size w0 V -> Calls Tryz.prog 70 #[.slice aa na ca,.int .i64 (KM.enAt es k).page] V fun e w'=>e = .returned (.tuple #[.agg (AW.cellsOf (AM.findN ar (KM.enAt es k).page).1),.bool (AM.findN ar (KM.enAt es k).page).2]) /\ Below V.heap.size V w'):=fun V hV=>AW.find_any ar _ _ V (HHA.out.below hV) HFA.out
    rw [<- hL] at HBAD HNX
    have HEU : Hid (∀ u : List KM.Us × List KM.Us,KM.entU ar u (KM.enAt es k) = if (KM.enAt es k).kind = 1 then (KM.useN u.1 (KM.enAt es k) (AM.findN ar (KM.enAt es k).page).1.zero,u.2) else (u.1,KM.useN u.2 (KM.enAt es k) (AM.findN ar (KM.enAt es k).page).1.zero)):=fun u=>rfl
    obtain ⟨UU,hUU⟩ : ∃ UU,UU = KM.entsU ar es (uf,us) k:=⟨_,rfl⟩
    rw [<- hUU] at HBAD HNX HUB HOF HOS
    obtain ⟨U1,U2⟩:=UU
    unfold KM.entB at HBAD HNX
    obtain ⟨E,hE⟩ : ∃ E,E = KM.enAt es k:=⟨_,rfl⟩
    rw [<- hE] at e0 e1 e2 hfe HBAD HNX HL1 HFD HEU
    obtain ⟨pg,kd,lc⟩:=E
    simp only at HBAD HNX HUB HOF HOS hfe HL1 HFD HEU
    have x0 : wr.cell? ⟨eb,eo + k * 3,none⟩ = some (.int .i64 pg):=e0
    have x1 : wr.cell? ⟨eb,eo + k * 3 + 1,none⟩ = some (.int .i64 kd):=e1
    have x2 : wr.cell? ⟨eb,eo + k * 3 + 2,none⟩ = some (.int .i64 lc):=e2
    obtain ⟨⟨fa,ok⟩,hF⟩ : ∃ F,F = AM.findN ar pg:=⟨_,rfl⟩
    rw [<- hF] at HBAD HNX HFD HEU
    obtain ⟨f1,f2,f3,z⟩:=fa
    unfold AW.cellsOf at HFD
    simp only at HBAD HNX HFD HEU
    have HU1:=hideC (fun V (hV : OwnU lo V gf nf cf U1)=>use_any U1 ⟨pg,kd,lc⟩ z lo gf nf cf V hV hnf ⟨hfe.1,hfe.2.2⟩ (fun i hi=>HUB.out.1.2 i hi))
    have HU2:=hideC (fun V (hV : OwnU lo V gs ns cs U2)=>use_any U2 ⟨pg,kd,lc⟩ z lo gs ns cs V hV hns ⟨hfe.1,hfe.2.2⟩ (fun i hi=>HUB.out.2.2 i hi))
    obtain ⟨A1,hA1⟩ : ∃ A1,A1 = KM.useOk U1 ⟨pg,kd,lc⟩ z:=⟨_,rfl⟩
    obtain ⟨A2,hA2⟩ : ∃ A2,A2 = KM.useOk U2 ⟨pg,kd,lc⟩ z:=⟨_,rfl⟩
    rw [<- hA1,<- hA2] at HBAD HNX
    rw [<- hA1] at HU1
    rw [<- hA2] at HU2
    have hbsz:=hb0.size
    have heb : ¬ eb = wr.heap.size:=by omega
    have hsr : ¬ sb = wr.heap.size:=by omega
    have KA:=hideC (HKP.out.trans (Kp.alloc (fun b=>b = gf ∨ b = gs) wr (.cells #[.int .i64 pg,.int .i64 kd,.int .i64 lc] 45)) (fun _ _ x=>x))
    have HBA:=hideC (HB0.out.alloc HB0.out.size (.cells #[.int .i64 pg,.int .i64 kd,.int .i64 lc] 45))
    have OA:=hideC (HOF.out.kp (Kp.alloc (fun _=>False) wr (.cells #[.int .i64 pg,.int .i64 kd,.int .i64 lc] 45)) (fun x=>x))
    have OB:=hideC (HOS.out.kp (Kp.alloc (fun _=>False) wr (.cells #[.int .i64 pg,.int .i64 kd,.int .i64 lc] 45)) (fun x=>x))
    have s1A : (wr.alloc (.cells #[.int .i64 pg,.int .i64 kd,.int .i64 lc] 45)).cell? ⟨sb,1,none⟩ = some (.slice aa na ca):=B.cell (B.alloc HBS.out _) 1 rfl
    have BE:=hideC (B.new wr #[.int .i64 pg,.int .i64 kd,.int .i64 lc] 45)
    clear e0 e1 e2 hL hUU hE hF hA1 hA2 hkp hbk hof hos hb0 hlie ce bd1 bd2 bd3 bd4 HBD HHE HHA HFA HFE HUF0 HUS0 HKP HB0 HOF HOS HUB bs HBS BS HSB HL0 hk5
    cases ok with
    | false =>
     have HAF:=hideC (HBAD.out rfl)
     clear HBAD HNX HU1 HU2 HEU
     go_wp2_with (go_at_call 70;refine (HFD.out _ HBA.out).mono ?_;rintro e w1 ⟨rfl,hb1⟩;have K1:=hideC (KA.out.trans (Kp.ofBelow hb1) (fun _ _ x=>x));have O1:=hideC (OA.out.kp (Kp.ofBelow (D:=fun _=>False) hb1) (fun x=>x));have O2:=hideC (OB.out.kp (Kp.ofBelow (D:=fun _=>False) hb1) (fun x=>x));have BE1:=hideC (B.below BE.out hb1 (by simp));have t0 : w1.cell? ⟨wr.heap.size,0,none⟩ = some (.int .i64 pg):=B.cell BE1.out 0 rfl;have t1 : w1.cell? ⟨wr.heap.size,1,none⟩ = some (.int .i64 kd):=B.cell BE1.out 1 rfl;have t2 : w1.cell? ⟨wr.heap.size,2,none⟩ = some (.int .i64 lc):=B.cell BE1.out 2 rfl;have hx1 : wr.heap.size < w1.heap.size:=B.isLt BE1.out;have hx2 : ¬ wr.heap.size = w1.heap.size:=(by omega);clear hb1)
     have KX:=hideC (K1.out.trans (Kp.alloc (fun b=>b = gf ∨ b = gs) w1 (.cells #[.int .i64 f1,.int .i64 f2,.int .i64 f3,.bool z] 47)) (fun _ _ x=>x))
     go_ret
     exact ⟨congrArg (fun b=>Ending.returned (.bool b)) HAF.out.symm,HK0.out.trans KX.out (fun _ _ x=>x),fun x=>by rw [HAF.out] at x;cases x⟩
    | true =>
     by_cases hlp : pg <= L
     · have HAF:=hideC (HBAD.out (by rw [decide_eq_false (show ¬ L < pg by omega)];rfl))
       clear HBAD HNX HU1 HU2 HEU
       go_wp2_with (go_at_call 70;refine (HFD.out _ HBA.out).mono ?_;rintro e w1 ⟨rfl,hb1⟩;have K1:=hideC (KA.out.trans (Kp.ofBelow hb1) (fun _ _ x=>x));have O1:=hideC (OA.out.kp (Kp.ofBelow (D:=fun _=>False) hb1) (fun x=>x));have O2:=hideC (OB.out.kp (Kp.ofBelow (D:=fun _=>False) hb1) (fun x=>x));have BE1:=hideC (B.below BE.out hb1 (by simp));have t0 : w1.cell? ⟨wr.heap.size,0,none⟩ = some (.int .i64 pg):=B.cell BE1.out 0 rfl;have t1 : w1.cell? ⟨wr.heap.size,1,none⟩ = some (.int .i64 kd):=B.cell BE1.out 1 rfl;have t2 : w1.cell? ⟨wr.heap.size,2,none⟩ = some (.int .i64 lc):=B.cell BE1.out 2 rfl;have hx1 : wr.heap.size < w1.heap.size:=B.isLt BE1.out;have hx2 : ¬ wr.heap.size = w1.heap.size:=(by omega);clear hb1)
       have KX:=hideC (K1.out.trans (Kp.alloc (fun b=>b = gf ∨ b = gs) w1 (.cells #[.int .i64 f1,.int .i64 f2,.int .i64 f3,.bool z] 47)) (fun _ _ x=>x))
       go_ret
       exact ⟨congrArg (fun b=>Ending.returned (.bool b)) HAF.out.symm,HK0.out.trans KX.out (fun _ _ x=>x),fun x=>by rw [HAF.out] at x;cases x⟩
     · have hlp2 : L < pg:=by omega
       rw [decide_eq_true hlp2] at HBAD HNX
       by_cases k1 : kd = 1
       · rw [if_pos k1] at HBAD HNX
         have k1b : (kd == 1) = true:=by simpa using k1
         have HK:=hideC k1
         clear HU2 k1
         cases A1 with
         | false =>
          have HAF:=hideC (HBAD.out rfl)
          clear HBAD HNX HEU
          go_wp2_with (first | (go_at_call 70;refine (HFD.out _ HBA.out).mono ?_;rintro e w1 ⟨rfl,hb1⟩;have K1:=hideC (KA.out.trans (Kp.ofBelow hb1) (fun _ _ x=>x));have O1:=hideC (OA.out.kp (Kp.ofBelow (D:=fun _=>False) hb1) (fun x=>x));have O2:=hideC (OB.out.kp (Kp.ofBelow (D:=fun _=>False) hb1) (fun x=>x));have BE1:=hideC (B.below BE.out hb1 (by simp));have t0 : w1.cell? ⟨wr.heap.size,0,none⟩ = some (.int .i64 pg):=B.cell BE1.out 0 rfl;have t1 : w1.cell? ⟨wr.heap.size,1,none⟩ = some (.int .i64 kd):=B.cell BE1.out 1 rfl;have t2 : w1.cell? ⟨wr.heap.size,2,none⟩ = some (.int .i64 lc):=B.cell BE1.out 2 rfl;have hx1 : wr.heap.size < w1.heap.size:=B.isLt BE1.out;have hx2 : ¬ wr.heap.size = w1.heap.size:=(by omega);clear hb1) | (go_at_call 150;refine (HU1.out _ (O1.out.kp (Kp.alloc (fun _=>False) _ _) (fun x=>x))).mono ?_;rintro e w3 ⟨rfl,hk3,ho3⟩;have K3:=hideC ((K1.out.trans (Kp.alloc (fun b=>b = gf ∨ b = gs) _ _) (fun _ _ x=>x)).trans (hk3.mono (D1:=fun b=>b = gf ∨ b = gs) (fun b _ x=>.inl x)) (fun _ _ x=>x));have O3:=hideC ho3;have P3:=hideC ((O2.out.kp (Kp.alloc (fun _=>False) _ _) (fun x=>x)).kp hk3 (fun x=>hne x.symm));clear hk3 ho3))
          have KX:=hideC K3.out
          go_ret
          exact ⟨congrArg (fun b=>Ending.returned (.bool b)) HAF.out.symm,HK0.out.trans KX.out (fun _ _ x=>x),fun x=>by rw [HAF.out] at x;cases x⟩
         | true =>
          have HN1:=hideC (HNX.out rfl)
          clear HBAD HNX
          go_wp2_with (first | (go_at_call 70;refine (HFD.out _ HBA.out).mono ?_;rintro e w1 ⟨rfl,hb1⟩;have K1:=hideC (KA.out.trans (Kp.ofBelow hb1) (fun _ _ x=>x));have O1:=hideC (OA.out.kp (Kp.ofBelow (D:=fun _=>False) hb1) (fun x=>x));have O2:=hideC (OB.out.kp (Kp.ofBelow (D:=fun _=>False) hb1) (fun x=>x));have BE1:=hideC (B.below BE.out hb1 (by simp));have t0 : w1.cell? ⟨wr.heap.size,0,none⟩ = some (.int .i64 pg):=B.cell BE1.out 0 rfl;have t1 : w1.cell? ⟨wr.heap.size,1,none⟩ = some (.int .i64 kd):=B.cell BE1.out 1 rfl;have t2 : w1.cell? ⟨wr.heap.size,2,none⟩ = some (.int .i64 lc):=B.cell BE1.out 2 rfl;have hx1 : wr.heap.size < w1.heap.size:=B.isLt BE1.out;have hx2 : ¬ wr.heap.size = w1.heap.size:=(by omega);clear hb1) | (go_at_call 150;refine (HU1.out _ (O1.out.kp (Kp.alloc (fun _=>False) _ _) (fun x=>x))).mono ?_;rintro e w3 ⟨rfl,hk3,ho3⟩;have K3:=hideC ((K1.out.trans (Kp.alloc (fun b=>b = gf ∨ b = gs) _ _) (fun _ _ x=>x)).trans (hk3.mono (D1:=fun b=>b = gf ∨ b = gs) (fun b _ x=>.inl x)) (fun _ _ x=>x));have O3:=hideC ho3;have P3:=hideC ((O2.out.kp (Kp.alloc (fun _=>False) _ _) (fun x=>x)).kp hk3 (fun x=>hne x.symm));clear hk3 ho3))
          go_roundw
          case rel=>exact ⟨k + 1,by omega,by go_num,by rw [HL1.out],HN1.out.1,K3.out,by rw [HN1.out.2,HEU.out,if_pos HK.out];exact O3.out,by rw [HN1.out.2,HEU.out,if_pos HK.out];exact P3.out⟩
          case measure=>simp [intOf];omega
       · rw [if_neg k1] at HBAD HNX
         clear HU1
         have k1b : (kd == 1) = false:=by simpa using k1
         by_cases k2 : kd = 2
         · rw [if_pos k2] at HBAD HNX
           have k2b : (kd == 2) = true:=by simpa using k2
           have HK:=hideC k1
           clear k1 k2
           cases A2 with
           | false =>
            have HAF:=hideC (HBAD.out rfl)
            clear HBAD HNX HEU
            go_wp2_with (first | (go_at_call 70;refine (HFD.out _ HBA.out).mono ?_;rintro e w1 ⟨rfl,hb1⟩;have K1:=hideC (KA.out.trans (Kp.ofBelow hb1) (fun _ _ x=>x));have O1:=hideC (OA.out.kp (Kp.ofBelow (D:=fun _=>False) hb1) (fun x=>x));have O2:=hideC (OB.out.kp (Kp.ofBelow (D:=fun _=>False) hb1) (fun x=>x));have BE1:=hideC (B.below BE.out hb1 (by simp));have t0 : w1.cell? ⟨wr.heap.size,0,none⟩ = some (.int .i64 pg):=B.cell BE1.out 0 rfl;have t1 : w1.cell? ⟨wr.heap.size,1,none⟩ = some (.int .i64 kd):=B.cell BE1.out 1 rfl;have t2 : w1.cell? ⟨wr.heap.size,2,none⟩ = some (.int .i64 lc):=B.cell BE1.out 2 rfl;have hx1 : wr.heap.size < w1.heap.size:=B.isLt BE1.out;have hx2 : ¬ wr.heap.size = w1.heap.size:=(by omega);clear hb1) | (go_at_call 150;refine (HU2.out _ (O2.out.kp (Kp.alloc (fun _=>False) _ _) (fun x=>x))).mono ?_;rintro e w3 ⟨rfl,hk3,ho3⟩;have K3:=hideC ((K1.out.trans (Kp.alloc (fun b=>b = gf ∨ b = gs) _ _) (fun _ _ x=>x)).trans (hk3.mono (D1:=fun b=>b = gf ∨ b = gs) (fun b _ x=>.inr x)) (fun _ _ x=>x));have O3:=hideC ho3;have P3:=hideC ((O1.out.kp (Kp.alloc (fun _=>False) _ _) (fun x=>x)).kp hk3 hne);clear hk3 ho3))
            have KX:=hideC K3.out
            go_ret
            exact ⟨congrArg (fun b=>Ending.returned (.bool b)) HAF.out.symm,HK0.out.trans KX.out (fun _ _ x=>x),fun x=>by rw [HAF.out] at x;cases x⟩
           | true =>
            have HN1:=hideC (HNX.out rfl)
            clear HBAD HNX
            go_wp2_with (first | (go_at_call 70;refine (HFD.out _ HBA.out).mono ?_;rintro e w1 ⟨rfl,hb1⟩;have K1:=hideC (KA.out.trans (Kp.ofBelow hb1) (fun _ _ x=>x));have O1:=hideC (OA.out.kp (Kp.ofBelow (D:=fun _=>False) hb1) (fun x=>x));have O2:=hideC (OB.out.kp (Kp.ofBelow (D:=fun _=>False) hb1) (fun x=>x));have BE1:=hideC (B.below BE.out hb1 (by simp));have t0 : w1.cell? ⟨wr.heap.size,0,none⟩ = some (.int .i64 pg):=B.cell BE1.out 0 rfl;have t1 : w1.cell? ⟨wr.heap.size,1,none⟩ = some (.int .i64 kd):=B.cell BE1.out 1 rfl;have t2 : w1.cell? ⟨wr.heap.size,2,none⟩ = some (.int .i64 lc):=B.cell BE1.out 2 rfl;have hx1 : wr.heap.size < w1.heap.size:=B.isLt BE1.out;have hx2 : ¬ wr.heap.size = w1.heap.size:=(by omega);clear hb1) | (go_at_call 150;refine (HU2.out _ (O2.out.kp (Kp.alloc (fun _=>False) _ _) (fun x=>x))).mono ?_;rintro e w3 ⟨rfl,hk3,ho3⟩;have K3:=hideC ((K1.out.trans (Kp.alloc (fun b=>b = gf ∨ b = gs) _ _) (fun _ _ x=>x)).trans (hk3.mono (D1:=fun b=>b = gf ∨ b = gs) (fun b _ x=>.inr x)) (fun _ _ x=>x));have O3:=hideC ho3;have P3:=hideC ((O1.out.kp (Kp.alloc (fun _=>False) _ _) (fun x=>x)).kp hk3 hne);clear hk3 ho3))
            go_roundw
            case rel=>exact ⟨k + 1,by omega,by go_num,by rw [HL1.out],HN1.out.1,K3.out,by rw [HN1.out.2,HEU.out,if_neg HK.out];exact P3.out,by rw [HN1.out.2,HEU.out,if_neg HK.out];exact O3.out⟩
            case measure=>simp [intOf];omega
         · rw [if_neg k2] at HBAD HNX
           have k2b : (kd == 2) = false:=by simpa using k2
           have HAF:=hideC (HBAD.out rfl)
           clear HBAD HNX HU2 HEU k1 k2
           go_wp2_with (go_at_call 70;refine (HFD.out _ HBA.out).mono ?_;rintro e w1 ⟨rfl,hb1⟩;have K1:=hideC (KA.out.trans (Kp.ofBelow hb1) (fun _ _ x=>x));have O1:=hideC (OA.out.kp (Kp.ofBelow (D:=fun _=>False) hb1) (fun x=>x));have O2:=hideC (OB.out.kp (Kp.ofBelow (D:=fun _=>False) hb1) (fun x=>x));have BE1:=hideC (B.below BE.out hb1 (by simp));have t0 : w1.cell? ⟨wr.heap.size,0,none⟩ = some (.int .i64 pg):=B.cell BE1.out 0 rfl;have t1 : w1.cell? ⟨wr.heap.size,1,none⟩ = some (.int .i64 kd):=B.cell BE1.out 1 rfl;have t2 : w1.cell? ⟨wr.heap.size,2,none⟩ = some (.int .i64 lc):=B.cell BE1.out 2 rfl;have hx1 : wr.heap.size < w1.heap.size:=B.isLt BE1.out;have hx2 : ¬ wr.heap.size = w1.heap.size:=(by omega);clear hb1)
           have KX:=hideC (K1.out.trans (Kp.alloc (fun b=>b = gf ∨ b = gs) w1 (.cells #[.int .i64 f1,.int .i64 f2,.int .i64 f3,.bool z] 47)) (fun _ _ x=>x))
           go_ret
           exact ⟨congrArg (fun b=>Ending.returned (.bool b)) HAF.out.symm,HK0.out.trans KX.out (fun _ _ x=>x),fun x=>by rw [HAF.out] at x;cases x⟩
  · obtain rfl : k = es.length:=by omega
    clear hL
    go_wp2
    go_ret
    exact ⟨congrArg (fun b=>Ending.returned (.bool b)) HBK.out.symm,HK0.out.trans HKP.out (fun _ _ x=>x),fun _=>⟨HOF.out,HOS.out⟩⟩
end KW
namespace LW
open Go.RowKit
open W (hideC)
theorem anyZero_nil (ao : Option Addr) (cap : Nat) (w : World) :
  Calls Tryz.prog 99 #[.slice ao 0 cap] w fun e w'=>e = .returned (.bool (LM.anyZeroB [])) /\ Below w.heap.size w w':=by
 go_enter Tryz.func99,Tryz.ntmps99
 go_wp2
 refine wp_loop_rounds 1 ?_
 rw [rounds_succ]
 go_wp2
 go_ret
 exact ⟨rfl,Below.refl _ _⟩
set_option maxHeartbeats 1000000 in
theorem anyZero_some (l : List AM.Ar) (b off cap : Nat) (w : World) (hl : AM.Lie w b off l) (hn : l.length <= 140737488351232) :
  Calls Tryz.prog 99 #[.slice (some ⟨b,off,none⟩) l.length cap] w fun e w'=>e = .returned (.bool (LM.anyZeroB l)) /\ Below w.heap.size w w':=by
 go_enter Tryz.func99,Tryz.ntmps99
 go_wp2
 go_loopw [7] (fun i wr=>∃ k : Nat,k <= l.length /\ i = .int .i64 k /\ LM.zeroTo l k = false /\ Below w.heap.size w wr) (fun i _=>l.length - (intOf i).toNat)
 case atStart=>exact ⟨0,by omega,rfl,rfl,Below.refl _ _⟩
 case round =>
  obtain ⟨k,hk,rfl,hz,hb⟩:=hrel
  have HZ:=hideC hz
  have HBr:=hideC hb
  clear hz
  by_cases hlt : k < l.length
  · obtain ⟨c0,c1,c2,c3⟩:=(hl.below hb) k hlt
    obtain ⟨a,ha⟩ : ∃ a,a = AM.at_ l k:=⟨_,rfl⟩
    rw [<- ha] at c0 c1 c2 c3
    have HA:=hideC ha
    clear ha hb
    by_cases hzr : a.zero = true
    · have HX : Hid (LM.anyZeroB l = true):=LM.zero_at l k hlt (by rw [<- HA.out];exact hzr)
      go_wp2
      go_ret
      exact ⟨ret_bool (by rw [HX.out]),HBr.out.alloc HBr.out.size _⟩
    · have hzr' : a.zero = false:=by simpa using hzr
      clear hzr
      have HX : Hid (LM.zeroTo l (k + 1) = false):=by
       show _ = _
       simp only [LM.zeroTo]
       rw [HZ.out,<- HA.out,hzr']
       rfl
      go_wp2
      go_roundw
      case rel=>exact ⟨k + 1,by omega,by go_num,HX.out,HBr.out.alloc HBr.out.size _⟩
      case measure=>simp [intOf];omega
  · obtain rfl : k = l.length:=by omega
    go_wp2
    go_ret
    exact ⟨ret_bool HZ.out.symm,HBr.out⟩
theorem anyZero_any (l : List AM.Ar) (v : Value) (w : World) (h : AW.Has w v l) (hf : AW.AllFit l) :
  Calls Tryz.prog 99 #[v] w fun e w'=>e = .returned (.bool (LM.anyZeroB l)) /\ Below w.heap.size w w':=by
 obtain ⟨ao,cap,rfl,h⟩:=h
 rcases h with rfl | ⟨b,off,rfl,hl⟩
 · exact anyZero_nil ao cap w
 · exact anyZero_some l b off cap w hl hf.2
set_option maxHeartbeats 1000000 in
theorem rightSheets_any (hs : List LM.Sh) (ao : Option Addr) (cap : Nat) (w : World) (h : LM.HasH w ao hs) (hf : LM.FitHs hs) :
  Calls Tryz.prog 101 #[.slice ao hs.length cap] w fun e w'=>e = .returned (.bool (LM.sheetsB hs)) /\ Below w.heap.size w w':=by
 have HF:=hideC hf
 have HH:=hideC h
 have hn : hs.length <= 140737488351232:=hf.1
 clear h hf
 go_enter Tryz.func101,Tryz.ntmps101
 go_wp2
 go_loopw [7] (fun i wr=>∃ k : Nat,k <= hs.length /\ i = .int .i64 k /\ LM.sheetsTo hs k = true /\ Below w.heap.size w wr) (fun i _=>hs.length - (intOf i).toNat)
 case atStart=>exact ⟨0,by omega,rfl,rfl,Below.refl _ _⟩
 case round =>
  obtain ⟨k,hk,rfl,hz,hb⟩:=hrel
  have HZ:=hideC hz
  have HBr:=hideC hb
  clear hz
  by_cases hlt : k < hs.length
  · obtain ⟨b,off,hao,hbl,hlie⟩:=(HH.out.below hb) (by omega)
    subst hao
    obtain ⟨c0,c1,c2,c3⟩:=hlie k hlt
    have hfk:=HF.out.2 k hlt
    have HE : Hid (LM.sheetsTo hs (k + 1) = LM.sheetB (LM.shAt hs k)):=by
     show _ = _
     simp only [LM.sheetsTo]
     rw [HZ.out,Bool.true_and]
    have HE2 : Hid (LM.sheetB (LM.shAt hs k) = false -> LM.sheetsB hs = false):=fun e=>LM.sheets_bad hs k hlt e
    obtain ⟨s,hse⟩ : ∃ s,s = LM.shAt hs k:=⟨_,rfl⟩
    rw [<- hse] at c0 c1 c2 c3 hfk HE HE2
    clear hse hlie hb
    have HBA:=hideC (HBr.out.alloc HBr.out.size (.cells #[.int .i64 s.page,.string s.data,.slice s.ao s.fixes.length s.cap] 50))
    have HC : Hid (∀ W,Below wr.heap.size wr W -> Calls Tryz.prog 146 #[.agg #[.int .i64 s.page,.string s.data,.slice s.ao s.fixes.length s.cap]] W fun e w'=>e = .returned (.bool (LM.sheetB s)) /\ Below W.heap.size W w'):=fun W hb=>rightSheet_any s W (c3.below hb) hfk
    clear c3 hfk
    cases e : LM.sheetB s with
    | true =>
     rw [e] at HC HE
     clear e
     go_wp2_with (go_at_call 146;refine (HC.out _ ((Below.refl _ _).alloc (Nat.le_refl _) _)).mono ?_;rintro e w1 ⟨rfl,hb⟩;have HBA:=hideC (HBA.out.trans (hb.mono HBA.out.size));clear hb)
     go_roundw
     case rel=>exact ⟨k + 1,by omega,by go_num,HE.out,HBA.out⟩
     case measure=>simp [intOf];omega
    | false =>
     have HX:=hideC (HE2.out e)
     rw [e] at HC
     clear e HE2 HE
     go_wp2_with (go_at_call 146;refine (HC.out _ ((Below.refl _ _).alloc (Nat.le_refl _) _)).mono ?_;rintro e w1 ⟨rfl,hb⟩;have HBA:=hideC (HBA.out.trans (hb.mono HBA.out.size));clear hb)
     go_ret
     exact ⟨ret_bool (by rw [HX.out]),HBA.out⟩
  · obtain rfl : k = hs.length:=by omega
    go_wp2
    go_ret
    exact ⟨ret_bool HZ.out.symm,HBr.out⟩
end LW
end Go.Proofs.YtpgifpeohlllfaaGreat
