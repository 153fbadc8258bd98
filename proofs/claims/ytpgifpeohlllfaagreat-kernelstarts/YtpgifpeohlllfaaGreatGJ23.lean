import Derived.Test.YtpgifpeohlllfaaGreatGJ22
import Derived.Test.YtpgifpeohlllfaaGreatGJ19
set_option maxHeartbeats 20000000
set_option linter.unusedVariables false
set_option maxRecDepth 100000
set_option linter.unusedSimpArgs false
namespace Go.Proofs.YtpgifpeohlllfaaGreat
namespace KI
open Go.RowKit GK
open KW (cellEn)
open KS (blk cells_one)
open KW (HasRow)
open FW (hideC add_below)
theorem en_get (l : List KM.En) (i : Nat) (h : i < l.length) : l[i]? = some (KM.enAt l i):=by
 unfold KM.enAt
 rw [List.getD_eq_getElem?_getD,List.getElem?_eq_getElem h]
 rfl
structure Fil (p : KM.En -> Bool) (ps q : List KM.En) (i j : Nat) : Prop where
 len : q.length = ps.length
 lt : i < j
 le : j <= ps.length
 front : q.take i = (ps.take j).filter (fun g=>!p g)
 back : q.drop j = ps.drop j
theorem take_next (l : List KM.En) (j : Nat) (h : j < l.length) : l.take (j + 1) = l.take j ++ [KM.enAt l j]:=by
 rw [List.take_add_one,en_get l j h]
 rfl
theorem Fil.start {p : KM.En -> Bool} {ps : List KM.En} {i : Nat} (hi : i < ps.length) (hg : p (KM.enAt ps i) = true) (hno : ∀ j,j < i -> p (KM.enAt ps j) = false) : Fil p ps ps i (i + 1):=by
 refine ⟨rfl,by omega,hi,?_,rfl⟩
 have : ∀ k,k <= i -> (ps.take k).filter (fun g=>!p g) = ps.take k:=fun k=>by
  induction k with
  | zero=>intro _;simp
  | succ k ih =>
   intro hk
   rw [take_next ps k (by omega),List.filter_append,ih (by omega)]
   simp [hno k (by omega)]
 rw [take_next ps i hi,List.filter_append,this i (Nat.le_refl _)]
 simp [hg]
theorem Fil.at {p : KM.En -> Bool} {ps q : List KM.En} {i j : Nat} (h : Fil p ps q i j) (hj : j < ps.length) : KM.enAt q j = KM.enAt ps j:=by
 have e : (q.drop j)[0]? = (ps.drop j)[0]?:=by rw [h.back]
 rw [List.getElem?_drop,List.getElem?_drop,Nat.add_zero,en_get q j (by rw [h.len];exact hj),en_get ps j hj] at e
 injection e
theorem Fil.skip {p : KM.En -> Bool} {ps q : List KM.En} {i j : Nat} (h : Fil p ps q i j) (hj : j < ps.length) (hg : p (KM.enAt ps j) = true) : Fil p ps q i (j + 1):=by
 refine ⟨h.len,by have:=h.lt;omega,hj,?_,?_⟩
 · rw [take_next ps j hj,List.filter_append,h.front]
   simp [hg]
 · rw [<- List.drop_drop,<- List.drop_drop,h.back]
theorem Fil.keep {p : KM.En -> Bool} {ps q : List KM.En} {i j : Nat} (h : Fil p ps q i j) (hj : j < ps.length) (hg : p (KM.enAt ps j) = false) : Fil p ps (q.set i (KM.enAt ps j)) (i + 1) (j + 1):=by
 have hlt:=h.lt
 have hln:=h.len
 refine ⟨by rw [List.length_set];exact h.len,by omega,hj,?_,?_⟩
 · rw [take_next ps j hj,List.filter_append,<- h.front,take_next _ i (by rw [List.length_set];omega)]
   have e1 : (q.set i (KM.enAt ps j)).take i = q.take i:=by
    rw [List.take_set,List.set_eq_of_length_le (by rw [List.length_take];omega)]
   have e2 : KM.enAt (q.set i (KM.enAt ps j)) i = KM.enAt ps j:=by
    unfold KM.enAt
    rw [List.getD_eq_getElem?_getD,List.getElem?_set_self (by omega)]
    rfl
   rw [e1,e2]
   simp [hg]
 · rw [List.drop_set_of_lt (by omega),<- List.drop_drop,<- List.drop_drop,h.back]
theorem Fil.done {p : KM.En -> Bool} {ps q : List KM.En} {i : Nat} (h : Fil p ps q i ps.length) : q.take i = KM.keepE ps p:=by
 rw [h.front,List.take_length]
 rfl
theorem rows_set3 (q : List KM.En) (i : Nat) (g : KM.En) (hi : i < q.length) : (q.set i g).flatMap cellEn = (((q.flatMap cellEn).set (i * 3) (.int .i64 g.page)).set (i * 3 + 1) (.int .i64 g.kind)).set (i * 3 + 2) (.int .i64 g.loc):=by
 have h1:=rows_set cellEn 3 cellEn_len KM.en0 ⟨g.page,(KM.enAt q i).kind,(KM.enAt q i).loc⟩ 0 (.int .i64 g.page) (by omega) q i hi rfl
 have h2:=rows_set cellEn 3 cellEn_len KM.en0 ⟨g.page,g.kind,(KM.enAt q i).loc⟩ 1 (.int .i64 g.kind) (by omega) (q.set i ⟨g.page,(KM.enAt q i).kind,(KM.enAt q i).loc⟩) i (by rw [List.length_set];exact hi) (by
  rw [List.getD_eq_getElem?_getD,List.getElem?_set_self hi];rfl)
 rw [List.set_set,h1] at h2
 have h3:=rows_set cellEn 3 cellEn_len KM.en0 g 2 (.int .i64 g.loc) (by omega) (q.set i ⟨g.page,g.kind,(KM.enAt q i).loc⟩) i (by rw [List.length_set];exact hi) (by
  rw [List.getD_eq_getElem?_getD,List.getElem?_set_self hi];rfl)
 rw [List.set_set,h2] at h3
 exact h3
theorem keep_all {ps : List KM.En} {p : KM.En -> Bool} (h : ∀ j,j < ps.length -> p (KM.enAt ps j) = false) : KM.keepE ps p = ps:=by
 unfold KM.keepE
 rw [List.filter_eq_self]
 intro g hg
 obtain ⟨k,hk,rfl⟩:=KM.mem_getD KM.en0 hg
 have:=h k hk
 unfold KM.enAt at this
 show (!p (ps.getD k KM.en0)) = true
 rw [this];rfl
set_option maxHeartbeats 8000000 in
theorem ixF_any (F : FuncId) (E : List Value) (x : Nat) (hFE : (F = 202 /\ E = [.pointer (some ⟨x,0,none⟩)]) ∨ (F = 120 /\ E = [.pointer (some ⟨x,0,none⟩)]) ∨ (F = 88 /\ E = [])) (P : KM.En -> Bool) (es : List KM.En) (ao : Option Addr) (cap : Nat) (w : World) (h : HasRow cellEn 3 KM.en0 w ao es) (hl : es.length <= 1000000)
  (hC : ∀ V e,Below w.heap.size w V -> Calls Tryz.prog F (Value.agg #[.int .i64 e.page,.int .i64 e.kind,.int .i64 e.loc] :: E).toArray V fun r w'=>r = .returned (.bool (P e)) /\ Below V.heap.size V w') :
  Calls Tryz.prog 153 #[.slice ao es.length cap,.func (.func F) #[] E.toArray] w fun e w' =>
   Below w.heap.size w w' /\ ((e = .returned (.int .i64 (-1)) /\ ∀ j,j < es.length -> P (KM.enAt es j) = false) ∨ ∃ i : Nat,i < es.length /\ e = .returned (.int .i64 (i : Int)) /\ P (KM.enAt es i) = true /\ ∀ j,j < i -> P (KM.enAt es j) = false):=by
 have HH:=hideC h
 have HC:=hideC hC
 clear h hC
 rcases hFE with ⟨rfl,rfl⟩ | ⟨rfl,rfl⟩ | ⟨rfl,rfl⟩
 all_goals
  go_enter Tryz.func153,Tryz.ntmps153
  go_wp2
  go_loopw [8] (fun iv wr=>∃ k : Nat,k <= es.length /\ iv = .int .i64 (k : Int) /\ (∀ j,j < k -> P (KM.enAt es j) = false) /\ Below w.heap.size w wr) (fun iv _=>es.length - (intOf iv).toNat)
  case atStart=>exact ⟨0,by omega,rfl,fun j hj=>by omega,Below.refl _ _⟩
  case round =>
   obtain ⟨k,hk,rfl,hno,hb⟩:=hrel
   have HNO:=hideC hno
   have HB:=hideC hb
   clear hno
   by_cases hlt : k < es.length
   · have hki : (k : Int) < (es.length : Int):=by omega
     obtain ⟨eb,eo,hao,hbl,hlie⟩:=HH.out (by omega)
     subst hao
     have y0:=(hb.cell (p:=⟨eb,eo + k * 3 + 0,none⟩) hbl).trans (hlie k hlt 0 (by omega))
     have y1:=(hb.cell (p:=⟨eb,eo + k * 3 + 1,none⟩) hbl).trans (hlie k hlt 1 (by omega))
     have y2:=(hb.cell (p:=⟨eb,eo + k * 3 + 2,none⟩) hbl).trans (hlie k hlt 2 (by omega))
     rw [Nat.add_zero] at y0
     have HC2:=hideC (HC.out wr (KM.enAt es k) hb)
     obtain ⟨G,hG⟩ : ∃ G,G = P (KM.enAt es k):=⟨_,rfl⟩
     rw [<- hG] at HC2
     have HG:=hideC hG
     obtain ⟨E,hE⟩ : ∃ E,E = KM.enAt es k:=⟨_,rfl⟩
     have x0 : wr.cell? ⟨eb,eo + k * 3,none⟩ = some (.int .i64 E.page):=by rw [hE];exact y0
     have x1 : wr.cell? ⟨eb,eo + k * 3 + 1,none⟩ = some (.int .i64 E.kind):=by rw [hE];exact y1
     have x2 : wr.cell? ⟨eb,eo + k * 3 + 2,none⟩ = some (.int .i64 E.loc):=by rw [hE];exact y2
     rw [<- hE] at HC2
     clear hG hE hb y0 y1 y2 hlie
     cases G with
     | true =>
      go_wp2_with ((first | go_at_call 202 | go_at_call 120 | go_at_call 88);refine HC2.out.mono ?_;rintro e w1 ⟨rfl,hb1⟩;have HB1:=hideC (HB.out.trans (hb1.mono HB.out.size));clear hb1)
      go_ret
      exact ⟨HB1.out,.inr ⟨k,hlt,rfl,HG.out.symm,HNO.out⟩⟩
     | false =>
      go_wp2_with ((first | go_at_call 202 | go_at_call 120 | go_at_call 88);refine HC2.out.mono ?_;rintro e w1 ⟨rfl,hb1⟩;have HB1:=hideC (HB.out.trans (hb1.mono HB.out.size));clear hb1)
      go_roundw
      case rel=>exact ⟨k + 1,by omega,by go_num,fun j hj=>by
       by_cases q : j = k
       · subst q;exact HG.out.symm
       · exact HNO.out j (by omega),HB1.out⟩
      case measure=>simp [intOf];omega
   · obtain rfl : k = es.length:=by omega
     clear hb
     go_wp2
     go_ret
     exact ⟨HB.out,.inl ⟨rfl,HNO.out⟩⟩
theorem hasOf {lo : Nat} {es : List KM.En} {ao : Option Addr} {cap : Nat} {w : World} (h : w.ownsRow lo 45 3 (.slice ao es.length cap) es.length (es.flatMap cellEn)) : KW.HasRow cellEn 3 KM.en0 w ao es:=by
 obtain ⟨a,c,e,_,hr⟩:=KO.row_has cellEn (fun _=>rfl) KM.en0 h
 injection e with e1 _ _
 rw [e1];exact hr
set_option maxHeartbeats 8000000 in
theorem delete_any (F : FuncId) (E : List Value) (x : Nat) (hFE : (F = 202 /\ E = [.pointer (some ⟨x,0,none⟩)]) ∨ (F = 120 /\ E = [.pointer (some ⟨x,0,none⟩)]) ∨ (F = 88 /\ E = [])) (lo : Nat) (ps : List KM.En) (p : KM.En -> Bool) (vp : Value) (w : World) (h : w.ownsRow lo 45 3 vp ps.length (ps.flatMap cellEn)) (hC : ∀ V e,Kp (blk vp) w V -> Calls Tryz.prog F (Value.agg #[.int .i64 e.page,.int .i64 e.kind,.int .i64 e.loc] :: E).toArray V fun r w'=>r = .returned (.bool (p e)) /\ Below V.heap.size V w') (hl : ps.length <= 100000) :
  Calls Tryz.prog 131 #[vp,.func (.func F) #[] E.toArray] w (OutIns lo vp (KM.keepE ps p) w):=by
 obtain ⟨ao,cap,rfl,hcm,hgo⟩:=row_form h
 have HIX:=hideC (ixF_any F E x hFE p ps ao cap w (hasOf h) (by omega) (fun V e hV=>hC V e (Kp.ofBelow hV)))
 have HH:=hideC h
 have HC:=hideC hC
 obtain ⟨P,hP⟩ : ∃ P,P = OutIns lo (.slice ao ps.length cap) (KM.keepE ps p) w:=⟨_,rfl⟩
 have HP : Hid (∀ e w',OutIns lo (.slice ao ps.length cap) (KM.keepE ps p) w e w' -> P e w'):=fun e w' h=>by rw [hP];exact h
 rw [<- hP]
 have HGO:=hideC hgo
 clear h hC hP hgo
 by_cases hall : ∀ j,j < ps.length -> p (KM.enAt ps j) = false
 · have HI2 : Hid (Calls Tryz.prog 153 #[.slice ao ps.length cap,.func (.func F) #[] E.toArray] w fun e w'=>e = .returned (.int .i64 (-1)) /\ Below w.heap.size w w'):=HIX.out.mono fun e w' ⟨hb,hh⟩=>by
    rcases hh with ⟨rfl,_⟩ | ⟨i,hi,_,hg,_⟩
    · exact ⟨rfl,hb⟩
    · rw [hall i hi] at hg;cases hg
   have HAL:=hideC (keep_all hall)
   clear hall HIX
   rcases hFE with ⟨rfl,rfl⟩ | ⟨rfl,rfl⟩ | ⟨rfl,rfl⟩
   all_goals
    go_enter Tryz.func131,Tryz.ntmps131
    go_wp2_with (go_at_call 153;refine HI2.out.mono ?_;rintro e w1 ⟨rfl,hb1⟩;have HB1:=hideC hb1;clear hb1)
    exact HP.out _ _ ⟨_,rfl,by rw [HAL.out];exact Kp.row (Kp.ofBelow (D:=fun _=>False) HB1.out) HH.out (fun _ _ g=>g),Kp.ofBelow HB1.out,fun b hb=>.inl hb⟩
 · have HI2 : Hid (Calls Tryz.prog 153 #[.slice ao ps.length cap,.func (.func F) #[] E.toArray] w fun e w'=>∃ i : Nat,e = .returned (.int .i64 (i : Int)) /\ Fil p ps ps i (i + 1) /\ Below w.heap.size w w'):=HIX.out.mono fun e w' ⟨hb,hh⟩=>by
    rcases hh with ⟨_,g⟩ | ⟨i,hi,rfl,hg,hno⟩
    · exact (hall g).elim
    · exact ⟨i,rfl,Fil.start hi hg hno,hb⟩
   have hpos : 0 < ps.length:=by
    rcases Nat.eq_zero_or_pos ps.length with g | g
    · exact (hall (fun j hj=>by omega)).elim
    · exact g
   obtain ⟨pb,rfl,hlo,hpb⟩:=HGO.out hpos
   clear hall HIX HGO
   rcases hFE with ⟨rfl,rfl⟩ | ⟨rfl,rfl⟩ | ⟨rfl,rfl⟩
   all_goals
    go_enter Tryz.func131,Tryz.ntmps131
    go_wp2_with (go_at_call 153;refine HI2.out.mono ?_;rintro e w1 ⟨i1,rfl,hfil,hb1⟩;have HB1:=hideC hb1;have HFI:=hideC hfil;have hi1:=hfil.le;have hi2 : ((i1 : Int) == -1) = false:=(by rw [beq_eq_false_iff_ne];omega);clear hb1 hfil)
    go_loopw [5,6] (fun iv jv wr=>∃ (i j : Nat) (q : List KM.En),iv = .int .i64 (i : Int) /\ jv = .int .i64 (j : Int) /\ Fil p ps q i j /\ wr.ownsRow lo 45 3 (.slice (some ⟨pb,0,none⟩) ps.length cap) ps.length (q.flatMap cellEn) /\ Kp (fun b=>b = pb) w wr) (fun _ jv _=>ps.length - (intOf jv).toNat)
    case atStart=>exact ⟨i1,i1 + 1,ps,rfl,by go_num,HFI.out,Kp.row (Kp.ofBelow (D:=fun _=>False) HB1.out) HH.out (fun _ _ g=>g),Kp.ofBelow HB1.out⟩
    case round =>
     obtain ⟨i,j,q,rfl,rfl,hf,hrow,hkp⟩:=hrel
     have hij:=hf.lt
     have hjl:=hf.le
     have HF:=hideC hf
     have HR:=hideC hrow
     have HK:=hideC hkp
     clear HFI HB1 hi1
     by_cases hlt : j < ps.length
     · have hji : (j : Int) < (ps.length : Int):=by omega
       have hii : (i : Int) < (ps.length : Int):=by omega
       have hql:=hf.len
       have hrw : ∀ V : World,V.ownsRow lo 45 3 (.slice (some ⟨pb,0,none⟩) ps.length cap) ps.length (q.flatMap cellEn) -> ∀ k,k < ps.length -> V.cell? ⟨pb,k * 3,none⟩ = some (.int .i64 (KM.enAt q k).page) /\ V.cell? ⟨pb,k * 3 + 1,none⟩ = some (.int .i64 (KM.enAt q k).kind) /\ V.cell? ⟨pb,k * 3 + 2,none⟩ = some (.int .i64 (KM.enAt q k).loc):=fun V hV k hk=>by
        rw [<- hql] at hV
        exact ⟨row_at cellEn cellEn_len KM.en0 hV k 0 (by omega) (by omega),row_at cellEn cellEn_len KM.en0 hV k 1 (by omega) (by omega),row_at cellEn cellEn_len KM.en0 hV k 2 (by omega) (by omega)⟩
       have HRW:=hideC hrw
       obtain ⟨c0,c1,c2⟩:=hrw wr hrow j hlt
       rw [hf.at hlt] at c0 c1 c2
       have hpbr : pb < wr.heap.size:=(hrow.lt pb rfl).2
       have hpbn : ¬ pb = wr.heap.size:=by omega
       have HA:=hideC ((Below.refl wr.heap.size wr).alloc (Nat.le_refl _) (.cells #[.int .i64 (KM.enAt ps j).page,.int .i64 (KM.enAt ps j).kind,.int .i64 (KM.enAt ps j).loc] 45))
       have HC2:=hideC (HC.out (wr.alloc (.cells #[.int .i64 (KM.enAt ps j).page,.int .i64 (KM.enAt ps j).kind,.int .i64 (KM.enAt ps j).loc] 45)) (KM.enAt ps j) ((hkp.trans (Kp.ofBelow (D:=fun b=>b = pb) HA.out) (fun _ _ g=>g)).mono (fun b _ e=>by subst e;rfl)))
       have BX:=hideC (B.new wr #[.int .i64 (KM.enAt ps j).page,.int .i64 (KM.enAt ps j).kind,.int .i64 (KM.enAt ps j).loc] 45)
       have HSK:=hideC (hf.skip hlt)
       have HKE:=hideC (hf.keep hlt)
       obtain ⟨G,hG⟩ : ∃ G,G = p (KM.enAt ps j):=⟨_,rfl⟩
       rw [<- hG] at HC2 HSK HKE
       obtain ⟨g,hg⟩ : ∃ g,g = KM.enAt ps j:=⟨_,rfl⟩
       rw [<- hg] at c0 c1 c2 HC2 HKE HA BX
       clear hG hg hrow hkp hrw hf
       cases G with
       | true =>
        go_wp2_with ((first | go_at_call 202 | go_at_call 120 | go_at_call 88);refine HC2.out.mono ?_;rintro e w2 ⟨rfl,hb2⟩;have HB2:=hideC (HA.out.trans (hb2.mono HA.out.size));clear hb2)
        go_roundw
        case rel=>exact ⟨i,j + 1,q,rfl,by go_num,HSK.out (by trivial),Kp.row (Kp.ofBelow (D:=fun _=>False) HB2.out) HR.out (fun _ _ g=>g),HK.out.trans (Kp.ofBelow (D:=fun b=>b = pb) HB2.out) (fun _ _ g=>g)⟩
        case measure=>simp [intOf];omega
       | false =>
        go_wp2_with ((first | go_at_call 202 | go_at_call 120 | go_at_call 88);refine HC2.out.mono ?_;rintro e w2 ⟨rfl,hb2⟩;have HB2:=hideC (HA.out.trans (hb2.mono HA.out.size));have HR2:=hideC (Kp.row (Kp.ofBelow (D:=fun _=>False) HB2.out) HR.out (fun _ _ g=>g));have hc2:=HRW.out _ HR2.out i (by omega);obtain ⟨d0,d1,d1b⟩:=hc2;have d2:=row_free HR2.out (i * 3);have d3:=row_free HR2.out (i * 3 + 1);have d3b:=row_free HR2.out (i * 3 + 2);have hx2:=B.below BX.out hb2 (B.isLt BX.out);obtain ⟨d4,d5,d6⟩:=B.c3 hx2;clear hb2 hx2)
        go_roundw
        case rel =>
         refine ⟨i + 1,j + 1,q.set i g,by go_num,by go_num,HKE.out (by trivial),?_,?_⟩
         · rw [rows_set3 q i g (by omega)]
           exact row_set (row_set (row_set HR2.out (i * 3) _) (i * 3 + 1) _) (i * 3 + 2) _
         · exact (((HK.out.trans (Kp.ofBelow (D:=fun b=>b = pb) HB2.out) (fun _ _ g=>g)).trans (Kp.set (fun b=>b = pb) w2 ⟨pb,i * 3,none⟩ _ rfl) (fun _ _ g=>g)).trans (Kp.set (fun b=>b = pb) _ ⟨pb,i * 3 + 1,none⟩ _ rfl) (fun _ _ g=>g)).trans (Kp.set (fun b=>b = pb) _ ⟨pb,i * 3 + 2,none⟩ _ rfl) (fun _ _ g=>g)
        case measure=>simp [intOf];omega
     · obtain rfl : j = ps.length:=by omega
       have hql:=hf.len
       have hdn:=hf.done
       obtain ⟨cur,hcz,hgc,hcs,hct⟩ : ∃ cur : Array Value,cur.size = cap * 3 /\ wr.heap[pb]? = some (.cells cur 45 (0,0)) /\ cap <= maxLen /\ cur.toList.take (ps.length * 3) = q.flatMap cellEn:=by
        rcases hrow.2 with ⟨h0,_⟩ | ⟨g,cap',cur,hv,hb,hg,h1,h2,h3,h4⟩
        · omega
        · injection hv with e1 e2 e3
          injection e1 with e1
          injection e1 with e1
          subst e1 e3
          exact ⟨cur,h3,hg,h2,h4⟩
       have hcl : cur.toList.length = cap * 3:=hcz
       have hclr : ∀ ty c,(Builtin.clear_ #[41] ty #[.slice (some ⟨pb,i * 3,none⟩) (ps.length - i) c]).run Tryz.prog wr = .ok (.tuple #[]) (wr.setRow pb (splice cur.toList (i * 3) (zeroRow [.int .i64 0,.int .i64 0,.int .i64 0] (ps.length - i))).toArray):=fun ty c=>run_clear_rows (P:=Tryz.prog) wr 41 ty 45 (.agg #[.int .i64 0,.int .i64 0,.int .i64 0]) Tryz.underlying41 zeroP (by decide) (by decide) pb (i * 3) (ps.length - i) c cur.toList 45 (by simpa using hgc) (by
        have e : (Value.cells (.agg #[.int .i64 0,.int .i64 0,.int .i64 0])).size = 3:=rfl
        rw [e,hcl];omega)
       obtain ⟨S,hS⟩ : ∃ S,S = splice cur.toList (i * 3) (zeroRow [.int .i64 0,.int .i64 0,.int .i64 0] (ps.length - i)):=⟨_,rfl⟩
       rw [<- hS] at hclr
       have hSl : S.length = cap * 3:=by
        rw [hS,length_splice _ _ _ (by rw [zeroRow_length,hcl];simp only [List.length_cons,List.length_nil];omega),hcl]
       have hSt : S.take (i * 3) = (KM.keepE ps p).flatMap cellEn:=by
        rw [<- hdn,<- take_rows,<- hct,List.take_take,Nat.min_eq_left (by omega),hS]
        unfold splice
        exact take_left' _ _ _ (by rw [List.length_take,hcl];omega)
       have hol : (KM.keepE ps p).length = i:=by rw [<- hdn,List.length_take];omega
       have hg2 : (wr.setRow pb S.toArray).heap[pb]? = some (.cells S.toArray 45 (0,0)):=setRow_heap wr pb _ _ _ _ hgc
       have HFIN : Hid (P (.returned (.slice (some ⟨pb,0,none⟩) i cap)) (wr.setRow pb S.toArray)):=HP.out _ _ ⟨_,rfl,by
        rw [hol,<- hSt]
        exact ⟨by rw [List.length_take,hSl];omega,.inr ⟨pb,cap,S.toArray,rfl,hlo,hg2,by omega,hcs,by simpa using hSl,by simp⟩⟩,(hkp.mono (fun b _ e=>by subst e;rfl)).trans (setRow_kp wr pb S.toArray) (fun b _ e=>by subst e;rfl),fun b hb=>.inl hb⟩
       have hic : ¬ cap = i:=by omega
       have hin : (i : Int) <= (ps.length : Int):=by omega
       have hin2 : i <= ps.length:=by omega
       have hin3 : i <= cap:=by omega
       have hc63 : cap <= 9223372036854775807:=by unfold maxLen at hcs;omega
       clear hf hrow hkp HF HR HK hgc hct hdn hS hSl hSt hol hg2 hql hcz hcl HI2 HP HH HC
       go_wp2_with (at_builtin;refine wpList_clear_run _ rfl _ 41 rfl _ rfl (hclr _ _) ?_)
       exact HFIN.out
end KI
namespace KX
open Go.RowKit GK KO
open FW (hideC add_below)
open KW (cellFr cellSl cellEn HasRow KAt HasK cellsK aggEn cellI)
open KS (Lc cellLc lc0 lcAt blk SpOwn)
theorem names_le (kd a : Int) : ∀ ss : List KM.Sp,(KM.names ss kd a).length <= (KM.allE ss).length
 | []=>Nat.zero_le _
 | s :: r=>by
  have ih:=names_le kd a r
  have h1 : (KM.nameIn s kd a).length <= s.ents.length:=by unfold KM.nameIn;rw [List.length_map];exact List.length_filter_le _ _
  have h2 : KM.allE (s :: r) = s.ents ++ KM.allE r:=List.flatMap_cons
  rw [KM.names_cons,h2,List.length_append,List.length_append]
  omega
theorem all_few {k : KM.Kn} (h : KM.RightK k) : (KM.allE k.spaces).length <= 512:=by
 have h1:=KM.all_room k.spaces.length k.spaces rfl (fun s hs=>KM.ents_pages (h.each s hs))
 have h2:=h.room
 have h3:=h.c
 omega
theorem refs_few {k : KM.Kn} (h : KM.RightK k) : (∀ i,i < k.frames.length -> 0 <= (KM.frAt k.frames i).refs /\ (KM.frAt k.frames i).refs <= 512) /\ (∀ i,i < k.slots.length -> 0 <= (KM.slAt k.slots i).refs /\ (KM.slAt k.slots i).refs <= 512):=by
 have h1:=all_few h
 refine ⟨fun i hi=>?_,fun i hi=>?_⟩
 · have:=(h.frm i hi).refs
   have:=names_le 1 i k.spaces
   omega
 · have:=(h.slt i hi).refs
   have:=names_le 2 i k.spaces
   omega
theorem ents_few {k : KM.Kn} (h : KM.RightK k) {j : Nat} (hj : j < k.spaces.length) : (KM.spAt k.spaces j).ents.length <= 512:=by
 have h1:=KM.ents_pages (h.sp hj)
 have h2:=h.room
 have h3:=h.c
 have h4:=all_few h
 have : ∀ (l : List KM.Sp) (j : Nat),j < l.length -> (KM.spAt l j).ents.length <= (KM.allE l).length:=fun l=>by
  induction l with
  | nil=>intro j hj;simp at hj
  | cons s r ih =>
   intro j hj
   have h2 : KM.allE (s :: r) = s.ents ++ KM.allE r:=List.flatMap_cons
   rw [h2,List.length_append]
   cases j with
   | zero=>show s.ents.length <= _;omega
   | succ j=>have:=ih j (by simpa using hj);show (KM.spAt r j).ents.length <= _;omega
 have:=this k.spaces j hj
 omega
theorem HasRow.kp {α : Type} {f : α -> List Value} {k : Nat} {d : α} {w w' : World} {ao : Option Addr} {l : List α} {D : Nat -> Prop} (h : HasRow f k d w ao l) (hk : Kp D w w') (hn : ∀ b off,ao = some ⟨b,off,none⟩ -> ¬ D b) : HasRow f k d w' ao l:=fun hl=>by
 obtain ⟨b,off,e,hb,hi⟩:=h hl
 refine ⟨b,off,e,Nat.lt_of_lt_of_le hb hk.size,fun i hi' j hj=>?_⟩
 exact (World.cell?_of_block (hk.block b hb (hn b off e))).trans (hi i hi' j hj)
set_option maxHeartbeats 8000000 in
theorem forget_any {lo mb : Nat} {tt : TypeId} {X : List Value} (F : FuncId) (E : List Value) (x : Nat) (hFE : (F = 202 /\ E = [.pointer (some ⟨x,0,none⟩)]) ∨ (F = 120 /\ E = [.pointer (some ⟨x,0,none⟩)]) ∨ (F = 88 /\ E = []))
  (k : KM.Kn) (S : St) (w : World) (j : Nat) (p : KM.En -> Bool) (h : Km lo mb tt X w S k) (hR : KM.RightK k) (hj : j < k.spaces.length) (hC : ∀ V e,Kp (fun b=>S.lab b ≠ .no) w V -> Calls Tryz.prog F (Value.agg #[.int .i64 e.page,.int .i64 e.kind,.int .i64 e.loc] :: E).toArray V fun r w'=>r = .returned (.bool (p e)) /\ Below V.heap.size V w') :
  Calls Tryz.prog 87 #[.pointer (some ⟨mb,0,none⟩),.int .i64 (j : Int),.func (.func F) #[] E.toArray] w (OutM lo mb tt X w S (.tuple #[]) (KM.forgetK k j p)):=by
 have hlo : lo <= w.heap.size:=Nat.le_trans h.lo_le (Nat.le_of_lt h.lt)
 have hcc:=hR.c
 have hen:=ents_few hR hj
 obtain ⟨pb,cP,A⟩:=h.toKr.sp (by omega)
 obtain ⟨ae,ce,hve,hre⟩:=h.toKr.ents hj
 have c3:=h.c3
 rw [A.v] at c3
 have a2:=A.x2 j hj
 rw [hve] at a2
 have hji : (j : Int) < (k.spaces.length : Int):=by omega
 obtain ⟨es,hes⟩ : ∃ es,es = (KM.spAt k.spaces j).ents:=⟨_,rfl⟩
 rw [<- hes] at a2 hen hre hve
 have HST : Hid (∀ V n,n < es.length -> Km lo mb tt X V S (KM.cutTo k es p n) -> V.cell? ⟨pb,j * 3 + 2,none⟩ = some (.slice ae es.length ce) /\ HasRow cellEn 3 KM.en0 V ae es):=fun V n hn hV=>by
  have hjn : j < (KM.cutTo k es p n).spaces.length:=by rw [KM.cut_spaces];exact hj
  obtain ⟨pb',cP',A'⟩:=hV.toKr.sp (by omega)
  have e : pb' = pb:=by
   have:=A'.v
   rw [A.v] at this
   injection this with e1 _ _
   injection e1 with e1
   injection e1 with e1 _ _
   exact e1.symm
  subst e
  have x2:=A'.x2 j hjn
  rw [hve] at x2
  obtain ⟨ae',ce',hve',hre'⟩:=hV.toKr.ents hjn
  rw [KM.cut_spaces,<- hes] at hve' hre'
  rw [hve] at hve'
  injection hve' with e1 _ _
  rw [<- e1] at hre'
  exact ⟨x2,hre'⟩
 have HCN : Hid (∀ V n,n < es.length -> Km lo mb tt X V S (KM.cutTo k es p n) -> Calls Tryz.prog 85 #[.pointer (some ⟨mb,0,none⟩),.agg #[.int .i64 (KM.enAt es n).page,.int .i64 (KM.enAt es n).kind,.int .i64 (KM.enAt es n).loc],.int .i64 (-1)] V (OutS lo mb tt X V S (.tuple #[]) (KM.leaveK (KM.cutTo k es p n) (KM.enAt es n)))):=fun V n hn hV=>by
  have hin : KM.enAt es n ∈ (KM.spAt k.spaces j).ents:=by rw [<- hes];exact KM.getD_mem hn
  have hb:=KM.loc_bd hR hj hin
  have hr:=KM.cut_rest k es p n
  have hp:=KM.forget_part hR hj p n (by rw [<- hes];omega)
  rw [<- hes] at hp
  have hf:=refs_few hp
  have hf1 : ∀ i,i < (KM.cutTo k es p n).frames.length -> 0 <= (KM.frAt (KM.cutTo k es p n).frames i).refs /\ (KM.frAt (KM.cutTo k es p n).frames i).refs <= 512:=hf.1
  have hf2 : ∀ i,i < (KM.cutTo k es p n).slots.length -> 0 <= (KM.slAt (KM.cutTo k es p n).slots i).refs /\ (KM.slAt (KM.cutTo k es p n).slots i).refs <= 512:=hf.2
  rw [<- KM.count_leave]
  refine count_any _ S V (KM.enAt es n) (-1) hV (fun c=>?_) (fun c=>?_) (.inr rfl) ⟨fun c=>?_,fun c=>?_⟩
  · rw [hr.2.2.1];omega
  · rw [hr.2.2.2];omega
  · have:=hf1 (KM.enAt es n).loc.toNat (by rw [hr.2.2.1];omega);omega
  · have:=hf2 (KM.enAt es n).loc.toNat (by rw [hr.2.2.2];omega);omega
 have HCL:=hideC hC
 have HDL : Hid (∀ V,Km lo mb tt X V S (KM.cutTo k es p es.length) -> Ch S w S V -> Calls Tryz.prog 131 #[.slice ae es.length ce,.func (.func F) #[] E.toArray] V fun e w'=>∃ av nv cv,e = .returned (.slice av nv cv) /\ ∃ S',Km lo mb tt X (w'.setCell ⟨pb,j * 3 + 2,none⟩ (.slice av nv cv)) S' (KM.forgetK k j p) /\ Ch S w S' (w'.setCell ⟨pb,j * 3 + 2,none⟩ (.slice av nv cv)) /\ w'.frozen? ⟨pb,j * 3 + 2,none⟩ = false /\ (∃ u,w'.cell? ⟨pb,j * 3 + 2,none⟩ = some u)):=fun V hV hch=>by
  have hjn : j < (KM.cutTo k es p es.length).spaces.length:=by rw [KM.cut_spaces];exact hj
  have hrow:=(hV.each j hjn).pages
  rw [KM.cut_spaces,<- hes,hve] at hrow
  have hlV : lo <= V.heap.size:=Nat.le_trans hlo hch.kp.size
  have hlab : ∀ b,blk (.slice ae es.length ce) b -> S.lab b = .ents j:=fun b hb=>hV.lE j hjn b (by rw [hve];exact hb)
  refine (KI.delete_any F E x hFE lo es p (.slice ae es.length ce) V hrow (fun U e hU=>HCL.out U e ?_) (by omega)).mono fun e w' ⟨v',h1,h2,h3,h4⟩=>?_
  · exact ((hch.kp.mono (fun b _ g=>g)).trans hU (fun b hb hx=>by rw [hlab b hx];simp))
  · obtain ⟨av,cv,rfl,_,_⟩:=row_form h2
    obtain ⟨pb',cP',A'⟩:=hV.toKr.sp (by omega)
    have hP : S.vP = .slice (some ⟨pb,0,none⟩) k.spaces.length cP:=A.v
    have k1 : Kp (fun b=>S.lab b = .ents j) V w':=h3.mono (fun b _ hx=>hlab b hx)
    have sw:=hV.swapE hjn hP k1 h2 (fun b hb=>by
     rcases h4 b hb with g | g
     · exact .inl (hlab b g)
     · exact .inr (hV.toKr.new g))
    have e1 : ({ KM.cutTo k es p es.length with spaces:=(KM.cutTo k es p es.length).spaces.set j (KM.withE (KM.spAt (KM.cutTo k es p es.length).spaces j) (KM.keepE es p)) } : KM.Kn) = KM.forgetK k j p:=by
     unfold KM.forgetK KM.setE
     rw [<- hes]
    refine ⟨av,_,cv,h1,_,e1 ▸ sw.1,hch.trans (sw.2 (fun b hb hx=>?_)),?_,?_⟩
    · rcases h4 b hx with g | g
      · exact hlab b g
      · omega
    · have hpl : S.lab pb = .spaces:=A.lab
      have hrP:=hV.spaces
      rw [hP] at hrP
      have hrl:=h.len
      have:=k1.row hrP (fun b hb e=>by
       have : S.lab b = .spaces:=hV.lP b (by rw [hP];exact hb)
       rw [this] at e;simp at e)
      have hl2 : S.L.length = k.spaces.length:=hrl
      rw [<- hl2] at this
      exact row_free this _
    · have hpl : S.lab pb = .spaces:=A.lab
      have c2:=A'.x2 j hjn
      have e : pb' = pb:=by
       have:=A'.v
       rw [A.v] at this
       injection this with e1 _ _
       injection e1 with e1
       injection e1 with e1 _ _
       exact e1.symm
      subst e
      exact ⟨_,k1.cell c2 (fun e=>by have e : S.lab pb' = .ents j:=e;rw [hpl] at e;simp at e)⟩
 have HFIN : Hid (∀ V S',Km lo mb tt X V S' (KM.forgetK k j p) -> Ch S w S' V -> OutM lo mb tt X w S (.tuple #[]) (KM.forgetK k j p) (.returned (.tuple #[])) V):=fun V S' h1 h2=>⟨rfl,S',h1,h2⟩
 have HST2:=hideC (fun V (hV : Km lo mb tt X V S (KM.cutTo k es p es.length))=>(show V.cell? ⟨pb,j * 3 + 2,none⟩ = some (.slice ae es.length ce) from by
  have hjn : j < (KM.cutTo k es p es.length).spaces.length:=by rw [KM.cut_spaces];exact hj
  obtain ⟨pb',cP',A'⟩:=hV.toKr.sp (by omega)
  have e : pb' = pb:=by
   have:=A'.v
   rw [A.v] at this
   injection this with e1 _ _
   injection e1 with e1
   injection e1 with e1 _ _
   exact e1.symm
  subst e
  have x2:=A'.x2 j hjn
  rw [hve] at x2
  exact x2))
 have HK0:=hideC h
 have HKB : Hid (∀ V n,Km lo mb tt X V S (KM.cutTo k es p n) -> ∀ V',Below V.heap.size V V' -> Km lo mb tt X V' S (KM.cutTo k es p n)):=fun V n hV V' hb=>hV.below hb
 have HYES : Hid (∀ n,p (KM.enAt es n) = true -> KM.leaveK (KM.cutTo k es p n) (KM.enAt es n) = KM.cutTo k es p (n + 1)):=fun n hn=>by
  show _ = if p (KM.enAt es n) = true then _ else _
  rw [if_pos hn]
 have HNO : Hid (∀ n,p (KM.enAt es n) = false -> KM.cutTo k es p n = KM.cutTo k es p (n + 1)):=fun n hn=>by
  show _ = if p (KM.enAt es n) = true then _ else _
  rw [if_neg (by rw [hn];simp)]
 obtain ⟨P,hP⟩ : ∃ P,P = OutM lo mb tt X w S (.tuple #[]) (KM.forgetK k j p):=⟨_,rfl⟩
 rw [<- hP] at HFIN ⊢
 obtain ⟨np,hnp⟩ : ∃ np,np = k.spaces.length:=⟨_,rfl⟩
 rw [<- hnp] at c3 hji
 clear h hR hcc A hve hre hes hC hP hnp hj hlo
 have hee : es.length <= 1000000:=by omega
 rcases hFE with ⟨rfl,rfl⟩ | ⟨rfl,rfl⟩ | ⟨rfl,rfl⟩
 all_goals
  go_enter Tryz.func87,Tryz.ntmps87
  go_wp2
  go_loopw [21] (fun iv wr=>∃ n : Nat,n <= es.length /\ iv = .int .i64 (n : Int) /\ Km lo mb tt X wr S (KM.cutTo k es p n) /\ Ch S w S wr) (fun iv _=>es.length - (intOf iv).toNat)
  case atStart=>exact ⟨0,by omega,rfl,HK0.out,Ch.refl _ _⟩
  case round =>
   obtain ⟨n,hn,rfl,hkm,hch⟩:=hrel
   have HKM:=hideC hkm
   have HCH:=hideC hch
   by_cases hlt : n < es.length
   · have hni : (n : Int) < (es.length : Int):=by omega
     obtain ⟨y2,hr2⟩:=HST.out wr n hlt hkm
     obtain ⟨eb,eo,hao,hbl,hlie⟩:=hr2 (by omega)
     subst hao
     have x0:=hlie n hlt 0 (by omega)
     have x1:=hlie n hlt 1 (by omega)
     have x2:=hlie n hlt 2 (by omega)
     rw [Nat.add_zero] at x0
     have HA:=hideC ((Below.refl wr.heap.size wr).alloc (Nat.le_refl _) (.cells #[.int .i64 (KM.enAt es n).page,.int .i64 (KM.enAt es n).kind,.int .i64 (KM.enAt es n).loc] 45))
     have BX:=hideC (B.new wr #[.int .i64 (KM.enAt es n).page,.int .i64 (KM.enAt es n).kind,.int .i64 (KM.enAt es n).loc] 45)
     have HC2:=hideC (HCL.out (wr.alloc (.cells #[.int .i64 (KM.enAt es n).page,.int .i64 (KM.enAt es n).kind,.int .i64 (KM.enAt es n).loc] 45)) (KM.enAt es n) ((hch.trans (Ch.below (S:=S) HA.out)).kp))
     have HCN2:=hideC (fun V=>HCN.out V n hlt)
     have HY2:=hideC (HYES.out n)
     have HN2:=hideC (HNO.out n)
     obtain ⟨G,hG⟩ : ∃ G,G = p (KM.enAt es n):=⟨_,rfl⟩
     rw [<- hG] at HC2 HY2 HN2
     obtain ⟨e,he⟩ : ∃ e,e = KM.enAt es n:=⟨_,rfl⟩
     have y0 : wr.cell? ⟨eb,eo + n * 3,none⟩ = some (.int .i64 e.page):=by rw [he];exact x0
     have y1 : wr.cell? ⟨eb,eo + n * 3 + 1,none⟩ = some (.int .i64 e.kind):=by rw [he];exact x1
     have y3 : wr.cell? ⟨eb,eo + n * 3 + 2,none⟩ = some (.int .i64 e.loc):=by rw [he];exact x2
     rw [<- he] at HC2 HA BX HCN2 HY2
     clear hG he hkm hch hr2 hlie x0 x1 x2 HK0
     cases G with
     | true =>
      go_wp2_with (first
       | ((first | go_at_call 202 | go_at_call 120 | go_at_call 88);refine HC2.out.mono ?_;rintro r w1 ⟨rfl,hb1⟩;have HB1:=hideC (HA.out.trans (hb1.mono HA.out.size));have BX1:=B.below BX.out hb1 (B.isLt BX.out);obtain ⟨d0,d1,d2⟩:=B.c3 BX1;clear hb1 BX1)
       | (go_at_call 85;refine (HCN2.out _ (HKB.out _ n HKM.out _ HB1.out)).mono ?_;rintro r w2 ⟨rfl,hk2,hc2⟩;have HK2:=hideC hk2;have HC3:=hideC ((HCH.out.trans (Ch.below (S:=S) HB1.out)).trans hc2);clear hk2 hc2))
      go_roundw
      case rel=>exact ⟨n + 1,by omega,by go_num,HY2.out (by trivial) ▸ HK2.out,HC3.out⟩
      case measure=>simp [intOf];omega
     | false =>
      go_wp2_with ((first | go_at_call 202 | go_at_call 120 | go_at_call 88);refine HC2.out.mono ?_;rintro r w1 ⟨rfl,hb1⟩;have HB1:=hideC (HA.out.trans (hb1.mono HA.out.size));clear hb1)
      go_roundw
      case rel=>exact ⟨n + 1,by omega,by go_num,HN2.out (by trivial) ▸ HKB.out _ n HKM.out _ HB1.out,HCH.out.trans (Ch.below (S:=S) HB1.out)⟩
      case measure=>simp [intOf];omega
   · obtain rfl : n = es.length:=by omega
     have y2:=HST2.out wr hkm
     have HD2:=hideC (HDL.out wr hkm hch)
     clear hkm hch HKM HCH HDL HST HST2 HCN HCL HK0 HKB HYES HNO
     go_wp2_with (go_at_call 131;refine HD2.out.mono ?_;rintro r w2 ⟨av,nv,cv,rfl,S',hk2,hc2,hfz2,u2,hu2⟩;have HK2:=hideC hk2;have HC3:=hideC hc2;clear hk2 hc2)
     refine bodyPost_end (v:=.tuple #[]) (by simp [results,Tryz.results87,go_sem]) rfl ?_
     exact HFIN.out _ S' HK2.out HC3.out
set_option maxHeartbeats 4000000 in
theorem here_any (i : Int) (e : KM.En) (x : Nat) (w : World) (hx : w.cell? ⟨x,0,none⟩ = some (.int .i64 i)) :
  Calls Tryz.prog 202 #[.agg #[.int .i64 e.page,.int .i64 e.kind,.int .i64 e.loc],.pointer (some ⟨x,0,none⟩)] w fun r w'=>r = .returned (.bool (KM.isIn i e)) /\ Below w.heap.size w w':=by
 obtain ⟨pg,kd,lc⟩:=e
 unfold KM.isIn
 simp only
 have hxl : x < w.heap.size:=World.block_lt_of_cell? w _ hx
 have xA : (w.alloc (.cells #[.int .i64 pg,.int .i64 kd,.int .i64 lc] 45)).cell? ⟨x,0,none⟩ = some (.int .i64 i):=(Below.cell ((Below.refl w.heap.size w).alloc (Nat.le_refl _) _) (p:=⟨x,0,none⟩) hxl).trans hx
 obtain ⟨A,hA⟩ : ∃ A,A = decide (kd = 1 /\ lc = i):=⟨_,rfl⟩
 rw [<- hA]
 have HA:=hideC hA
 clear hA
 by_cases c : kd = 1
 · have kb : (kd == 1) = true:=by simpa using c
   obtain ⟨C,hC⟩ : ∃ C,C = (lc == i):=⟨_,rfl⟩
   have HC:=hideC hC
   have hC2:=hC.symm
   have HCC:=hideC c
   clear hC c
   go_enter Tryz.func202,Tryz.ntmps202
   go_wp2
   go_ret
   refine ⟨?_,(Below.refl _ _).alloc (Nat.le_refl _) _⟩
   congr 2
   rw [HA.out,HCC.out]
   try rw [HC.out]
   by_cases d : lc = i <;> simp [d]
 · have kb : (kd == 1) = false:=by simpa using c
   have HCC:=hideC c
   clear c
   go_enter Tryz.func202,Tryz.ntmps202
   go_wp2
   go_ret
   refine ⟨?_,(Below.refl _ _).alloc (Nat.le_refl _) _⟩
   congr 2
   rw [HA.out]
   simp [HCC.out]
set_option maxHeartbeats 4000000 in
theorem isNone_any (f : KM.Sl) (w : World) : Calls Tryz.prog 204 #[.agg #[.string f.data,.int .i64 f.refs]] w fun e w'=>e = .returned (.bool (KM.isZS f)) /\ Below w.heap.size w w':=by
 obtain ⟨d,r⟩:=f
 unfold KM.isZS
 simp only
 have hd : d.toList.isEmpty = decide (d.size = 0):=KW.empty_ba d
 by_cases c1 : d.size = 0
 · by_cases c2 : r = 0
   · rw [decide_eq_true (show d.size = 0 /\ r = 0 from ⟨c1,c2⟩)]
     rw [decide_eq_true c1] at hd
     have h2 : (r == 0) = true:=by simpa using c2
     clear c1 c2
     go_enter Tryz.func204,Tryz.ntmps204
     go_wp2
     go_ret
     exact ⟨by simp,(Below.refl _ _).alloc (Nat.le_refl _) _⟩
   · rw [decide_eq_false (show ¬ (d.size = 0 /\ r = 0) from fun x=>c2 x.2)]
     rw [decide_eq_true c1] at hd
     have h2 : (r == 0) = false:=by simpa using c2
     clear c1 c2
     go_enter Tryz.func204,Tryz.ntmps204
     go_wp2
     go_ret
     exact ⟨by simp,(Below.refl _ _).alloc (Nat.le_refl _) _⟩
 · rw [decide_eq_false (show ¬ (d.size = 0 /\ r = 0) from fun x=>c1 x.1)]
   rw [decide_eq_false c1] at hd
   clear c1
   go_enter Tryz.func204,Tryz.ntmps204
   go_wp2
   go_ret
   exact ⟨by simp,(Below.refl _ _).alloc (Nat.le_refl _) _⟩
set_option maxHeartbeats 8000000 in
theorem ixSl_any (l : List KM.Sl) (ao : Option Addr) (cap : Nat) (w : World) (h : HasRow cellSl 2 KM.sl0 w ao l) (hl : l.length <= 1000000) :
  Calls Tryz.prog 203 #[.slice ao l.length cap,.func (.func 204) #[] #[]] w fun e w' =>
   Below w.heap.size w w' /\ ((e = .returned (.int .i64 (-1)) /\ ∀ j,j < l.length -> KM.isZS (KM.slAt l j) = false) ∨ ∃ i : Nat,i < l.length /\ e = .returned (.int .i64 (i : Int)) /\ KM.isZS (KM.slAt l i) = true /\ ∀ j,j < i -> KM.isZS (KM.slAt l j) = false):=by
 have HH:=hideC h
 clear h
 go_enter Tryz.func203,Tryz.ntmps203
 go_wp2
 go_loopw [8] (fun iv wr=>∃ k : Nat,k <= l.length /\ iv = .int .i64 (k : Int) /\ (∀ j,j < k -> KM.isZS (KM.slAt l j) = false) /\ Below w.heap.size w wr) (fun iv _=>l.length - (intOf iv).toNat)
 case atStart=>exact ⟨0,by omega,rfl,fun j hj=>by omega,Below.refl _ _⟩
 case round =>
  obtain ⟨k,hk,rfl,hno,hb⟩:=hrel
  have HNO:=hideC hno
  have HB:=hideC hb
  clear hno
  by_cases hlt : k < l.length
  · have hki : (k : Int) < (l.length : Int):=by omega
    obtain ⟨eb,eo,hao,hbl,hlie⟩:=HH.out (by omega)
    subst hao
    have y0:=(hb.cell (p:=⟨eb,eo + k * 2 + 0,none⟩) hbl).trans (hlie k hlt 0 (by omega))
    have y1:=(hb.cell (p:=⟨eb,eo + k * 2 + 1,none⟩) hbl).trans (hlie k hlt 1 (by omega))
    rw [Nat.add_zero] at y0
    have HC2:=hideC (isNone_any (KM.slAt l k) wr)
    obtain ⟨G,hG⟩ : ∃ G,G = KM.isZS (KM.slAt l k):=⟨_,rfl⟩
    rw [<- hG] at HC2
    have HG:=hideC hG
    obtain ⟨E,hE⟩ : ∃ E,E = KM.slAt l k:=⟨_,rfl⟩
    have x0 : wr.cell? ⟨eb,eo + k * 2,none⟩ = some (.string E.data):=by rw [hE];exact y0
    have x1 : wr.cell? ⟨eb,eo + k * 2 + 1,none⟩ = some (.int .i64 E.refs):=by rw [hE];exact y1
    rw [<- hE] at HC2
    clear hG hE hb y0 y1 hlie
    cases G with
    | true =>
     go_wp2_with (go_at_call 204;refine HC2.out.mono ?_;rintro e w1 ⟨rfl,hb1⟩;have HB1:=hideC (HB.out.trans (hb1.mono HB.out.size));clear hb1)
     go_ret
     exact ⟨HB1.out,.inr ⟨k,hlt,rfl,HG.out.symm,HNO.out⟩⟩
    | false =>
     go_wp2_with (go_at_call 204;refine HC2.out.mono ?_;rintro e w1 ⟨rfl,hb1⟩;have HB1:=hideC (HB.out.trans (hb1.mono HB.out.size));clear hb1)
     go_roundw
     case rel=>exact ⟨k + 1,by omega,by go_num,fun j hj=>by
      by_cases q : j = k
      · subst q;exact HG.out.symm
      · exact HNO.out j (by omega),HB1.out⟩
     case measure=>simp [intOf];omega
  · obtain rfl : k = l.length:=by omega
    clear hb
    go_wp2
    go_ret
    exact ⟨HB.out,.inl ⟨rfl,HNO.out⟩⟩
set_option maxHeartbeats 8000000 in
theorem ixFr_any (l : List KM.Fr) (ao : Option Addr) (cap : Nat) (w : World) (h : HasRow cellFr 4 KM.fr0 w ao l) (hl : l.length <= 1000000) :
  Calls Tryz.prog 187 #[.slice ao l.length cap,.func (.func 168) #[] #[]] w fun e w' =>
   Below w.heap.size w w' /\ ((e = .returned (.int .i64 (-1)) /\ ∀ j,j < l.length -> KM.isZ (KM.frAt l j) = false) ∨ ∃ i : Nat,i < l.length /\ e = .returned (.int .i64 (i : Int)) /\ KM.isZ (KM.frAt l i) = true /\ ∀ j,j < i -> KM.isZ (KM.frAt l j) = false):=by
 have HH:=hideC h
 clear h
 go_enter Tryz.func187,Tryz.ntmps187
 go_wp2
 go_loopw [8] (fun iv wr=>∃ k : Nat,k <= l.length /\ iv = .int .i64 (k : Int) /\ (∀ j,j < k -> KM.isZ (KM.frAt l j) = false) /\ Below w.heap.size w wr) (fun iv _=>l.length - (intOf iv).toNat)
 case atStart=>exact ⟨0,by omega,rfl,fun j hj=>by omega,Below.refl _ _⟩
 case round =>
  obtain ⟨k,hk,rfl,hno,hb⟩:=hrel
  have HNO:=hideC hno
  have HB:=hideC hb
  clear hno
  by_cases hlt : k < l.length
  · have hki : (k : Int) < (l.length : Int):=by omega
    obtain ⟨eb,eo,hao,hbl,hlie⟩:=HH.out (by omega)
    subst hao
    have y0:=(hb.cell (p:=⟨eb,eo + k * 4 + 0,none⟩) hbl).trans (hlie k hlt 0 (by omega))
    have y1:=(hb.cell (p:=⟨eb,eo + k * 4 + 1,none⟩) hbl).trans (hlie k hlt 1 (by omega))
    have y2:=(hb.cell (p:=⟨eb,eo + k * 4 + 2,none⟩) hbl).trans (hlie k hlt 2 (by omega))
    have y3:=(hb.cell (p:=⟨eb,eo + k * 4 + 3,none⟩) hbl).trans (hlie k hlt 3 (by omega))
    rw [Nat.add_zero] at y0
    have HC2:=hideC (KW.isZero_any (KM.frAt l k) wr)
    obtain ⟨G,hG⟩ : ∃ G,G = KM.isZ (KM.frAt l k):=⟨_,rfl⟩
    rw [<- hG] at HC2
    have HG:=hideC hG
    obtain ⟨E,hE⟩ : ∃ E,E = KM.frAt l k:=⟨_,rfl⟩
    have x0 : wr.cell? ⟨eb,eo + k * 4,none⟩ = some (.string E.data):=by rw [hE];exact y0
    have x1 : wr.cell? ⟨eb,eo + k * 4 + 1,none⟩ = some (.int .i64 E.refs):=by rw [hE];exact y1
    have x2 : wr.cell? ⟨eb,eo + k * 4 + 2,none⟩ = some (.bool E.dirty):=by rw [hE];exact y2
    have x3 : wr.cell? ⟨eb,eo + k * 4 + 3,none⟩ = some (.bool E.seen):=by rw [hE];exact y3
    rw [<- hE] at HC2
    clear hG hE hb y0 y1 y2 y3 hlie
    cases G with
    | true =>
     go_wp2_with (go_at_call 168;refine HC2.out.mono ?_;rintro e w1 ⟨rfl,hb1⟩;have HB1:=hideC (HB.out.trans (hb1.mono HB.out.size));clear hb1)
     go_ret
     exact ⟨HB1.out,.inr ⟨k,hlt,rfl,HG.out.symm,HNO.out⟩⟩
    | false =>
     go_wp2_with (go_at_call 168;refine HC2.out.mono ?_;rintro e w1 ⟨rfl,hb1⟩;have HB1:=hideC (HB.out.trans (hb1.mono HB.out.size));clear hb1)
     go_roundw
     case rel=>exact ⟨k + 1,by omega,by go_num,fun j hj=>by
      by_cases q : j = k
      · subst q;exact HG.out.symm
      · exact HNO.out j (by omega),HB1.out⟩
     case measure=>simp [intOf];omega
  · obtain rfl : k = l.length:=by omega
    clear hb
    go_wp2
    go_ret
    exact ⟨HB.out,.inl ⟨rfl,HNO.out⟩⟩
theorem free_sl {k : KM.Kn} (hR : KM.RightK k) {i : Nat} (hi : i < k.slots.length) (h1 : KM.isZS (KM.slAt k.slots i) = true) (h2 : ∀ j,j < i -> KM.isZS (KM.slAt k.slots j) = false) : KM.freeS k.slots = some i:=by
 unfold KM.freeS
 refine List.findIdx?_eq_some_iff_getElem.2 ⟨hi,?_,fun j hj=>?_⟩
 · have:=(KM.isZS_iff _).1 h1
   unfold KM.slAt at this
   rw [List.getD_eq_getElem?_getD,List.getElem?_eq_getElem hi] at this
   have this : k.slots[i] = KM.sl0:=this
   rw [this]
   rfl
 · have hj' : j < k.slots.length:=by omega
   have:=h2 j hj
   have hz : ¬ (KM.slAt k.slots j).refs = 0:=fun z=>by
    have h3:=(hR.slt j hj').zero ((hR.slt j hj').nil z)
    rw [(KM.isZS_iff _).2 h3] at this;cases this
   unfold KM.slAt at hz
   rw [List.getD_eq_getElem?_getD,List.getElem?_eq_getElem hj'] at hz
   simpa using hz
theorem free_fr {k : KM.Kn} (hR : KM.RightK k) {i : Nat} (hi : i < k.frames.length) (h1 : KM.isZ (KM.frAt k.frames i) = true) (h2 : ∀ j,j < i -> KM.isZ (KM.frAt k.frames j) = false) : KM.freeF k.frames = some i:=by
 unfold KM.freeF
 refine List.findIdx?_eq_some_iff_getElem.2 ⟨hi,?_,fun j hj=>?_⟩
 · have:=(KM.isZ_iff _).1 h1
   unfold KM.frAt at this
   rw [List.getD_eq_getElem?_getD,List.getElem?_eq_getElem hi] at this
   have this : k.frames[i] = KM.fr0:=this
   rw [this]
   rfl
 · have hj' : j < k.frames.length:=by omega
   have:=h2 j hj
   have hz : ¬ (KM.frAt k.frames j).refs = 0:=fun z=>by
    have h3:=(hR.frm j hj').zero ((hR.frm j hj').nil z)
    rw [(KM.isZ_iff _).2 h3] at this;cases this
   unfold KM.frAt at hz
   rw [List.getD_eq_getElem?_getD,List.getElem?_eq_getElem hj'] at hz
   simpa using hz
theorem full_fr {k : KM.Kn} (hR : KM.RightK k) (h : ∀ j,j < k.frames.length -> KM.isZ (KM.frAt k.frames j) = false) : KM.freeF k.frames = none /\ KM.Full k:=by
 have hF : KM.Full k:=fun j hj z=>by
  have h3:=(hR.frm j hj).zero ((hR.frm j hj).nil z)
  have:=h j hj
  rw [(KM.isZ_iff _).2 h3] at this;cases this
 refine ⟨?_,hF⟩
 unfold KM.freeF
 refine List.findIdx?_eq_none_iff.2 fun x hx=>?_
 obtain ⟨j,hj,rfl⟩:=KM.mem_getD KM.fr0 hx
 have:=hF j hj
 unfold KM.frAt at this
 exact decide_eq_false this
end KX
end Go.Proofs.YtpgifpeohlllfaaGreat
