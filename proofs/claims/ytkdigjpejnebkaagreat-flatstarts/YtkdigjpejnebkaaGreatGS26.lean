import Derived.Test.YtkdigjpejnebkaaGreatGS25
set_option linter.unusedVariables false
set_option maxRecDepth 100000
set_option linter.unusedSimpArgs false
namespace Go.Proofs.YtkdigjpejnebkaaGreat
namespace GF
open Go.RowKit GK
open FW (hideC add_below)
structure Fil (p n : Int) (ps q : List FM.Pg) (i j : Nat) : Prop where
 len : q.length = ps.length
 lt : i < j
 le : j <= ps.length
 front : q.take i = (ps.take j).filter (fun g=>!goB p n g)
 back : q.drop j = ps.drop j
theorem take_next (l : List FM.Pg) (j : Nat) (h : j < l.length) : l.take (j + 1) = l.take j ++ [FM.pgAt l j]:=by
 rw [List.take_add_one,pg_get l j h]
 rfl
theorem Fil.start {p n : Int} {ps : List FM.Pg} {i : Nat} (hi : i < ps.length) (hg : goB p n (FM.pgAt ps i) = true) (hno : ∀ j,j < i -> goB p n (FM.pgAt ps j) = false) : Fil p n ps ps i (i + 1):=by
 refine ⟨rfl,by omega,hi,?_,rfl⟩
 have : ∀ k,k <= i -> (ps.take k).filter (fun g=>!goB p n g) = ps.take k:=fun k=>by
  induction k with
  | zero=>intro _;simp
  | succ k ih =>
   intro hk
   rw [take_next ps k (by omega),List.filter_append,ih (by omega)]
   simp [hno k (by omega)]
 rw [take_next ps i hi,List.filter_append,this i (Nat.le_refl _)]
 simp [hg]
theorem Fil.at {p n : Int} {ps q : List FM.Pg} {i j : Nat} (h : Fil p n ps q i j) (hj : j < ps.length) : FM.pgAt q j = FM.pgAt ps j:=by
 have e : (q.drop j)[0]? = (ps.drop j)[0]?:=by rw [h.back]
 rw [List.getElem?_drop,List.getElem?_drop,Nat.add_zero,pg_get q j (by rw [h.len];exact hj),pg_get ps j hj] at e
 injection e
theorem Fil.skip {p n : Int} {ps q : List FM.Pg} {i j : Nat} (h : Fil p n ps q i j) (hj : j < ps.length) (hg : goB p n (FM.pgAt ps j) = true) : Fil p n ps q i (j + 1):=by
 refine ⟨h.len,by have:=h.lt;omega,hj,?_,?_⟩
 · rw [take_next ps j hj,List.filter_append,h.front]
   simp [hg]
 · rw [<- List.drop_drop,<- List.drop_drop,h.back]
theorem Fil.keep {p n : Int} {ps q : List FM.Pg} {i j : Nat} (h : Fil p n ps q i j) (hj : j < ps.length) (hg : goB p n (FM.pgAt ps j) = false) : Fil p n ps (q.set i (FM.pgAt ps j)) (i + 1) (j + 1):=by
 have hlt:=h.lt
 have hln:=h.len
 refine ⟨by rw [List.length_set];exact h.len,by omega,hj,?_,?_⟩
 · rw [take_next ps j hj,List.filter_append,<- h.front,take_next _ i (by rw [List.length_set];omega)]
   have e1 : (q.set i (FM.pgAt ps j)).take i = q.take i:=by
    rw [List.take_set,List.set_eq_of_length_le (by rw [List.length_take];omega)]
   have e2 : FM.pgAt (q.set i (FM.pgAt ps j)) i = FM.pgAt ps j:=by
    unfold FM.pgAt
    rw [List.getD_eq_getElem?_getD,List.getElem?_set_self (by omega)]
    rfl
   rw [e1,e2]
   simp [hg]
 · rw [List.drop_set_of_lt (by omega),<- List.drop_drop,<- List.drop_drop,h.back]
theorem Fil.done {p n : Int} {ps q : List FM.Pg} {i : Nat} (h : Fil p n ps q i ps.length) : q.take i = GM.outF ps p n:=by
 rw [h.front,List.take_length]
 rfl
theorem rows_set2 (q : List FM.Pg) (i : Nat) (g : FM.Pg) (hi : i < q.length) : (q.set i g).flatMap cellPg = ((q.flatMap cellPg).set (i * 2) (.int .i64 g.page)).set (i * 2 + 1) (.string g.data):=by
 have h1:=rows_set cellPg 2 cellPg_len FM.pg0 ⟨g.page,(FM.pgAt q i).data⟩ 0 (.int .i64 g.page) (by omega) q i hi rfl
 have h2:=rows_set cellPg 2 cellPg_len FM.pg0 g 1 (.string g.data) (by omega) (q.set i ⟨g.page,(FM.pgAt q i).data⟩) i (by rw [List.length_set];exact hi) (by
  rw [List.getD_eq_getElem?_getD,List.getElem?_set_self hi];rfl)
 rw [List.set_set,h1] at h2
 exact h2
theorem outF_all {ps : List FM.Pg} {p n : Int} (h : ∀ j,j < ps.length -> goB p n (FM.pgAt ps j) = false) : GM.outF ps p n = ps:=by
 unfold GM.outF
 rw [List.filter_eq_self]
 intro g hg
 obtain ⟨k,hk,rfl⟩:=FM.mem_pgAt hg
 have:=h k hk
 unfold goB at this
 simp [this]
set_option maxHeartbeats 8000000 in
theorem delete_any (lo : Nat) (ps : List FM.Pg) (p n : Int) (vp : Value) (x y : Nat) (w : World) (h : w.ownsRow lo 65 2 vp ps.length (ps.flatMap cellPg)) (hx : w.cell? ⟨x,0,none⟩ = some (.int .i64 p)) (hy : w.cell? ⟨y,0,none⟩ = some (.int .i64 n)) (hnx : ¬ blk vp x) (hny : ¬ blk vp y) (hp : 0 <= p) (hn : 0 <= n) (hpn : p + n <= 1000) (hl : ps.length <= 100000) :
  Calls Tryz.prog 203 #[vp,.func (.func 204) #[] #[.pointer (some ⟨x,0,none⟩),.pointer (some ⟨y,0,none⟩)]] w (OutIns lo vp (GM.outF ps p n) w):=by
 obtain ⟨ao,cap,rfl,hcm,hgo⟩:=row_form h
 have HIX:=hideC (indexFunc_any lo ps p n ao cap x y w h hx hy hp hn hpn hl)
 have HH:=hideC h
 have HX:=hideC hx
 have HY:=hideC hy
 have HNX:=hideC hnx
 have HNY:=hideC hny
 obtain ⟨P,hP⟩ : ∃ P,P = OutIns lo (.slice ao ps.length cap) (GM.outF ps p n) w:=⟨_,rfl⟩
 have HP : Hid (∀ e w',OutIns lo (.slice ao ps.length cap) (GM.outF ps p n) w e w' -> P e w'):=fun e w' h=>by rw [hP];exact h
 rw [<- hP]
 have HGO:=hideC hgo
 clear h hx hy hP hnx hny hgo
 by_cases hall : ∀ j,j < ps.length -> goB p n (FM.pgAt ps j) = false
 · have HI2 : Hid (Calls Tryz.prog 210 #[.slice ao ps.length cap,.func (.func 204) #[] #[.pointer (some ⟨x,0,none⟩),.pointer (some ⟨y,0,none⟩)]] w fun e w'=>e = .returned (.int .i64 (-1)) /\ Below w.heap.size w w'):=HIX.out.mono fun e w' ⟨hb,hh⟩=>by
    rcases hh with ⟨rfl,_⟩ | ⟨i,hi,_,hg,_⟩
    · exact ⟨rfl,hb⟩
    · rw [hall i hi] at hg;cases hg
   have HAL:=hideC (outF_all hall)
   clear hall HIX
   go_enter Tryz.func203,Tryz.ntmps203
   go_wp2_with (go_at_call 210;refine HI2.out.mono ?_;rintro e w1 ⟨rfl,hb1⟩;have HB1:=hideC hb1;clear hb1)
   exact HP.out _ _ ⟨_,rfl,by rw [HAL.out];exact Kp.row (Kp.ofBelow (D:=fun _=>False) HB1.out) HH.out (fun _ _ g=>g),Kp.ofBelow HB1.out,fun b hb=>.inl hb⟩
 · have HI2 : Hid (Calls Tryz.prog 210 #[.slice ao ps.length cap,.func (.func 204) #[] #[.pointer (some ⟨x,0,none⟩),.pointer (some ⟨y,0,none⟩)]] w fun e w'=>∃ i : Nat,e = .returned (.int .i64 (i : Int)) /\ Fil p n ps ps i (i + 1) /\ Below w.heap.size w w'):=HIX.out.mono fun e w' ⟨hb,hh⟩=>by
    rcases hh with ⟨_,g⟩ | ⟨i,hi,rfl,hg,hno⟩
    · exact (hall g).elim
    · exact ⟨i,rfl,Fil.start hi hg hno,hb⟩
   have hpos : 0 < ps.length:=by
    rcases Nat.eq_zero_or_pos ps.length with g | g
    · exact (hall (fun j hj=>by omega)).elim
    · exact g
   obtain ⟨pb,rfl,hlo,hpb⟩:=HGO.out hpos
   clear hall HIX HGO
   go_enter Tryz.func203,Tryz.ntmps203
   go_wp2_with (go_at_call 210;refine HI2.out.mono ?_;rintro e w1 ⟨i1,rfl,hfil,hb1⟩;have HB1:=hideC hb1;have HFI:=hideC hfil;have hi1:=hfil.le;have hi2 : ((i1 : Int) == -1) = false:=(by rw [beq_eq_false_iff_ne];omega);clear hb1 hfil)
   go_loopw [5,6] (fun iv jv wr=>∃ (i j : Nat) (q : List FM.Pg),iv = .int .i64 (i : Int) /\ jv = .int .i64 (j : Int) /\ Fil p n ps q i j /\ wr.ownsRow lo 65 2 (.slice (some ⟨pb,0,none⟩) ps.length cap) ps.length (q.flatMap cellPg) /\ Kp (fun b=>b = pb) w wr) (fun _ jv _=>ps.length - (intOf jv).toNat)
   case atStart=>exact ⟨i1,i1 + 1,ps,rfl,by go_num,HFI.out,Kp.row (Kp.ofBelow (D:=fun _=>False) HB1.out) HH.out (fun _ _ g=>g),Kp.ofBelow HB1.out⟩
   case round =>
    obtain ⟨i,j,q,rfl,rfl,hf,hrow,hkp⟩:=hrel
    have hij:=hf.lt
    have hjl:=hf.le
    have HF:=hideC hf
    have HR:=hideC hrow
    have HK:=hideC hkp
    clear HFI HB1 hi1
    by_cases hlt : j < ps.length
    · have hji : (j : Int) < (ps.length : Int):=by omega
      have hii : (i : Int) < (ps.length : Int):=by omega
      have hql:=hf.len
      have hrw : ∀ V : World,V.ownsRow lo 65 2 (.slice (some ⟨pb,0,none⟩) ps.length cap) ps.length (q.flatMap cellPg) -> ∀ k,k < ps.length -> V.cell? ⟨pb,k * 2,none⟩ = some (.int .i64 (FM.pgAt q k).page) /\ V.cell? ⟨pb,k * 2 + 1,none⟩ = some (.string (FM.pgAt q k).data):=fun V hV k hk=>by
       rw [<- hql] at hV
       exact ⟨row_at cellPg cellPg_len FM.pg0 hV k 0 (by omega) (by omega),row_at cellPg cellPg_len FM.pg0 hV k 1 (by omega) (by omega)⟩
      have HRW:=hideC hrw
      obtain ⟨c0,c1⟩:=hrw wr hrow j hlt
      rw [hf.at hlt] at c0 c1
      have hpbr : pb < wr.heap.size:=(hrow.lt pb rfl).2
      have hpbn : ¬ pb = wr.heap.size:=by omega
      have HA:=hideC ((Below.refl wr.heap.size wr).alloc (Nat.le_refl _) (.cells #[.int .i64 (FM.pgAt ps j).page,.string (FM.pgAt ps j).data] 65))
      have HC2 : Hid (Calls Tryz.prog 204 #[.agg #[.int .i64 (FM.pgAt ps j).page,.string (FM.pgAt ps j).data],.pointer (some ⟨x,0,none⟩),.pointer (some ⟨y,0,none⟩)] (wr.alloc (.cells #[.int .i64 (FM.pgAt ps j).page,.string (FM.pgAt ps j).data] 65)) fun e w'=>e = .returned (.bool (goB p n (FM.pgAt ps j))) /\ Below (wr.alloc (.cells #[.int .i64 (FM.pgAt ps j).page,.string (FM.pgAt ps j).data] 65)).heap.size (wr.alloc (.cells #[.int .i64 (FM.pgAt ps j).page,.string (FM.pgAt ps j).data] 65)) w'):=by
       have hkk:=hkp.trans (Kp.ofBelow (D:=fun b=>b = pb) HA.out) (fun _ _ g=>g)
       exact unmap1_any p n (FM.pgAt ps j) x y _ (hkk.cell HX.out (fun e=>HNX.out (by subst e;rfl))) (hkk.cell HY.out (fun e=>HNY.out (by subst e;rfl))) hp hn hpn
      have BX:=hideC (B.new wr #[.int .i64 (FM.pgAt ps j).page,.string (FM.pgAt ps j).data] 65)
      have HSK:=hideC (hf.skip hlt)
      have HKE:=hideC (hf.keep hlt)
      obtain ⟨G,hG⟩ : ∃ G,G = goB p n (FM.pgAt ps j):=⟨_,rfl⟩
      rw [<- hG] at HC2 HSK HKE
      obtain ⟨g,hg⟩ : ∃ g,g = FM.pgAt ps j:=⟨_,rfl⟩
      rw [<- hg] at c0 c1 HC2 HKE HA BX
      clear hG hg hrow hkp hrw hf
      cases G with
      | true =>
       go_wp2_with (go_at_call 204;refine HC2.out.mono ?_;rintro e w2 ⟨rfl,hb2⟩;have HB2:=hideC (HA.out.trans (hb2.mono HA.out.size));clear hb2)
       go_roundw
       case rel=>exact ⟨i,j + 1,q,rfl,by go_num,HSK.out (by trivial),Kp.row (Kp.ofBelow (D:=fun _=>False) HB2.out) HR.out (fun _ _ g=>g),HK.out.trans (Kp.ofBelow (D:=fun b=>b = pb) HB2.out) (fun _ _ g=>g)⟩
       case measure=>simp [intOf];omega
      | false =>
       go_wp2_with (go_at_call 204;refine HC2.out.mono ?_;rintro e w2 ⟨rfl,hb2⟩;have HB2:=hideC (HA.out.trans (hb2.mono HA.out.size));have HR2:=hideC (Kp.row (Kp.ofBelow (D:=fun _=>False) HB2.out) HR.out (fun _ _ g=>g));have hc2:=HRW.out _ HR2.out i (by omega);obtain ⟨d0,d1⟩:=hc2;have d2:=row_free HR2.out (i * 2);have d3:=row_free HR2.out (i * 2 + 1);have hx2:=B.below BX.out hb2 (B.isLt BX.out);have d4 : w2.cell? ⟨wr.heap.size,0,none⟩ = some (.int .i64 g.page):=B.cell hx2 0 rfl;have d5 : w2.cell? ⟨wr.heap.size,1,none⟩ = some (.string g.data):=B.cell hx2 1 rfl;clear hb2 hx2)
       go_roundw
       case rel =>
        refine ⟨i + 1,j + 1,q.set i g,by go_num,by go_num,HKE.out (by trivial),?_,?_⟩
        · rw [rows_set2 q i g (by omega)]
          exact row_set (row_set HR2.out (i * 2) _) (i * 2 + 1) _
        · exact ((HK.out.trans (Kp.ofBelow (D:=fun b=>b = pb) HB2.out) (fun _ _ g=>g)).trans (Kp.set (fun b=>b = pb) w2 ⟨pb,i * 2,none⟩ _ rfl) (fun _ _ g=>g)).trans (Kp.set (fun b=>b = pb) _ ⟨pb,i * 2 + 1,none⟩ _ rfl) (fun _ _ g=>g)
       case measure=>simp [intOf];omega
    · obtain rfl : j = ps.length:=by omega
      have hql:=hf.len
      have hdn:=hf.done
      obtain ⟨cur,hcz,hgc,hcs,hct⟩ : ∃ cur : Array Value,cur.size = cap * 2 /\ wr.heap[pb]? = some (.cells cur 65 (0,0)) /\ cap <= maxLen /\ cur.toList.take (ps.length * 2) = q.flatMap cellPg:=by
       rcases hrow.2 with ⟨h0,_⟩ | ⟨g,cap',cur,hv,hb,hg,h1,h2,h3,h4⟩
       · omega
       · injection hv with e1 e2 e3
         injection e1 with e1
         injection e1 with e1
         subst e1 e3
         exact ⟨cur,h3,hg,h2,h4⟩
      have hcl : cur.toList.length = cap * 2:=hcz
      have hclr : ∀ ty c,(Builtin.clear_ #[51] ty #[.slice (some ⟨pb,i * 2,none⟩) (ps.length - i) c]).run Tryz.prog wr = .ok (.tuple #[]) (wr.setRow pb (splice cur.toList (i * 2) (zeroRow [.int .i64 0,.string ⟨#[]⟩] (ps.length - i))).toArray):=fun ty c=>run_clear_rows (P:=Tryz.prog) wr 51 ty 65 (.agg #[.int .i64 0,.string ⟨#[]⟩]) Tryz.underlying51 zeroP (by decide) (by decide) pb (i * 2) (ps.length - i) c cur.toList 65 (by simpa using hgc) (by
       have e : (Value.cells (.agg #[.int .i64 0,.string ⟨#[]⟩])).size = 2:=rfl
       rw [e,hcl];omega)
      obtain ⟨S,hS⟩ : ∃ S,S = splice cur.toList (i * 2) (zeroRow [.int .i64 0,.string ⟨#[]⟩] (ps.length - i)):=⟨_,rfl⟩
      rw [<- hS] at hclr
      have hSl : S.length = cap * 2:=by
       rw [hS,length_splice _ _ _ (by rw [zeroRow_length,hcl];simp only [List.length_cons,List.length_nil];omega),hcl]
      have hSt : S.take (i * 2) = (GM.outF ps p n).flatMap cellPg:=by
       rw [<- hdn,<- take_rows,<- hct,List.take_take,Nat.min_eq_left (by omega),hS]
       unfold splice
       exact take_left' _ _ _ (by rw [List.length_take,hcl];omega)
      have hol : (GM.outF ps p n).length = i:=by rw [<- hdn,List.length_take];omega
      have hg2 : (wr.setRow pb S.toArray).heap[pb]? = some (.cells S.toArray 65 (0,0)):=setRow_heap wr pb _ _ _ _ hgc
      have HFIN : Hid (P (.returned (.slice (some ⟨pb,0,none⟩) i cap)) (wr.setRow pb S.toArray)):=HP.out _ _ ⟨_,rfl,by
       rw [hol,<- hSt]
       exact ⟨by rw [List.length_take,hSl];omega,.inr ⟨pb,cap,S.toArray,rfl,hlo,hg2,by omega,hcs,by simpa using hSl,by simp⟩⟩,(hkp.mono (fun b _ e=>by subst e;rfl)).trans (setRow_kp wr pb S.toArray) (fun b _ e=>by subst e;rfl),fun b hb=>.inl hb⟩
      have hic : ¬ cap = i:=by omega
      have hin : (i : Int) <= (ps.length : Int):=by omega
      have hin2 : i <= ps.length:=by omega
      have hin3 : i <= cap:=by omega
      have hc63 : cap <= 9223372036854775807:=by unfold maxLen at hcs;omega
      clear hf hrow hkp HF HR HK hgc hct hdn hS hSl hSt hol hg2 hql hcz hcl HI2 HP HH HX HY HNX HNY
      go_wp2_with (at_builtin;refine wpList_clear_run _ rfl _ 51 rfl _ rfl (hclr _ _) ?_)
      exact HFIN.out
set_option maxHeartbeats 8000000 in
theorem unmap_any {lo mb : Nat} (w : World) (D : Nat -> Prop) (m : GM.Mf) (fl : List Bool) (k : Nat) (p n : Int) (h : HdF lo mb w D m) (hok : GM.OkF m fl) (hf : fl.getD k false = true) (hp : M.I64 p) (hn : M.I64 n) :
  Calls Tryz.prog 196 #[.pointer (some ⟨mb,0,none⟩),.int .i64 (k : Int),.int .i64 p,.int .i64 n] w (GW.Out (HdF lo mb) w D (.int .i64 (GM.unmapM m k p n).1) (GM.unmapM m k p n).2):=by
 obtain ⟨⟨v,L,hM⟩,hD⟩:=h
 obtain ⟨hk,hlv⟩:=hok.live hf
 have hL:=GM.liv_of (hok.each k hk) hlv
 have h4:=hok.few.2
 have HPM:=hideC (fun (g : (AW.unmapN (FM.spAt m.spaces k).areas p n).2 = 0)=>(GM.pages_unmap hL.check g).2.1)
 have hplen : (FM.spAt m.spaces k).pages.length <= 70000:=by have:=GM.total_len hL;have:=FW.total_bd (FM.spAt m.spaces k).areas;omega
 obtain ⟨sb,cap,aa,na,ca,ap,cp,hv,hsb,hlc,c0,c1,c2,hHa,_,_,hfz,_⟩:=hM.space k hk
 subst hv
 have hfit:=AM.fits_of_check _ hL.check
 have HMP : Hid (∀ V,Below w.heap.size w V -> Calls Tryz.prog 202 #[.slice aa na ca,.int .i64 p,.int .i64 n] V fun e w'=>∃ r,e = .returned (.tuple #[r,.int .i64 (AW.unmapN (FM.spAt m.spaces k).areas p n).2]) /\ AW.Own V.heap.size w' r (AW.unmapN (FM.spAt m.spaces k).areas p n).1 /\ Below V.heap.size V w'):=fun V hV=>AW.unmap_own (FM.spAt m.spaces k).areas (.slice aa na ca) p n V (hHa.below hV) hfit hp hn
 have m1 : w.cell? ⟨mb,1,none⟩ = some (.slice (some ⟨sb,0,none⟩) m.spaces.length cap):=B.cell hM.head 1 rfl
 have hmb:=B.isLt hM.head
 have hki : (k : Int) < (m.spaces.length : Int):=by omega
 have HLM : Hid (GM.unmapM m k p n = if ¬ (AW.unmapN (FM.spAt m.spaces k).areas p n).2 = 0 then ((AW.unmapN (FM.spAt m.spaces k).areas p n).2,m) else (0,GM.turnS m k { FM.spAt m.spaces k with areas:=(AW.unmapN (FM.spAt m.spaces k).areas p n).1,pages:=GM.outF (FM.spAt m.spaces k).pages p n })):=rfl
 obtain ⟨X,hX⟩ : ∃ X,X = AW.unmapN (FM.spAt m.spaces k).areas p n:=⟨_,rfl⟩
 rw [<- hX] at HMP HLM HPM
 have HM:=hideC hM
 have HD:=hideC hD
 have HFZ:=hideC hfz
 have HKS:=hideC hk
 have HLC:=hideC hlc
 obtain ⟨R,hR⟩ : ∃ R,R = GM.unmapM m k p n:=⟨_,rfl⟩
 rw [<- hR] at HLM ⊢
 obtain ⟨P,hP⟩ : ∃ P,P = GW.Out (HdF lo mb) w D (.int .i64 R.1) R.2:=⟨_,rfl⟩
 have HP : Hid (∀ w',(∃ D',HdF lo mb w' D' R.2 /\ Kp D w w' /\ ∀ b,D' b -> D b ∨ w.heap.size <= b) -> P (.returned (.int .i64 R.1)) w'):=fun w' ⟨D',h1,h2,h3⟩=>by rw [hP];exact ⟨D',rfl,h1,h2,h3⟩
 rw [<- hP]
 obtain ⟨X1,X2⟩:=X
 simp only at HMP HLM HPM
 obtain ⟨ns,hns⟩ : ∃ ns,ns = m.spaces.length:=⟨_,rfl⟩
 rw [<- hns] at m1 hki hk h4
 have HNS:=hideC hns
 obtain ⟨s,hs⟩ : ∃ s,s = FM.spAt m.spaces k:=⟨_,rfl⟩
 rw [<- hs] at HLM c2 HLC hplen
 have HSS:=hideC hs
 have HC2:=hideC c2
 have hmn1 : ¬ mb = w.heap.size:=by omega
 have hmn2 : ¬ mb = w.heap.size + 1:=by omega
 have hsn1 : ¬ sb = w.heap.size:=by omega
 have hsn2 : ¬ sb = w.heap.size + 1:=by omega
 have HBX:=hideC (((Below.refl w.heap.size w).alloc (Nat.le_refl _) (.cells #[.int .i64 p] 3)).alloc (by simp) (.cells #[.int .i64 n] 3))
 have BP:=hideC (B.alloc (B.new w #[.int .i64 p] 3) (.cells #[.int .i64 n] 3))
 have BN:=hideC (B.new (w.alloc (.cells #[.int .i64 p] 3)) #[.int .i64 n] 3)
 clear hM hD hok hf hlv hX hR hP hL hHa hfit hlc hfz hns c0 c2 hs
 go_enter Tryz.func196,Tryz.ntmps196
 go_wp2_with fail
 obtain ⟨WA,hWA⟩ : ∃ WA,WA = (w.alloc (.cells #[.int .i64 p] 3)).alloc (.cells #[.int .i64 n] 3):=⟨_,rfl⟩
 have hsz1 : (w.alloc (.cells #[.int .i64 p] 3)).heap.size = w.heap.size + 1:=by simp
 rw [hsz1] at BN
 rw [<- hWA] at HBX BP BN ⊢
 obtain ⟨x,hxe⟩ : ∃ x,x = w.heap.size:=⟨_,rfl⟩
 obtain ⟨y,hye⟩ : ∃ y,y = w.heap.size + 1:=⟨_,rfl⟩
 rw [<- hye] at BN hmn2 hsn2 ⊢
 rw [<- hxe] at BP hmn1 hsn1 ⊢
 have HXE:=hideC hxe
 have HYE:=hideC hye
 have HS : Hid (∀ V,Below WA.heap.size WA V -> V.cell? ⟨sb,k * 3 + 1,none⟩ = some (.slice aa na ca) /\ V.cell? ⟨x,0,none⟩ = some (.int .i64 p) /\ V.cell? ⟨y,0,none⟩ = some (.int .i64 n)):=fun V hb=>by
  have h1:=B.below BP.out hb (B.isLt BP.out)
  have h2:=B.below BN.out hb (B.isLt BN.out)
  exact ⟨((HBX.out.trans (hb.mono HBX.out.size)).cell (p:=⟨sb,k * 3 + 1,none⟩) hsb).trans c1,B.cell h1 0 rfl,B.cell h2 0 rfl⟩
 have HK0:=hideC (Below.refl WA.heap.size WA).drew
 have HS0:=hideC (HS.out _ HK0.out)
 clear hWA hxe hye m1 hsz1
 go_cut [10,11] (fun x10 x11 wx=>∃ ra rc,x10 = .slice ra X1.length rc /\ x11 = .int .i64 X2 /\ wx.ownsRow w.heap.size 59 4 (.slice ra X1.length rc) X1.length (AM.areaCells X1) /\ Below WA.heap.size WA wx)
 case first =>
  go_region_held3 (fun V=>V.cell? ⟨sb,k * 3 + 1,none⟩ = some (.slice aa na ca) /\ V.cell? ⟨x,0,none⟩ = some (.int .i64 p) /\ V.cell? ⟨y,0,none⟩ = some (.int .i64 n)) (first | exact HS1.out | exact HS0.out)
   (first
    | (go_at_call 202;refine (HMP.out _ (HBX.out.trans (HK0.out.mono HBX.out.size))).mono ?_;rintro e w1 ⟨r,rfl,hr,hb⟩;obtain ⟨ra,rc,hre,_,_⟩:=row_form (show w1.ownsRow _ 59 4 r _ _ from hr);subst hre;have HRO:=hideC (AW.Own.mono hr (HBX.out.trans (HK0.out.mono HBX.out.size)).size);have HK1:=hideC (HK0.out.trans (hb.mono HK0.out.size));have HS1:=hideC (HS.out _ HK1.out);clear hr hb))
  all_goals
   go_wp2_with fail
   go_meet
   case rel=>exact ⟨ra,rc,rfl,rfl,HRO.out,HK1.out⟩
 case rest =>
  obtain ⟨ra,rc,rfl,rfl,hro,hbc⟩:=hcut
  have HBC:=hideC (HBX.out.trans (hbc.mono HBX.out.size))
  have HROC:=hideC hro
  obtain ⟨z0,z1,z2⟩:=HS.out _ hbc
  have HZ1:=hideC z1
  have HZ2:=hideC z2
  clear hbc HS0 HK0 HMP HS hro BP BN c1 z1 z2
  by_cases hX2 : X2 = 0
  · subst hX2
    have hpn:=HPM.out rfl
    have HR : Hid (R = (0,GM.turnS m k { s with areas:=X1,pages:=GM.outF s.pages p n })):=by rw [HLM.out,if_neg (fun g=>g rfl)];exact rfl
    clear HLM HPM
    have hkL : k < L.length:=by rw [HM.out.len];exact HKS.out
    have hlo:=HM.out.base
    obtain ⟨hA,hK⟩:=HM.out.setA (D':=fun b=>D b ∨ (w.heap.size <= b /\ b < wc.heap.size)) hkL HBC.out (AW.Own.mono (show AW.Own w.heap.size wc _ _ from HROC.out) (by omega)) (fun b hb=>(HROC.out.lt b hb).1) (fun b hb=>.inl hb) (fun b g1 g2=>.inr ⟨g1,g2⟩)
    have hlc' : lcAt (L.set k { lcAt L k with va:=.slice ra X1.length rc }) k = { lcAt L k with va:=.slice ra X1.length rc }:=by rw [lcAt_set _ _ _ _ hkL,if_pos rfl]
    have hss' : FM.spAt (m.spaces.set k { FM.spAt m.spaces k with areas:=X1 }) k = { FM.spAt m.spaces k with areas:=X1 }:=spAt_set_same _ _ _ HKS.out
    have s3 : wc.frozen? ⟨sb,k * 3 + 1,none⟩ = false:=(HBC.out.frozen (p:=⟨sb,k * 3 + 1,none⟩) hsb).trans (HFZ.out _)
    have s4 : wc.cell? ⟨sb,k * 3 + 2,none⟩ = some (.slice ap s.pages.length cp):=(HBC.out.cell (p:=⟨sb,k * 3 + 2,none⟩) hsb).trans HC2.out
    have HA:=hideC hA
    have HKA:=hideC hK
    obtain ⟨W3,hW3⟩ : ∃ W3,W3 = wc.setCell ⟨sb,k * 3 + 1,none⟩ (.slice ra X1.length rc):=⟨_,rfl⟩
    have HWS : Hid (W3.heap.size = wc.heap.size):=by show _ = _;rw [hW3];simp
    rw [<- hW3] at HA HKA
    have hkL' : k < (L.set k { lcAt L k with va:=.slice ra X1.length rc }).length:=by rw [List.length_set];exact hkL
    have hvpe : (lcAt (L.set k { lcAt L k with va:=.slice ra X1.length rc }) k).vp = .slice ap s.pages.length cp:=by rw [hlc',HLC.out]
    have HVPE:=hideC hvpe
    have hkS1 : Kp (fun b=>b = sb) wc W3:=by rw [hW3];exact Kp.set _ _ _ _ rfl
    have y0 : W3.cell? ⟨x,0,none⟩ = some (.int .i64 p):=hkS1.cell HZ1.out (fun e=>hsn1 e.symm)
    have y1 : W3.cell? ⟨y,0,none⟩ = some (.int .i64 n):=hkS1.cell HZ2.out (fun e=>hsn2 e.symm)
    have y2 : W3.cell? ⟨sb,k * 3 + 2,none⟩ = some (.slice ap s.pages.length cp):=by
     have:=row_at cellLc cellLc_len lc0 (by
      have hr:=HA.out.row
      rw [show m.spaces.length = (L.set k { lcAt L k with va:=.slice ra X1.length rc }).length by rw [List.length_set];exact HM.out.len.symm] at hr
      exact hr) k 2 hkL' (by omega)
     rw [this]
     show (cellLc (lcAt _ k))[2]? = _
     rw [hlc',HLC.out]
     rfl
    have hrw3 : W3.ownsRow lo 65 2 (.slice ap s.pages.length cp) s.pages.length (s.pages.flatMap cellPg):=by
     have:=(HA.out.each k hkL').pages
     rw [HVPE.out,hss'] at this
     simp only at this
     rw [<- HSS.out] at this
     exact this
    have hbl : ∀ b,blk (.slice ap s.pages.length cp) b -> b < w.heap.size:=fun b hb=>(HM.out.lt k hkL b (.inr (by rw [HLC.out];exact hb))).2
    have HDE : Hid (Calls Tryz.prog 203 #[.slice ap s.pages.length cp,.func (.func 204) #[] #[.pointer (some ⟨x,0,none⟩),.pointer (some ⟨y,0,none⟩)]] (wc.setCell ⟨sb,k * 3 + 1,none⟩ (.slice ra X1.length rc)) fun e w'=>∃ a6 c6,e = .returned (.slice a6 (GM.outF s.pages p n).length c6) /\ w'.ownsRow lo 65 2 (.slice a6 (GM.outF s.pages p n).length c6) (GM.outF s.pages p n).length ((GM.outF s.pages p n).flatMap cellPg) /\ Kp (blk (.slice ap s.pages.length cp)) W3 w' /\ (∀ b,blk (.slice a6 (GM.outF s.pages p n).length c6) b -> blk (.slice ap s.pages.length cp) b ∨ W3.heap.size <= b)):=by
     show Calls _ _ _ _ _
     rw [<- hW3]
     refine (delete_any lo s.pages p n _ x y W3 hrw3 y0 y1 (fun e=>by have:=hbl _ e;have:=HXE.out;omega) (fun e=>by have:=hbl _ e;have:=HYE.out;omega) (by omega) (by omega) (by omega) (by omega)).mono ?_
     rintro e w' ⟨v',rfl,h1,h2,h3⟩
     obtain ⟨a6,c6,rfl,_,_⟩:=row_form h1
     exact ⟨a6,c6,rfl,h1,h2,h3⟩
    have HN3 : Hid (¬ blk (.slice ap s.pages.length cp) sb):=by
     have:=(HA.out.n3 k hkL' sb rfl).2
     rw [HVPE.out] at this
     exact this
    have HDV : Hid (∀ b,blk (.slice ap s.pages.length cp) b -> D b):=fun b hb=>HM.out.d3 k hkL b (.inr (by rw [HLC.out];exact hb))
    have HRS : Hid (∀ V,Kp (blk (.slice ap s.pages.length cp)) W3 V -> V.frozen? ⟨sb,k * 3 + 2,none⟩ = false /\ V.cell? ⟨sb,k * 3 + 2,none⟩ = some (.slice ap s.pages.length cp)):=fun V hV=>by
     refine ⟨?_,hV.cell y2 HN3.out⟩
     have hr:=hV.row HA.out.row (fun b hb e=>(HA.out.n3 k hkL' b hb).2 (by rw [HVPE.out];exact e))
     have hln : m.spaces.length = (L.set k { lcAt L k with va:=.slice ra X1.length rc }).length:=by rw [List.length_set];exact HM.out.len.symm
     rw [<- hln] at hr
     exact row_free hr _
    obtain ⟨PL,hPL⟩ : ∃ PL,PL = s.pages.length:=⟨_,rfl⟩
    obtain ⟨IL,hIL⟩ : ∃ IL,IL = (GM.outF s.pages p n).length:=⟨_,rfl⟩
    rw [<- hPL] at HDE HN3 HDV HRS HVPE s4 hplen
    rw [<- hIL] at HDE
    have HIL:=hideC hIL
    clear hA hK y0 y1 y2 hPL hIL hW3 hrw3 hbl hlc' hss' hvpe hkS1 HZ1 HZ2 HC2
    go_wp2_with (go_at_call 203;refine HDE.out.mono ?_;rintro e w6 ⟨a6,c6,rfl,ho,hk6,hbl⟩;have HO6:=hideC ho;have HK6:=hideC hk6;have HBL:=hideC hbl;obtain ⟨x6,x7⟩:=HRS.out _ hk6;clear ho hk6 hbl)
    obtain ⟨hp1,hp2⟩:=HA.out.setP (D':=fun b=>D b ∨ (w.heap.size <= b /\ b < w6.heap.size)) hkL' (vp:=.slice a6 IL c6) (l:=GM.outF s.pages p n) (w1:=w6) (by rw [HVPE.out];exact HK6.out) (by rw [<- HIL.out];exact HO6.out) (by rw [HVPE.out];exact HBL.out) (fun b hb=>by
     have z1:=HK6.out.size
     have z2:=HWS.out
     rcases hb with g | g
     · exact .inl g
     · exact .inr ⟨g.1,by omega⟩) (fun b g1 g2=>.inr ⟨by have:=HWS.out;have:=HBC.out.size;omega,g2⟩)
    have hsz : (w6.setCell ⟨sb,k * 3 + 2,none⟩ (.slice a6 IL c6)).heap.size = w6.heap.size:=by simp
    rw [HVPE.out] at hp2
    have hkk : Kp D w (w6.setCell ⟨sb,k * 3 + 2,none⟩ (.slice a6 IL c6)):=(HKA.out.mono (D1:=D) (fun b _ e=>HM.out.d2 b (by rw [e];rfl))).trans hp2 (fun b _ e=>by
     rcases e with e | e
     · exact HM.out.d2 b (by rw [e];rfl)
     · exact HDV.out b e)
    have hspe : (m.spaces.set k { FM.spAt m.spaces k with areas:=X1 }).set k { FM.spAt (m.spaces.set k { FM.spAt m.spaces k with areas:=X1 }) k with pages:=GM.outF s.pages p n } = m.spaces.set k { s with areas:=X1,pages:=GM.outF s.pages p n }:=by
     rw [set_twice,spAt_set_same _ _ _ HKS.out,HSS.out]
    rw [hspe] at hp1
    have:=HP.out _ ⟨_,by rw [HR.out];exact ⟨⟨_,_,hp1⟩,fun b hb=>by
     have z1:=hkk.size
     have z2:=HD.out
     rw [hsz] at z1 ⊢
     rcases hb with g | g
     · have:=z2 b g;omega
     · omega⟩,hkk,fun b hb=>by
     rcases hb with g | g
     · exact .inl g
     · exact .inr g.1⟩
    rw [HR.out] at this
    exact this
  · have HR : Hid (R = (X2,m)):=by rw [HLM.out,if_pos hX2];exact rfl
    have hxi : (X2 == 0) = false:=by rw [beq_eq_false_iff_ne];exact hX2
    clear HLM hX2 HPM
    go_wp2
    have:=HP.out _ ⟨D,by rw [HR.out];exact HdF.below ⟨⟨_,L,HM.out⟩,HD.out⟩ HBC.out,Kp.ofBelow HBC.out,fun b hb=>.inl hb⟩
    rw [HR.out] at this
    exact this
theorem memC (lo mb : Nat) : GW.MemC lo mb (HdF lo mb) GM.OkF GM.flatOps :=
 ⟨fun w w' D E s h hk hd=>HdF.kp h hk hd,fun w D s h=>h.2,GM.flat_ok,fun w D s fl k a n way h hok hf ha hn1 hn8 hw=>load_any w D s fl k a n way h hok hf ha hn1 hn8,fun w D s fl k a d h hok hf ha h1 h8=>store_any w D s fl k a d h hok hf ha h1 h8,fun w D s fl k p n q h hok hf hp hn=>map_any w D s fl k p n q h hok hf hp hn,fun w D s fl k p n h hok hf hp hn=>unmap_any w D s fl k p n h hok hf hp hn,fun w D s fl k p n q h hok hf hp hn=>protect_any w D s fl k p n q h hok hf hp hn,fun w D s fl k h hok hf=>fork_any w D s fl k h hok hf,fun w D s fl k h hok hf=>drop_any w D s fl k h hok hf⟩
end GF
end Go.Proofs.YtkdigjpejnebkaaGreat
