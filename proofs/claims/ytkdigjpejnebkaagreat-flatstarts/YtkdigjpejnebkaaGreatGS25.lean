import Derived.Test.YtkdigjpejnebkaaGreatGS24
set_option linter.unusedVariables false
set_option maxRecDepth 100000
set_option linter.unusedSimpArgs false
namespace Go.Proofs.YtkdigjpejnebkaaGreat
namespace GF
open Go.RowKit GK
open FW (hideC add_below)
set_option maxHeartbeats 8000000 in
theorem insert_grow (lo : Nat) (ps zs : List FM.Pg) (pb zb cap cz wz i : Nat) (w : World) (h : w.ownsRow lo 65 2 (.slice (some ⟨pb,0,none⟩) ps.length cap) ps.length (ps.flatMap cellPg)) (hz : w.ownsRow wz 65 2 (.slice (some ⟨zb,0,none⟩) zs.length cz) zs.length (zs.flatMap cellPg)) (hlo : lo <= w.heap.size) (hi : i < ps.length) (hm : 1 <= zs.length) (hn : ps.length <= 100000) (hn2 : zs.length <= 100000) (hroom : cap < ps.length + zs.length) :
  Calls Tryz.prog 199 #[.slice (some ⟨pb,0,none⟩) ps.length cap,.int .i64 (i : Int),.slice (some ⟨zb,0,none⟩) zs.length cz] w (OutIns lo (.slice (some ⟨pb,0,none⟩) ps.length cap) (ps.take i ++ (zs ++ ps.drop i)) w):=by
 have HFZ:=hideC (row_from (α:=Unit) hz)
 have HFP:=hideC (row_from (α:=Unit) h)
 have H1:=hideC (cells_one zs)
 have H1P:=hideC (cells_one ps)
 have hpb : pb < w.heap.size:=(h.lt pb rfl).2
 have hzb : zb < w.heap.size:=(hz.lt zb rfl).2
 have hcm : ps.length <= cap:=by
  obtain ⟨_,_,e0,hcm,_⟩:=row_form h
  injection e0 with _ _ e3
  omega
 have hlx:=rows_length cellPg 2 cellPg_len ps
 have hlz:=rows_length cellPg 2 cellPg_len zs
 obtain ⟨n,hne1⟩ : ∃ n,n = ps.length:=⟨_,rfl⟩
 obtain ⟨m,hme⟩ : ∃ m,m = zs.length:=⟨_,rfl⟩
 obtain ⟨XS,hXS⟩ : ∃ XS,XS = ps.flatMap cellPg:=⟨_,rfl⟩
 obtain ⟨ZS,hZS⟩ : ∃ ZS,ZS = zs.flatMap cellPg:=⟨_,rfl⟩
 rw [<- hZS] at HFZ H1 hlz
 rw [<- hXS] at HFP hlx H1P
 rw [<- hme] at HFZ hlz hm hn2 hroom ⊢
 rw [<- hne1] at HFP hlx hi hn hroom hcm ⊢
 obtain ⟨i0,hin,hz0,hz1,hz2⟩:=info_parts infoPg
 have hold : (Builtin.firstCells i0.size i (.slice (some ⟨pb,0,none⟩) i cap)).run Tryz.prog w.drew = .ok (XS.take (i * 2)).toArray w.drew:=by
  rw [hz1]
  exact run_firstCells_some w.drew 2 i ⟨pb,0,none⟩ i cap (XS.take (i * 2)) (by rw [List.length_take,hlx];omega) (fun j u hu=>by
   rw [List.getElem?_take] at hu
   split at hu
   · obtain ⟨ad,e,hc⟩:=HFP.out (by omega)
     injection e with e
     subst e
     exact hc j u hu
   · cases hu)
 have hik : i + (n + m - i) = n + m:=by omega
 have hkk : (n : Int) + (m : Int) - (i : Int) = ((n + m - i : Nat) : Int):=by omega
 obtain ⟨G,hG⟩ : ∃ G,G = grownCap w (n + m) cap 65:=⟨_,rfl⟩
 obtain ⟨R,hR⟩ : ∃ R : List Value,R = XS.take (i * 2) ++ zeroRow [.int .i64 0,.string ⟨#[]⟩] (n + m - i) ++ zeroRow [.int .i64 0,.string ⟨#[]⟩] (G - (n + m)):=⟨_,rfl⟩
 have hGn : n + m <= G:=by rw [hG];exact grownCap_ge w _ _ _
 have hG63 : G <= maxLen:=by rw [hG];exact grownCap_le_maxLen w (n + m) cap _ (by unfold maxLen;omega)
 have hRl : R.length = G * 2:=by
  rw [hR,List.length_append,List.length_append,zeroRow_length,zeroRow_length,List.length_take,hlx]
  simp only [List.length_cons,List.length_nil]
  omega
 have hRt : R.take (i * 2) = XS.take (i * 2):=by
  rw [hR,List.append_assoc]
  exact take_left' _ _ _ (by rw [List.length_take,hlx];omega)
 have hrz : ∀ ty,(Builtin.append_ #[51,3] ty #[.slice (some ⟨pb,0,none⟩) i cap,.int .i64 ((n : Int) + (m : Int) - (i : Int))]).run Tryz.prog w = .ok (.slice (some ⟨w.heap.size,0,none⟩) (n + m) G) (w.drew.alloc (.cells R.toArray 65)):=fun ty=>by
  have h:=Lib.run_append_grow_zeros (P:=Tryz.prog) w 51 3 ty 65 i0 _ .i64 .i64 Tryz.underlying51 Tryz.underlying3 hin hz0 (some ⟨pb,0,none⟩) i cap (XS.take (i * 2)) hold (n + m - i) (by omega) (by omega) (by omega) (by omega) (by rw [hz2];omega) (by rw [hz2,hik];exact growslice_fits hroom (by omega))
  rw [hik,<- hG] at h
  rw [hkk,h]
  congr 3
  rw [hR]
  have e1:=zero_cells (Value.cells (.agg #[.int .i64 0,.string ⟨#[]⟩])) (n + m - i) (by decide)
  have e2:=zero_cells (Value.cells (.agg #[.int .i64 0,.string ⟨#[]⟩])) (G - (n + m)) (by decide)
  apply Array.toList_inj.1
  rw [Array.toList_append,Array.toList_append,e1,e2]
  rfl
 have hg0 : (w.drew.alloc (.cells R.toArray 65)).heap[w.heap.size]? = some (.cells R.toArray 65 (0,0)):=B.new w.drew _ _
 obtain ⟨W0,hW0⟩ : ∃ W0,W0 = w.drew.alloc (.cells R.toArray 65):=⟨_,rfl⟩
 rw [<- hW0] at hrz hg0
 have kp0 : Below w.heap.size w W0:=by rw [hW0];exact (Below.refl _ _).drew.alloc (Nat.le_refl _) _
 obtain ⟨H,hH⟩ : ∃ H,H = w.heap.size:=⟨_,rfl⟩
 rw [<- hH] at hrz hg0 hlo
 obtain ⟨DS,hDS⟩ : ∃ DS,DS = XS.drop (i * 2):=⟨_,rfl⟩
 have hDl : DS.length = (n - i) * 2:=by rw [hDS,List.length_drop,hlx];omega
 obtain ⟨R1,hR1⟩ : ∃ R1,R1 = splice R (i * 2) ZS:=⟨_,rfl⟩
 have hR1l : R1.length = G * 2:=by rw [hR1,length_splice _ _ _ (by rw [hlz,hRl];omega)];exact hRl
 obtain ⟨R2,hR2⟩ : ∃ R2,R2 = splice R1 ((i + m) * 2) DS:=⟨_,rfl⟩
 have hR2l : R2.length = G * 2:=by rw [hR2,length_splice _ _ _ (by rw [hDl,hR1l];omega)];exact hR1l
 have hR2t : R2.take ((n + m) * 2) = XS.take (i * 2) ++ (ZS ++ DS):=by
  have:=splice_up R ZS DS (i * 2) ((i + m) * 2) (by rw [hlz];omega) (by rw [hDl,hRl];omega)
  rw [<- hR1,<- hR2,hDl,show (i + m) * 2 + (n - i) * 2 = (n + m) * 2 by omega] at this
  rw [this,hRt]
 have hcp1 : ∀ ty dc,(Builtin.copy_ #[51,51] ty #[.slice (some ⟨H,i * 2,none⟩) (n + m - i) dc,.slice (some ⟨zb,0,none⟩) m cz]).run Tryz.prog W0 = .ok (goInt m) (W0.setRow H R1.toArray):=fun ty dc=>by
  have:=run_copy_rows (P:=Tryz.prog) W0 51 51 ty 65 2 Tryz.underlying51 sizeP H (i * 2) (n + m - i) dc (some ⟨zb,0,none⟩) m cz R 65 hg0 ZS (by rw [hlz];simp only [Nat.min_def];split <;> omega) (fun _=>⟨_,rfl,fun j u hu=>by
   obtain ⟨ad,e,hc⟩:=HFZ.out (by omega)
   injection e with e
   subst e
   have:=hc j u hu
   rw [Addr.add_lit] at this ⊢
   exact (kp0.cell (p:=⟨zb,0 + j,none⟩) hzb).trans this⟩) (by rw [hlz,hRl];omega) H1.out
  rw [this,<- hR1]
  congr 2
  simp only [Nat.min_def];split <;> omega
 have hg1 : (W0.setRow H R1.toArray).heap[H]? = some (.cells R1.toArray 65 (0,0)):=setRow_heap W0 H _ _ _ _ hg0
 obtain ⟨W1,hW1⟩ : ∃ W1,W1 = W0.setRow H R1.toArray:=⟨_,rfl⟩
 rw [<- hW1] at hcp1 hg1
 have kp1 : Below w.heap.size w W1:=by rw [hW1];exact below_setRow kp0 (by omega) _
 have hcp2 : ∀ ty dc sc,(Builtin.copy_ #[51,51] ty #[.slice (some ⟨H,(i + m) * 2,none⟩) (n + m - (i + m)) dc,.slice (some ⟨pb,i * 2,none⟩) (n - i) sc]).run Tryz.prog W1.drew = .ok (goInt (n - i)) (W1.drew.setRow H R2.toArray):=fun ty dc sc=>by
  have:=run_copy_rows (P:=Tryz.prog) W1.drew 51 51 ty 65 2 Tryz.underlying51 sizeP H ((i + m) * 2) (n + m - (i + m)) dc (some ⟨pb,i * 2,none⟩) (n - i) sc R1 65 hg1 DS (by rw [hDl];simp only [Nat.min_def];split <;> omega) (fun _=>⟨_,rfl,fun j u hu=>by
   obtain ⟨ad,e,hc⟩:=HFP.out (by omega)
   injection e with e
   subst e
   have:=hc (i * 2 + j) u (by rw [hDS,List.getElem?_drop] at hu;exact hu)
   rw [Addr.add_lit] at this ⊢
   rw [Nat.zero_add] at this
   exact (kp1.cell (p:=⟨pb,i * 2 + j,none⟩) hpb).trans this⟩) (by rw [hDl,hR1l];omega) (fun u hu=>H1P.out u (by rw [hDS] at hu;exact List.mem_of_mem_drop hu))
  rw [this,<- hR2]
  congr 2
  simp only [Nat.min_def];split <;> omega
 have hg2 : (W1.drew.setRow H R2.toArray).heap[H]? = some (.cells R2.toArray 65 (0,0)):=setRow_heap W1.drew H _ _ _ _ hg1
 have kp2 : Below w.heap.size w (W1.drew.setRow H R2.toArray):=below_setRow kp1.drew (by omega) _
 have HFIN : Hid (OutIns lo (.slice (some ⟨pb,0,none⟩) n cap) (ps.take i ++ (zs ++ ps.drop i)) w (.returned (.slice (some ⟨H,0,none⟩) (n + m) G)) (W1.drew.setRow H R2.toArray)):=by
  have hl : (ps.take i ++ (zs ++ ps.drop i)).length = n + m:=by rw [List.length_append,List.length_append,List.length_take,List.length_drop,<- hne1,<- hme];omega
  refine ⟨_,rfl,?_,Kp.ofBelow kp2,fun b hb=>.inr (by have : some H = some b:=hb;injection this;omega)⟩
  rw [hl]
  have hx : (ps.take i ++ (zs ++ ps.drop i)).flatMap cellPg = R2.take ((n + m) * 2):=by
   rw [hR2t,hXS,hZS,hDS,hXS,take_rows,drop_rows,List.flatMap_append,List.flatMap_append]
  rw [hx]
  exact ⟨by rw [List.length_take,hR2l];omega,.inr ⟨H,G,R2.toArray,rfl,hlo,hg2,hGn,hG63,by simpa using hR2l,by simp⟩⟩
 obtain ⟨P,hP⟩ : ∃ P,P = OutIns lo (.slice (some ⟨pb,0,none⟩) n cap) (ps.take i ++ (zs ++ ps.drop i)) w:=⟨_,rfl⟩
 rw [<- hP] at HFIN ⊢
 have hm0 : ((m : Int) == 0) = false:=by rw [beq_eq_false_iff_ne];omega
 have hi0' : ((i : Int) == (n : Int)) = false:=by rw [beq_eq_false_iff_ne];omega
 have hw1 : IntKind.i64.wrap ((i : Int) + (m : Int)) = (i : Int) + (m : Int):=IntWalk.i64_in _ (by omega)
 have hb1 : (0 : Int) <= (i : Int) + (m : Int):=by omega
 have hinn : i <= n:=by omega
 have htn : ((i : Int) + (m : Int)).toNat = i + m:=by omega
 have hb2 : ¬ (G = i + m):=by omega
 have hb3 : (i : Int) <= (n : Int):=by omega
 have hb4 : ¬ (cap = i):=by omega
 have hb5 : ¬ (G = i):=by omega
 have hr2 : (cap : Int) < (n : Int) + (m : Int):=by omega
 have hc63 : G <= 9223372036854775807:=by unfold maxLen at hG63;omega
 clear h hz hne1 hme hXS hZS hDS hDl hR1 hR2 hW1 hW0 hR hRl hRt hR1l hR2l hR2t hlx hlz hP hg0 hg1 hg2 kp0 kp1 kp2 HFZ HFP H1 H1P hG63 hG hH hold hin hz0 hz1 hz2 hik hkk
 go_enter Tryz.func199,Tryz.ntmps199
 go_wp2_with (first
  | (at_builtin;refine Lib.wpList_append_run _ rfl _ _ _ _ rfl _ _ rfl rfl _ _ (hrz _) ?_)
  | (at_builtin;refine wpList_copy_run _ rfl _ _ 51 51 rfl _ _ rfl rfl (hcp1 _ _) ?_))
 go_region_law (refine step_copy_run rfl _ _ 51 51 rfl _ _ (by simp [Act.eval,Act.put]) (by simp [Act.eval,Act.put]) (hcp2 _ _ _) ?_)
 go_wp2
 exact HFIN.out
theorem insert_any (lo : Nat) (ps zs : List FM.Pg) (vp vz : Value) (wz i : Nat) (w : World) (h : w.ownsRow lo 65 2 vp ps.length (ps.flatMap cellPg)) (hz : w.ownsRow wz 65 2 vz zs.length (zs.flatMap cellPg)) (hlo : lo <= w.heap.size) (hne : ∀ b,blk vz b -> ¬ blk vp b) (hi : i <= ps.length) (hm : 1 <= zs.length) (hn : ps.length <= 100000) (hn2 : zs.length <= 100000) :
  Calls Tryz.prog 199 #[vp,.int .i64 (i : Int),vz] w (OutIns lo vp (ps.take i ++ (zs ++ ps.drop i)) w):=by
 obtain ⟨ao,cap,rfl,hcp,hg⟩:=row_form h
 obtain ⟨az,cz,rfl,_,hgz⟩:=row_form hz
 by_cases c : i = ps.length
 · subst c
   have e : ps.take ps.length ++ (zs ++ ps.drop ps.length) = ps ++ zs:=by rw [List.take_length,List.drop_length,List.append_nil]
   rw [e]
   exact insert_end lo ps zs ao az cap cz wz w h hz hlo hm hn hn2
 · obtain ⟨pb,rfl,_,_⟩:=hg (by omega)
   obtain ⟨zb,rfl,_,_⟩:=hgz (by omega)
   by_cases d : ps.length + zs.length <= cap
   · exact insert_shift lo ps zs pb zb cap cz wz i w h hz (fun e=>hne zb rfl (by rw [e];rfl)) (by omega) hm hn hn2 d
   · exact insert_grow lo ps zs pb zb cap cz wz i w h hz hlo (by omega) hm hn hn2 (by omega)
theorem pg_get (l : List FM.Pg) (j : Nat) (h : j < l.length) : l[j]? = some (FM.pgAt l j):=by
 unfold FM.pgAt
 rw [List.getD_eq_getElem?_getD,List.getElem?_eq_getElem h]
 rfl
theorem low_of : ∀ {ps : List FM.Pg} {p : Int} {i : Nat},FW.Low ps p i -> i = GM.lowN ps p
 | [],p,i,h=>by
  have:=h.le
  simp only [List.length_nil] at this
  show i = 0
  omega
 | g :: ps,p,i,h=>by
  unfold GM.lowN
  rw [List.takeWhile_cons]
  cases i with
  | zero =>
   have:=h.high 0 (by omega) (by simp)
   have hd : (decide (g.page < p)) = false:=decide_eq_false (by show ¬ g.page < p;have e : (FM.pgAt (g :: ps) 0).page = g.page:=rfl;omega)
   rw [hd]
   rfl
  | succ i =>
   have h0:=h.low 0 (by omega)
   have hd : (decide (g.page < p)) = true:=decide_eq_true (by have e : (FM.pgAt (g :: ps) 0).page = g.page:=rfl;omega)
   rw [hd]
   have hl : FW.Low ps p i:=⟨by have:=h.le;simp only [List.length_cons] at this;omega,fun j hj=>h.low (j + 1) (by omega),fun j h1 h2=>h.high (j + 1) (by omega) (by simp only [List.length_cons];omega)⟩
   have:=low_of hl
   unfold GM.lowN at this
   simp only [if_true,List.length_cons]
   omega
theorem Mem.setP {lo mb : Nat} {w w1 : World} {D D' : Nat -> Prop} {sl : Int} {sb n cap : Nat} {L : List Lc} {ss : List FM.Sp} (h : Mem lo mb w D sl (.slice (some ⟨sb,0,none⟩) n cap) L ss) {k : Nat} (hk : k < L.length) {vp : Value} {l : List FM.Pg}
  (hkp : Kp (blk (lcAt L k).vp) w w1) (ho : w1.ownsRow lo 65 2 vp l.length (l.flatMap cellPg)) (hvp : ∀ b,blk vp b -> blk (lcAt L k).vp b ∨ w.heap.size <= b) (hd : ∀ b,D b -> D' b) (hd2 : ∀ b,w.heap.size <= b -> b < w1.heap.size -> D' b) :
  Mem lo mb (w1.setCell ⟨sb,k * 3 + 2,none⟩ vp) D' sl (.slice (some ⟨sb,0,none⟩) n cap) (L.set k { lcAt L k with vp:=vp }) (ss.set k { FM.spAt ss k with pages:=l }) /\ Kp (fun b=>b = sb ∨ blk (lcAt L k).vp b) w (w1.setCell ⟨sb,k * 3 + 2,none⟩ vp):=by
 have hbs : blk (.slice (some ⟨sb,0,none⟩) n cap) sb:=rfl
 have hkS : Kp (fun b=>b = sb) w1 (w1.setCell ⟨sb,k * 3 + 2,none⟩ vp):=Kp.set _ _ _ _ rfl
 have hkA : Kp (fun b=>b = sb ∨ blk (lcAt L k).vp b) w (w1.setCell ⟨sb,k * 3 + 2,none⟩ vp):=(hkp.mono (fun _ _ g=>Or.inr g)).trans hkS (fun _ _ g=>.inl g)
 have hnL : n = L.length:=by
  obtain ⟨ao,c,e,_,_⟩:=row_form h.row
  injection e
 have hsz : (w1.setCell ⟨sb,k * 3 + 2,none⟩ vp).heap.size = w1.heap.size:=by simp
 have hsblt:=(h.row.lt sb hbs).2
 refine ⟨h.turn hk (hkA.mono (fun b _ e=>e.elim (fun g=>.inl (g ▸ hbs)) .inr)) ?_ ?_ (fun b g=>.inl g) hvp (fun b g1 g2=>?_) hd (fun b g1 g2=>hd2 b g1 (by rw [hsz] at g2;exact g2)),hkA⟩
 · have hr:=hkp.row h.row (fun b hb e=>(h.n3 k hk b hb).2 e)
   rw [<- hnL] at hr
   rw [<- lc_id L k hk] at hr
   have:=row_set hr (k * 3 + 2) vp
   rw [<- flat_nextL L k hk (lcAt L k) { lcAt L k with vp:=vp } 2 (by omega) vp rfl] at this
   rw [<- hnL]
   exact this
 · have hsp:=h.each k hk
   refine ⟨hsp.live,hkS.row (hkp.row hsp.areas (fun b hb e=>(h.n4 k k hk hk b e).1 hb)) (fun b hb' e=>?_),hkS.row ho (fun b hb' e=>?_)⟩
   · exact (h.n3 k hk sb hbs).1 (e ▸ hb')
   · rcases hvp b hb' with g | g
     · exact (h.n3 k hk sb hbs).2 (e ▸ g)
     · omega
 · rcases hvp b g1 with g | g
   · exact (h.n4 k k hk hk b g).1 g2
   · have:=(h.lt k hk b (.inl g2)).2
     omega
set_option maxHeartbeats 8000000 in
theorem map_any {lo mb : Nat} (w : World) (D : Nat -> Prop) (m : GM.Mf) (fl : List Bool) (k : Nat) (p n q : Int) (h : HdF lo mb w D m) (hok : GM.OkF m fl) (hf : fl.getD k false = true) (hp : M.I64 p) (hn : M.I64 n) :
  Calls Tryz.prog 193 #[.pointer (some ⟨mb,0,none⟩),.int .i64 (k : Int),.int .i64 p,.int .i64 n,.int .i64 q] w (GW.Out (HdF lo mb) w D (.int .i64 (GM.mapM m k p n q).1) (GM.mapM m k p n q).2):=by
 obtain ⟨⟨v,L,hM⟩,hD⟩:=h
 obtain ⟨hk,hlv⟩:=hok.live hf
 have hL:=GM.liv_of (hok.each k hk) hlv
 have h4:=hok.few.2
 have hsl:=hok.slots
 have hrm:=hok.room
 have hrb:=(FW.room_bd m.spaces m.spaces.length).1
 have hfits:=fits_ok hok
 have HPM:=hideC (fun (g : (AW.mapN (FM.spAt m.spaces k).areas p n q).2 = 0)=>(GM.pages_map hL.check g).2.1)
 have hrise:=hL.rise
 have hplen : (FM.spAt m.spaces k).pages.length <= 70000:=by have:=GM.total_len hL;have:=FW.total_bd (FM.spAt m.spaces k).areas;omega
 obtain ⟨sb,cap,aa,na,ca,ap,cp,hv,hsb,hlc,c0,c1,c2,hHa,hHp,_,hfz,_⟩:=hM.space k hk
 obtain ⟨ao',cap',hv2,hHs⟩:=hM.has
 rw [hv] at hv2
 injection hv2 with e1 e2 e3
 subst e1 e3
 subst hv
 have hfit:=AM.fits_of_check _ hL.check
 have HMP:=hideC (AW.map_own (FM.spAt m.spaces k).areas (.slice aa na ca) p n q w hHa hfit hp hn)
 have HTT : Hid (∀ V,Below w.heap.size w V -> Calls Tryz.prog 74 #[.slice (some ⟨sb,0,none⟩) m.spaces.length cap] V fun e w'=>e = .returned (.int .i64 (FM.room m.spaces)) /\ Below V.heap.size V w'):=fun V hV=>FW.total_any m.spaces (some ⟨sb,0,none⟩) cap V (hHs.below hV) hfits (by omega)
 have m0 : w.cell? ⟨mb,0,none⟩ = some (.int .i64 m.slots):=B.cell hM.head 0 rfl
 have m1 : w.cell? ⟨mb,1,none⟩ = some (.slice (some ⟨sb,0,none⟩) m.spaces.length cap):=B.cell hM.head 1 rfl
 have hmb:=B.isLt hM.head
 have hki : (k : Int) < (m.spaces.length : Int):=by omega
 have HLM : Hid (GM.mapM m k p n q = if ¬ (AW.mapN (FM.spAt m.spaces k).areas p n q).2 = 0 then ((AW.mapN (FM.spAt m.spaces k).areas p n q).2,m) else if m.slots < FM.room m.spaces + n then (8,m) else (0,GM.turnS m k { FM.spAt m.spaces k with areas:=(AW.mapN (FM.spAt m.spaces k).areas p n q).1,pages:=GM.insF (FM.spAt m.spaces k).pages p n.toNat })):=rfl
 obtain ⟨X,hX⟩ : ∃ X,X = AW.mapN (FM.spAt m.spaces k).areas p n q:=⟨_,rfl⟩
 rw [<- hX] at HMP HLM HPM
 have HM:=hideC hM
 have HD:=hideC hD
 have HFZ:=hideC hfz
 have HKS:=hideC hk
 have HLC:=hideC hlc
 obtain ⟨R,hR⟩ : ∃ R,R = GM.mapM m k p n q:=⟨_,rfl⟩
 rw [<- hR] at HLM ⊢
 obtain ⟨P,hP⟩ : ∃ P,P = GW.Out (HdF lo mb) w D (.int .i64 R.1) R.2:=⟨_,rfl⟩
 have HP : Hid (∀ w',(∃ D',HdF lo mb w' D' R.2 /\ Kp D w w' /\ ∀ b,D' b -> D b ∨ w.heap.size <= b) -> P (.returned (.int .i64 R.1)) w'):=fun w' ⟨D',h1,h2,h3⟩=>by rw [hP];exact ⟨D',rfl,h1,h2,h3⟩
 rw [<- hP]
 obtain ⟨X1,X2⟩:=X
 simp only at HMP HLM HPM
 obtain ⟨ns,hns⟩ : ∃ ns,ns = m.spaces.length:=⟨_,rfl⟩
 rw [<- hns] at m1 hki hk h4 HTT
 have HNS:=hideC hns
 obtain ⟨rm,hrm2⟩ : ∃ rm,rm = FM.room m.spaces:=⟨_,rfl⟩
 rw [<- hrm2] at HTT HLM hrm
 have hrm0 : 0 <= rm:=by rw [hrm2];exact hrb
 obtain ⟨sl,hsl2⟩ : ∃ sl,sl = m.slots:=⟨_,rfl⟩
 rw [<- hsl2] at HLM m0 hsl hrm
 have HSL:=hideC hsl2
 obtain ⟨s,hs⟩ : ∃ s,s = FM.spAt m.spaces k:=⟨_,rfl⟩
 rw [<- hs] at HLM c2 HLC hrise hplen
 have HSS:=hideC hs
 have HRI:=hideC hrise
 clear hM hD hok hf hlv hX hR hP hL hHa hHp hfit hlc hfz hns c0 hs hrm2 hsl2 hrb hHs e2 hrise hfits
 by_cases hX2 : X2 = 0
 · subst hX2
   have hpn:=HPM.out rfl
   have HL2 : Hid (R = if sl < rm + n then (8,m) else (0,GM.turnS m k { s with areas:=X1,pages:=GM.insF s.pages p n.toNat })):=by rw [HLM.out,if_neg (fun g=>g rfl)];exact rfl
   clear HLM HPM
   have hwr : IntKind.i64.wrap (rm + n) = rm + n:=IntWalk.i64_in _ (by omega)
   go_enter Tryz.func193,Tryz.ntmps193
   go_wp2_with (go_at_call 121;refine HMP.out.mono ?_;rintro e w1 ⟨r,rfl,hr,hb⟩;obtain ⟨ra,rc,hre,_,_⟩:=row_form (show w1.ownsRow w.heap.size 59 4 r _ _ from hr);subst hre;have HRO:=hideC hr;have HB1:=hideC hb;clear hr hb)
   have HS : Hid (∀ V,Below w1.heap.size w1 V -> V.cell? ⟨mb,0,none⟩ = some (.int .i64 sl) /\ V.cell? ⟨mb,1,none⟩ = some (.slice (some ⟨sb,0,none⟩) ns cap)):=fun V hb=>by
    have h2:=(HM.out.below (HB1.out.trans (hb.mono HB1.out.size))).head
    exact ⟨by rw [HSL.out];exact B.cell h2 0 rfl,by rw [HNS.out];exact B.cell h2 1 rfl⟩
   have HK0:=hideC (Below.refl w1.heap.size w1).drew
   have HS0:=hideC (HS.out _ HK0.out)
   clear m0 m1
   go_cut [37] (fun x wx=>x = .bool (decide (sl < rm + n)) /\ Below w1.heap.size w1 wx)
   case first =>
    go_region_held3 (fun V=>V.cell? ⟨mb,0,none⟩ = some (.int .i64 sl) /\ V.cell? ⟨mb,1,none⟩ = some (.slice (some ⟨sb,0,none⟩) ns cap)) (first | exact HS2.out | exact HS0.out)
     (first
      | (go_at_call 74;refine (HTT.out _ (HB1.out.trans (HK0.out.mono HB1.out.size))).mono ?_;rintro e w2 ⟨rfl,hb2⟩;have HK2:=hideC (HK0.out.trans (hb2.mono HK0.out.size));have HS2:=hideC (HS.out _ HK2.out);clear hb2))
    all_goals
     go_wp2_with fail
     go_meet
     case rel=>exact ⟨by first | rfl | simp,HK2.out⟩
   case rest =>
    obtain ⟨rfl,hbc⟩:=hcut
    have HBC:=hideC (HB1.out.trans (hbc.mono HB1.out.size))
    have HROC:=hideC (Kp.row (Kp.ofBelow (D:=fun _=>False) hbc) (show w1.ownsRow w.heap.size 59 4 _ _ _ from HRO.out) (fun _ _ g=>g))
    have HSC:=HS.out _ hbc
    obtain ⟨s0,s1⟩:=HSC
    clear hbc HS0 HK0 HTT HRO HB1 HS HMP
    by_cases hroom : sl < rm + n
    · have HR : Hid (R = (8,m)):=by rw [HL2.out,if_pos hroom];exact rfl
      clear HL2
      go_wp2
      have:=HP.out _ ⟨D,by rw [HR.out];exact HdF.below ⟨⟨_,L,HM.out⟩,HD.out⟩ HBC.out,Kp.ofBelow HBC.out,fun b hb=>.inl hb⟩
      rw [HR.out] at this
      exact this
    · have HR : Hid (R = (0,GM.turnS m k { s with areas:=X1,pages:=GM.insF s.pages p n.toNat })):=by rw [HL2.out,if_neg hroom];exact rfl
      clear HL2
      have hkL : k < L.length:=by rw [HM.out.len];exact HKS.out
      have hlo:=HM.out.base
      obtain ⟨hA,hK⟩:=HM.out.setA (D':=fun b=>D b ∨ (w.heap.size <= b /\ b < wc.heap.size)) hkL HBC.out (AW.Own.mono (show AW.Own w.heap.size wc _ _ from HROC.out) (by omega)) (fun b hb=>(HROC.out.lt b hb).1) (fun b hb=>.inl hb) (fun b g1 g2=>.inr ⟨g1,g2⟩)
      have hkS : k < (m.spaces.set k { FM.spAt m.spaces k with areas:=X1 }).length:=by rw [List.length_set];exact HKS.out
      have hlc' : lcAt (L.set k { lcAt L k with va:=.slice ra X1.length rc }) k = { lcAt L k with va:=.slice ra X1.length rc }:=by rw [lcAt_set _ _ _ _ hkL,if_pos rfl]
      have hss' : FM.spAt (m.spaces.set k { FM.spAt m.spaces k with areas:=X1 }) k = { FM.spAt m.spaces k with areas:=X1 }:=spAt_set_same _ _ _ HKS.out
      obtain ⟨sb',cap',aa',na',ca',ap',cp',hv',_,hlcx,_,y1,y2,_,hHp',_,hfz',_⟩:=hA.space k hkS
      rw [hlc',hss',HLC.out] at hlcx
      injection hlcx with g1 g2 g3
      injection g3 with g4 g5 g6
      subst g4 g6
      injection hv' with v1 v2 v3
      injection v1 with v1
      injection v1 with v1
      subst v1
      rw [hss'] at hHp' y2
      simp only at hHp' y2
      rw [<- HSS.out] at hHp' y2
      have s2 : wc.cell? ⟨sb,k * 3 + 1,none⟩ = some (.slice aa na ca):=(HBC.out.cell (p:=⟨sb,k * 3 + 1,none⟩) hsb).trans c1
      have s3 : wc.frozen? ⟨sb,k * 3 + 1,none⟩ = false:=(HBC.out.frozen (p:=⟨sb,k * 3 + 1,none⟩) hsb).trans (HFZ.out _)
      have s4 : wc.cell? ⟨sb,k * 3 + 2,none⟩ = some (.slice ap s.pages.length cp):=(HBC.out.cell (p:=⟨sb,k * 3 + 2,none⟩) hsb).trans c2
      have HA:=hideC hA
      have HKA:=hideC hK
      obtain ⟨W3,hW3⟩ : ∃ W3,W3 = wc.setCell ⟨sb,k * 3 + 1,none⟩ (.slice ra X1.length rc):=⟨_,rfl⟩
      have HWS : Hid (W3.heap.size = wc.heap.size):=by show _ = _;rw [hW3];simp
      have HW3:=hideC hW3
      rw [<- hW3] at HA HKA hHp' y2 hfz'
      have HY2 : Hid (∀ V,Below W3.heap.size W3 V -> V.cell? ⟨sb,k * 3 + 2,none⟩ = some (.slice ap s.pages.length cp)):=fun V hV=>(hV.cell (p:=⟨sb,k * 3 + 2,none⟩) (World.block_lt_of_cell? _ _ y2)).trans y2
      have HPL : Hid (Calls Tryz.prog 60 #[.slice ap s.pages.length cp,.int .i64 p] (wc.setCell ⟨sb,k * 3 + 1,none⟩ (.slice ra X1.length rc)) fun e w'=>∃ i,FW.Low s.pages p i /\ e = .returned (.tuple #[.int .i64 (i : Int),.bool (FW.foundAt s.pages p i)]) /\ Below W3.heap.size W3 w'):=by
       show Calls _ _ _ _ _
       rw [<- hW3]
       exact FW.place_any _ _ _ _ _ hHp' HRI.out (by omega)
      have HZE : Hid (∀ V,Calls Tryz.prog 200 #[.int .i64 p,.int .i64 n] V fun e w'=>∃ za zc,e = .returned (.slice za n.toNat zc) /\ w'.ownsRow V.heap.size 65 2 (.slice za n.toNat zc) n.toNat ((GM.zerosF p n.toNat).flatMap cellPg) /\ Below V.heap.size V w'):=fun V=>by
       have:=zeros_any p n.toNat V (by omega) (by omega) (by omega)
       rw [show ((n.toNat : Nat) : Int) = n by omega] at this
       refine this.mono ?_
       rintro e w' ⟨v,rfl,h1,h2⟩
       obtain ⟨za,zc,rfl,_,_⟩:=row_form h1
       exact ⟨za,zc,rfl,h1,h2⟩
      have hkL' : k < (L.set k { lcAt L k with va:=.slice ra X1.length rc }).length:=by rw [List.length_set];exact hkL
      have hvpe : (lcAt (L.set k { lcAt L k with va:=.slice ra X1.length rc }) k).vp = .slice ap s.pages.length cp:=by rw [hlc',HLC.out]
      have HVPE:=hideC hvpe
      have HRW : Hid (∀ V,Below W3.heap.size W3 V -> V.ownsRow lo 65 2 (.slice ap s.pages.length cp) s.pages.length (s.pages.flatMap cellPg)):=fun V hV=>by
       have:=((HA.out.below hV).each k hkL').pages
       rw [HVPE.out,hss'] at this
       simp only at this
       rw [<- HSS.out] at this
       exact this
      have hloW : lo <= W3.heap.size:=by have:=HA.out.base;have:=B.isLt HA.out.head;omega
      have HIN : Hid (∀ V i za zc H0,Below W3.heap.size W3 V -> FW.Low s.pages p i -> W3.heap.size <= H0 -> V.ownsRow H0 65 2 (.slice za n.toNat zc) n.toNat ((GM.zerosF p n.toNat).flatMap cellPg) -> Calls Tryz.prog 199 #[.slice ap s.pages.length cp,.int .i64 (i : Int),.slice za n.toNat zc] V fun e w'=>∃ a6 c6,e = .returned (.slice a6 (GM.insF s.pages p n.toNat).length c6) /\ w'.ownsRow lo 65 2 (.slice a6 (GM.insF s.pages p n.toNat).length c6) (GM.insF s.pages p n.toNat).length ((GM.insF s.pages p n.toNat).flatMap cellPg) /\ Kp (blk (.slice ap s.pages.length cp)) V w' /\ (∀ b,blk (.slice a6 (GM.insF s.pages p n.toNat).length c6) b -> blk (.slice ap s.pages.length cp) b ∨ V.heap.size <= b)):=fun V i za zc H0 hV hlow hH hz=>by
       have hr:=HRW.out V hV
       have hrl:=HRW.out W3 (Below.refl _ _)
       have hvs:=hV.size
       have hil:=hlow.le
       have hie:=low_of hlow
       subst hie
       have:=insert_any lo s.pages (GM.zerosF p n.toNat) (.slice ap s.pages.length cp) (.slice za n.toNat zc) H0 (GM.lowN s.pages p) V hr (by rw [zerosF_len];exact hz) (by omega) (fun b h1 h2=>by
        have g1:=(hz.lt b h1).1
        have g2:=(hrl.lt b h2).2
        omega) hil (by rw [zerosF_len];omega) (by omega) (by rw [zerosF_len];omega)
       refine this.mono ?_
       rintro e w' ⟨v',rfl,h1,h2,h3⟩
       change w'.ownsRow lo _ 2 v' (GM.insF s.pages p n.toNat).length ((GM.insF s.pages p n.toNat).flatMap cellPg) at h1
       obtain ⟨a6,c6,rfl,_,_⟩:=row_form h1
       exact ⟨a6,c6,rfl,h1,h2,h3⟩
      have HN3 : Hid (¬ blk (.slice ap s.pages.length cp) sb):=by
       have:=(HA.out.n3 k hkL' sb rfl).2
       rw [HVPE.out] at this
       exact this
      have HNMB : Hid (¬ blk (.slice ap s.pages.length cp) mb):=by
       have:=(HA.out.n2 k hkL').2
       rw [HVPE.out] at this
       exact this
      have HDV : Hid (∀ b,blk (.slice ap s.pages.length cp) b -> D b):=fun b hb=>HM.out.d3 k hkL b (.inr (by rw [HLC.out];exact hb))
      have HRS : Hid (∀ V,Kp (blk (.slice ap s.pages.length cp)) W3 V -> V.frozen? ⟨sb,k * 3 + 2,none⟩ = false /\ V.cell? ⟨sb,k * 3 + 2,none⟩ = some (.slice ap s.pages.length cp)):=fun V hV=>by
       refine ⟨?_,hV.cell (HY2.out _ (Below.refl _ _)) HN3.out⟩
       have hr:=hV.row HA.out.row (fun b hb e=>(HA.out.n3 k hkL' b hb).2 (by rw [HVPE.out];exact e))
       have hln : m.spaces.length = (L.set k { lcAt L k with va:=.slice ra X1.length rc }).length:=by rw [List.length_set];exact HM.out.len.symm
       rw [<- hln] at hr
       exact row_free hr _
      obtain ⟨PL,hPL⟩ : ∃ PL,PL = s.pages.length:=⟨_,rfl⟩
      obtain ⟨IL,hIL⟩ : ∃ IL,IL = (GM.insF s.pages p n.toNat).length:=⟨_,rfl⟩
      rw [<- hPL] at HPL HIN HN3 HNMB HDV HRS HY2 HVPE s4 hplen
      rw [<- hIL] at HIN
      have HIL:=hideC hIL
      clear hA hK hHp' y1 y2 hfz' hPL hIL hW3 HRW c2 c1 hlc' hss' hvpe s0 s1
      go_wp2_with (go_at_call 60;refine HPL.out.mono ?_;rintro e w4 ⟨i,hlow,rfl,hb4⟩;have HLW:=hideC hlow;have HK4:=hideC hb4;have x4:=HY2.out _ hb4;clear hlow hb4)
      have HK4d:=hideC HK4.out.drew
      go_region_law (first
       | (go_simp;go_at_call 200;refine (HZE.out _).mono ?_;rintro e w5 ⟨za,zc,rfl,hz,hb5⟩;have HZ5:=hideC hz;have HK5:=hideC (HK4d.out.trans (hb5.mono HK4d.out.size));have x5:=HY2.out _ HK5.out;clear hz hb5;go_simp)
       | (go_simp;go_at_call 199;refine (HIN.out _ _ _ _ _ HK5.out HLW.out HK4d.out.size HZ5.out).mono ?_;rintro e w6 ⟨a6,c6,rfl,ho,hk6,hbl⟩;have HO6:=hideC ho;have HK6:=hideC ((Kp.ofBelow HK5.out).trans hk6 (fun _ _ g=>g));have HBL:=hideC (fun b hb=>(hbl b hb).imp id (fun g=>Nat.le_trans HK5.out.size g));obtain ⟨x6,x7⟩:=HRS.out _ HK6.out;clear ho hk6 hbl;go_simp))
      all_goals
       go_wp2
       obtain ⟨hp1,hp2⟩:=HA.out.setP (D':=fun b=>D b ∨ (w.heap.size <= b /\ b < w6.heap.size)) hkL' (vp:=.slice a6 IL c6) (l:=GM.insF s.pages p n.toNat) (w1:=w6) (by rw [HVPE.out];exact HK6.out) (by rw [<- HIL.out];exact HO6.out) (by rw [HVPE.out];exact HBL.out) (fun b hb=>by
        have z1:=HK6.out.size
        have z2:=HWS.out
        rcases hb with g | g
        · exact .inl g
        · exact .inr ⟨g.1,by omega⟩) (fun b g1 g2=>.inr ⟨by have:=HWS.out;have:=HBC.out.size;omega,g2⟩)
       have hsz : (w6.setCell ⟨sb,k * 3 + 2,none⟩ (.slice a6 IL c6)).heap.size = w6.heap.size:=by simp
       rw [HVPE.out] at hp2
       have hkk : Kp D w (w6.setCell ⟨sb,k * 3 + 2,none⟩ (.slice a6 IL c6)):=(HKA.out.mono (D1:=D) (fun b _ e=>HM.out.d2 b (by rw [e];rfl))).trans hp2 (fun b _ e=>by
        rcases e with e | e
        · exact HM.out.d2 b (by rw [e];rfl)
        · exact HDV.out b e)
       have hspe : (m.spaces.set k { FM.spAt m.spaces k with areas:=X1 }).set k { FM.spAt (m.spaces.set k { FM.spAt m.spaces k with areas:=X1 }) k with pages:=GM.insF s.pages p n.toNat } = m.spaces.set k { s with areas:=X1,pages:=GM.insF s.pages p n.toNat }:=by
        rw [set_twice,spAt_set_same _ _ _ HKS.out,HSS.out]
       rw [hspe] at hp1
       have:=HP.out _ ⟨_,by rw [HR.out];exact ⟨⟨_,_,hp1⟩,fun b hb=>by
        have z1:=hkk.size
        have z2:=HD.out
        rw [hsz] at z1 ⊢
        rcases hb with g | g
        · have:=z2 b g;omega
        · omega⟩,hkk,fun b hb=>by
        rcases hb with g | g
        · exact .inl g
        · exact .inr g.1⟩
       rw [HR.out] at this
       exact this
 · have HR : Hid (R = (X2,m)):=by rw [HLM.out,if_pos hX2];exact rfl
   have hxi : (X2 == 0) = false:=by rw [beq_eq_false_iff_ne];exact hX2
   clear HLM hX2 HPM
   go_enter Tryz.func193,Tryz.ntmps193
   go_wp2_with (go_at_call 121;refine HMP.out.mono ?_;rintro e w1 ⟨r,rfl,hr,hb⟩;obtain ⟨ra,rc,hre,_,_⟩:=row_form (show w1.ownsRow w.heap.size 59 4 r _ _ from hr);subst hre;have HB1:=hideC hb;clear hr hb)
   have:=HP.out w1 ⟨D,by rw [HR.out];exact HdF.below ⟨⟨_,L,HM.out⟩,HD.out⟩ HB1.out,Kp.ofBelow HB1.out,fun b hb=>.inl hb⟩
   rw [HR.out] at this
   exact this
def goB (p n : Int) (g : FM.Pg) : Bool:=decide (p <= g.page /\ g.page < p + n)
set_option maxHeartbeats 1000000 in
theorem unmap1_any (p n : Int) (g : FM.Pg) (x y : Nat) (w : World) (hx : w.cell? ⟨x,0,none⟩ = some (.int .i64 p)) (hy : w.cell? ⟨y,0,none⟩ = some (.int .i64 n)) (hp : 0 <= p) (hn : 0 <= n) (hpn : p + n <= 1000) :
  Calls Tryz.prog 204 #[.agg #[.int .i64 g.page,.string g.data],.pointer (some ⟨x,0,none⟩),.pointer (some ⟨y,0,none⟩)] w fun e w'=>e = .returned (.bool (goB p n g)) /\ Below w.heap.size w w':=by
 have hxl : x < w.heap.size:=World.block_lt_of_cell? w _ hx
 have hyl : y < w.heap.size:=World.block_lt_of_cell? w _ hy
 have hxn : ¬ x = w.heap.size:=by omega
 have hyn : ¬ y = w.heap.size:=by omega
 obtain ⟨pg,d⟩:=g
 have hw : IntKind.i64.wrap (p + n) = p + n:=IntWalk.i64_in _ (by omega)
 have HB:=hideC ((Below.refl w.heap.size w).alloc (Nat.le_refl _) (.cells #[.int .i64 pg,.string d] 65))
 unfold goB
 simp only
 by_cases c1 : p <= pg
 · by_cases c2 : pg < p + n
   · rw [decide_eq_true (show p <= pg /\ pg < p + n from ⟨c1,c2⟩)]
     go_enter Tryz.func204,Tryz.ntmps204
     go_wp2
     go_ret
     exact ⟨rfl,HB.out⟩
   · rw [decide_eq_false (show ¬ (p <= pg /\ pg < p + n) from fun e=>c2 e.2)]
     go_enter Tryz.func204,Tryz.ntmps204
     go_wp2
     go_ret
     exact ⟨rfl,HB.out⟩
 · rw [decide_eq_false (show ¬ (p <= pg /\ pg < p + n) from fun e=>c1 e.1)]
   go_enter Tryz.func204,Tryz.ntmps204
   go_wp2
   go_ret
   exact ⟨rfl,HB.out⟩
set_option maxHeartbeats 2000000 in
theorem indexFunc_any (lo : Nat) (ps : List FM.Pg) (p n : Int) (ao : Option Addr) (cap x y : Nat) (w : World) (h : w.ownsRow lo 65 2 (.slice ao ps.length cap) ps.length (ps.flatMap cellPg)) (hx : w.cell? ⟨x,0,none⟩ = some (.int .i64 p)) (hy : w.cell? ⟨y,0,none⟩ = some (.int .i64 n)) (hp : 0 <= p) (hn : 0 <= n) (hpn : p + n <= 1000) (hl : ps.length <= 100000) :
  Calls Tryz.prog 210 #[.slice ao ps.length cap,.func (.func 204) #[] #[.pointer (some ⟨x,0,none⟩),.pointer (some ⟨y,0,none⟩)]] w fun e w' =>
   Below w.heap.size w w' /\ ((e = .returned (.int .i64 (-1)) /\ ∀ j,j < ps.length -> goB p n (FM.pgAt ps j) = false) ∨ ∃ i : Nat,i < ps.length /\ e = .returned (.int .i64 (i : Int)) /\ goB p n (FM.pgAt ps i) = true /\ ∀ j,j < i -> goB p n (FM.pgAt ps j) = false):=by
 have HH:=hideC h
 have HC : Hid (∀ V g,Below w.heap.size w V -> Calls Tryz.prog 204 #[.agg #[.int .i64 g.page,.string g.data],.pointer (some ⟨x,0,none⟩),.pointer (some ⟨y,0,none⟩)] V fun e w'=>e = .returned (.bool (goB p n g)) /\ Below V.heap.size V w'):=fun V g hV=>unmap1_any p n g x y V ((hV.cell (p:=⟨x,0,none⟩) (World.block_lt_of_cell? w _ hx)).trans hx) ((hV.cell (p:=⟨y,0,none⟩) (World.block_lt_of_cell? w _ hy)).trans hy) hp hn hpn
 clear h hx hy
 go_enter Tryz.func210,Tryz.ntmps210
 go_wp2
 go_loopw [8] (fun iv wr=>∃ k : Nat,k <= ps.length /\ iv = .int .i64 (k : Int) /\ (∀ j,j < k -> goB p n (FM.pgAt ps j) = false) /\ Below w.heap.size w wr) (fun iv _=>ps.length - (intOf iv).toNat)
 case atStart=>exact ⟨0,by omega,rfl,fun j hj=>by omega,Below.refl _ _⟩
 case round =>
  obtain ⟨k,hk,rfl,hno,hb⟩:=hrel
  have HNO:=hideC hno
  have HB:=hideC hb
  clear hno
  by_cases hlt : k < ps.length
  · have hki : (k : Int) < (ps.length : Int):=by omega
    obtain ⟨ao',cap',e0,_,hg⟩:=row_form HH.out
    injection e0 with ea _ ec
    obtain ⟨g,hgo,_,_⟩:=hg (by omega)
    have hao : ao = some ⟨g,0,none⟩:=ea.trans hgo
    clear ea ec hg hgo
    subst hao
    have hrow:=Kp.row (Kp.ofBelow (D:=fun _=>False) hb) HH.out (fun _ _ q=>q)
    have c0 : wr.cell? ⟨g,k * 2,none⟩ = some (.int .i64 (FM.pgAt ps k).page):=row_at cellPg cellPg_len FM.pg0 hrow k 0 hlt (by omega)
    have c1 : wr.cell? ⟨g,k * 2 + 1,none⟩ = some (.string (FM.pgAt ps k).data):=row_at cellPg cellPg_len FM.pg0 hrow k 1 hlt (by omega)
    have HC2:=hideC (HC.out wr (FM.pgAt ps k) hb)
    obtain ⟨G,hG⟩ : ∃ G,G = goB p n (FM.pgAt ps k):=⟨_,rfl⟩
    rw [<- hG] at HC2
    have HG:=hideC hG
    obtain ⟨pg,hpg⟩ : ∃ pg,pg = FM.pgAt ps k:=⟨_,rfl⟩
    rw [<- hpg] at c0 c1 HC2
    clear hG hpg hb hrow
    cases G with
    | true =>
     go_wp2_with (go_at_call 204;refine HC2.out.mono ?_;rintro e w1 ⟨rfl,hb1⟩;have HB1:=hideC (HB.out.trans (hb1.mono HB.out.size));clear hb1)
     go_ret
     exact ⟨HB1.out,.inr ⟨k,hlt,rfl,HG.out.symm,HNO.out⟩⟩
    | false =>
     go_wp2_with (go_at_call 204;refine HC2.out.mono ?_;rintro e w1 ⟨rfl,hb1⟩;have HB1:=hideC (HB.out.trans (hb1.mono HB.out.size));clear hb1)
     go_roundw
     case rel=>exact ⟨k + 1,by omega,by go_num,fun j hj=>by
      by_cases q : j = k
      · subst q;exact HG.out.symm
      · exact HNO.out j (by omega),HB1.out⟩
     case measure=>simp [intOf];omega
  · obtain rfl : k = ps.length:=by omega
    clear hb
    go_wp2
    go_ret
    exact ⟨HB.out,.inl ⟨rfl,HNO.out⟩⟩
end GF
end Go.Proofs.YtkdigjpejnebkaaGreat
