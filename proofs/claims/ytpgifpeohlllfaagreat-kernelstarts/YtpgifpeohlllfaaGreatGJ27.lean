import Derived.Test.YtpgifpeohlllfaaGreatGJ24
import Derived.Test.YtpgifpeohlllfaaGreatGJ21
set_option maxHeartbeats 20000000
set_option linter.unusedVariables false
set_option maxRecDepth 100000
set_option linter.unusedSimpArgs false
namespace Go.Proofs.YtpgifpeohlllfaaGreat
namespace KX
open Go.RowKit GK KO
open FW (hideC add_below)
open KW (cellFr cellSl cellEn HasRow KAt HasK cellsK aggEn cellI)
open KS (Lc cellLc lc0 lcAt blk SpOwn)
theorem put_none : ∀ (es : List KM.En) (e : KM.En),(∀ j,j < es.length -> (KM.enAt es j).page < e.page) -> KM.putE es e = es ++ [e]
 | [],e,_=>rfl
 | a :: r,e,h=>by
  unfold KM.putE
  rw [if_pos (show a.page < e.page from h 0 (Nat.zero_lt_succ _)),put_none r e (fun j hj=>h (j + 1) (Nat.succ_lt_succ hj))]
  rfl
theorem put_at : ∀ (es : List KM.En) (e : KM.En) (n : Nat),n < es.length -> (∀ j,j < n -> (KM.enAt es j).page < e.page) -> ¬ (KM.enAt es n).page < e.page -> KM.putE es e = if (KM.enAt es n).page = e.page then es.set n e else es.take n ++ e :: es.drop n
 | [],e,n,hn,_,_=>absurd hn (Nat.not_lt_zero _)
 | a :: r,e,0,hn,h,hnot=>by
  unfold KM.putE
  have hnot : ¬ a.page < e.page:=hnot
  rw [if_neg hnot]
  rfl
 | a :: r,e,n + 1,hn,h,hnot=>by
  unfold KM.putE
  rw [if_pos (show a.page < e.page from h 0 (Nat.zero_lt_succ _)),put_at r e n (Nat.lt_of_succ_lt_succ hn) (fun j hj=>h (j + 1) (Nat.succ_lt_succ hj)) hnot]
  show a :: (if (KM.enAt r n).page = e.page then _ else _) = if (KM.enAt r n).page = e.page then _ else _
  split <;> rfl
set_option maxHeartbeats 4000000 in
theorem enter1_any (e o : KM.En) (x : Nat) (w : World) (hx : w.cell? ⟨x,0,none⟩ = some (.int .i64 e.page)) :
  Calls Tryz.prog 191 #[.agg #[.int .i64 o.page,.int .i64 o.kind,.int .i64 o.loc],.pointer (some ⟨x,0,none⟩)] w fun r w'=>r = .returned (.bool (decide (e.page <= o.page))) /\ Below w.heap.size w w':=by
 obtain ⟨pg,kd,lc⟩:=o
 obtain ⟨epg,ekd,elc⟩:=e
 simp only at hx ⊢
 have hxl : x < w.heap.size:=World.block_lt_of_cell? w _ hx
 have xA : (w.alloc (.cells #[.int .i64 pg,.int .i64 kd,.int .i64 lc] 45)).cell? ⟨x,0,none⟩ = some (.int .i64 epg):=(Below.cell ((Below.refl w.heap.size w).alloc (Nat.le_refl _) _) (p:=⟨x,0,none⟩) hxl).trans hx
 have BN:=hideC (B.new w #[.int .i64 pg,.int .i64 kd,.int .i64 lc] 45)
 by_cases c : epg <= pg
 · rw [decide_eq_true c]
   go_enter Tryz.func191,Tryz.ntmps191
   go_wp2
   try go_region
   try go_wp2
   go_ret
   exact ⟨by simp,by first | exact (Below.refl _ _).alloc (Nat.le_refl _) _ | exact ((Below.refl _ _).alloc (Nat.le_refl _) _).drew⟩
 · rw [decide_eq_false c]
   go_enter Tryz.func191,Tryz.ntmps191
   go_wp2
   try go_region
   try go_wp2
   go_ret
   exact ⟨by simp,by first | exact (Below.refl _ _).alloc (Nat.le_refl _) _ | exact ((Below.refl _ _).alloc (Nat.le_refl _) _).drew⟩
theorem one_row (V : World) (e : KM.En) : (V.alloc (.cells #[.int .i64 e.page,.int .i64 e.kind,.int .i64 e.loc] 45)).ownsRow V.heap.size 45 3 (.slice (some ⟨V.heap.size,0,none⟩) 1 1) 1 ([e].flatMap cellEn) :=
 ⟨rfl,.inr ⟨V.heap.size,1,_,rfl,Nat.le_refl _,B.new V _ _,Nat.le_refl _,by unfold maxLen;omega,rfl,rfl⟩⟩
theorem Km.layE {lo mb : Nat} {tt : TypeId} {X : List Value} {w : World} {S : St} {k : KM.Kn} (h : Km lo mb tt X w S k) {j : Nat} (hj : j < k.spaces.length) {g n cap : Nat} (hv : (lcAt S.L j).vp = .slice (some ⟨g,0,none⟩) n cap) {i : Nat} (hi : i < (KM.spAt k.spaces j).ents.length) (e : KM.En) :
  Km lo mb tt X (((w.setCell ⟨g,i * 3,none⟩ (.int .i64 e.page)).setCell ⟨g,i * 3 + 1,none⟩ (.int .i64 e.kind)).setCell ⟨g,i * 3 + 2,none⟩ (.int .i64 e.loc)) S { k with spaces:=k.spaces.set j (KM.withE (KM.spAt k.spaces j) ((KM.spAt k.spaces j).ents.set i e)) } /\
  Ch S w S (((w.setCell ⟨g,i * 3,none⟩ (.int .i64 e.page)).setCell ⟨g,i * 3 + 1,none⟩ (.int .i64 e.kind)).setCell ⟨g,i * 3 + 2,none⟩ (.int .i64 e.loc)):=by
 have at1 : ∀ (ss : List KM.Sp) (es : List KM.En),j < ss.length -> KM.spAt (ss.set j (KM.withE (KM.spAt k.spaces j) es)) j = KM.withE (KM.spAt k.spaces j) es:=fun ss es hl=>by rw [KM.spAt_set _ _ _ _ hl,if_pos rfl]
 have m1:=h.setE hj hv hi (c:=0) (by omega) (e:=⟨e.page,(KM.enAt (KM.spAt k.spaces j).ents i).kind,(KM.enAt (KM.spAt k.spaces j).ents i).loc⟩) (u:=.int .i64 e.page) rfl
 have m2:=m1.1.setE (j:=j) (by show j < (List.set _ _ _).length;rw [List.length_set];exact hj) hv (i:=i) (by
  show i < (KM.spAt (List.set _ _ _) j).ents.length
  rw [at1 _ _ hj]
  show i < (List.set _ _ _).length
  rw [List.length_set];exact hi) (c:=1) (by omega) (e:=⟨e.page,e.kind,(KM.enAt (KM.spAt k.spaces j).ents i).loc⟩) (u:=.int .i64 e.kind) (by
  show _ = (cellEn (KM.enAt (KM.spAt (List.set _ _ _) j).ents i)).set 1 _
  rw [at1 _ _ hj]
  show _ = (cellEn ((List.set _ _ _).getD i KM.en0)).set 1 _
  rw [KM.getD_set_self _ _ _ _ hi]
  rfl)
 simp only [List.set_set,at1 _ _ hj] at m2
 have m2a : Km lo mb tt X ((w.setCell ⟨g,i * 3,none⟩ (.int .i64 e.page)).setCell ⟨g,i * 3 + 1,none⟩ (.int .i64 e.kind)) S { k with spaces:=k.spaces.set j (KM.withE (KM.spAt k.spaces j) ((KM.spAt k.spaces j).ents.set i ⟨e.page,e.kind,(KM.enAt (KM.spAt k.spaces j).ents i).loc⟩)) }:=by
  have:=m2.1
  unfold KM.withE at this ⊢
  simp only [List.set_set] at this ⊢
  exact this
 have m3:=m2a.setE (j:=j) (by show j < (List.set _ _ _).length;rw [List.length_set];exact hj) hv (i:=i) (by
  show i < (KM.spAt (List.set _ _ _) j).ents.length
  rw [at1 _ _ hj]
  show i < (List.set _ _ _).length
  rw [List.length_set];exact hi) (c:=2) (by omega) (e:=e) (u:=.int .i64 e.loc) (by
  show _ = (cellEn (KM.enAt (KM.spAt (List.set _ _ _) j).ents i)).set 2 _
  rw [at1 _ _ hj]
  show _ = (cellEn ((List.set _ _ _).getD i KM.en0)).set 2 _
  rw [KM.getD_set_self _ _ _ _ hi]
  rfl)
 simp only [List.set_set,at1 _ _ hj] at m3
 have m3a : Km lo mb tt X (((w.setCell ⟨g,i * 3,none⟩ (.int .i64 e.page)).setCell ⟨g,i * 3 + 1,none⟩ (.int .i64 e.kind)).setCell ⟨g,i * 3 + 2,none⟩ (.int .i64 e.loc)) S { k with spaces:=k.spaces.set j (KM.withE (KM.spAt k.spaces j) ((KM.spAt k.spaces j).ents.set i e)) }:=by
  have:=m3.1
  unfold KM.withE at this ⊢
  simp only [List.set_set] at this ⊢
  exact this
 exact ⟨m3a,(m1.2.trans m2.2).trans m3.2⟩
theorem frozen_kp {D : Nat -> Prop} {N : Nat} {w0 w1 V : World} {b o : Nat} (hV : Kp D w1 V) (hb : Below N w0 w1) (hl : b < N) (hl0 : b < w0.heap.size) (hn : ¬ D b) (h : w0.frozen? ⟨b,o,none⟩ = false) : V.frozen? ⟨b,o,none⟩ = false:=by
 have e1:=hb.block b hl
 have hl1 : b < w1.heap.size:=Nat.lt_of_lt_of_le hl0 hb.size
 have e2:=hV.block b hl1 hn
 unfold World.frozen? at h ⊢
 simp only [e2,e1]
 exact h
theorem HSN (w1 : World) (o : Obj) : Kp (fun _=>False) w1 ((w1.alloc o).drew):=(Kp.alloc _ _ o).trans (Kp.drew _ _) (fun _ _ g=>g)
theorem new_en (w1 : World) (e : KM.En) : ∀ i u,(cellEn e)[i]? = some u -> ((w1.alloc (.cells #[.int .i64 e.page,.int .i64 e.kind,.int .i64 e.loc] 45)).drew).cell? ((⟨w1.heap.size,0,none⟩ : Addr).add i) = some u:=fun i u hu=>B.news (C:=#[.int .i64 e.page,.int .i64 e.kind,.int .i64 e.loc]) (t:=45) (fr:=(0,0)) (B.new w1 _ _) i u hu
set_option maxHeartbeats 16000000 in
theorem enter_any {lo mb : Nat} {tt : TypeId} {X : List Value} (k : KM.Kn) (S : St) (w : World) (j : Nat) (e : KM.En) (h : Km lo mb tt X w S k) (hj : j < k.spaces.length) (hen : (KM.spAt k.spaces j).ents.length <= 1000) (hnp : k.spaces.length <= 1000) :
  Calls Tryz.prog 166 #[.pointer (some ⟨mb,0,none⟩),.int .i64 (j : Int),.agg #[.int .i64 e.page,.int .i64 e.kind,.int .i64 e.loc]] w (OutM lo mb tt X w S (.tuple #[]) (KM.enterK k j e)):=by
 have hlo : lo <= w.heap.size:=Nat.le_trans h.lo_le (Nat.le_of_lt h.lt)
 obtain ⟨WA,hWA⟩ : ∃ WA,WA = w.alloc (.cells #[.int .i64 e.page,.int .i64 e.kind,.int .i64 e.loc] 45):=⟨_,rfl⟩
 have HBA : Hid (Below w.heap.size w WA):=by rw [hWA];exact (Below.refl w.heap.size w).alloc (Nat.le_refl _) _
 have EX : Hid (WA.heap[w.heap.size]? = some (.cells #[.int .i64 e.page,.int .i64 e.kind,.int .i64 e.loc] 45 (0,0))):=by rw [hWA];exact B.new w _ _
 have n0 : S.lab w.heap.size = .no:=h.toKr.new (Nat.le_refl _)
 have HMA:=hideC (h.below HBA.out)
 obtain ⟨pb,cP,A⟩:=HMA.out.toKr.sp (by omega)
 have hrow:=(HMA.out.each j hj).pages
 obtain ⟨ae,ce,hve,hcap,hge⟩:=row_form hrow
 obtain ⟨es,hes⟩ : ∃ es,es = (KM.spAt k.spaces j).ents:=⟨_,rfl⟩
 rw [<- hes] at hrow hve hcap hge hen
 rw [hve] at hrow
 have hre:=KI.hasOf hrow
 have hlabE : ∀ b,blk (.slice ae es.length ce) b -> S.lab b = .ents j:=fun b hb=>h.lE j hj b (by rw [hve];exact hb)
 have hpl:=A.lab
 have c3:=HMA.out.c3
 rw [A.v] at c3
 have a2:=A.x2 j hj
 rw [hve] at a2
 have hji : (j : Int) < (k.spaces.length : Int):=by omega
 have hix:=KW.ixE_any 191 (.inr (.inl rfl)) (fun o=>decide (e.page <= o.page)) es ae ce w.heap.size WA hre (by omega) (fun V o hV=>enter1_any e o w.heap.size V (B.cell (B.below EX.out hV (B.isLt EX.out)) 0 rfl))
 have HE : Hid (∀ V v' fs,Kp (fun b=>S.lab b = .ents j) WA V -> V.ownsRow lo 45 3 v' fs.length (fs.flatMap cellEn) -> (∀ b,blk v' b -> S.lab b = .ents j ∨ WA.heap.size <= b) -> KM.putE es e = fs -> OutM lo mb tt X w S (.tuple #[]) (KM.enterK k j e) (.returned (.tuple #[])) (V.setCell ⟨pb,j * 3 + 2,none⟩ v')):=fun V v' fs h1 h2 h3 h4=>by
  have sw:=HMA.out.swapE hj A.v h1 h2 (fun b hb=>by
   rcases h3 b hb with g | g
   · exact .inl g
   · exact .inr (HMA.out.toKr.new g))
  have hK : ({ k with spaces:=k.spaces.set j (KM.withE (KM.spAt k.spaces j) fs) } : KM.Kn) = KM.enterK k j e:=by
   unfold KM.enterK
   rw [<- h4,hes]
  refine ⟨rfl,_,hK ▸ sw.1,(Ch.below HBA.out).trans (sw.2 (fun b hb hx=>?_))⟩
  rcases h3 b hx with g | g
  · exact g
  · omega
 have HES : Hid (∀ V n g,Below WA.heap.size WA V -> n < es.length -> ae = some ⟨g,0,none⟩ -> KM.putE es e = es.set n e -> OutM lo mb tt X w S (.tuple #[]) (KM.enterK k j e) (.returned (.tuple #[])) (((V.setCell ⟨g,n * 3,none⟩ (.int .i64 e.page)).setCell ⟨g,n * 3 + 1,none⟩ (.int .i64 e.kind)).setCell ⟨g,n * 3 + 2,none⟩ (.int .i64 e.loc)).drew.drew):=fun V n g hb hn hg hp=>by
  have m:=HMA.out.below hb
  have m1:=KX.Km.layE m hj (g:=g) (by rw [hve,hg]) (i:=n) (by rw [<- hes];exact hn) e
  have hK : ({ k with spaces:=k.spaces.set j (KM.withE (KM.spAt k.spaces j) ((KM.spAt k.spaces j).ents.set n e)) } : KM.Kn) = KM.enterK k j e:=by
   unfold KM.enterK
   rw [<- hes,hp]
  have m1a:=hK ▸ m1.1
  have dr : ∀ V : World,Below V.heap.size V V.drew:=fun V=>(Below.refl _ _).drew
  exact ⟨rfl,S,(m1a.below (dr _)).below (dr _),((((Ch.below HBA.out).trans (Ch.below hb)).trans m1.2).trans (Ch.below (dr _))).trans (Ch.below (dr _))⟩
 obtain ⟨P,hP⟩ : ∃ P,P = OutM lo mb tt X w S (.tuple #[]) (KM.enterK k j e):=⟨_,rfl⟩
 rw [<- hP] at HE HES ⊢
 obtain ⟨np,hnp2⟩ : ∃ np,np = k.spaces.length:=⟨_,rfl⟩
 rw [<- hnp2] at c3 hji
 have hpl2:=A.lt
 have hml : mb < WA.heap.size:=HMA.out.lt
 have hxl:=B.isLt EX.out
 have hpfz:=A.fz (j * 3 + 2)
 have HPE : Hid (∀ b,blk (.slice ae es.length ce) b -> b ≠ pb /\ b ≠ w.heap.size /\ b < WA.heap.size):=fun b hb=>⟨fun z=>by have:=hlabE b hb;rw [z,hpl] at this;simp at this,fun z=>by have:=hlabE b hb;rw [z,n0] at this;simp at this,(hrow.lt b hb).2⟩
 have HLE:=hideC hlabE
 have HROW:=hideC hrow
 have HGE:=hideC hge
 have HWA:=hideC hWA
 have HHE:=hideC hre
 obtain ⟨i0,hin,hz0,hz1,hz2⟩:=info_parts infoEn
 have HIN:=hideC hin
 have HZ0:=hideC hz0
 have HZ1:=hideC hz1
 have HZ2:=hideC hz2
 have hlA : lo <= WA.heap.size:=Nat.le_trans hlo HBA.out.size
 have hes3 : es.length <= 1000:=by omega
 by_cases hall : ∀ i,i < es.length -> (KM.enAt es i).page < e.page
 · have HP0:=hideC (put_none es e hall)
   have HIX : Hid (Calls Tryz.prog 153 #[.slice ae es.length ce,.func (.func 191) #[] #[.pointer (some ⟨w.heap.size,0,none⟩)]] WA fun r w'=>r = .returned (.int .i64 (-1)) /\ Below WA.heap.size WA w'):=hix.mono fun r w' ⟨hb,hh⟩=>by
    rcases hh with ⟨he,_⟩ | ⟨m,hm,_,hy,_⟩
    · exact ⟨he,hb⟩
    · have:=of_decide_eq_true hy
      have:=hall m hm
      omega
   clear hix hWA h hrow hge hre hlabE HMA A hve hes hP hnp2 hin hz0 hz1 hz2 hall hnp hj hen hlo
   go_enter Tryz.func166,Tryz.ntmps166
   go_upto_region 1 with fail
   rw [<- HWA.out]
   go_upto_region 5 with (go_at_call 153;refine HIX.out.mono ?_;rintro r w1 ⟨rfl,hb1⟩;have HB1:=hideC hb1;clear hb1)
   have HS0 : Hid (Kp (fun b=>blk (.slice ae es.length ce) b) w1 w1.drew):=Kp.drew _ _
   have HSB : Hid (∀ o,Kp (fun b=>blk (.slice ae es.length ce) b) w1 ((w1.alloc o).drew)):=fun o=>(Kp.alloc _ _ o).trans (Kp.drew _ _) (fun _ _ g=>g)
   have HCC : Hid (∀ V,Kp (fun b=>blk (.slice ae es.length ce) b) w1 V -> V.cell? ⟨pb,j * 3 + 2,none⟩ = some (.slice ae es.length ce) /\ V.cell? ⟨w.heap.size,0,none⟩ = some (.int .i64 e.page) /\ V.cell? ⟨w.heap.size,1,none⟩ = some (.int .i64 e.kind) /\ V.cell? ⟨w.heap.size,2,none⟩ = some (.int .i64 e.loc) /\ V.frozen? ⟨pb,j * 3 + 2,none⟩ = false):=fun V hV=>by
    have b1:=B.below EX.out HB1.out (B.isLt EX.out)
    have b2:=hV.keep b1 (fun g=>(HPE.out _ g).2.1 rfl)
    refine ⟨hV.cell ((HB1.out.cell (p:=⟨pb,j * 3 + 2,none⟩) hpl2).trans a2) (fun g=>(HPE.out _ g).1 rfl),B.cell b2 0 rfl,B.cell b2 1 rfl,B.cell b2 2 rfl,?_⟩
    exact frozen_kp hV HB1.out hpl2 hpl2 (fun g=>(HPE.out _ g).1 rfl) hpfz
   have HRW : Hid (∀ o,((w1.alloc o).drew).ownsRow lo 45 3 (.slice ae es.length ce) es.length (es.flatMap cellEn)):=fun o=>((HSN w1 o).row ((Kp.ofBelow (D:=fun _=>False) HB1.out).row HROW.out (fun _ _ g=>g)) (fun _ _ g=>g))
   have hsz:=HB1.out.size
   refine GZ.begin_ (S:=fun V=>Kp (fun b=>blk (.slice ae es.length ce) b) w1 V) (z:=10) (by kernel_rfl) ?_
   refine GZ.tk 0 HS0.out ?_ ?_ ?_
   rotate_left 1
   · intro V h
     obtain ⟨k0,k1,k2,k3,k4⟩:=HCC.out V h
     go_simp
     try with_reducible rfl
   refine GZ.tk 1 HS0.out ?_ ?_ ?_
   rotate_left 1
   · intro V h
     obtain ⟨k0,k1,k2,k3,k4⟩:=HCC.out V h
     go_simp
     try with_reducible rfl
   refine GZ.tk 2 HS0.out ?_ ?_ ?_
   rotate_left 1
   · intro V h
     obtain ⟨k0,k1,k2,k3,k4⟩:=HCC.out V h
     go_simp
     try with_reducible rfl
   refine GZ.tk 3 HS0.out ?_ ?_ ?_
   rotate_left 1
   · intro V h
     obtain ⟨k0,k1,k2,k3,k4⟩:=HCC.out V h
     go_simp
     try with_reducible rfl
   refine GZ.tk 4 HS0.out ?_ ?_ ?_
   rotate_left 1
   · intro V h
     obtain ⟨k0,k1,k2,k3,k4⟩:=HCC.out V h
     go_simp
     try with_reducible rfl
   refine GZ.tk 5 HS0.out ?_ ?_ ?_
   rotate_left 1
   · intro V h
     obtain ⟨k0,k1,k2,k3,k4⟩:=HCC.out V h
     go_simp
     try with_reducible rfl
   refine GZ.all (rs:=[6]) (by kernel_rfl) (by simp) ?_
   refine GZ.AllZ.cons rfl (fun K hK=>?_) GZ.AllZ.nil
   go_simp
   refine hK.out _ _ (fun _=>?_) ?_
   · exact HSB.out _
   clear hK K
   try simp only [Act.put,List.setIfInBounds_toArray,List.set_cons_zero,List.set_cons_succ]
   refine GZ.all (rs:=[7]) (by kernel_rfl) (by simp) ?_
   refine GZ.AllZ.cons rfl (fun K hK=>?_) GZ.AllZ.nil
   rw [if_pos (by rfl)];refine wp_append_src (P:=Tryz.prog) _ _ 41 rfl lo 45 i0 (.agg #[.int .i64 0,.int .i64 0,.int .i64 0]) 3 24 Tryz.underlying41 HIN.out HZ0.out HZ1.out HZ2.out rfl (by decide) (.slice ae es.length ce) es.length (es.flatMap cellEn) rfl (HRW.out _) (some ⟨w1.heap.size,0,none⟩) 1 1 (cellEn e) rfl rfl (fun _=>⟨_,rfl,new_en w1 e⟩) (by intro u hu;simp [cellEn] at hu;rcases hu with rfl | rfl | rfl <;> rfl) (by unfold maxLen;omega) (by omega) (by simp;omega) ?_;intro vG wG hoG hgG haG;obtain ⟨aG,cG,hvG,_,_⟩:=row_form hoG;subst hvG;have HSG : Hid (Kp (fun b=>blk (.slice ae es.length ce) b) w1 wG):=(HSB.out _).trans (Kp.grown (D:=fun b=>blk (.slice ae es.length ce) b) hgG (fun q hq=>hq)) (fun _ _ g=>g);have HOG:=hideC hoG;have HAG:=hideC haG;clear hoG hgG haG
   refine hK.out _ _ (fun _=>?_) ?_
   · exact HSG.out
   clear hK K
   try simp only [Act.put,List.setIfInBounds_toArray,List.set_cons_zero,List.set_cons_succ]
   refine GZ.all (rs:=[8]) (by kernel_rfl) (by simp) ?_
   refine GZ.AllZ.cons rfl (fun K hK=>?_) GZ.AllZ.nil
   go_simp
   refine hK.out _ _ (fun _=>?_) ?_
   · exact HSG.out
   clear hK K
   try simp only [Act.put,List.setIfInBounds_toArray,List.set_cons_zero,List.set_cons_succ]
   refine GZ.tk 9 HSG.out ?_ ?_ ?_
   rotate_left 1
   · intro V h
     obtain ⟨k0,k1,k2,k3,k4⟩:=HCC.out V h
     go_simp
     try with_reducible rfl
   obtain ⟨k0,k1,k2,k3,k4⟩:=HCC.out wG HSG.out
   refine GZ.all (rs:=[10]) (by kernel_rfl) (by simp) ?_
   refine GZ.AllZ.cons rfl (fun K hK=>?_) GZ.AllZ.nil
   go_simp
   refine hK.out _ _ (fun g=>absurd rfl g) ?_
   refine GZ.done (by kernel_rfl) ?_ _
   go_wp2
   refine bodyPost_end (v:=.tuple #[]) (by simp [results,Tryz.results166,go_sem]) rfl ?_
   refine HE.out wG _ (es ++ [e]) ?_ (by rw [List.length_append,List.flatMap_append];simpa using HOG.out) (fun b hb=>?_) HP0.out
   · exact (Kp.ofBelow HB1.out).trans HSG.out (fun b _ hx=>HLE.out b hx)
   · rcases HAG.out with g | g
     · exact .inl (HLE.out b (by show Value.ownBlock _ = _;rw [<- g];exact hb))
     · right
       have hb : Value.ownBlock _ = some b:=hb
       rw [g] at hb
       injection hb with hb
       have : ((w1.alloc (.cells #[.int .i64 e.page,.int .i64 e.kind,.int .i64 e.loc] 45)).drew).heap.size = w1.heap.size + 1:=World.size_alloc _ _
       omega
 · have hex : ∃ n,n < es.length /\ (∀ i,i < n -> (KM.enAt es i).page < e.page) /\ ¬ (KM.enAt es n).page < e.page:=by
    obtain ⟨n,hn⟩:=Classical.not_forall.1 hall
    rw [Classical.not_imp] at hn
    obtain ⟨hn1,hn2⟩:=hn
    induction n using Nat.strongRecOn with
    | _ n ih =>
     by_cases c : ∃ m,m < n /\ ¬ (KM.enAt es m).page < e.page
     · obtain ⟨m,hm1,hm2⟩:=c
       exact ih m hm1 (by omega) hm2
     · exact ⟨n,hn1,fun i hi=>Classical.not_not.1 fun z=>c ⟨i,hi,z⟩,hn2⟩
   obtain ⟨n,hn,hlow,hnot⟩:=hex
   have hput:=put_at es e n hn hlow hnot
   have HIX : Hid (Calls Tryz.prog 153 #[.slice ae es.length ce,.func (.func 191) #[] #[.pointer (some ⟨w.heap.size,0,none⟩)]] WA fun r w'=>r = .returned (.int .i64 (n : Int)) /\ Below WA.heap.size WA w'):=hix.mono fun r w' ⟨hb,hh⟩=>by
    rcases hh with ⟨_,hno⟩ | ⟨m,hm,he,hy,hno⟩
    · have:=of_decide_eq_false (hno n hn)
      omega
    · have hy:=of_decide_eq_true hy
      have : m = n:=by
       rcases Nat.lt_trichotomy m n with g | g | g
       · have:=hlow m g;omega
       · exact g
       · have:=of_decide_eq_false (hno n g);omega
      subst this
      exact ⟨he,hb⟩
   obtain ⟨eb,hae,_,hebl⟩:=hge (by omega)
   subst hae
   have hni : (n : Int) < (es.length : Int):=by omega
   have hn0 : (0 : Int) <= (n : Int):=by omega
   have HXE : Hid (∀ V,Below WA.heap.size WA V -> V.cell? ⟨eb,n * 3,none⟩ = some (.int .i64 (KM.enAt es n).page) /\ V.cell? ⟨eb,n * 3 + 1,none⟩ = some (.int .i64 (KM.enAt es n).kind) /\ V.cell? ⟨eb,n * 3 + 2,none⟩ = some (.int .i64 (KM.enAt es n).loc) /\ (∀ q,V.frozen? ⟨eb,q,none⟩ = false) /\ V.cell? ⟨pb,j * 3 + 2,none⟩ = some (.slice (some ⟨eb,0,none⟩) es.length ce) /\ V.cell? ⟨w.heap.size,0,none⟩ = some (.int .i64 e.page) /\ V.cell? ⟨w.heap.size,1,none⟩ = some (.int .i64 e.kind) /\ V.cell? ⟨w.heap.size,2,none⟩ = some (.int .i64 e.loc)):=fun V hV=>by
    have hr:=(Kp.ofBelow (D:=fun _=>False) hV).row hrow (fun _ _ g=>g)
    have b1:=B.below EX.out hV (B.isLt EX.out)
    exact ⟨row_at cellEn (fun _=>rfl) KM.en0 hr n 0 hn (by omega),row_at cellEn (fun _=>rfl) KM.en0 hr n 1 hn (by omega),row_at cellEn (fun _=>rfl) KM.en0 hr n 2 hn (by omega),row_free hr,(hV.cell (p:=⟨pb,j * 3 + 2,none⟩) hpl2).trans a2,B.cell b1 0 rfl,B.cell b1 1 rfl,B.cell b1 2 rfl⟩
   by_cases c : (KM.enAt es n).page = e.page
   · rw [if_pos c] at hput
     have HPU:=hideC hput
     have cb : ((KM.enAt es n).page == e.page) = true:=by simpa using c
     obtain ⟨Z,hZ⟩ : ∃ Z,Z = KM.enAt es n:=⟨_,rfl⟩
     rw [<- hZ] at HXE cb
     clear hix hWA h hrow hge hre hlabE HMA A hve hes hP hnp2 hin hz0 hz1 hz2 hall hnp hj hen hlo hput hlow hnot hZ c
     go_enter Tryz.func166,Tryz.ntmps166
     go_upto_region 1 with fail
     rw [<- HWA.out]
     go_upto_region 6 with (go_at_call 153;refine HIX.out.mono ?_;rintro r w1 ⟨rfl,hb1⟩;have HB1:=hideC hb1;clear hb1)
     obtain ⟨y0,y1,y2,yf,y3,y4,y5,y6⟩:=HXE.out w1 HB1.out
     have yf0:=yf (n * 3)
     have yf1:=yf (n * 3 + 1)
     have yf2:=yf (n * 3 + 2)
     clear yf
     go_region
     go_upto_region 7 with fail
     go_region
     go_wp2
     refine bodyPost_end (v:=.tuple #[]) (by simp [results,Tryz.results166,go_sem]) rfl ?_
     exact HES.out w1 n eb HB1.out hn rfl HPU.out
   · rw [if_neg c] at hput
     have HPU:=hideC hput
     have cb : ((KM.enAt es n).page == e.page) = false:=by simpa using c
     have HINS : Hid (∀ V,Kp (fun b=>blk (.slice (some ⟨eb,0,none⟩) es.length ce) b) WA V -> V.ownsRow lo 45 3 (.slice (some ⟨eb,0,none⟩) es.length ce) es.length (es.flatMap cellEn) -> WA.heap.size <= V.heap.size -> Calls Tryz.prog 192 #[.slice (some ⟨eb,0,none⟩) es.length ce,.int .i64 (n : Int),.slice (some ⟨V.heap.size,0,none⟩) 1 1] ((V.alloc (.cells #[.int .i64 e.page,.int .i64 e.kind,.int .i64 e.loc] 45)).drew) fun r w'=>∃ av nv cv,r = .returned (.slice av nv cv) /\ w'.ownsRow lo 45 3 (.slice av nv cv) (es.take n ++ e :: es.drop n).length ((es.take n ++ e :: es.drop n).flatMap cellEn) /\ Kp (fun b=>blk (.slice (some ⟨eb,0,none⟩) es.length ce) b) V w' /\ (∀ b,blk (.slice av nv cv) b -> blk (.slice (some ⟨eb,0,none⟩) es.length ce) b ∨ WA.heap.size <= b)):=fun V hV hr hsz=>by
      have k1 : Kp (fun _=>False) V ((V.alloc (.cells #[.int .i64 e.page,.int .i64 e.kind,.int .i64 e.loc] 45)).drew):=(Kp.alloc _ _ _).trans (Kp.drew _ _) (fun _ _ g=>g)
      have r1:=k1.row hr (fun _ _ g=>g)
      have r2 : ((V.alloc (.cells #[.int .i64 e.page,.int .i64 e.kind,.int .i64 e.loc] 45)).drew).ownsRow V.heap.size 45 3 (.slice (some ⟨V.heap.size,0,none⟩) [e].length 1) [e].length ([e].flatMap cellEn):=(Kp.drew (fun _=>False) _).row (one_row V e) (fun _ _ g=>g)
      have hs1 : ((V.alloc (.cells #[.int .i64 e.page,.int .i64 e.kind,.int .i64 e.loc] 45)).drew).heap.size = V.heap.size + 1:=World.size_alloc _ _
      refine (KI.insert_any lo es [e] (.slice (some ⟨eb,0,none⟩) es.length ce) (.slice (some ⟨V.heap.size,0,none⟩) 1 1) V.heap.size n _ r1 r2 (by omega) (fun b h1 h2=>?_) (by omega) (by simp) (by omega) (by simp)).mono fun r w' ⟨v',g1,g2,g3,g4⟩=>?_
      · have : V.heap.size = b:=by injection h1
        have:=(hr.lt b h2).2
        omega
      · obtain ⟨av,cv,rfl,_,_⟩:=row_form g2
        refine ⟨av,_,cv,g1,g2,(k1.mono (fun _ _ z=>z.elim)).trans g3 (fun _ _ z=>z),fun b hb=>?_⟩
        rcases g4 b hb with z | z
        · exact .inl z
        · exact .inr (by omega)
     obtain ⟨Z,hZ⟩ : ∃ Z,Z = KM.enAt es n:=⟨_,rfl⟩
     rw [<- hZ] at HXE cb
     clear hix hWA h hrow hge hre hlabE HMA A hve hes hP hnp2 hin hz0 hz1 hz2 hall hnp hj hen hlo hput hlow hnot hZ c
     go_enter Tryz.func166,Tryz.ntmps166
     go_upto_region 1 with fail
     rw [<- HWA.out]
     go_upto_region 6 with (go_at_call 153;refine HIX.out.mono ?_;rintro r w1 ⟨rfl,hb1⟩;have HB1:=hideC hb1;clear hb1)
     obtain ⟨y0,y1,y2,yf,y3,y4,y5,y6⟩:=HXE.out w1 HB1.out
     clear yf
     go_region
     go_upto_region 3 with fail
     clear y0 y1 y2 y3 y4 y5 y6
     have HB2 : Hid (Below WA.heap.size WA w1.drew):=HB1.out.drew
     clear HB1
     obtain ⟨w2,hw2⟩ : ∃ w2,w2 = w1.drew:=⟨_,rfl⟩
     rw [<- hw2] at HB2 ⊢
     clear hw2
     have HS0 : Hid (Kp (fun b=>blk (.slice (some ⟨eb,0,none⟩) es.length ce) b) w2 w2.drew):=Kp.drew _ _
     have HSB : Hid (∀ o,Kp (fun b=>blk (.slice (some ⟨eb,0,none⟩) es.length ce) b) w2 ((w2.alloc o).drew)):=fun o=>(Kp.alloc _ _ o).trans (Kp.drew _ _) (fun _ _ g=>g)
     have HCC : Hid (∀ V,Kp (fun b=>blk (.slice (some ⟨eb,0,none⟩) es.length ce) b) w2 V -> V.cell? ⟨pb,j * 3 + 2,none⟩ = some (.slice (some ⟨eb,0,none⟩) es.length ce) /\ V.cell? ⟨w.heap.size,0,none⟩ = some (.int .i64 e.page) /\ V.cell? ⟨w.heap.size,1,none⟩ = some (.int .i64 e.kind) /\ V.cell? ⟨w.heap.size,2,none⟩ = some (.int .i64 e.loc) /\ V.frozen? ⟨pb,j * 3 + 2,none⟩ = false):=fun V hV=>by
      have b1:=B.below EX.out HB2.out (B.isLt EX.out)
      have b2:=hV.keep b1 (fun g=>(HPE.out _ g).2.1 rfl)
      refine ⟨hV.cell ((HB2.out.cell (p:=⟨pb,j * 3 + 2,none⟩) hpl2).trans a2) (fun g=>(HPE.out _ g).1 rfl),B.cell b2 0 rfl,B.cell b2 1 rfl,B.cell b2 2 rfl,?_⟩
      exact frozen_kp hV HB2.out hpl2 hpl2 (fun g=>(HPE.out _ g).1 rfl) hpfz
     have HIN2:=hideC (HINS.out w2 (Kp.ofBelow HB2.out) ((Kp.ofBelow (D:=fun _=>False) HB2.out).row HROW.out (fun _ _ g=>g)) HB2.out.size)
     have hsz:=HB2.out.size
     refine GZ.begin_ (S:=fun V=>Kp (fun b=>blk (.slice (some ⟨eb,0,none⟩) es.length ce) b) w2 V) (z:=11) (by kernel_rfl) ?_
     refine GZ.tk 0 HS0.out ?_ ?_ ?_
     rotate_left 1
     · intro V h
       obtain ⟨k0,k1,k2,k3,k4⟩:=HCC.out V h
       go_simp
       try with_reducible rfl
     refine GZ.tk 1 HS0.out ?_ ?_ ?_
     rotate_left 1
     · intro V h
       obtain ⟨k0,k1,k2,k3,k4⟩:=HCC.out V h
       go_simp
       try with_reducible rfl
     refine GZ.tk 2 HS0.out ?_ ?_ ?_
     rotate_left 1
     · intro V h
       obtain ⟨k0,k1,k2,k3,k4⟩:=HCC.out V h
       go_simp
       try with_reducible rfl
     refine GZ.tk 3 HS0.out ?_ ?_ ?_
     rotate_left 1
     · intro V h
       obtain ⟨k0,k1,k2,k3,k4⟩:=HCC.out V h
       go_simp
       try with_reducible rfl
     refine GZ.tk 4 HS0.out ?_ ?_ ?_
     rotate_left 1
     · intro V h
       obtain ⟨k0,k1,k2,k3,k4⟩:=HCC.out V h
       go_simp
       try with_reducible rfl
     refine GZ.tk 5 HS0.out ?_ ?_ ?_
     rotate_left 1
     · intro V h
       obtain ⟨k0,k1,k2,k3,k4⟩:=HCC.out V h
       go_simp
       try with_reducible rfl
     refine GZ.tk 6 HS0.out ?_ ?_ ?_
     rotate_left 1
     · intro V h
       obtain ⟨k0,k1,k2,k3,k4⟩:=HCC.out V h
       go_simp
       try with_reducible rfl
     refine GZ.all (rs:=[7]) (by kernel_rfl) (by simp) ?_
     refine GZ.AllZ.cons rfl (fun K hK=>?_) GZ.AllZ.nil
     go_simp
     refine hK.out _ _ (fun _=>?_) ?_
     · exact HSB.out _
     clear hK K
     try simp only [Act.put,List.setIfInBounds_toArray,List.set_cons_zero,List.set_cons_succ]
     refine GZ.all (rs:=[8]) (by kernel_rfl) (by simp) ?_
     refine GZ.AllZ.cons rfl (fun K hK=>?_) GZ.AllZ.nil
     rw [if_pos (by rfl)];go_simp;go_at_call 192;refine HIN2.out.mono ?_;rintro r wG ⟨aG,nG,cG,rfl,hoG,hkG,haG⟩;have HSG : Hid (Kp (fun b=>blk (.slice (some ⟨eb,0,none⟩) es.length ce) b) w2 wG):=hkG;have HOG:=hideC hoG;have HAG:=hideC haG;clear hoG hkG haG;try go_simp
     refine hK.out _ _ (fun _=>?_) ?_
     · exact HSG.out
     clear hK K
     try simp only [Act.put,List.setIfInBounds_toArray,List.set_cons_zero,List.set_cons_succ]
     refine GZ.all (rs:=[9]) (by kernel_rfl) (by simp) ?_
     refine GZ.AllZ.cons rfl (fun K hK=>?_) GZ.AllZ.nil
     go_simp
     refine hK.out _ _ (fun _=>?_) ?_
     · exact HSG.out
     clear hK K
     try simp only [Act.put,List.setIfInBounds_toArray,List.set_cons_zero,List.set_cons_succ]
     refine GZ.tk 10 HSG.out ?_ ?_ ?_
     rotate_left 1
     · intro V h
       obtain ⟨k0,k1,k2,k3,k4⟩:=HCC.out V h
       go_simp
       try with_reducible rfl
     obtain ⟨k0,k1,k2,k3,k4⟩:=HCC.out wG HSG.out
     refine GZ.all (rs:=[11]) (by kernel_rfl) (by simp) ?_
     refine GZ.AllZ.cons rfl (fun K hK=>?_) GZ.AllZ.nil
     go_simp
     refine hK.out _ _ (fun g=>absurd rfl g) ?_
     refine GZ.done (by kernel_rfl) ?_ _
     go_wp2
     refine bodyPost_end (v:=.tuple #[]) (by simp [results,Tryz.results166,go_sem]) rfl ?_
     refine HE.out wG _ (es.take n ++ e :: es.drop n) ((Kp.ofBelow HB2.out).trans HSG.out (fun b _ hx=>HLE.out b hx)) HOG.out (fun b hb=>?_) HPU.out
     rcases HAG.out b hb with g | g
     · exact .inl (HLE.out b g)
     · exact .inr g
end KX
namespace KX
open Go.RowKit GK KO
open FW (hideC add_below)
open KW (cellFr cellSl cellEn HasRow KAt HasK cellsK aggEn cellI entryN)
open KS (Lc cellLc lc0 lcAt blk SpOwn)
theorem enter_leave (k : KM.Kn) (j : Nat) (x e : KM.En) : KM.enterK (KM.leaveK k e) j x = KM.leaveK (KM.enterK k j x) e:=by unfold KM.leaveK KM.enterK;split <;> rfl
def FilX (X : List Value) (hs : List LM.Sh) : Prop:=∀ n : Nat,n < 256 -> X[n]? = some (.string (KM.filled hs n))
theorem ent_own {lo mb : Nat} {tt : TypeId} {X : List Value} (k : KM.Kn) (S : St) (w : World) (j : Nat) (p : Int) (h : Km lo mb tt X w S k) (hR : KM.RightK k) (hj : j < k.spaces.length) :
  Calls Tryz.prog 118 #[.pointer (some ⟨mb,0,none⟩),.int .i64 (j : Int),.int .i64 p] w fun e w'=>e = .returned (.tuple #[aggEn (entryN (KM.spAt k.spaces j).ents p).1,.bool (entryN (KM.spAt k.spaces j).ents p).2]) /\ Below w.heap.size w w':=by
 have hcc:=hR.c
 have hen:=ents_few hR hj
 obtain ⟨pb,cP,A⟩:=h.toKr.sp (by omega)
 obtain ⟨ae,ce,hve,hre⟩:=h.toKr.ents hj
 have c3:=h.c3
 rw [A.v] at c3
 have a2:=A.x2 j hj
 rw [hve] at a2
 have e0 : 0 + j * 3 + 2 = j * 3 + 2:=by omega
 exact KW.entry_any (KM.spAt k.spaces j).ents p j k.spaces.length mb pb 0 cP ae ce w c3 hj (by rw [e0];exact a2) hre (by omega) (by omega)
set_option maxHeartbeats 16000000 in
theorem present_here {lo mb : Nat} {tt : TypeId} {X : List Value} (k : KM.Kn) (S : St) (w : World) (j : Nat) (p : Int) (held : List Int) (ah : Option Addr) (ch : Nat) (e : KM.En) (h : Km lo mb tt X w S k) (hR : KM.RightK k) (hj : j < k.spaces.length) (he : KM.entOf (KM.spAt k.spaces j).ents p = some e) (hk : e.kind = 1) :
  Calls Tryz.prog 141 #[.pointer (some ⟨mb,0,none⟩),.int .i64 (j : Int),.int .i64 p,.slice ah held.length ch] w (OutM lo mb tt X w S (.int .i64 ((KM.presentK k j p held).1 : Int)) (KM.presentK k j p held).2):=by
 have HEN:=hideC (ent_own k S w j p h hR hj)
 have e1 : entryN (KM.spAt k.spaces j).ents p = (e,true):=by unfold KW.entryN;rw [he]
 rw [e1] at HEN
 have hP : KM.presentK k j p held = (e.loc.toNat,k):=by
  unfold KM.presentK
  rw [he]
  show (if e.kind = 1 then _ else _) = _
  rw [if_pos hk]
 have hb:=(KM.loc_bd hR hj (KM.ent_mem he)).resolve_right (fun y=>by omega)
 rw [hP]
 have HFIN : Hid (∀ V,Below w.heap.size w V -> OutM lo mb tt X w S (.int .i64 ((e.loc.toNat : Nat) : Int)) k (.returned (.int .i64 e.loc)) V):=fun V hV=>⟨by rw [hb.2.1],S,h.below hV,Ch.below hV⟩
 obtain ⟨P,hP2⟩ : ∃ P,P = OutM lo mb tt X w S (.int .i64 ((e.loc.toNat : Nat) : Int)) k:=⟨_,rfl⟩
 rw [<- hP2] at HFIN ⊢
 obtain ⟨pg,kd,lc⟩:=e
 unfold aggEn at HEN
 simp only at HEN HFIN hk
 have kb : (kd == 1) = true:=by simpa using hk
 clear hP hP2 e1 he h hR hj hb hk
 go_enter Tryz.func141,Tryz.ntmps141
 go_wp2_with (go_at_call 118;refine HEN.out.mono ?_;rintro r w1 ⟨rfl,hb1⟩;have HB1:=hideC hb1;have BX:=B.new w1 #[.int .i64 pg,.int .i64 kd,.int .i64 lc] 45;obtain ⟨d0,d1,d2⟩:=B.c3 BX;clear hb1 BX)
 exact HFIN.out _ (HB1.out.alloc HB1.out.size _)
set_option maxHeartbeats 16000000 in
theorem present_swapped {lo mb : Nat} {tt : TypeId} {X : List Value} (k : KM.Kn) (S : St) (w : World) (j : Nat) (p : Int) (held : List Int) (ah : Option Addr) (ch : Nat) (e : KM.En) (h : Km lo mb tt X w S k) (hR : KM.RightK k) (hj : j < k.spaces.length) (he : KM.entOf (KM.spAt k.spaces j).ents p = some e) (hk : e.kind ≠ 1) (hl : held.length <= 2) (hH : Held w S ah held) :
  Calls Tryz.prog 141 #[.pointer (some ⟨mb,0,none⟩),.int .i64 (j : Int),.int .i64 p,.slice ah held.length ch] w (OutM lo mb tt X w S (.int .i64 ((KM.presentK k j p held).1 : Int)) (KM.presentK k j p held).2):=by
 have HEN:=hideC (ent_own k S w j p h hR hj)
 have e1 : entryN (KM.spAt k.spaces j).ents p = (e,true):=by unfold KW.entryN;rw [he]
 rw [e1] at HEN
 have hP : KM.presentK k j p held = ((KM.getK k held).1,KM.moveTo (KM.getK k held).2 j p (KM.getK k held).1 (KM.slAt (KM.getK k held).2.slots e.loc.toNat).data true):=by
  unfold KM.presentK
  rw [he]
  show (if e.kind = 1 then _ else _) = _
  rw [if_neg hk]
 have hb:=(KM.loc_bd hR hj (KM.ent_mem he)).resolve_left (fun y=>hk y.1)
 have G:=KM.get_got hR hl
 have hent : KM.entOf (KM.spAt (KM.getK k held).2.spaces j).ents p = some e:=by rw [G.ent j hj p (fun x hx=>by rw [he] at hx;injection hx with hx;subst hx;exact fun y=>hk y.1),he]
 have hmv : KM.moveTo (KM.getK k held).2 j p (KM.getK k held).1 (KM.slAt (KM.getK k held).2.slots e.loc.toNat).data true = KM.enterK (KM.leaveK (KM.layK (KM.getK k held).2 (KM.getK k held).1 (KM.slAt (KM.getK k held).2.slots e.loc.toNat).data true) e) j ⟨p,1,(KM.getK k held).1⟩:=by
  rw [enter_leave]
  unfold KM.moveTo
  rw [hent]
 rw [hP,hmv]
 have hcc:=hR.c
 have hj1 : j < (KM.getK k held).2.spaces.length:=by rw [G.kept.np];exact hj
 have hi1 : (KM.getK k held).1 < (KM.getK k held).2.frames.length:=by rw [G.kept.nf];exact G.lt
 have hs1 : e.loc.toNat < (KM.getK k held).2.slots.length:=by rw [G.kept.ns];exact hb.2.2
 have hrf:=(refs_few G.right).2 e.loc.toNat hs1
 have hen1:=ents_few G.right hj1
 have hnp1:=G.kept.np
 have HGT : Hid (∀ V,Below w.heap.size w V -> Calls Tryz.prog 165 #[.pointer (some ⟨mb,0,none⟩),.slice ah held.length ch] V (OutM lo mb tt X V S (.int .i64 ((KM.getK k held).1 : Int)) (KM.getK k held).2)):=fun V hV=>get_any k S V held ah ch (h.below hV) hR hl (hH.ch (Ch.below hV))
 obtain ⟨k1,hk1⟩ : ∃ k1,k1 = (KM.getK k held).2:=⟨_,rfl⟩
 obtain ⟨i,hi⟩ : ∃ i,i = (KM.getK k held).1:=⟨_,rfl⟩
 rw [<- hk1,<- hi] at HGT hi1
 rw [<- hk1] at hs1 hrf hj1 hen1 hnp1
 rw [<- hk1,<- hi]
 obtain ⟨D,hD⟩ : ∃ D,D = (KM.slAt k1.slots e.loc.toNat).data:=⟨_,rfl⟩
 rw [<- hD]
 have HRD : Hid (∀ V S',Km lo mb tt X V S' k1 -> ∃ fb cF lb cL,V.cell? ⟨mb,1,none⟩ = some (.slice (some ⟨fb,0,none⟩) k1.frames.length cF) /\ V.cell? ⟨mb,2,none⟩ = some (.slice (some ⟨lb,0,none⟩) k1.slots.length cL) /\ V.cell? ⟨lb,e.loc.toNat * 2,none⟩ = some (.string D) /\ V.cell? ⟨fb,i * 4,none⟩ = some (.string (KM.frAt k1.frames i).data) /\ V.cell? ⟨fb,i * 4 + 1,none⟩ = some (.int .i64 (KM.frAt k1.frames i).refs) /\ V.cell? ⟨fb,i * 4 + 2,none⟩ = some (.bool (KM.frAt k1.frames i).dirty) /\ V.cell? ⟨fb,i * 4 + 3,none⟩ = some (.bool (KM.frAt k1.frames i).seen) /\ V.frozen? ⟨fb,i * 4,none⟩ = false /\ V.frozen? ⟨fb,i * 4 + 1,none⟩ = false /\ V.frozen? ⟨fb,i * 4 + 2,none⟩ = false /\ V.frozen? ⟨fb,i * 4 + 3,none⟩ = false /\
   (∀ U,U = ((((V.setCell ⟨fb,i * 4,none⟩ (.string D)).setCell ⟨fb,i * 4 + 1,none⟩ (.int .i64 1)).setCell ⟨fb,i * 4 + 2,none⟩ (.bool true)).setCell ⟨fb,i * 4 + 3,none⟩ (.bool false)).drew -> Km lo mb tt X U S' (KM.layK k1 i D true) /\ Ch S' V S' U)):=fun V S' hV=>by
  obtain ⟨fb,cF,A⟩:=hV.toKr.fr (by omega)
  obtain ⟨lb,cL,AL⟩:=hV.toKr.sl (by omega)
  have c1:=hV.c1
  have c2:=hV.c2
  rw [A.v] at c1
  rw [AL.v] at c2
  refine ⟨fb,cF,lb,cL,c1,c2,by rw [hD];exact AL.x0 _ hs1,A.x0 i hi1,A.x1 i hi1,A.x2 i hi1,A.x3 i hi1,A.fz _,A.fz _,A.fz _,A.fz _,fun U hU=>?_⟩
  have m:=hV.layF A.v hi1 ⟨D,1,true,false⟩
  subst hU
  exact ⟨m.1.below (Below.refl _ _).drew,m.2.trans (Ch.below (Below.refl _ _).drew)⟩
 have HCN : Hid (∀ V S',Km lo mb tt X V S' (KM.layK k1 i D true) -> Calls Tryz.prog 85 #[.pointer (some ⟨mb,0,none⟩),.agg #[.int .i64 e.page,.int .i64 e.kind,.int .i64 e.loc],.int .i64 (-1)] V (OutS lo mb tt X V S' (.tuple #[]) (KM.leaveK (KM.layK k1 i D true) e))):=fun V S' hV=>by
  rw [<- KM.count_leave]
  refine count_any _ S' V e (-1) hV (fun c=>absurd c hk) (fun _=>?_) (.inr rfl) ⟨fun c=>absurd c hk,fun _=>?_⟩
  · show 0 <= e.loc /\ e.loc < (k1.slots.length : Int)
    omega
  · show -1000000 <= (KM.slAt k1.slots e.loc.toNat).refs /\ (KM.slAt k1.slots e.loc.toNat).refs <= 1000000
    omega
 have HET : Hid (∀ V S',Km lo mb tt X V S' (KM.leaveK (KM.layK k1 i D true) e) -> Calls Tryz.prog 166 #[.pointer (some ⟨mb,0,none⟩),.int .i64 (j : Int),.agg #[.int .i64 p,.int .i64 1,.int .i64 (i : Int)]] V (OutM lo mb tt X V S' (.tuple #[]) (KM.enterK (KM.leaveK (KM.layK k1 i D true) e) j ⟨p,1,i⟩))):=fun V S' hV=>by
  have hsp : (KM.leaveK (KM.layK k1 i D true) e).spaces = k1.spaces:=KM.leave_spaces _ _
  exact enter_any _ S' V j ⟨p,1,i⟩ hV (by rw [hsp];exact hj1) (by rw [hsp];omega) (by rw [hsp];omega)
 have HFIN : Hid (∀ V S',Km lo mb tt X V S' (KM.enterK (KM.leaveK (KM.layK k1 i D true) e) j ⟨p,1,i⟩) -> Ch S w S' V -> OutM lo mb tt X w S (.int .i64 (i : Int)) (KM.enterK (KM.leaveK (KM.layK k1 i D true) e) j ⟨p,1,i⟩) (.returned (.int .i64 (i : Int))) V):=fun V S' h1 h2=>⟨rfl,S',h1,h2⟩
 obtain ⟨K3,hK3⟩ : ∃ K3,K3 = KM.enterK (KM.leaveK (KM.layK k1 i D true) e) j ⟨p,1,i⟩:=⟨_,rfl⟩
 rw [<- hK3] at HET HFIN ⊢
 obtain ⟨K2,hK2⟩ : ∃ K2,K2 = KM.leaveK (KM.layK k1 i D true) e:=⟨_,rfl⟩
 rw [<- hK2] at HCN HET
 obtain ⟨K1,hK1⟩ : ∃ K1,K1 = KM.layK k1 i D true:=⟨_,rfl⟩
 rw [<- hK1] at HRD HCN
 obtain ⟨P,hP2⟩ : ∃ P,P = OutM lo mb tt X w S (.int .i64 (i : Int)) K3:=⟨_,rfl⟩
 rw [<- hP2] at HFIN ⊢
 have HNO : Hid (∀ V : World,w.heap.size <= V.heap.size -> S.lab V.heap.size = .no):=fun V hV=>h.toKr.new hV
 obtain ⟨FR,hFR⟩ : ∃ FR,FR = KM.frAt k1.frames i:=⟨_,rfl⟩
 rw [<- hFR] at HRD
 obtain ⟨nf,hnf⟩ : ∃ nf,nf = k1.frames.length:=⟨_,rfl⟩
 obtain ⟨nl,hnl⟩ : ∃ nl,nl = k1.slots.length:=⟨_,rfl⟩
 rw [<- hnf,<- hnl] at HRD
 obtain ⟨m,hm⟩ : ∃ m : Nat,e.loc = (m : Int):=⟨e.loc.toNat,by omega⟩
 rw [hm,Int.toNat_natCast] at HRD
 have hmi : (m : Int) < (nl : Int):=by rw [hm,Int.toNat_natCast] at hs1;omega
 have hii : (i : Int) < (nf : Int):=by omega
 obtain ⟨pg,kd,lc⟩:=e
 unfold aggEn at HEN
 simp only at HEN hk HCN hm
 subst hm
 have kb : (kd == 1) = false:=by simpa using hk
 clear hP hP2 e1 he h hR hj hb hk G hent hmv hcc hj1 hi1 hs1 hrf hen1 hnp1 hk1 hi hD hK3 hK2 hK1 hH hl hFR hnf hnl
 go_enter Tryz.func141,Tryz.ntmps141
 go_upto_region 6 with (first
  | (go_at_call 118;refine HEN.out.mono ?_;rintro r w1 ⟨rfl,hb1⟩;have HB1:=hideC hb1;have HBA:=hideC (HB1.out.alloc HB1.out.size (.cells #[.int .i64 pg,.int .i64 kd,.int .i64 (m : Int)] 45));have BX:=hideC (B.new w1 #[.int .i64 pg,.int .i64 kd,.int .i64 (m : Int)] 45);obtain ⟨d0,d1,d2⟩:=B.c3 BX.out;have HN1:=hideC (HNO.out w1 hb1.size);clear hb1)
  | (go_at_call 165;refine (HGT.out _ HBA.out).mono ?_;rintro r w2 ⟨rfl,S2,hk2,hc2⟩;have HK2:=hideC hk2;have HC2:=hideC ((Ch.below HBA.out).trans hc2);have BX2:=hideC (hc2.keep BX.out HN1.out);have HN2:=hideC (hc2.no _ (B.isLt BX.out) HN1.out);clear hk2 hc2 d0 d1 d2))
 obtain ⟨fb,cF,lb,cL,g1,g2,g3,g4,g5,g6,g7,g8,g9,g10,g11,hfin⟩:=HRD.out w2 S2 HK2.out
 obtain ⟨d0,d1,d2⟩:=B.c3 BX2.out
 obtain ⟨U,hU⟩ : ∃ U,U = ((((w2.setCell ⟨fb,i * 4,none⟩ (.string D)).setCell ⟨fb,i * 4 + 1,none⟩ (.int .i64 1)).setCell ⟨fb,i * 4 + 2,none⟩ (.bool true)).setCell ⟨fb,i * 4 + 3,none⟩ (.bool false)).drew:=⟨_,rfl⟩
 obtain ⟨hk3,hc3⟩:=hfin U hU
 have HU:=hideC hU
 have HK3:=hideC hk3
 have HC3:=hideC (HC2.out.trans hc3)
 have BX3:=hideC (hc3.keep BX2.out HN2.out)
 have HN3:=hideC (hc3.no _ (B.isLt BX2.out) HN2.out)
 clear hfin hU hk3 hc3
 go_region
 rw [<- HU.out]
 clear g1 g2 g3 g4 g5 g6 g7 g8 g9 g10 g11 d0 d1 d2 HU
 obtain ⟨d0,d1,d2⟩:=B.c3 BX3.out
 go_wp2_with (first
  | (go_at_call 85;refine (HCN.out _ _ HK3.out).mono ?_;rintro r w4 ⟨rfl,hk4,hc4⟩;have HK4:=hideC hk4;have HC4:=hideC (HC3.out.trans hc4);clear hk4 hc4)
  | (go_at_call 166;refine (HET.out _ _ HK4.out).mono ?_;rintro r w5 ⟨rfl,S5,hk5,hc5⟩;have HK5:=hideC hk5;have HC5:=hideC (HC4.out.trans hc5);clear hk5 hc5))
 exact HFIN.out _ _ HK5.out HC5.out
end KX
end Go.Proofs.YtpgifpeohlllfaaGreat
