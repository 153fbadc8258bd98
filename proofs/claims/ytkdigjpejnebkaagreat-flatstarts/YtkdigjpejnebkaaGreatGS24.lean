import Derived.Test.YtkdigjpejnebkaaGreatGS22
import Derived.Test.YtkdigjpejnebkaaGreatGS23
import Derived.Test.YtkdigjpejnebkaaGreatGS18
set_option linter.unusedVariables false
set_option maxRecDepth 100000
set_option linter.unusedSimpArgs false
namespace Go.Proofs.YtkdigjpejnebkaaGreat
namespace LW
open Go.RowKit
open W (hideC)
theorem zeros_any (w : World) : Calls Tryz.prog 141 #[.string ⟨#[0]⟩,.int .i64 16] w fun e w'=>e = .returned (.string LM.zeros16) /\ Below w.heap.size w w' :=
 Tryz.strings_Repeat_main ⟨#[0]⟩ 16 w (by decide) (by decide) (by decide) (by decide)
set_option maxHeartbeats 2000000 in
theorem pageOf_any (s : M.Sg) (n : Nat) (w : World) (hn : n <= 1000) (hs : s.data.size <= 100000) :
  Calls Tryz.prog 119 #[.agg #[.int .i64 s.page,.int .i64 s.pages,.string s.data,.bool s.wr,.bool s.ex],.int .i64 n] w fun e w'=>e = .returned (.string (LM.pageN s n)) /\ Below w.heap.size w w':=by
 obtain ⟨pg,pn,dt,wr,ex⟩:=s
 simp only at hs
 have hml : dt.size <= maxLen:=by unfold maxLen;omega
 obtain ⟨b,hb⟩ : ∃ b : Nat,b = min (n * 16) dt.size:=⟨_,rfl⟩
 obtain ⟨e,he⟩ : ∃ e : Nat,e = min (b + 16) dt.size:=⟨_,rfl⟩
 have HPN : Hid (LM.pageN ⟨pg,pn,dt,wr,ex⟩ n = CL.over LM.zeros16 0 (dt.extract b e)):=by
  show _ = _
  unfold LM.pageN
  simp only
  rw [<- hb,<- he]
 have hbI : min ((n : Int) * 16) (dt.size : Int) = (b : Int):=by omega
 have heI : min ((b : Int) + 16) (dt.size : Int) = (e : Int):=by omega
 have h1 : b <= e:=by omega
 have h2 : e <= dt.size:=by omega
 have h3 : e <= b + 16:=by omega
 have HLY : Hid (∀ V,Calls Tryz.prog 68 #[.string LM.zeros16,.int .i64 0,.string (dt.extract b e)] V fun e w'=>e = .returned (.tuple #[.string (LM.pageN ⟨pg,pn,dt,wr,ex⟩ n),.int .i64 0]) /\ Below V.heap.size V w'):=fun V=>by
  rw [HPN.out]
  exact CW.lay_yes LM.zeros16 (dt.extract b e) 0 V (by rw [LM.zeros16_size];omega) (by rw [LM.zeros16_size,LM.extract_size _ _ _ h1 h2];omega)
 have BX:=hideC (B.new w #[.int .i64 pg,.int .i64 pn,.string dt,.bool wr,.bool ex] 129)
 have HB:=hideC ((Below.refl w.heap.size w).alloc (Nat.le_refl _) (.cells #[.int .i64 pg,.int .i64 pn,.string dt,.bool wr,.bool ex] 129))
 obtain ⟨W,hW⟩ : ∃ W,W = w.alloc (.cells #[.int .i64 pg,.int .i64 pn,.string dt,.bool wr,.bool ex] 129):=⟨_,rfl⟩
 rw [<- hW] at BX HB
 have HW:=hideC hW
 clear hW hb he
 have hbx:=B.isLt BX.out
 have hkin:=Q.kin_some W
 have hkc:=@Q.cell_kin W
 have e2 : ∀ x : Q.Kin W.heap.size W,x.world.cell? ⟨w.heap.size,2,none⟩ = some (.string dt):=fun x=>by rw [hkc x _ _ hbx];exact B.cell BX.out 2 rfl
 have HZ : Hid (∀ V,Below W.heap.size W V -> Calls Tryz.prog 141 #[.string ⟨#[0]⟩,.int .i64 16] V fun e w'=>e = .returned (.string LM.zeros16) /\ Below V.heap.size V w'):=fun V _=>zeros_any V
 have HL2 : Hid (∀ V,Below W.heap.size W V -> Calls Tryz.prog 68 #[.string LM.zeros16,.int .i64 0,.string (dt.extract b e)] V fun e w'=>e = .returned (.tuple #[.string (LM.pageN ⟨pg,pn,dt,wr,ex⟩ n),.int .i64 0]) /\ Below V.heap.size V w'):=fun V _=>HLY.out V
 clear hkc HLY
 go_enter Tryz.func119,Tryz.ntmps119
 go_wp2
 rw [<- HW.out]
 refine Q.region_kin (by kernel_rfl) (by kernel_rfl) ?_
 repeat (first | go_big_quiet_step ((first | (go_at_call 141;exact calls_kin _ HZ.out) | (go_at_call 68;exact calls_kin _ HL2.out))) | quiet_step ((first | (go_at_call 141;exact calls_kin _ HZ.out) | (go_at_call 68;exact calls_kin _ HL2.out))))
 refine wpQuiet_nil ?_
 intro _ hw'
 obtain ⟨x,hw''⟩:=hw'
 subst hw''
 go_wp2
 go_ret
 exact ⟨rfl,HB.out.trans (x.keeps.mono HB.out.size)⟩
theorem infoFx : (Tryz.prog.info? 121).map (fun i=>(i.zero,i.size,i.bytes)) = some (some (.agg #[.int .i64 0,.string ⟨#[]⟩]),2,24):=by kernel_rfl
set_option maxHeartbeats 3000000 in
theorem fixesOf_any (page : Int) (ps : List LM.Pt) (ao : Option Addr) (cap : Nat) (w : World) (h0 : 0 <= page) (h1 : page <= 3000) (h : LM.HasP w ao ps) (hn : ps.length <= 1000) (hf : ∀ k,k < ps.length -> LM.FitP (LM.ptAt ps k)) :
  Calls Tryz.prog 120 #[.int .i64 page,.slice ao ps.length cap] w fun e w'=>(∃ v,e = .returned v /\ w'.ownsRow w.heap.size 121 2 v (LM.fixesN page ps).length ((LM.fixesN page ps).flatMap LM.cellF)) /\ Below w.heap.size w w':=by
 have HH:=hideC h
 have HF:=hideC hf
 clear h hf
 obtain ⟨i0,hi,hz0,hz1,hz2⟩:=info_parts infoFx
 go_enter Tryz.func120,Tryz.ntmps120
 go_wp2
 go_loopw [17,6] (fun i v wr=>∃ k : Nat,k <= ps.length /\ i = .int .i64 k /\ wr.ownsRow w.heap.size 121 2 v (LM.fixesN page (ps.take k)).length ((LM.fixesN page (ps.take k)).flatMap LM.cellF) /\ Below w.heap.size w wr) (fun i _ _=>ps.length - (intOf i).toNat)
 case atStart=>exact ⟨0,by omega,rfl,World.ownsRow_nil _ _ _ _,Below.refl _ _⟩
 case round =>
  obtain ⟨k,hk,rfl,hown,hb⟩:=hrel
  have HOW:=hideC hown
  have HBr:=hideC hb
  have hsz:=hb.size
  by_cases hlt : k < ps.length
  · obtain ⟨b,off,hao,hbl,hlie⟩:=(HH.out.below hb) (by omega)
    subst hao
    obtain ⟨c0,c1⟩:=hlie k hlt
    obtain ⟨f1,f2,f3⟩:=HF.out k hlt
    have HT : Hid (LM.fixesN page (ps.take (k + 1)) = LM.fixesN page (ps.take k) ++ LM.cutP page (LM.ptAt ps k)):=by
     show _ = _
     rw [LM.take_snoc ps LM.pt0 k hlt,LM.fixesN_snoc]
     rfl
    have hlen:=LM.fixes_len page (ps.take k)
    rw [List.length_take] at hlen
    obtain ⟨G,hG⟩ : ∃ G,G = LM.fixesN page (ps.take k):=⟨_,rfl⟩
    rw [<- hG] at HOW HT hlen
    obtain ⟨p,hp⟩ : ∃ p,p = LM.ptAt ps k:=⟨_,rfl⟩
    rw [<- hp] at c0 c1 f1 f2 f3 HT
    clear hG hp hlie hb hown
    obtain ⟨P,by_⟩:=p
    simp only at c0 c1 f1 f2 f3
    have HBA:=hideC (HBr.out.alloc HBr.out.size (.cells #[.int .i64 P,.string by_] 228))
    have HRA:=hideC ((Below.refl wr.heap.size wr).alloc (Nat.le_refl _) (.cells #[.int .i64 P,.string by_] 228))
    obtain ⟨A,hA⟩ : ∃ A,A = max (page * 16) P:=⟨_,rfl⟩
    obtain ⟨E,hE⟩ : ∃ E,E = min (page * 16 + 16) (P + 8):=⟨_,rfl⟩
    have hAb : page * 16 <= A /\ P <= A /\ A <= 1000000:=by omega
    have hEb : E <= page * 16 + 16 /\ E <= P + 8:=by omega
    have hA' : max (page * 16) P = A:=hA.symm
    have hE' : min (page * 16 + 16) (P + 8) = E:=hE.symm
    have HCUT : Hid (LM.cutP page ⟨P,by_⟩ = if A < E then [⟨A - page * 16,by_.extract (A - P).toNat (A - P + (E - A)).toNat⟩] else []):=by
     show _ = _
     unfold LM.cutP
     simp only
     rw [hA',hE']
    clear hA hE
    by_cases hAE : A < E
    · rw [HCUT.out,if_pos hAE] at HT
      obtain ⟨u,hu⟩ : ∃ u : Nat,A - P = (u : Int):=⟨(A - P).toNat,by omega⟩
      obtain ⟨n,hn⟩ : ∃ n : Nat,E - A = (n : Int):=⟨(E - A).toNat,by omega⟩
      have hun : (A - P + (E - A)).toNat = u + n:=by omega
      have hu2 : (A - P).toNat = u:=by omega
      rw [hun,hu2] at HT
      have HPT : Hid (∀ V,Calls Tryz.prog 142 #[.string by_,.int .i64 (A - P),.int .i64 (E - A)] V fun e w'=>e = .returned (.tuple #[.string (by_.extract u (u + n)),.int .i64 0]) /\ Below V.heap.size V w'):=fun V=>by
       rw [hu,hn]
       exact CW.part_yes by_ u n V (by omega) (by omega)
      obtain ⟨s,hs⟩ : ∃ s,s = by_.extract u (u + n):=⟨_,rfl⟩
      rw [<- hs] at HPT HT
      clear hu hn hun hu2 hs HCUT
      have hAE' : ¬ E <= A:=by omega
      go_wp2_with (first
       | (go_at_call 142;refine (HPT.out _).mono ?_;rintro e w1 ⟨rfl,hb⟩;have HB1:=hideC (HBA.out.trans (hb.mono HBA.out.size));have HOW1:=hideC ((row_grown HOW.out (HRA.out.trans (hb.mono HRA.out.size))).alloc (.cells #[.int .i64 (A - page * 16),.string s] 121));have hrow1:=HOW1.out.lt;have HN1:=hideC (B.new w1 #[.int .i64 (A - page * 16),.string s] 121);have BP:=hideC (B.below (B.new wr #[.int .i64 P,.string by_] 228) hb (by simp));have y0:=B.cell BP.out 0 rfl;have y1:=B.cell BP.out 1 rfl;clear hb)
       | (at_builtin;refine wpList_append_lies _ rfl _ _ 60 rfl w.heap.size 121 i0 (.agg #[.int .i64 0,.string ⟨#[]⟩]) 2 24 Tryz.underlying60 hi hz0 hz1 hz2 rfl (by decide) _ _ _ rfl HOW1.out ⟨w1.heap.size,0,none⟩ 1 1 [.int .i64 (A - page * 16),.string s] rfl rfl (B.news HN1.out) (by intro u hu;simp at hu;rcases hu with rfl | rfl <;> rfl) (by decide) (by unfold maxLen;omega) (by omega) (by have:=HB1.out.size;simp;omega) (w1.heap.size + 1) (by simp) ?_;intro gg capg w2 hown2 hgrow hatt hlt2;have HOW2:=hideC hown2;have HB2:=hideC ((HB1.out.alloc HB1.out.size (.cells #[.int .i64 (A - page * 16),.string s] 121)).grown hgrow (by have:=HB1.out.size;simp;omega) (fun q hq=>(hrow1 _ hq).1));clear hown2 hgrow hatt))
      go_roundw
      case rel=>exact ⟨k + 1,by omega,by go_num,by rw [HT.out,List.length_append,List.flatMap_append];exact HOW2.out,HB2.out⟩
      case measure=>simp [intOf];omega
    · rw [HCUT.out,if_neg hAE,List.append_nil] at HT
      have hAE' : E <= A:=by omega
      clear HCUT
      go_wp2
      go_roundw
      case rel=>exact ⟨k + 1,by omega,by go_num,by rw [HT.out];exact HOW.out.alloc _,HBA.out⟩
      case measure=>simp [intOf];omega
  · obtain rfl : k = ps.length:=by omega
    rw [List.take_length] at HOW
    clear hown hb
    go_wp2
    go_ret
    exact ⟨⟨_,rfl,HOW.out⟩,HBr.out⟩
end LW
namespace GF
open Go.RowKit GK
open FW (hideC add_below)
theorem zero16_eq : LM.zeros16 = GM.zero16:=by decide
theorem zerosF_snoc (p : Int) (n : Nat) : GM.zerosF p (n + 1) = GM.zerosF p n ++ [⟨p + (n : Int),GM.zero16⟩]:=by
 unfold GM.zerosF
 rw [FM.run_succ,List.map_append]
 rfl
theorem zerosF_len (p : Int) (n : Nat) : (GM.zerosF p n).length = n:=by
 unfold GM.zerosF
 rw [List.length_map,FM.run_length]
set_option maxHeartbeats 2000000 in
theorem zeros_any (p : Int) (n : Nat) (w : World) (hp : 0 <= p) (hp2 : p <= 1000) (hn : n <= 1000) :
  Calls Tryz.prog 200 #[.int .i64 p,.int .i64 (n : Int)] w fun e w'=>∃ v,e = .returned v /\ w'.ownsRow w.heap.size 65 2 v n ((GM.zerosF p n).flatMap cellPg) /\ Below w.heap.size w w':=by
 have HZ : Hid (∀ V,Calls Tryz.prog 141 #[.string ⟨#[0]⟩,.int .i64 16] V fun e w'=>e = .returned (.string GM.zero16) /\ Below V.heap.size V w'):=fun V=>by rw [<- zero16_eq];exact LW.zeros_any V
 have HSN:=hideC (zerosF_snoc p)
 obtain ⟨i0,hin,hz0,hz1,hz2⟩:=info_parts infoPg
 have HIN:=hideC hin
 have HZ0:=hideC hz0
 have HZ1:=hideC hz1
 have HZ2:=hideC hz2
 obtain ⟨Z,hZ⟩ : ∃ Z,Z = GM.zero16:=⟨_,rfl⟩
 rw [<- hZ] at HZ HSN
 clear hin hz0 hz1 hz2 hZ
 go_enter Tryz.func200,Tryz.ntmps200
 go_wp2
 go_loopw [5,8] (fun v iv wr=>∃ k : Nat,k <= n /\ iv = .int .i64 (k : Int) /\ wr.ownsRow w.heap.size 65 2 v k ((GM.zerosF p k).flatMap cellPg) /\ Below w.heap.size w wr) (fun _ iv _=>n - (intOf iv).toNat)
 case atStart=>exact ⟨0,by omega,rfl,World.ownsRow_nil _ _ _ _,Below.refl _ _⟩
 case round =>
  obtain ⟨k,hk,rfl,hown,hb⟩:=hrel
  have HO:=hideC hown
  have HB:=hideC hb
  by_cases hlt : k < n
  · have hki : (k : Int) < (n : Int):=by omega
    clear hown hb
    go_wp2_with (first
     | (at_builtin;refine wpList_append_src (P:=Tryz.prog) rfl _ _ 51 rfl w.heap.size 65 i0 (.agg #[.int .i64 0,.string ⟨#[]⟩]) 2 24 Tryz.underlying51 HIN.out HZ0.out HZ1.out HZ2.out rfl (by decide) _ k ((GM.zerosF p k).flatMap cellPg) rfl HO1.out (some ⟨w1.heap.size,0,none⟩) 1 1 [.int .i64 (p + (k : Int)),.string Z] rfl rfl (fun _=>⟨_,rfl,B.news (B.new w1 _ _)⟩) (by intro u hu;simp at hu;rcases hu with rfl | rfl <;> rfl) (by unfold maxLen;omega) (by omega) (by have:=HB1.out.size;simp;omega) ?_;intro v' w' hown hgr hat;have HO2:=hideC hown;have HB2:=hideC ((HB1.out.alloc HB1.out.size (.cells #[.int .i64 (p + (k : Int)),.string Z] 65)).grown hgr (by have:=HB1.out.size;simp;omega) (fun q hq=>(HO1.out.lt q hq).1));clear hown hgr hat)
     | (go_at_call 141;refine (HZ.out _).mono ?_;rintro e w1 ⟨rfl,hb1⟩;have HB1:=hideC (HB.out.trans (hb1.mono HB.out.size));have HO1:=hideC (((Kp.ofBelow (D:=fun _=>False) hb1).row HO.out (fun _ _ g=>g)).alloc (.cells #[.int .i64 (p + (k : Int)),.string Z] 65));clear hb1))
    go_roundw
    case rel=>exact ⟨k + 1,by omega,by go_num,by rw [HSN.out k,List.flatMap_append];simpa [cellPg] using HO2.out,HB2.out⟩
    case measure=>simp [intOf];omega
  · obtain rfl : k = n:=by omega
    clear hown hb
    go_wp2
    go_ret
    exact ⟨_,rfl,HO.out,HB.out⟩
theorem sizeP (w : World) : (sizeOf 65).run Tryz.prog w = .ok 2 w:=by kernel_rfl
theorem zeroP (w : World) : (zeroValue 65).run Tryz.prog w = .ok (.agg #[.int .i64 0,.string ⟨#[]⟩]) w:=by kernel_rfl
def OutIns (lo : Nat) (vp : Value) (l : List FM.Pg) (w : World) (e : Ending) (w' : World) : Prop:=∃ v',e = .returned v' /\ w'.ownsRow lo 65 2 v' l.length (l.flatMap cellPg) /\ Kp (blk vp) w w' /\ (∀ b,blk v' b -> blk vp b ∨ w.heap.size <= b)
theorem row_from {α : Type} {w : World} {lo : Nat} {e : TypeId} {k n : Nat} {ao : Option Addr} {cap : Nat} {xs : List Value} (h : w.ownsRow lo e k (.slice ao n cap) n xs) : From w ao n xs:=fun hm=>by
 rcases h.2 with ⟨h0,h1⟩ | ⟨g,cap',cur,hv,_,hg,_,_,_,ht⟩
 · omega
 · injection hv with e1 e2 e3
   refine ⟨⟨g,0,none⟩,e1,fun j u hu=>?_⟩
   rw [Addr.add_lit,Nat.zero_add,cell_of_row w g j cur e (0,0) hg]
   rw [<- ht,List.getElem?_take] at hu
   split at hu
   · simpa using hu
   · cases hu
set_option maxHeartbeats 4000000 in
theorem insert_end (lo : Nat) (ps zs : List FM.Pg) (ao az : Option Addr) (cap cz wz : Nat) (w : World) (h : w.ownsRow lo 65 2 (.slice ao ps.length cap) ps.length (ps.flatMap cellPg)) (hz : w.ownsRow wz 65 2 (.slice az zs.length cz) zs.length (zs.flatMap cellPg)) (hlo : lo <= w.heap.size) (hm : 1 <= zs.length) (hn : ps.length <= 100000) (hn2 : zs.length <= 100000) :
  Calls Tryz.prog 199 #[.slice ao ps.length cap,.int .i64 (ps.length : Int),.slice az zs.length cz] w (OutIns lo (.slice ao ps.length cap) (ps ++ zs) w):=by
 have HH:=hideC h
 have HF:=hideC (row_from (α:=Unit) hz)
 have HL:=hideC (rows_length cellPg 2 cellPg_len zs)
 have H1:=hideC (cells_one zs)
 obtain ⟨_,_,e0,hcp,_⟩:=row_form h
 injection e0 with e1 e2 e3
 subst e3
 obtain ⟨n,hne⟩ : ∃ n,n = ps.length:=⟨_,rfl⟩
 obtain ⟨m,hme⟩ : ∃ m,m = zs.length:=⟨_,rfl⟩
 have HFIN : Hid (∀ v' (w' : World),w'.ownsRow lo 65 2 v' (n + m) (ps.flatMap cellPg ++ zs.flatMap cellPg) -> Kp (blk (.slice ao n cap)) w w' -> (∀ b,blk v' b -> blk (.slice ao n cap) b ∨ w.heap.size <= b) -> OutIns lo (.slice ao n cap) (ps ++ zs) w (.returned v') w'):=fun v' w' h1 h2 h3=>⟨v',rfl,by rw [List.length_append,List.flatMap_append,<- hne,<- hme];exact h1,h2,h3⟩
 rw [<- hne] at HH hn hcp ⊢
 rw [<- hme] at HF HL hm hn2 ⊢
 obtain ⟨P,hP⟩ : ∃ P,P = OutIns lo (.slice ao n cap) (ps ++ zs) w:=⟨_,rfl⟩
 rw [<- hP] at HFIN ⊢
 obtain ⟨XS,hXS⟩ : ∃ XS,XS = ps.flatMap cellPg:=⟨_,rfl⟩
 obtain ⟨ZS,hZS⟩ : ∃ ZS,ZS = zs.flatMap cellPg:=⟨_,rfl⟩
 rw [<- hXS] at HH HFIN
 rw [<- hZS] at HF HL H1 HFIN
 obtain ⟨i0,hin,hz0,hz1,hz2⟩:=info_parts infoPg
 have HIN:=hideC hin
 have HZ0:=hideC hz0
 have HZ1:=hideC hz1
 have HZ2:=hideC hz2
 have hm0 : ((m : Int) == 0) = false:=by rw [beq_eq_false_iff_ne];omega
 clear h hz hne hme hP hXS hZS hin hz0 hz1 hz2 e1 e2
 go_enter Tryz.func199,Tryz.ntmps199
 go_wp2_with (at_builtin;refine wpList_append_src (P:=Tryz.prog) rfl _ _ 51 rfl lo 65 i0 (.agg #[.int .i64 0,.string ⟨#[]⟩]) 2 24 Tryz.underlying51 HIN.out HZ0.out HZ1.out HZ2.out rfl (by decide) (.slice ao n cap) n XS rfl HH.out az m cz ZS rfl HL.out HF.out H1.out (by unfold maxLen;omega) (by omega) hlo ?_;intro v' w' hown hgr hat;have HO2:=hideC hown;have HG2:=hideC hgr;have HA2:=hideC hat;clear hown hgr hat)
 all_goals
  refine HFIN.out _ _ HO2.out (Kp.grown HG2.out (fun _ e=>e)) (fun b hb=>?_)
  unfold blk at hb ⊢
  rcases HA2.out with e | e
  · exact .inl (by rw [<- e];exact hb)
  · right
    rw [e] at hb
    injection hb with hb
    omega
theorem take_left' {α : Type} (a b : List α) (n : Nat) (h : a.length = n) : (a ++ b).take n = a:=by subst h;exact List.take_left
theorem drop_left' {α : Type} (a b : List α) (n : Nat) (h : a.length = n) : (a ++ b).drop n = b:=by subst h;exact List.drop_left
theorem splice_up {α : Type} (R Y X : List α) (a b : Nat) (hb : b = a + Y.length) (h : b + X.length <= R.length) : (splice (splice R a Y) b X).take (b + X.length) = R.take a ++ (Y ++ X):=by
 subst hb
 have h1 : (splice R a Y).take (a + Y.length) = R.take a ++ Y:=by
  unfold splice
  rw [<- List.append_assoc]
  exact take_left' _ _ _ (by rw [List.length_append,List.length_take];omega)
 unfold splice at h1 ⊢
 rw [h1,<- List.append_assoc,List.append_assoc (R.take a) Y X]
 exact take_left' _ _ _ (by rw [List.length_append,List.length_take,List.length_append];omega)
theorem splice_down {α : Type} (R Y X : List α) (a b : Nat) (hb : b = a + Y.length) (h : b + X.length <= R.length) : (splice (splice R b X) a Y).take (b + X.length) = R.take a ++ (Y ++ X):=by
 subst hb
 have h1 : (splice R (a + Y.length) X).take a = R.take a:=by
  unfold splice
  rw [List.take_append_of_le_length (by rw [List.length_take];omega),List.take_take,Nat.min_eq_left (by omega)]
 have h2 : (splice R (a + Y.length) X).drop (a + Y.length) = X ++ R.drop (a + Y.length + X.length):=by
  unfold splice
  exact drop_left' _ _ _ (by rw [List.length_take];omega)
 have h3 : splice (splice R (a + Y.length) X) a Y = R.take a ++ (Y ++ (X ++ R.drop (a + Y.length + X.length))):=by
  rw [<- h2,<- h1]
  rfl
 rw [h3,<- List.append_assoc,<- List.append_assoc,List.append_assoc (R.take a) Y X]
 exact take_left' _ _ _ (by rw [List.length_append,List.length_take,List.length_append];omega)
theorem drop_rows (ps : List FM.Pg) (i : Nat) : (ps.flatMap cellPg).drop (i * 2) = (ps.drop i).flatMap cellPg:=by
 induction ps generalizing i with
 | nil=>simp
 | cons a r ih =>
  cases i with
  | zero=>simp
  | succ i =>
   rw [List.flatMap_cons,List.drop_succ_cons,<- ih i,show (i + 1) * 2 = i * 2 + 2 by omega]
   rfl
theorem take_rows (ps : List FM.Pg) (i : Nat) : (ps.flatMap cellPg).take (i * 2) = (ps.take i).flatMap cellPg:=by
 induction ps generalizing i with
 | nil=>simp
 | cons a r ih =>
  cases i with
  | zero=>simp
  | succ i =>
   rw [List.flatMap_cons,List.take_succ_cons,List.flatMap_cons,<- ih i,show (i + 1) * 2 = i * 2 + 2 by omega]
   rfl
theorem setRow_kp (w : World) (g : Nat) (cs : Array Value) : Kp (fun b=>b = g) w (w.setRow g cs):=⟨rfl,rfl,rfl,by simp [World.setRow],fun b _ hn=>setRow_other w g b cs hn⟩
set_option maxHeartbeats 8000000 in
theorem insert_shift (lo : Nat) (ps zs : List FM.Pg) (pb zb cap cz wz i : Nat) (w : World) (h : w.ownsRow lo 65 2 (.slice (some ⟨pb,0,none⟩) ps.length cap) ps.length (ps.flatMap cellPg)) (hz : w.ownsRow wz 65 2 (.slice (some ⟨zb,0,none⟩) zs.length cz) zs.length (zs.flatMap cellPg)) (hne : zb ≠ pb) (hi : i < ps.length) (hm : 1 <= zs.length) (hn : ps.length <= 100000) (hn2 : zs.length <= 100000) (hroom : ps.length + zs.length <= cap) :
  Calls Tryz.prog 199 #[.slice (some ⟨pb,0,none⟩) ps.length cap,.int .i64 (i : Int),.slice (some ⟨zb,0,none⟩) zs.length cz] w (OutIns lo (.slice (some ⟨pb,0,none⟩) ps.length cap) (ps.take i ++ (zs ++ ps.drop i)) w):=by
 have HFZ:=hideC (row_from (α:=Unit) hz)
 have HFP:=hideC (row_from (α:=Unit) h)
 have H1:=hideC (cells_one zs)
 have H1P:=hideC (cells_one ps)
 obtain ⟨cur,hcz,hgc,hcs,hct,hlo,hcm⟩ : ∃ cur : Array Value,cur.size = cap * 2 /\ w.heap[pb]? = some (.cells cur 65 (0,0)) /\ cap <= maxLen /\ cur.toList.take (ps.length * 2) = ps.flatMap cellPg /\ lo <= pb /\ ps.length <= cap:=by
  rcases h.2 with ⟨h0,_⟩ | ⟨g,cap',cur,hv,hb,hg,h1,h2,h3,h4⟩
  · cases h0
  · injection hv with e1 e2 e3
    injection e1 with e1
    injection e1 with e1 _ _
    subst e1 e3
    exact ⟨cur,h3,hg,h2,h4,hb,h1⟩
 obtain ⟨zcur,hzg,hzsz⟩ : ∃ zcur : Array Value,w.heap[zb]? = some (.cells zcur 65 (0,0)) /\ 0 < zcur.size:=by
  rcases hz.2 with ⟨h0,_⟩ | ⟨g,cap',zc,hv,hb,hg,h1,h2,h3,h4⟩
  · cases h0
  · injection hv with e1 e2 e3
    injection e1 with e1
    injection e1 with e1 _ _
    subst e1
    exact ⟨zc,hg,by rw [h3];omega⟩
 have hlx:=rows_length cellPg 2 cellPg_len ps
 have hlz:=rows_length cellPg 2 cellPg_len zs
 obtain ⟨R,hR⟩ : ∃ R,R = cur.toList:=⟨_,rfl⟩
 have hRl : R.length = cap * 2:=by rw [hR];simpa using hcz
 have hRg : w.heap[pb]? = some (.cells R.toArray 65 (0,0)):=by rw [hR];simpa using hgc
 rw [<- hR] at hct
 obtain ⟨n,hne1⟩ : ∃ n,n = ps.length:=⟨_,rfl⟩
 obtain ⟨m,hme⟩ : ∃ m,m = zs.length:=⟨_,rfl⟩
 obtain ⟨XS,hXS⟩ : ∃ XS,XS = ps.flatMap cellPg:=⟨_,rfl⟩
 obtain ⟨ZS,hZS⟩ : ∃ ZS,ZS = zs.flatMap cellPg:=⟨_,rfl⟩
 rw [<- hZS] at HFZ H1 hlz
 rw [<- hXS] at HFP hlx hct H1P
 rw [<- hme] at HFZ hlz hm hn2 hroom ⊢
 rw [<- hne1] at HFP hlx hct hi hn hroom hcm ⊢
 obtain ⟨DS,hDS⟩ : ∃ DS,DS = XS.drop (i * 2):=⟨_,rfl⟩
 have hDl : DS.length = (n - i) * 2:=by rw [hDS,List.length_drop,hlx];omega
 obtain ⟨R1,hR1⟩ : ∃ R1,R1 = splice R ((i + m) * 2) DS:=⟨_,rfl⟩
 have hR1l : R1.length = cap * 2:=by rw [hR1,length_splice _ _ _ (by rw [hDl,hRl];omega)];exact hRl
 obtain ⟨R2,hR2⟩ : ∃ R2,R2 = splice R1 (i * 2) ZS:=⟨_,rfl⟩
 have hR2l : R2.length = cap * 2:=by rw [hR2,length_splice _ _ _ (by rw [hlz,hR1l];omega)];exact hR1l
 have hR2t : R2.take ((n + m) * 2) = XS.take (i * 2) ++ (ZS ++ DS):=by
  have:=splice_down R ZS DS (i * 2) ((i + m) * 2) (by rw [hlz];omega) (by rw [hDl,hRl];omega)
  rw [<- hR1,<- hR2,hDl,show (i + m) * 2 + (n - i) * 2 = (n + m) * 2 by omega] at this
  rw [this,<- hct,List.take_take,Nat.min_eq_left (by omega)]
 have hcp1 : ∀ ty dc sc,(Builtin.copy_ #[51,51] ty #[.slice (some ⟨pb,(i + m) * 2,none⟩) (n + m - (i + m)) dc,.slice (some ⟨pb,i * 2,none⟩) (n + m - i) sc]).run Tryz.prog w.drew = .ok (goInt (n - i)) (w.drew.setRow pb R1.toArray):=fun ty dc sc=>by
  have:=run_copy_rows (P:=Tryz.prog) w.drew 51 51 ty 65 2 Tryz.underlying51 sizeP pb ((i + m) * 2) (n + m - (i + m)) dc (some ⟨pb,i * 2,none⟩) (n + m - i) sc R 65 hRg DS (by rw [hDl];simp only [Nat.min_def];split <;> omega) (fun _=>⟨_,rfl,fun j u hu=>by
   obtain ⟨ad,e,hc⟩:=HFP.out (by omega)
   injection e with e
   subst e
   have:=hc (i * 2 + j) u (by rw [hDS,List.getElem?_drop] at hu;exact hu)
   rw [Addr.add_lit] at this ⊢
   rw [Nat.zero_add] at this
   exact this⟩) (by rw [hDl,hRl];omega) (fun u hu=>H1P.out u (by rw [hDS] at hu;exact List.mem_of_mem_drop hu))
  rw [this,<- hR1]
  congr 2
  simp only [Nat.min_def];split <;> omega
 have hg1 : (w.drew.setRow pb R1.toArray).heap[pb]? = some (.cells R1.toArray 65 (0,0)):=setRow_heap w.drew pb _ _ _ _ hRg
 obtain ⟨W1,hW1⟩ : ∃ W1,W1 = w.drew.setRow pb R1.toArray:=⟨_,rfl⟩
 rw [<- hW1] at hcp1 hg1
 have kp1 : Kp (fun b=>b = pb) w W1:=by rw [hW1];exact (Kp.drew _ w).trans (setRow_kp w.drew pb R1.toArray) (fun _ _ g=>g)
 have hcp2 : ∀ ty dc,(Builtin.copy_ #[51,51] ty #[.slice (some ⟨pb,i * 2,none⟩) (n + m - i) dc,.slice (some ⟨zb,0,none⟩) m cz]).run Tryz.prog W1 = .ok (goInt m) (W1.setRow pb R2.toArray):=fun ty dc=>by
  have:=run_copy_rows (P:=Tryz.prog) W1 51 51 ty 65 2 Tryz.underlying51 sizeP pb (i * 2) (n + m - i) dc (some ⟨zb,0,none⟩) m cz R1 65 hg1 ZS (by rw [hlz];simp only [Nat.min_def];split <;> omega) (fun _=>⟨_,rfl,fun j u hu=>by
   obtain ⟨ad,e,hc⟩:=HFZ.out (by omega)
   injection e with e
   subst e
   have:=hc j u hu
   exact kp1.cell this (by rw [Addr.add_lit];exact hne)⟩) (by rw [hlz,hR1l];omega) H1.out
  rw [this,<- hR2]
  congr 2
  simp only [Nat.min_def];split <;> omega
 have hg2 : (W1.setRow pb R2.toArray).heap[pb]? = some (.cells R2.toArray 65 (0,0)):=setRow_heap W1 pb _ _ _ _ hg1
 have HFIN : Hid (OutIns lo (.slice (some ⟨pb,0,none⟩) n cap) (ps.take i ++ (zs ++ ps.drop i)) w (.returned (.slice (some ⟨pb,0,none⟩) (n + m) cap)) (W1.setRow pb R2.toArray)):=by
  have hl : (ps.take i ++ (zs ++ ps.drop i)).length = n + m:=by rw [List.length_append,List.length_append,List.length_take,List.length_drop,<- hne1,<- hme];omega
  refine ⟨_,rfl,?_,(kp1.trans (setRow_kp W1 pb _) (fun _ _ g=>g)).mono (fun b _ e=>by rw [e];rfl),fun b hb=>.inl hb⟩
  rw [hl]
  have hx : (ps.take i ++ (zs ++ ps.drop i)).flatMap cellPg = R2.take ((n + m) * 2):=by
   rw [hR2t,hXS,hZS,hDS,hXS,take_rows,drop_rows,List.flatMap_append,List.flatMap_append]
  rw [hx]
  exact ⟨by rw [List.length_take,hR2l];omega,.inr ⟨pb,cap,R2.toArray,rfl,hlo,hg2,hroom,hcs,by simpa using hR2l,by simp⟩⟩
 obtain ⟨P,hP⟩ : ∃ P,P = OutIns lo (.slice (some ⟨pb,0,none⟩) n cap) (ps.take i ++ (zs ++ ps.drop i)) w:=⟨_,rfl⟩
 rw [<- hP] at HFIN ⊢
 have hov : ∀ lb cb,(callFunc 206 #[.slice (some ⟨zb,0,none⟩) m cz,.slice (some ⟨pb,(i + m) * 2,none⟩) lb cb]).run Tryz.prog w = .ok (.value (.bool false)) w:=fun lb cb=>by
  rw [run_callFunc_extern Tryz.func206 (by kernel_rfl) (by kernel_rfl) (by kernel_rfl) (e:=Extern.SlicesOverlaps.overlaps #[51,51] #[4]) (by kernel_rfl),
   Lib.run_overlaps_apart w 51 4 65 Tryz.underlying51 2 sizeP ⟨zb,0,none⟩ ⟨pb,(i + m) * 2,none⟩ m cz lb cb hne 65 65 zcur.size cur.size (by simp [World.shape?,hzg]) (by simp [World.shape?,hgc]) (by omega) (B.free hzg 0) (B.free hzg zcur.size)]
  rfl
 have hm0 : ((m : Int) == 0) = false:=by rw [beq_eq_false_iff_ne];omega
 have hi0 : ((i : Int) == (n : Int)) = false:=by rw [beq_eq_false_iff_ne];omega
 have hw1 : IntKind.i64.wrap ((i : Int) + (m : Int)) = (i : Int) + (m : Int):=IntWalk.i64_in _ (by omega)
 have hb1 : (0 : Int) <= (i : Int) + (m : Int):=by omega
 have hin : i <= n:=by omega
 have htn : ((i : Int) + (m : Int)).toNat = i + m:=by omega
 have hb2 : ¬ (cap = i + m):=by omega
 have hb3 : (i : Int) <= (n : Int) + (m : Int):=by omega
 have hb4 : ¬ (cap = i):=by omega
 have hr2 : ¬ ((cap : Int) < (n : Int) + (m : Int)):=by omega
 have hc63 : cap <= 9223372036854775807:=by unfold maxLen at hcs;omega
 clear h hz hne1 hme hXS hZS hDS hDl hR1 hR2 hW1 hR hRl hRg hR1l hR2l hR2t hlx hlz hct hgc hcz hzg hzsz hP hg1 hg2 kp1 HFZ HFP H1 H1P hcs
 go_enter Tryz.func199,Tryz.ntmps199
 go_wp2_with (simp only [hov])
 go_region_law (refine step_copy_run rfl _ _ 51 51 rfl _ _ (by simp [Act.eval,Act.put]) (by simp [Act.eval,Act.put]) (hcp1 _ _ _) ?_)
 go_wp2_with (at_builtin;refine wpList_copy_run _ rfl _ _ 51 51 rfl _ _ rfl rfl (hcp2 _ _) ?_)
 exact HFIN.out
end GF
end Go.Proofs.YtkdigjpejnebkaaGreat
