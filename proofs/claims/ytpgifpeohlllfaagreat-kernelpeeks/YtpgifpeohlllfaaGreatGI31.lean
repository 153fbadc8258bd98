import Derived.Test.YtpgifpeohlllfaaGreatGI30
import Derived.Test.YtpgifpeohlllfaaGreatGI06
set_option maxHeartbeats 20000000
set_option linter.unusedVariables false
set_option maxRecDepth 100000
set_option linter.unusedSimpArgs false
namespace Go.Proofs.YtpgifpeohlllfaaGreat
namespace KX
open Go.RowKit GK KO
open FW (hideC add_below)
open KW (cellFr cellSl cellEn HasRow KAt HasK cellsK aggEn cellI entryN)
open KS (Lc cellLc lc0 lcAt blk SpOwn)
set_option maxHeartbeats 16000000 in
theorem bring_any {lo mb : Nat} {tt : TypeId} {X : List Value} (k : KM.Kn) (S : St) (w : World) (j : Nat) (p way : Int) (held : List Int) (ah : Option Addr) (ch : Nat) (h : Km lo mb tt X w S k) (hR : KM.RightK k) (hj : j < k.spaces.length) (hp : KM.mapped k j p) (hX : FilX X k.sheets) (hl : held.length <= 1) (hH : Held w S ah held) :
  Calls Tryz.prog 97 #[.pointer (some ⟨mb,0,none⟩),.int .i64 (j : Int),.int .i64 p,.int .i64 way,.slice ah held.length ch] w (OutM lo mb tt X w S (.int .i64 ((KM.bringK k j p way held).1 : Int)) (KM.bringK k j p way held).2):=by
 have HPR:=hideC (present_any k S w j p held ah ch h hR hj hp hX (by omega) hH)
 have hB:=(KM.bring_had hR hj hp way hl).1
 have hPB:=KM.present_had hR hj hp (held:=held) (by omega)
 have hcc:=hR.c
 have HLAST : Hid (∀ V S' K i,KM.twoK k j p way held = (i,K) -> Km lo mb tt X V S' K -> ∃ fb cF,V.cell? ⟨mb,1,none⟩ = some (.slice (some ⟨fb,0,none⟩) k.frames.length cF) /\ ¬ mb = fb /\ i < k.frames.length /\ V.cell? ⟨fb,i * 4 + 2,none⟩ = some (.bool (KM.frAt K.frames i).dirty) /\ V.cell? ⟨fb,i * 4 + 3,none⟩ = some (.bool (KM.frAt K.frames i).seen) /\ V.frozen? ⟨fb,i * 4 + 2,none⟩ = false /\ V.frozen? ⟨fb,i * 4 + 3,none⟩ = false /\
   (way ≠ 1 -> Km lo mb tt X (V.setCell ⟨fb,i * 4 + 3,none⟩ (.bool true)) S' (KM.bringK k j p way held).2 /\ Ch S' V S' (V.setCell ⟨fb,i * 4 + 3,none⟩ (.bool true))) /\
   (way = 1 -> Km lo mb tt X ((V.setCell ⟨fb,i * 4 + 2,none⟩ (.bool true)).setCell ⟨fb,i * 4 + 3,none⟩ (.bool true)) S' (KM.bringK k j p way held).2 /\ Ch S' V S' ((V.setCell ⟨fb,i * 4 + 2,none⟩ (.bool true)).setCell ⟨fb,i * 4 + 3,none⟩ (.bool true)))):=fun V S' K i e hV=>by
  have hnf : K.frames.length = k.frames.length:=by
   have:=hB.kept.nf
   unfold KM.bringK at this
   rw [e] at this
   have this : (K.frames.set i _).length = _:=this
   rw [List.length_set] at this
   exact this
  have hi : i < k.frames.length:=by
   have:=hB.lt
   unfold KM.bringK at this
   rw [e] at this
   exact this
  have hbr : (KM.bringK k j p way held).2 = { K with frames:=K.frames.set i (KM.mark way (KM.frAt K.frames i)) }:=by
   unfold KM.bringK
   rw [e]
   rfl
  obtain ⟨fb,cF,A⟩:=hV.toKr.fr (by omega)
  have c1:=hV.c1
  rw [A.v,hnf] at c1
  have hiK : i < K.frames.length:=by omega
  refine ⟨fb,cF,c1,fun e=>by have:=A.lab;rw [<- e,hV.lH] at this;simp at this,hi,A.x2 i hiK,A.x3 i hiK,A.fz _,A.fz _,fun hw=>?_,fun hw=>?_⟩
  · refine ⟨?_,chF hV.toKr A.v⟩
    rw [hbr]
    refine hV.setF A.v hiK (j:=3) (by omega) ?_
    unfold KM.mark
    rw [decide_eq_false hw,Bool.or_false]
    rfl
  · have m1:=hV.setF A.v hiK (j:=2) (by omega) (f:=⟨(KM.frAt K.frames i).data,(KM.frAt K.frames i).refs,true,(KM.frAt K.frames i).seen⟩) (u:=.bool true) rfl
    have m2:=m1.setF A.v (i:=i) (by simpa using hiK) (j:=3) (by omega) (f:=KM.mark way (KM.frAt K.frames i)) (u:=.bool true) (by
     simp only [KM.frAt,KM.getD_set_self _ _ _ _ hiK]
     unfold KM.mark
     rw [decide_eq_true hw,Bool.or_true]
     rfl)
    simp only [List.set_set] at m2
    rw [hbr]
    exact ⟨m2,(chF hV.toKr A.v).trans (chF hV.toKr A.v)⟩
 have hb1 : (KM.bringK k j p way held).1 = (KM.twoK k j p way held).1:=rfl
 rw [hb1]
 have HFIN : Hid (∀ V S' i,i = (KM.twoK k j p way held).1 -> Km lo mb tt X V S' (KM.bringK k j p way held).2 -> Ch S w S' V -> OutM lo mb tt X w S (.int .i64 ((KM.twoK k j p way held).1 : Int)) (KM.bringK k j p way held).2 (.returned (.int .i64 (i : Int))) V):=fun V S' i hi h1 h2=>⟨by rw [hi],S',h1,h2⟩
 obtain ⟨P,hP⟩ : ∃ P,P = OutM lo mb tt X w S (.int .i64 ((KM.twoK k j p way held).1 : Int)) (KM.bringK k j p way held).2:=⟨_,rfl⟩
 rw [<- hP] at HFIN ⊢
 obtain ⟨KB,hKB⟩ : ∃ KB,KB = (KM.bringK k j p way held).2:=⟨_,rfl⟩
 rw [<- hKB] at HFIN HLAST
 by_cases c : way = 1
 · have e2 : KM.twoK k j p way held = KM.aloneK (KM.presentK k j p held).2 j p (KM.presentK k j p held).1 held:=by unfold KM.twoK;rw [if_pos c]
   have HAL : Hid (∀ V S',Km lo mb tt X V S' (KM.presentK k j p held).2 -> Ch S w S' V -> Calls Tryz.prog 142 #[.pointer (some ⟨mb,0,none⟩),.int .i64 (j : Int),.int .i64 p,.int .i64 ((KM.presentK k j p held).1 : Int),.slice ah held.length ch] V (OutM lo mb tt X V S' (.int .i64 ((KM.twoK k j p way held).1 : Int)) (KM.twoK k j p way held).2)):=fun V S' hV hc=>by
    rw [e2]
    exact alone_any (KM.presentK k j p held).2 S' V j p (KM.presentK k j p held).1 held ah ch hV hPB.right (by rw [hPB.kept.np];exact hj) hPB.here hl (hH.ch hc)
   obtain ⟨TK,hTK⟩ : ∃ TK,TK = KM.twoK k j p way held:=⟨_,rfl⟩
   rw [<- hTK] at HAL HFIN HLAST
   obtain ⟨PR,hPR⟩ : ∃ PR,PR = KM.presentK k j p held:=⟨_,rfl⟩
   rw [<- hPR] at HPR HAL
   obtain ⟨i,K⟩:=TK
   obtain ⟨ip,Kp⟩:=PR
   have HLA:=hideC (fun V S' hV=>HLAST.out V S' K i rfl hV)
   have HFI:=hideC (fun V S'=>HFIN.out V S' i rfl)
   simp only at HPR HAL
   have HW:=hideC c
   have wb : (way == 1) = true:=by simpa using c
   obtain ⟨FR,hFR⟩ : ∃ FR,FR = KM.frAt K.frames i:=⟨_,rfl⟩
   rw [<- hFR] at HLA
   obtain ⟨nf,hnf⟩ : ∃ nf,nf = k.frames.length:=⟨_,rfl⟩
   rw [<- hnf] at HLA
   clear HLAST HFIN hP h hR hj hp hX hl hH hB hPB hcc hKB hTK hPR e2 hb1 hFR hnf c
   go_enter Tryz.func97,Tryz.ntmps97
   go_upto_region 4 with (first
    | (go_at_call 141;refine HPR.out.mono ?_;rintro e w1 ⟨rfl,S1,hk1,hc1⟩;have HK1:=hideC hk1;have HC1:=hideC hc1;clear hk1 hc1)
    | (go_at_call 142;refine (HAL.out _ _ HK1.out HC1.out).mono ?_;rintro e w2 ⟨rfl,S2,hk2,hc2⟩;have HK2:=hideC hk2;have HC2:=hideC (HC1.out.trans hc2);clear hk2 hc2))
   obtain ⟨fb,cF,g1,gne,gi,g2,g3,g4,g5,_,hfin⟩:=HLA.out w2 S2 HK2.out
   obtain ⟨hk3,hc3⟩:=hfin HW.out
   have HK3:=hideC hk3
   have HC3:=hideC (HC2.out.trans hc3)
   have hii : (i : Int) < (nf : Int):=by omega
   clear hfin hk3 hc3
   go_wp2
   exact HFI.out _ _ HK3.out HC3.out
 · have e2 : KM.twoK k j p way held = KM.presentK k j p held:=by unfold KM.twoK;rw [if_neg c]
   rw [<- e2] at HPR
   obtain ⟨TK,hTK⟩ : ∃ TK,TK = KM.twoK k j p way held:=⟨_,rfl⟩
   rw [<- hTK] at HPR HFIN HLAST
   obtain ⟨i,K⟩:=TK
   have HLA:=hideC (fun V S' hV=>HLAST.out V S' K i rfl hV)
   have HFI:=hideC (fun V S'=>HFIN.out V S' i rfl)
   simp only at HPR
   have HW:=hideC c
   have wb : (way == 1) = false:=by simpa using c
   obtain ⟨FR,hFR⟩ : ∃ FR,FR = KM.frAt K.frames i:=⟨_,rfl⟩
   rw [<- hFR] at HLA
   obtain ⟨nf,hnf⟩ : ∃ nf,nf = k.frames.length:=⟨_,rfl⟩
   rw [<- hnf] at HLA
   clear HLAST HFIN hP h hR hj hp hX hl hH hB hPB hcc hKB hTK e2 hb1 hFR hnf c
   go_enter Tryz.func97,Tryz.ntmps97
   go_upto_region 5 with (go_at_call 141;refine HPR.out.mono ?_;rintro e w1 ⟨rfl,S1,hk1,hc1⟩;have HK1:=hideC hk1;have HC1:=hideC hc1;clear hk1 hc1)
   obtain ⟨fb,cF,g1,gne,gi,g2,g3,g4,g5,hfin,_⟩:=HLA.out w1 S1 HK1.out
   obtain ⟨hk3,hc3⟩:=hfin HW.out
   have HK3:=hideC hk3
   have HC3:=hideC (HC1.out.trans hc3)
   have hii : (i : Int) < (nf : Int):=by omega
   clear hfin hk3 hc3
   go_wp2
   exact HFI.out _ _ HK3.out HC3.out
end KX
namespace FW
open Go.RowKit
def fcells (x : Int × Int) : Array Value:=#[.int .i64 x.1,.int .i64 x.2]
theorem set2_below {N g : Nat} {w W : World} (h : Below N w W) (hg : N <= g) (v0 v1 : Value) : Below N w ((W.setCell ⟨g,0,none⟩ v0).setCell ⟨g,1,none⟩ v1):=(h.setCell (p:=⟨g,0,none⟩) hg v0).setCell (p:=⟨g,1,none⟩) hg v1
set_option maxHeartbeats 4000000 in
theorem of_any (l : List AM.Ar) (v : Value) (a size way : Int) (w : World) (h : AW.Has w v l) (hf : AW.AllFit l) (ha : -9223372036854775808 <= a /\ a <= 9223372036854775807) (hz : size <= 9223372036854775807) :
  Calls Tryz.prog 96 #[v,.int .i64 a,.int .i64 size,.int .i64 way] w fun e w'=>e = .returned (.agg (fcells (FM.faultN l a size way))) /\ Below w.heap.size w w':=by
 have HFD:=hideC (fun p V (hV : AW.Has V v l)=>AW.find_any l v p V hV hf)
 have HH:=hideC h
 have HB0:=hideC ((Below.refl w.heap.size w).alloc (Nat.le_refl _) (.cells #[.int .i64 0,.int .i64 0] 36))
 have X0:=hideC (B.new w #[.int .i64 0,.int .i64 0] 36)
 have HF : Hid (FM.faultN l a size way = if way = 2 /\ ¬ a % 8 = 0 then (3,a) else FM.bytesN l a way size.toNat):=rfl
 obtain ⟨⟨R1,R2⟩,hR⟩ : ∃ R,R = FM.faultN l a size way:=⟨_,rfl⟩
 rw [<- hR] at HF ⊢
 clear hR h hf
 unfold fcells
 simp only
 obtain ⟨ao,vn,cap,rfl⟩ : ∃ ao n cap,v = .slice ao n cap:=by
  obtain ⟨ao,cap,h,_⟩:=HH.out
  exact ⟨ao,_,cap,h⟩
 have htm : a.tmod 8 = 0 ↔ a % 8 = 0:=by rw [Int.tmod_eq_emod];split <;> omega
 by_cases hal : way = 2 /\ ¬ a % 8 = 0
 · have HR : Hid ((R1,R2) = (3,a)):=by show _ = _;rw [HF.out,if_pos hal]
   obtain ⟨rfl,hal⟩:=hal
   have h8 : (a.tmod 8 == 0) = false:=by rw [beq_eq_false_iff_ne];exact fun g=>hal (htm.1 g)
   clear htm hal
   go_enter Tryz.func96,Tryz.ntmps96
   go_wp2
   exact bodyPost_ret (v:=.agg #[.int .i64 3,.int .i64 a]) (by simp [results,Tryz.results96,go_sem]) rfl ⟨by rw [(Prod.mk.inj HR.out).1,(Prod.mk.inj HR.out).2],(Below.refl w.heap.size w).alloc (Nat.le_refl _) _⟩
 · have HR : Hid ((R1,R2) = FM.bytesN l a way size.toNat):=by show _ = _;rw [HF.out,if_neg hal]
   clear HF
   by_cases c : way = 2
   · subst c
     have h8 : a.tmod 8 = 0:=htm.2 (Classical.not_not.1 (fun g=>hal ⟨rfl,g⟩))
     clear htm hal
     go_enter Tryz.func96,Tryz.ntmps96
     go_wp2_with fail
     go_loopw [23] (fun iv wr=>∃ k : Nat,k <= size.toNat /\ iv = .int .i64 (k : Int) /\ FM.bytesN l a 2 k = (0,0) /\ wr.heap[w.heap.size]? = some (.cells #[.int .i64 0,.int .i64 0] 36 (0,0)) /\ Below w.heap.size w wr) (fun iv _=>size.toNat - (intOf iv).toNat)
     case atStart=>exact ⟨0,by omega,rfl,rfl,X0.out,HB0.out⟩
     case round =>
      obtain ⟨k,hk,rfl,hnf,hx,hb⟩:=hrel
      have HN:=hideC hnf
      have HX:=hideC hx
      have HB:=hideC hb
      clear hnf hx hb X0 HB0
      by_cases hlt : (k : Int) < size
      · have hsm : -9223372036854775808 <= a + k /\ a + k <= 9223372036854775807:=by
         cases k with
         | zero=>omega
         | succ j =>
          have:=FM.bytes_small HN.out
          omega
        have HST:=hideC (FM.bytes_step HN.out)
        have HFE : Hid (∀ f : Int × Int,FM.bytesN l a 2 (k + 1) = f -> ¬ f.1 = 0 -> (R1,R2) = f):=fun f h1 h2=>HR.out.trans (FM.bytes_fell h1 h2 _ (by omega))
        have HFP:=hideC (fun V hV=>HFD.out ((a + k).tdiv 16) V hV)
        have HQ : Hid (0 <= a + k -> (a + k).tdiv 16 = (a + k) / 16):=fun h=>Int.tdiv_eq_ediv_of_nonneg h
        obtain ⟨⟨⟨pp,pn,pt,pz⟩,ok⟩,hF⟩ : ∃ F,F = AM.findN l ((a + k).tdiv 16):=⟨_,rfl⟩
        have HF2:=hideC hF
        rw [<- hF] at HFP
        have HFP2 : Hid (∀ V,AW.Has V (.slice ao vn cap) l -> Calls Tryz.prog 70 #[.slice ao vn cap,.int .i64 ((a + k).tdiv 16)] V fun e w'=>e = .returned (.tuple #[.agg #[.int .i64 pp,.int .i64 pn,.int .i64 pt,.bool pz],.bool ok]) /\ Below V.heap.size V w'):=HFP
        clear hF HFP
        have HBT : Hid ((a + k < 0 -> FM.byteN l (a + k) 2 = (1,a + k)) /\ (0 <= a + k -> ok = false -> FM.byteN l (a + k) 2 = (1,a + k)) /\ (0 <= a + k -> ok = true -> 0 <= pt /\ pt <= 3 /\ (FM.noRight pt 2 = true -> FM.byteN l (a + k) 2 = (2,a + k)) /\ (FM.noRight pt 2 = false -> FM.byteN l (a + k) 2 = (0,0)))):=by
         refine ⟨fun h=>FM.byte_map (.inl h),fun h h2=>?_,fun h h2=>?_⟩
         · refine FM.byte_map (.inr ?_)
           rw [<- HQ.out h,<- HF2.out]
           exact h2
         · have e1:=HF2.out
           rw [HQ.out h] at e1
           have h3 : (AM.findN l ((a + k) / 16)).2 = true:=by rw [<- e1];exact h2
           have h4:=FM.found_page (FM.found_check h3) h3
           have e2 : (AM.findN l ((a + k) / 16)).1.prot = pt:=by rw [<- e1]
           rw [e2] at h4
           exact ⟨h4.2.2.1,h4.2.2.2,fun h5=>FM.byte_right h h3 (by rw [e2];exact h5),fun h5=>FM.byte_ok h h3 (by rw [e2];exact h5)⟩
        clear HF2
        by_cases hneg : a + k < 0
        · have HRR:=hideC (HFE.out _ (HST.out.trans (HBT.out.1 hneg)) (by simp))
          clear HBT HFE HST
          go_wp2_with (go_at_call 70;refine (HFP2.out _ (HH.out.below HB.out)).mono ?_;rintro e w1 ⟨rfl,hb1⟩;have HB1:=hideC (add_below HB.out hb1);have X1:=hideC (B.below HX.out hb1 (B.isLt HX.out));clear hb1;have hl1:=B.isLt X1.out;have hne : ¬ w.heap.size = w1.heap.size:=(by omega);obtain ⟨x0,x1⟩:=B.c2 X1.out;have f0 : ∀ k,w1.frozen? ⟨w.heap.size,k,none⟩ = false:=fun k=>B.free X1.out k)
          exact bodyPost_ret (v:=.agg #[.int .i64 1,.int .i64 (a + k)]) (by simp [results,Tryz.results96,go_sem,x0,x1,hl1]) rfl ⟨by rw [(Prod.mk.inj HRR.out).1,(Prod.mk.inj HRR.out).2],(set2_below HB1.out (Nat.le_refl _) _ _).alloc (by simp;omega) _⟩
        · have hnn : 0 <= a + k:=by omega
          have HFP3:=HFP2
          rw [HQ.out hnn] at HFP3
          clear hneg HFP2 HQ
          cases ok with
          | false =>
           have HRR:=hideC (HFE.out _ (HST.out.trans (HBT.out.2.1 (by omega) rfl)) (by simp))
           clear HBT HFE HST
           go_wp2_with (go_at_call 70;refine (HFP3.out _ (HH.out.below HB.out)).mono ?_;rintro e w1 ⟨rfl,hb1⟩;have HB1:=hideC (add_below HB.out hb1);have X1:=hideC (B.below HX.out hb1 (B.isLt HX.out));clear hb1;have hl1:=B.isLt X1.out;have hne : ¬ w.heap.size = w1.heap.size:=(by omega);obtain ⟨x0,x1⟩:=B.c2 X1.out;have f0 : ∀ k,w1.frozen? ⟨w.heap.size,k,none⟩ = false:=fun k=>B.free X1.out k)
           exact bodyPost_ret (v:=.agg #[.int .i64 1,.int .i64 (a + k)]) (by simp [results,Tryz.results96,go_sem,x0,x1,hl1]) rfl ⟨by rw [(Prod.mk.inj HRR.out).1,(Prod.mk.inj HRR.out).2],(set2_below HB1.out (Nat.le_refl _) _ _).alloc (by simp;omega) _⟩
          | true =>
           have hpt:=HBT.out.2.2 hnn rfl
           have hbt:=right_bits pt 2 hpt.1 hpt.2.1
           have HBT2:=hideC hpt.2.2
           have HRA : Hid (∀ V,Calls Tryz.prog 140 #[.int .i64 2] V fun e w'=>e = .returned (.int .i64 (rightN 2)) /\ Below V.heap.size V w'):=fun V=>(right_any 2 V).mono fun e w' ⟨h1,h2⟩=>⟨h1,by rw [<- h2];exact Below.refl _ _⟩
           clear hpt HBT
           obtain ⟨RN,hRN⟩ : ∃ RN,RN = rightN 2:=⟨_,rfl⟩
           rw [<- hRN] at hbt HRA
           clear hRN
           go_wp2_with (go_at_call 70;refine (HFP3.out _ (HH.out.below HB.out)).mono ?_;rintro e w1 ⟨rfl,hb1⟩;have HB1:=hideC (add_below HB.out hb1);have X1:=hideC (B.below HX.out hb1 (B.isLt HX.out));clear hb1;have hl1:=B.isLt X1.out)
           obtain ⟨W,hW⟩ : ∃ W,W = w1.alloc (.cells #[.int .i64 pp,.int .i64 pn,.int .i64 pt,.bool pz] 47):=⟨_,rfl⟩
           have HW:=hideC hW
           have hs : W.heap.size = w1.heap.size + 1:=by rw [hW];simp
           have hkin:=Q.kin_some W
           have hkc:=@Q.cell_kin W
           have c2 : ∀ x : Q.Kin W.heap.size W,x.world.cell? ⟨w1.heap.size,2,none⟩ = some (.int .i64 pt):=fun x=>by rw [hkc x _ _ (by omega),hW];simp
           have HBW : Hid (Below w.heap.size w W):=by show Below _ _ _;rw [hW];exact HB1.out.alloc HB1.out.size _
           have XW : Hid (W.heap[w.heap.size]? = some (.cells #[.int .i64 0,.int .i64 0] 36 (0,0))):=by show _ = _;rw [hW];exact B.alloc X1.out _
           clear hW hs hkc
           rw [<- HW.out]
           cases hnr : FM.noRight pt 2 with
           | true =>
            rw [hnr] at hbt
            have hbt2 : (bits BinOp.and IntKind.i64 pt RN == RN) = false:=hbt
            have HRR:=hideC (HFE.out _ (HST.out.trans (HBT2.out.1 hnr)) (by simp))
            clear HFE HST HBT2 hbt hnr
            refine Q.region_kin (by kernel_rfl) (by kernel_rfl) ?_
            repeat (first | go_big_quiet_step ((go_at_call 140;exact Q.calls_kin HRA.out _)) | quiet_step ((go_at_call 140;exact Q.calls_kin HRA.out _)))
            refine wpQuiet_nil ?_
            intro _ hw'
            obtain ⟨x,hw''⟩:=hw'
            subst hw''
            have HB2:=hideC (add_below HBW.out x.keeps)
            have X2:=hideC (B.below XW.out x.keeps (B.isLt XW.out))
            obtain ⟨w2,hw2'⟩ : ∃ w2,w2 = x.world:=⟨_,rfl⟩
            rw [<- hw2'] at HB2 X2 ⊢
            clear hw2' c2
            obtain ⟨x0,x1⟩:=B.c2 X2.out
            have f0 : ∀ k,w2.frozen? ⟨w.heap.size,k,none⟩ = false:=fun k=>B.free X2.out k
            go_wp2
            exact bodyPost_ret (v:=.agg #[.int .i64 2,.int .i64 (a + k)]) (by simp [results,Tryz.results96,go_sem,x0,x1]) rfl ⟨by rw [(Prod.mk.inj HRR.out).1,(Prod.mk.inj HRR.out).2],set2_below HB2.out (Nat.le_refl _) _ _⟩
           | false =>
            rw [hnr] at hbt
            have hbt2 : (bits BinOp.and IntKind.i64 pt RN == RN) = true:=hbt
            have HNX:=hideC (HST.out.trans (HBT2.out.2 hnr))
            clear HFE HST HBT2 hbt hnr
            refine Q.region_kin (by kernel_rfl) (by kernel_rfl) ?_
            repeat (first | go_big_quiet_step ((go_at_call 140;exact Q.calls_kin HRA.out _)) | quiet_step ((go_at_call 140;exact Q.calls_kin HRA.out _)))
            refine wpQuiet_nil ?_
            intro _ hw'
            obtain ⟨x,hw''⟩:=hw'
            subst hw''
            have HB2:=hideC (add_below HBW.out x.keeps)
            have X2:=hideC (B.below XW.out x.keeps (B.isLt XW.out))
            obtain ⟨w2,hw2'⟩ : ∃ w2,w2 = x.world:=⟨_,rfl⟩
            rw [<- hw2'] at HB2 X2 ⊢
            clear hw2' c2
            go_wp2
            go_roundw
            case rel=>exact ⟨k + 1,by omega,by go_num,HNX.out,X2.out,HB2.out⟩
            case measure=>simp [intOf];omega
      · have hke : k = size.toNat:=by omega
        have HRR : Hid ((R1,R2) = (0,0)):=by show _ = _;rw [HR.out,<- hke];exact HN.out
        obtain ⟨x0,x1⟩:=B.c2 HX.out
        have f0 : ∀ k,wr.frozen? ⟨w.heap.size,k,none⟩ = false:=fun k=>B.free HX.out k
        clear hke
        go_wp2
        exact bodyPost_ret (v:=.agg #[.int .i64 0,.int .i64 0]) (by simp [results,Tryz.results96,go_sem,x0,x1]) rfl ⟨by rw [(Prod.mk.inj HRR.out).1,(Prod.mk.inj HRR.out).2],set2_below HB.out (Nat.le_refl _) _ _⟩
   · have hw2 : (way == 2) = false:=by rw [beq_eq_false_iff_ne];exact c
     clear htm hal c
     go_enter Tryz.func96,Tryz.ntmps96
     go_wp2_with fail
     go_loopw [23] (fun iv wr=>∃ k : Nat,k <= size.toNat /\ iv = .int .i64 (k : Int) /\ FM.bytesN l a way k = (0,0) /\ wr.heap[w.heap.size]? = some (.cells #[.int .i64 0,.int .i64 0] 36 (0,0)) /\ Below w.heap.size w wr) (fun iv _=>size.toNat - (intOf iv).toNat)
     case atStart=>exact ⟨0,by omega,rfl,rfl,X0.out,HB0.out⟩
     case round =>
      obtain ⟨k,hk,rfl,hnf,hx,hb⟩:=hrel
      have HN:=hideC hnf
      have HX:=hideC hx
      have HB:=hideC hb
      clear hnf hx hb X0 HB0
      by_cases hlt : (k : Int) < size
      · have hsm : -9223372036854775808 <= a + k /\ a + k <= 9223372036854775807:=by
         cases k with
         | zero=>omega
         | succ j =>
          have:=FM.bytes_small HN.out
          omega
        have HST:=hideC (FM.bytes_step HN.out)
        have HFE : Hid (∀ f : Int × Int,FM.bytesN l a way (k + 1) = f -> ¬ f.1 = 0 -> (R1,R2) = f):=fun f h1 h2=>HR.out.trans (FM.bytes_fell h1 h2 _ (by omega))
        have HFP:=hideC (fun V hV=>HFD.out ((a + k).tdiv 16) V hV)
        have HQ : Hid (0 <= a + k -> (a + k).tdiv 16 = (a + k) / 16):=fun h=>Int.tdiv_eq_ediv_of_nonneg h
        obtain ⟨⟨⟨pp,pn,pt,pz⟩,ok⟩,hF⟩ : ∃ F,F = AM.findN l ((a + k).tdiv 16):=⟨_,rfl⟩
        have HF2:=hideC hF
        rw [<- hF] at HFP
        have HFP2 : Hid (∀ V,AW.Has V (.slice ao vn cap) l -> Calls Tryz.prog 70 #[.slice ao vn cap,.int .i64 ((a + k).tdiv 16)] V fun e w'=>e = .returned (.tuple #[.agg #[.int .i64 pp,.int .i64 pn,.int .i64 pt,.bool pz],.bool ok]) /\ Below V.heap.size V w'):=HFP
        clear hF HFP
        have HBT : Hid ((a + k < 0 -> FM.byteN l (a + k) way = (1,a + k)) /\ (0 <= a + k -> ok = false -> FM.byteN l (a + k) way = (1,a + k)) /\ (0 <= a + k -> ok = true -> 0 <= pt /\ pt <= 3 /\ (FM.noRight pt way = true -> FM.byteN l (a + k) way = (2,a + k)) /\ (FM.noRight pt way = false -> FM.byteN l (a + k) way = (0,0)))):=by
         refine ⟨fun h=>FM.byte_map (.inl h),fun h h2=>?_,fun h h2=>?_⟩
         · refine FM.byte_map (.inr ?_)
           rw [<- HQ.out h,<- HF2.out]
           exact h2
         · have e1:=HF2.out
           rw [HQ.out h] at e1
           have h3 : (AM.findN l ((a + k) / 16)).2 = true:=by rw [<- e1];exact h2
           have h4:=FM.found_page (FM.found_check h3) h3
           have e2 : (AM.findN l ((a + k) / 16)).1.prot = pt:=by rw [<- e1]
           rw [e2] at h4
           exact ⟨h4.2.2.1,h4.2.2.2,fun h5=>FM.byte_right h h3 (by rw [e2];exact h5),fun h5=>FM.byte_ok h h3 (by rw [e2];exact h5)⟩
        clear HF2
        by_cases hneg : a + k < 0
        · have HRR:=hideC (HFE.out _ (HST.out.trans (HBT.out.1 hneg)) (by simp))
          clear HBT HFE HST
          go_wp2_with (go_at_call 70;refine (HFP2.out _ (HH.out.below HB.out)).mono ?_;rintro e w1 ⟨rfl,hb1⟩;have HB1:=hideC (add_below HB.out hb1);have X1:=hideC (B.below HX.out hb1 (B.isLt HX.out));clear hb1;have hl1:=B.isLt X1.out;have hne : ¬ w.heap.size = w1.heap.size:=(by omega);obtain ⟨x0,x1⟩:=B.c2 X1.out;have f0 : ∀ k,w1.frozen? ⟨w.heap.size,k,none⟩ = false:=fun k=>B.free X1.out k)
          exact bodyPost_ret (v:=.agg #[.int .i64 1,.int .i64 (a + k)]) (by simp [results,Tryz.results96,go_sem,x0,x1,hl1]) rfl ⟨by rw [(Prod.mk.inj HRR.out).1,(Prod.mk.inj HRR.out).2],(set2_below HB1.out (Nat.le_refl _) _ _).alloc (by simp;omega) _⟩
        · have hnn : 0 <= a + k:=by omega
          have HFP3:=HFP2
          rw [HQ.out hnn] at HFP3
          clear hneg HFP2 HQ
          cases ok with
          | false =>
           have HRR:=hideC (HFE.out _ (HST.out.trans (HBT.out.2.1 (by omega) rfl)) (by simp))
           clear HBT HFE HST
           go_wp2_with (go_at_call 70;refine (HFP3.out _ (HH.out.below HB.out)).mono ?_;rintro e w1 ⟨rfl,hb1⟩;have HB1:=hideC (add_below HB.out hb1);have X1:=hideC (B.below HX.out hb1 (B.isLt HX.out));clear hb1;have hl1:=B.isLt X1.out;have hne : ¬ w.heap.size = w1.heap.size:=(by omega);obtain ⟨x0,x1⟩:=B.c2 X1.out;have f0 : ∀ k,w1.frozen? ⟨w.heap.size,k,none⟩ = false:=fun k=>B.free X1.out k)
           exact bodyPost_ret (v:=.agg #[.int .i64 1,.int .i64 (a + k)]) (by simp [results,Tryz.results96,go_sem,x0,x1,hl1]) rfl ⟨by rw [(Prod.mk.inj HRR.out).1,(Prod.mk.inj HRR.out).2],(set2_below HB1.out (Nat.le_refl _) _ _).alloc (by simp;omega) _⟩
          | true =>
           have hpt:=HBT.out.2.2 hnn rfl
           have hbt:=right_bits pt way hpt.1 hpt.2.1
           have HBT2:=hideC hpt.2.2
           have HRA : Hid (∀ V,Calls Tryz.prog 140 #[.int .i64 way] V fun e w'=>e = .returned (.int .i64 (rightN way)) /\ Below V.heap.size V w'):=fun V=>(right_any way V).mono fun e w' ⟨h1,h2⟩=>⟨h1,by rw [<- h2];exact Below.refl _ _⟩
           clear hpt HBT
           obtain ⟨RN,hRN⟩ : ∃ RN,RN = rightN way:=⟨_,rfl⟩
           rw [<- hRN] at hbt HRA
           clear hRN
           go_wp2_with (go_at_call 70;refine (HFP3.out _ (HH.out.below HB.out)).mono ?_;rintro e w1 ⟨rfl,hb1⟩;have HB1:=hideC (add_below HB.out hb1);have X1:=hideC (B.below HX.out hb1 (B.isLt HX.out));clear hb1;have hl1:=B.isLt X1.out)
           obtain ⟨W,hW⟩ : ∃ W,W = w1.alloc (.cells #[.int .i64 pp,.int .i64 pn,.int .i64 pt,.bool pz] 47):=⟨_,rfl⟩
           have HW:=hideC hW
           have hs : W.heap.size = w1.heap.size + 1:=by rw [hW];simp
           have hkin:=Q.kin_some W
           have hkc:=@Q.cell_kin W
           have c2 : ∀ x : Q.Kin W.heap.size W,x.world.cell? ⟨w1.heap.size,2,none⟩ = some (.int .i64 pt):=fun x=>by rw [hkc x _ _ (by omega),hW];simp
           have HBW : Hid (Below w.heap.size w W):=by show Below _ _ _;rw [hW];exact HB1.out.alloc HB1.out.size _
           have XW : Hid (W.heap[w.heap.size]? = some (.cells #[.int .i64 0,.int .i64 0] 36 (0,0))):=by show _ = _;rw [hW];exact B.alloc X1.out _
           clear hW hs hkc
           rw [<- HW.out]
           cases hnr : FM.noRight pt way with
           | true =>
            rw [hnr] at hbt
            have hbt2 : (bits BinOp.and IntKind.i64 pt RN == RN) = false:=hbt
            have HRR:=hideC (HFE.out _ (HST.out.trans (HBT2.out.1 hnr)) (by simp))
            clear HFE HST HBT2 hbt hnr
            refine Q.region_kin (by kernel_rfl) (by kernel_rfl) ?_
            repeat (first | go_big_quiet_step ((go_at_call 140;exact Q.calls_kin HRA.out _)) | quiet_step ((go_at_call 140;exact Q.calls_kin HRA.out _)))
            refine wpQuiet_nil ?_
            intro _ hw'
            obtain ⟨x,hw''⟩:=hw'
            subst hw''
            have HB2:=hideC (add_below HBW.out x.keeps)
            have X2:=hideC (B.below XW.out x.keeps (B.isLt XW.out))
            obtain ⟨w2,hw2'⟩ : ∃ w2,w2 = x.world:=⟨_,rfl⟩
            rw [<- hw2'] at HB2 X2 ⊢
            clear hw2' c2
            obtain ⟨x0,x1⟩:=B.c2 X2.out
            have f0 : ∀ k,w2.frozen? ⟨w.heap.size,k,none⟩ = false:=fun k=>B.free X2.out k
            go_wp2
            exact bodyPost_ret (v:=.agg #[.int .i64 2,.int .i64 (a + k)]) (by simp [results,Tryz.results96,go_sem,x0,x1]) rfl ⟨by rw [(Prod.mk.inj HRR.out).1,(Prod.mk.inj HRR.out).2],set2_below HB2.out (Nat.le_refl _) _ _⟩
           | false =>
            rw [hnr] at hbt
            have hbt2 : (bits BinOp.and IntKind.i64 pt RN == RN) = true:=hbt
            have HNX:=hideC (HST.out.trans (HBT2.out.2 hnr))
            clear HFE HST HBT2 hbt hnr
            refine Q.region_kin (by kernel_rfl) (by kernel_rfl) ?_
            repeat (first | go_big_quiet_step ((go_at_call 140;exact Q.calls_kin HRA.out _)) | quiet_step ((go_at_call 140;exact Q.calls_kin HRA.out _)))
            refine wpQuiet_nil ?_
            intro _ hw'
            obtain ⟨x,hw''⟩:=hw'
            subst hw''
            have HB2:=hideC (add_below HBW.out x.keeps)
            have X2:=hideC (B.below XW.out x.keeps (B.isLt XW.out))
            obtain ⟨w2,hw2'⟩ : ∃ w2,w2 = x.world:=⟨_,rfl⟩
            rw [<- hw2'] at HB2 X2 ⊢
            clear hw2' c2
            go_wp2
            go_roundw
            case rel=>exact ⟨k + 1,by omega,by go_num,HNX.out,X2.out,HB2.out⟩
            case measure=>simp [intOf];omega
      · have hke : k = size.toNat:=by omega
        have HRR : Hid ((R1,R2) = (0,0)):=by show _ = _;rw [HR.out,<- hke];exact HN.out
        obtain ⟨x0,x1⟩:=B.c2 HX.out
        have f0 : ∀ k,wr.frozen? ⟨w.heap.size,k,none⟩ = false:=fun k=>B.free HX.out k
        clear hke
        go_wp2
        exact bodyPost_ret (v:=.agg #[.int .i64 0,.int .i64 0]) (by simp [results,Tryz.results96,go_sem,x0,x1]) rfl ⟨by rw [(Prod.mk.inj HRR.out).1,(Prod.mk.inj HRR.out).2],set2_below HB.out (Nat.le_refl _) _ _⟩
end FW
namespace KX
open Go.RowKit GK KO
open FW (hideC add_below)
open KW (cellFr cellSl cellEn HasRow KAt HasK cellsK aggEn cellI entryN)
open KS (Lc cellLc lc0 lcAt blk SpOwn)
theorem fault_none {l : List AM.Ar} {a n way : Int} (h1 : 1 <= n) (h8 : n <= 8) (h : (FM.faultN l a n way).1 = 0) : FM.faultN l a n way = (0,0) /\ 16 <= a /\ a + n <= 4096 /\ ∀ i,0 <= i -> i < n -> (AM.findN l ((a + i) / 16)).2 = true:=by
 have hb : FM.faultN l a n way = FM.bytesN l a way n.toNat:=by
  unfold FM.faultN at h ⊢
  by_cases c : way = 2 /\ ¬ a % 8 = 0
  · rw [if_pos c] at h;cases h
  · rw [if_neg c]
 rw [hb] at h ⊢
 have all : ∀ m : Nat,(FM.bytesN l a way m).1 = 0 -> FM.bytesN l a way m = (0,0) /\ ∀ i : Nat,i < m -> (FM.byteN l (a + i) way).1 = 0:=fun m=>by
  induction m with
  | zero=>intro _;exact ⟨rfl,fun i hi=>by omega⟩
  | succ m ih =>
   intro hm
   have h0 : (FM.bytesN l a way m).1 = 0:=by
    by_cases c : (FM.bytesN l a way m).1 = 0
    · exact c
    · rw [FM.bytesN,if_neg c] at hm;exact hm
   obtain ⟨e,hi⟩:=ih h0
   rw [FM.bytes_step e] at hm ⊢
   refine ⟨(FM.byte_zero hm).1,fun i hlt=>?_⟩
   by_cases c : i = m
   · subst c;exact hm
   · exact hi i (by omega)
 obtain ⟨e,hi⟩:=all n.toNat h
 obtain ⟨m,hm⟩ : ∃ m,n.toNat = m + 1:=⟨n.toNat - 1,by omega⟩
 have hs:=FM.bytes_small (l:=l) (a:=a) (way:=way) (k:=m) (by rw [<- hm];exact e)
 refine ⟨e,hs.1,by omega,fun i h0 hn=>?_⟩
 have:=hi i.toNat (by omega)
 rw [show a + (i.toNat : Int) = a + i by omega] at this
 exact (FM.byte_zero this).2.2.1
set_option maxHeartbeats 8000000 in
theorem reach_fault {lo mb : Nat} {tt : TypeId} {X : List Value} (k : KM.Kn) (S : St) (w : World) (j : Nat) (a n way : Int) (h : Km lo mb tt X w S k) (hR : KM.RightK k) (hj : j < k.spaces.length) (ha : M.I64 a) (hn : 1 <= n /\ n <= 8) (hf : (FM.faultN (KM.spAt k.spaces j).areas a n way).1 ≠ 0) :
  Calls Tryz.prog 52 #[.pointer (some ⟨mb,0,none⟩),.int .i64 (j : Int),.int .i64 a,.int .i64 n,.int .i64 way] w fun e w'=>e = .returned (.tuple #[.slice none 0 0,.agg #[.int .i64 (FM.faultN (KM.spAt k.spaces j).areas a n way).1,.int .i64 (FM.faultN (KM.spAt k.spaces j).areas a n way).2]]) /\ Below w.heap.size w w':=by
 have hcc:=hR.c
 obtain ⟨pb,cP,A⟩:=h.toKr.sp (by omega)
 have c3:=h.c3
 rw [A.v] at c3
 have a1:=A.x1 j hj
 have hfit : AW.AllFit (KM.spAt k.spaces j).areas:=AM.fits_of_check _ (hR.sp hj).areas
 have HFA:=hideC (fun V (hb : Below w.heap.size w V)=>FW.of_any _ _ a n way V (AW.Has.below (h.toKr.areas hj) hb) hfit ha (by omega))
 obtain ⟨ax,cx,hva,_,_⟩:=row_form (h.each j hj).areas
 rw [hva] at HFA a1
 have hji : (j : Int) < (k.spaces.length : Int):=by omega
 have hml:=h.lt
 have hpl:=A.lt
 unfold FW.fcells at HFA
 obtain ⟨F,hF⟩ : ∃ F,F = FM.faultN (KM.spAt k.spaces j).areas a n way:=⟨_,rfl⟩
 rw [<- hF] at HFA hf ⊢
 obtain ⟨f0,f1⟩:=F
 simp only at HFA hf ⊢
 have fb : (f0 != 0) = true:=by simpa using hf
 have HB0:=hideC ((Below.refl w.heap.size w).alloc (Nat.le_refl _) (.cells #[.int .i64 0,.int .i64 0] 36))
 have R0:=hideC (B.new w #[.int .i64 0,.int .i64 0] 36)
 have d3:=(HB0.out.cell (p:=⟨mb,3,none⟩) hml).trans c3
 have d1:=(HB0.out.cell (p:=⟨pb,j * 3 + 1,none⟩) hpl).trans a1
 obtain ⟨np,hnp⟩ : ∃ np,np = k.spaces.length:=⟨_,rfl⟩
 rw [<- hnp] at d3 hji
 obtain ⟨na,hna⟩ : ∃ na,na = (KM.spAt k.spaces j).areas.length:=⟨_,rfl⟩
 rw [<- hna] at d1 HFA
 clear h hR hj A c3 a1 hfit hva hF hf hcc hnp hna ha hn
 go_enter Tryz.func52,Tryz.ntmps52
 go_upto_region 3 with (go_at_call 96;refine (HFA.out _ HB0.out).mono ?_;rintro e w1 ⟨rfl,hb1⟩;have HB1:=hideC (add_below HB0.out hb1);have R1:=hideC (B.below R0.out hb1 (B.isLt R0.out));have FX:=hideC (B.new w1 #[.int .i64 f0,.int .i64 f1] 36);obtain ⟨y0,y1⟩:=B.c2 FX.out;clear hb1)
 have HBA:=hideC (HB1.out.alloc HB1.out.size (.cells #[.int .i64 f0,.int .i64 f1] 36))
 have hl1:=B.isLt R1.out
 have R2:=hideC (B.alloc R1.out (.cells #[.int .i64 f0,.int .i64 f1] 36))
 obtain ⟨z0,z1⟩:=B.c2 R2.out
 have q0:=B.free R2.out 0
 have q1:=B.free R2.out 1
 have hne : ¬ w.heap.size = w1.heap.size:=by omega
 obtain ⟨W,hW⟩ : ∃ W,W = w1.alloc (.cells #[.int .i64 f0,.int .i64 f1] 36):=⟨_,rfl⟩
 rw [<- hW] at HBA R2 z0 z1 q0 q1 y0 y1 ⊢
 clear hW
 go_region
 go_wp2
 have R3 : ((W.setCell ⟨w.heap.size,0,none⟩ (.int .i64 f0)).setCell ⟨w.heap.size,1,none⟩ (.int .i64 f1)).heap[w.heap.size]? = some (.cells #[.int .i64 f0,.int .i64 f1] 36 (0,0)):=B.set (B.set R2.out 0 _) 1 _
 obtain ⟨v0,v1⟩:=B.c2 R3
 refine bodyPost_ret (v:=.tuple #[.slice none 0 0,.agg #[.int .i64 f0,.int .i64 f1]]) (by simp [results,Tryz.results52,go_sem,v0,v1]) rfl ?_
 exact ⟨rfl,by first | exact ((HBA.out.setCell (p:=⟨w.heap.size,0,none⟩) (Nat.le_refl _) _).setCell (p:=⟨w.heap.size,1,none⟩) (Nat.le_refl _) _).drew | exact (HBA.out.setCell (p:=⟨w.heap.size,0,none⟩) (Nat.le_refl _) _).setCell (p:=⟨w.heap.size,1,none⟩) (Nat.le_refl _) _⟩
end KX
end Go.Proofs.YtpgifpeohlllfaaGreat
