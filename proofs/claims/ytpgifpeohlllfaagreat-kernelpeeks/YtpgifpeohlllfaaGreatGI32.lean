import Derived.Test.YtpgifpeohlllfaaGreatGI31
import Derived.Test.YtpgifpeohlllfaaGreatGI24
import Derived.Test.YtpgifpeohlllfaaGreatGI30
import Derived.Test.YtpgifpeohlllfaaGreatGI19
set_option maxHeartbeats 20000000
set_option linter.unusedVariables false
set_option maxRecDepth 100000
set_option linter.unusedSimpArgs false
namespace Go.Proofs.YtpgifpeohlllfaaGreat
namespace KX
open Go.RowKit GK KO
open FW (hideC add_below)
open KW (cellFr cellSl cellEn HasRow KAt HasK cellsK aggEn cellI entryN)
open KS (Lc cellLc lc0 lcAt blk SpOwn)
def stK (k : KM.Kn) (j : Nat) (a n way : Int) : Nat -> KM.Kn
 | 0=>k
 | 1=>(KM.oneK k j a way).2
 | _=>(KM.twoB k j a n way).2
def idK (k : KM.Kn) (j : Nat) (a n way : Int) : Nat -> List Int
 | 0=>[]
 | 1=>[((KM.oneK k j a way).1 : Int)]
 | _=>[((KM.oneK k j a way).1 : Int),((KM.twoB k j a n way).1 : Int)]
def ids (l : List Nat) : List Int:=l.map fun x : Nat=>(x : Int)
def pgs (a n : Int) : Nat:=if KM.lastPg a n = a / 16 then 1 else 2
theorem st_reach (k : KM.Kn) (j : Nat) (a n way : Int) : KM.reachK k j a n way = ((KM.reachK k j a n way).1,stK k j a n way (pgs a n)) /\ ids (KM.reachK k j a n way).1 = idK k j a n way (pgs a n) /\ (KM.reachK k j a n way).1.length = pgs a n:=by
 unfold KM.reachK pgs
 by_cases c : KM.lastPg a n = a / 16
 · rw [if_pos c,if_pos c];exact ⟨rfl,rfl,rfl⟩
 · rw [if_neg c,if_neg c];exact ⟨rfl,rfl,rfl⟩
theorem st0 (k : KM.Kn) (j : Nat) (a n way : Int) : stK k j a n way 0 = k:=rfl
theorem st1 (k : KM.Kn) (j : Nat) (a n way : Int) : stK k j a n way 1 = (KM.bringK k j (a / 16) way []).2:=by unfold stK KM.oneK;rfl
theorem st2 (k : KM.Kn) (j : Nat) (a n way : Int) : stK k j a n way 2 = (KM.bringK (KM.bringK k j (a / 16) way []).2 j (KM.lastPg a n) way [((KM.bringK k j (a / 16) way []).1 : Int)]).2:=by unfold stK KM.twoB KM.oneK;rfl
theorem id0 (k : KM.Kn) (j : Nat) (a n way : Int) : idK k j a n way 0 = []:=rfl
theorem id1 (k : KM.Kn) (j : Nat) (a n way : Int) : idK k j a n way 1 = [((KM.bringK k j (a / 16) way []).1 : Int)]:=by unfold idK KM.oneK;rfl
theorem id2 (k : KM.Kn) (j : Nat) (a n way : Int) : idK k j a n way 2 = [((KM.bringK k j (a / 16) way []).1 : Int)] ++ [((KM.bringK (KM.bringK k j (a / 16) way []).2 j (KM.lastPg a n) way [((KM.bringK k j (a / 16) way []).1 : Int)]).1 : Int)]:=by unfold idK KM.twoB KM.oneK;rfl
theorem Ch.local {S S' : St} {w w2 w3 : World} {D : Nat -> Prop} (h : Ch S w S' w2) (k : Kp D w2 w3) (hd : ∀ b,D b -> w.heap.size <= b) : Ch S w S' w3:=⟨⟨k.os.trans h.kp.os,k.tape.trans h.kp.tape,k.output.trans h.kp.output,Nat.le_trans h.kp.size k.size,fun b hb hn=>(k.block b (Nat.lt_of_lt_of_le hb h.kp.size) (fun g=>by have:=hd b g;omega)).trans (h.kp.block b hb hn)⟩,h.no,h.eS,h.eF,h.eL,h.eP⟩
theorem id_len (k : KM.Kn) (j : Nat) (a n way : Int) (m : Nat) (hm : m <= 2) : (idK k j a n way m).length = m:=by
 rcases (show m = 0 ∨ m = 1 ∨ m = 2 by omega) with rfl | rfl | rfl <;> rfl
set_option maxHeartbeats 16000000 in
theorem reach_fine {lo mb : Nat} {tt : TypeId} {X : List Value} (k : KM.Kn) (S : St) (w : World) (j : Nat) (a n way : Int) (h : Km lo mb tt X w S k) (hR : KM.RightK k) (hj : j < k.spaces.length) (ha : M.I64 a) (hn : 1 <= n /\ n <= 8) (hf : (FM.faultN (KM.spAt k.spaces j).areas a n way).1 = 0) (hX : FilX X k.sheets) :
  Calls Tryz.prog 52 #[.pointer (some ⟨mb,0,none⟩),.int .i64 (j : Int),.int .i64 a,.int .i64 n,.int .i64 way] w fun e w'=>∃ av cv S',e = .returned (.tuple #[.slice av (KM.reachK k j a n way).1.length cv,.agg #[.int .i64 0,.int .i64 0]]) /\ Held w' S' av (ids (KM.reachK k j a n way).1) /\ Km lo mb tt X w' S' (KM.reachK k j a n way).2 /\ Ch S w S' w':=by
 have hcc:=hR.c
 obtain ⟨hf0,hal,hau,hmap⟩:=fault_none hn.1 hn.2 hf
 have hm1 : KM.mapped k j (a / 16):=by
  have:=hmap 0 (by omega) (by omega)
  rw [Int.add_zero] at this
  exact this
 have hm2 : KM.mapped k j (KM.lastPg a n):=by
  have:=hmap (n - 1) (by omega) (by omega)
  unfold KM.lastPg
  rw [show a + n - 1 = a + (n - 1) by omega]
  exact this
 have hlast : KM.lastPg a n = a / 16 + ((pgs a n : Nat) : Int) - 1:=by
  unfold pgs
  have:=KM.pg_two (a:=a) hn.1 hn.2
  by_cases c : KM.lastPg a n = a / 16
  · rw [if_pos c];omega
  · rw [if_neg c];omega
 have hp2 : pgs a n = 1 ∨ pgs a n = 2:=by unfold pgs;split <;> omega
 have A1:=(KM.bring_had hR hj hm1 way (held:=[]) (by simp)).1
 obtain ⟨hr1,hr2,hr3⟩:=st_reach k j a n way
 have hpw : ∀ m,m < pgs a n -> KM.RightK (stK k j a n way m) /\ j < (stK k j a n way m).spaces.length /\ KM.mapped (stK k j a n way m) j (a / 16 + (m : Int)) /\ (stK k j a n way m).sheets = k.sheets /\ (KM.bringK (stK k j a n way m) j (a / 16 + (m : Int)) way (idK k j a n way m)).2 = stK k j a n way (m + 1) /\ idK k j a n way (m + 1) = idK k j a n way m ++ [((KM.bringK (stK k j a n way m) j (a / 16 + (m : Int)) way (idK k j a n way m)).1 : Int)]:=fun m hm=>by
  rcases (show m = 0 ∨ (m = 1 /\ pgs a n = 2) by omega) with rfl | ⟨rfl,h2⟩
  · have e : a / 16 + ((0 : Nat) : Int) = a / 16:=by omega
    rw [e,st0,id0,Nat.zero_add,st1,id1]
    exact ⟨hR,hj,hm1,rfl,rfl,rfl⟩
  · have e : a / 16 + ((1 : Nat) : Int) = KM.lastPg a n:=by omega
    have e2 : 1 + 1 = 2:=rfl
    rw [e,e2,st1,id1,st2,id2]
    obtain ⟨BR,hBR⟩ : ∃ BR,BR = KM.bringK k j (a / 16) way []:=⟨_,rfl⟩
    rw [<- hBR] at A1 ⊢
    refine ⟨A1.right,?_,A1.kept.mapped hj hm2,A1.kept.sheets,rfl,rfl⟩
    rw [A1.kept.np];exact hj
 have HBR : Hid (∀ V S' m av nv cv,m < pgs a n -> nv = m -> Km lo mb tt X V S' (stK k j a n way m) -> Held V S' av (idK k j a n way m) -> Calls Tryz.prog 97 #[.pointer (some ⟨mb,0,none⟩),.int .i64 (j : Int),.int .i64 (a / 16 + (m : Int)),.int .i64 way,.slice av nv cv] V fun e w'=>∃ i : Nat,e = .returned (.int .i64 (i : Int)) /\ idK k j a n way (m + 1) = idK k j a n way m ++ [(i : Int)] /\ ∃ S2,Km lo mb tt X w' S2 (stK k j a n way (m + 1)) /\ Ch S' V S2 w'):=fun V S' m av nv cv hm hnv hV hh=>by
  obtain ⟨q1,q2,q3,q4,q5,q6⟩:=hpw m hm
  have hil:=id_len k j a n way m (by omega)
  have:=bring_any (stK k j a n way m) S' V j (a / 16 + (m : Int)) way (idK k j a n way m) av cv hV q1 q2 q3 (by rw [q4];exact hX) (by omega) hh
  rw [hil] at this
  subst hnv
  refine this.mono fun e w' ⟨g1,S2,g2,g3⟩=>⟨_,g1,q6,S2,q5 ▸ g2,g3⟩
 have HFIN : Hid (∀ V S' av nv cv,nv = pgs a n -> Held V S' av (idK k j a n way (pgs a n)) -> Km lo mb tt X V S' (stK k j a n way (pgs a n)) -> Ch S w S' V -> (∃ av' cv' S'',Ending.returned (.tuple #[.slice av nv cv,.agg #[.int .i64 0,.int .i64 0]]) = .returned (.tuple #[.slice av' (KM.reachK k j a n way).1.length cv',.agg #[.int .i64 0,.int .i64 0]]) /\ Held V S'' av' (ids (KM.reachK k j a n way).1) /\ Km lo mb tt X V S'' (KM.reachK k j a n way).2 /\ Ch S w S'' V)):=fun V S' av nv cv e1 g1 g2 g3=>by
  have e2 : (KM.reachK k j a n way).2 = stK k j a n way (pgs a n):=congrArg Prod.snd hr1
  exact ⟨av,cv,S',by rw [e1,hr3],by rw [hr2];exact g1,by rw [e2];exact g2,g3⟩
 obtain ⟨P,hP⟩ : ∃ P : Ending -> World -> Prop,P = fun e w'=>∃ av cv S',e = .returned (.tuple #[.slice av (KM.reachK k j a n way).1.length cv,.agg #[.int .i64 0,.int .i64 0]]) /\ Held w' S' av (ids (KM.reachK k j a n way).1) /\ Km lo mb tt X w' S' (KM.reachK k j a n way).2 /\ Ch S w S' w':=⟨_,rfl⟩
 have HFI : Hid (∀ V S' av nv cv,nv = pgs a n -> Held V S' av (idK k j a n way (pgs a n)) -> Km lo mb tt X V S' (stK k j a n way (pgs a n)) -> Ch S w S' V -> P (.returned (.tuple #[.slice av nv cv,.agg #[.int .i64 0,.int .i64 0]])) V):=fun V S' av nv cv e1 g1 g2 g3=>by rw [hP];exact HFIN.out V S' av nv cv e1 g1 g2 g3
 rw [<- hP]
 obtain ⟨pb,cP,A⟩:=h.toKr.sp (by omega)
 have c3:=h.c3
 rw [A.v] at c3
 have a1:=A.x1 j hj
 have hfit : AW.AllFit (KM.spAt k.spaces j).areas:=AM.fits_of_check _ (hR.sp hj).areas
 have HFA:=hideC (fun V (hb : Below w.heap.size w V)=>FW.of_any _ _ a n way V (AW.Has.below (h.toKr.areas hj) hb) hfit ha (by omega))
 rw [hf0] at HFA
 obtain ⟨ax,cx,hva,_,_⟩:=row_form (h.each j hj).areas
 rw [hva] at HFA a1
 have hji : (j : Int) < (k.spaces.length : Int):=by omega
 have hml:=h.lt
 have hpl:=A.lt
 unfold FW.fcells at HFA
 simp only at HFA
 have HB0:=hideC ((Below.refl w.heap.size w).alloc (Nat.le_refl _) (.cells #[.int .i64 0,.int .i64 0] 36))
 have R0:=hideC (B.new w #[.int .i64 0,.int .i64 0] 36)
 have d3:=(HB0.out.cell (p:=⟨mb,3,none⟩) hml).trans c3
 have d1:=(HB0.out.cell (p:=⟨pb,j * 3 + 1,none⟩) hpl).trans a1
 obtain ⟨np,hnp⟩ : ∃ np,np = k.spaces.length:=⟨_,rfl⟩
 rw [<- hnp] at d3 hji
 obtain ⟨na,hna⟩ : ∃ na,na = (KM.spAt k.spaces j).areas.length:=⟨_,rfl⟩
 rw [<- hna] at d1 HFA
 have n0 : Hid (S.lab w.heap.size = .no):=h.toKr.new (Nat.le_refl _)
 have HKM:=hideC h
 have hlastD : Hid (KM.lastPg a n = a / 16 + ((pgs a n : Nat) : Int) - 1):=hlast
 have hlq : (a + n - 1) / 16 = a / 16 + ((pgs a n : Nat) : Int) - 1:=hlast
 have HIL:=hideC (id_len k j a n way)
 obtain ⟨PG,hPG⟩ : ∃ PG,PG = pgs a n:=⟨_,rfl⟩
 rw [<- hPG] at HBR HFI hp2 hlq
 have ha0 : 0 <= a:=by omega
 have han : 0 <= a + n - 1:=by omega
 have hw1 : IntKind.i64.wrap (a + n) = a + n:=IntWalk.i64_in _ (by omega)
 have hw2 : IntKind.i64.wrap (a + n - 1) = a + n - 1:=IntWalk.i64_in _ (by omega)
 obtain ⟨i0,hin,hz0,hz1,hz2⟩:=info_parts infoIn
 have HIN:=hideC hin
 have HZ0:=hideC hz0
 have HZ1:=hideC hz1
 have HZ2:=hideC hz2
 have hau2 : a / 16 <= 256:=by omega
 have hap : 0 <= a / 16:=by omega
 obtain ⟨Q,hQ⟩ : ∃ Q,Q = a / 16:=⟨_,rfl⟩
 have HQ:=hideC hQ
 rw [<- hQ] at HBR hlq hau2 hap
 have hqa : a.tdiv 16 = Q:=by rw [hQ];exact Int.tdiv_eq_ediv_of_nonneg ha0
 have hqb : (a + n - 1).tdiv 16 = Q + (PG : Int) - 1:=by rw [<- hlq];exact Int.tdiv_eq_ediv_of_nonneg han
 clear h hR hj A c3 a1 hfit hva hf0 hcc hnp hna ha hmap hm1 hm2 hlast hlastD A1 hr1 hr2 hr3 hpw HFIN hP hPG hX hf hal hau ha0 han hQ hin hz0 hz1 hz2 hlq
 go_enter Tryz.func52,Tryz.ntmps52
 go_wp2_with (go_at_call 96;refine (HFA.out _ HB0.out).mono ?_;rintro e w1 ⟨rfl,hb1⟩;have HB1:=hideC (add_below HB0.out hb1);have R1:=hideC (B.below R0.out hb1 (B.isLt R0.out));have FX:=hideC (B.new w1 #[.int .i64 0,.int .i64 0] 36);obtain ⟨y0,y1⟩:=B.c2 FX.out;clear hb1)
 have HBA:=hideC (HB1.out.alloc HB1.out.size (.cells #[.int .i64 0,.int .i64 0] 36))
 have R2:=hideC (B.alloc R1.out (.cells #[.int .i64 0,.int .i64 0] 36))
 obtain ⟨W,hW⟩ : ∃ W,W = w1.alloc (.cells #[.int .i64 0,.int .i64 0] 36):=⟨_,rfl⟩
 rw [<- hW] at HBA R2 y0 y1 ⊢
 clear hW y0 y1 FX R1 HB1
 go_loopw [13,14] (fun fv pv wr=>∃ (m : Nat) (S' : St) (av : Option Addr) (cv : Nat),m <= PG /\ pv = .int .i64 (Q + (m : Int)) /\ fv = .slice av m cv /\ wr.ownsRow W.heap.size 3 1 (.slice av m cv) m ((idK k j a n way m).flatMap cellI) /\ (∀ b,blk (.slice av m cv) b -> S'.lab b = .no) /\ Km lo mb tt X wr S' (stK k j a n way m) /\ Ch S W S' wr) (fun _ pv _=>(Q + (PG : Int) - intOf pv).toNat)
 case atStart=>exact ⟨0,S,none,0,by omega,by simp,rfl,World.ownsRow_nil _ _ _ _,fun b hb=>(by cases hb),HKM.out.below HBA.out,Ch.refl _ _⟩
 case round =>
  obtain ⟨m,S',av,cv,hm,rfl,rfl,hrow,hno,hkm,hch⟩:=hrel
  have HROW:=hideC hrow
  have HNO:=hideC hno
  have HCH:=hideC hch
  by_cases hlt : m < PG
  · have hle : Q + (m : Int) <= Q + (PG : Int) - 1:=by omega
    have hil:=HIL.out m (by omega)
    have hrow2:=hrow
    rw [<- hil] at hrow2
    have hheld:=(held_row (S:=S') (n:=m) (l:=idK k j a n way m) (by rw [hil];exact hrow) hno).2
    have HBR2:=hideC (HBR.out wr S' m av m cv hlt rfl hkm hheld)
    clear hrow hno hkm hch hrow2 hheld hil HKM
    go_wp2_with (first
     | (at_builtin;refine wpList_append_src (P:=Tryz.prog) rfl _ _ 99 rfl W.heap.size 3 i0 (.int .i64 0) 1 8 Tryz.underlying99 HIN.out HZ0.out HZ1.out HZ2.out rfl (by decide) (.slice av m cv) m ((idK k j a n way m).flatMap cellI) rfl HO2.out (some ⟨w2.heap.size,0,none⟩) 1 1 [.int .i64 (i : Int)] rfl rfl (fun _=>⟨_,rfl,B.news (B.new w2 _ _)⟩) (by intro u hu;simp at hu;rw [hu];rfl) (by unfold maxLen;omega) (by omega) (by have:=HC2.out.kp.size;simp;omega) ?_;intro v' w' hown hgr hat;obtain ⟨aG,cG,hvG,_,_⟩:=row_form hown;subst hvG;have HO3:=hideC hown;have HG3:=hideC hgr;have HA3:=hideC hat;clear hown hgr hat)
     | (go_at_call 97;refine HBR2.out.mono ?_;rintro e w2 ⟨i,rfl,hid,S2,hk2,hc2⟩;have HID:=hideC hid;have HK2:=hideC hk2;have HC2:=hideC (HCH.out.trans hc2);have HO1:=hideC (hc2.kp.row HROW.out (fun b hb z=>z (HNO.out b hb)));have HN2:=hideC (fun b (hb : blk (.slice av m cv) b)=>hc2.no b (HROW.out.lt b hb).2 (HNO.out b hb));have HO2:=hideC (HO1.out.alloc (.cells #[.int .i64 (i : Int)] 3));clear hid hk2 hc2))
    go_roundw
    case rel =>
     have kA : Kp (fun b=>blk (.slice av m cv) b) w2 (w2.alloc (.cells #[.int .i64 (i : Int)] 3)):=Kp.alloc _ _ _
     have kB:=kA.trans (Kp.grown (D:=fun b=>blk (.slice av m cv) b) HG3.out (fun q hq=>hq)) (fun _ _ g=>g)
     have hlab : ∀ b,blk (.slice aG (m + 1) cG) b -> S2.lab b = .no:=fun b hb=>by
      rcases HA3.out with g | g
      · exact HN2.out b (by show Value.ownBlock _ = _;rw [<- g];exact hb)
      · have hb : Value.ownBlock _ = some b:=hb
        rw [g] at hb
        injection hb with hb
        rw [World.size_alloc] at hb
        exact HK2.out.toKr.new (by omega)
     refine ⟨m + 1,S2,aG,cG,by omega,by go_num,rfl,?_,hlab,?_,?_⟩
     · rw [HID.out,List.flatMap_append]
       have e : [(i : Int)].flatMap cellI = [.int .i64 (i : Int)]:=rfl
       rw [e]
       exact HO3.out
     · exact HK2.out.kp kB (fun b hb g=>hb (HN2.out b g))
     · exact KX.Ch.local HC2.out kB (fun b g=>(HO1.out.lt b g).1)
    case measure=>simp [intOf];omega
  · obtain rfl : m = PG:=by omega
    have hgt : ¬ Q + (m : Int) <= Q + (m : Int) - 1:=by omega
    have hil:=HIL.out m (by omega)
    have hheld:=(held_row (S:=S') (n:=m) (l:=idK k j a n way m) (by rw [hil];exact hrow) hno).2
    have HX:=hideC (HFI.out)
    have HHE:=hideC hheld
    have HKE:=hideC hkm
    have RW:=hideC (hch.keep R2.out n0.out)
    obtain ⟨y0,y1⟩:=B.c2 RW.out
    have q0:=B.free RW.out 0
    have q1:=B.free RW.out 1
    have HCW:=hideC ((Ch.below HBA.out).trans hch)
    have hnl : S'.lab w.heap.size = .no:=hch.no _ (B.isLt R2.out) n0.out
    have HKF : Hid (∀ V,V = (wr.setCell ⟨w.heap.size,0,none⟩ (.int .i64 0)).setCell ⟨w.heap.size,1,none⟩ (.int .i64 0) -> Held V S' av (idK k j a n way m) /\ Km lo mb tt X V S' (stK k j a n way m) /\ Ch S w S' V /\ V.heap[w.heap.size]? = some (.cells #[.int .i64 0,.int .i64 0] 36 (0,0))):=fun V hV=>by
     have kp : Kp (fun b=>b = w.heap.size) wr V:=by rw [hV];exact (Kp.set (fun b=>b = w.heap.size) wr ⟨w.heap.size,0,none⟩ _ rfl).trans (Kp.set (fun b=>b = w.heap.size) _ ⟨w.heap.size,1,none⟩ _ rfl) (fun _ _ g=>g)
     refine ⟨⟨KX.HasRow.kp HHE.out.has kp (fun b off e z=>?_),HHE.out.no,fun b off e=>Nat.lt_of_lt_of_le (HHE.out.lt b off e) kp.size⟩,HKE.out.kp kp (fun b hb z=>hb (by rw [z];exact hnl)),KX.Ch.local HCW.out kp (fun b z=>by omega),by rw [hV];exact B.set (B.set RW.out 0 _) 1 _⟩
     have : W.heap.size <= b:=by
      subst e
      rcases HROW.out.2 with ⟨h0,_⟩ | ⟨g,cap',cur,hv,hbs,_⟩
      · cases h0
      · injection hv with e1 _ _
        injection e1 with e1
        injection e1 with e1 _ _
        omega
     have:=B.isLt R2.out
     omega
    have HX2:=hideC (fun V (hV : V = (wr.setCell ⟨w.heap.size,0,none⟩ (.int .i64 0)).setCell ⟨w.heap.size,1,none⟩ (.int .i64 0))=>HFI.out V S' av m cv rfl (HKF.out V hV).1 (HKF.out V hV).2.1 (HKF.out V hV).2.2.1)
    clear hrow hno hkm hch hheld hil HKM HX HHE HKE HCW hnl HBR
    go_wp2
    obtain ⟨v0,v1⟩:=B.c2 (HKF.out _ rfl).2.2.2
    refine bodyPost_ret (v:=.tuple #[.slice av m cv,.agg #[.int .i64 0,.int .i64 0]]) (by simp [results,Tryz.results52,go_sem,v0,v1]) rfl ?_
    exact HX2.out _ rfl
end KX
namespace KY
open Go.RowKit GK KO
open FW (hideC add_below)
open KW (cellFr cellSl cellEn HasRow KAt HasK cellsK aggEn cellI)
open KS (Lc cellLc lc0 lcAt blk SpOwn)
structure Small (k : KM.Kn) : Prop where
 sheets : k.sheets.length <= 1000000
 fixes : ∀ i,i < k.sheets.length -> (LM.shAt k.sheets i).fixes.length <= 1000000
 frames : k.frames.length <= 1000000
 slots : k.slots.length <= 1000000
 spaces : k.spaces.length <= 1000000
 areas : ∀ i,i < k.spaces.length -> (KM.spAt k.spaces i).areas.length <= 1000000
 ents : ∀ i,i < k.spaces.length -> (KM.spAt k.spaces i).ents.length <= 1000000
def OutC (w : World) (k : KM.Kn) (e : Ending) (w' : World) : Prop:=∃ S hs,KM.Same k.sheets hs /\ e = .returned (.agg #[S.vS,S.vF,S.vL,S.vP,.int .i64 k.hand]) /\ Kr w.heap.size w' S (KM.withS k hs) /\ Below w.heap.size w w'
end KY
namespace KY
open Go.RowKit GK KO
open FW (hideC add_below)
open KW (cellFr cellSl cellEn HasRow KAt HasK cellsK aggEn cellI memK FitK)
open KS (Lc cellLc lc0 lcAt blk SpOwn)
open KX (FilX)
def CopyK : Prop:=∀ (k : KM.Kn) (a : KAt) (w : World),HasK w a k -> Small k -> Calls Tryz.prog 55 #[.agg (cellsK a k)] w (OutC w k)
def tailK (k : KM.Kn) : List Value:=KW.rowS (KW.fillG k.sheets k.sheets.length) 256
theorem fil_tail {k : KM.Kn} (hr : LM.riseB k.sheets = true) {hs : List LM.Sh} (h : KM.Same k.sheets hs) : FilX (tailK k) hs:=fun n hn=>by
 unfold tailK
 rw [KW.rowS_get _ n 256 hn,KW.fill_filled k.sheets hr n,KM.same_filled h]
theorem rise_fixes {hs : List LM.Sh} (h : LM.riseB hs = true) (i : Nat) (hi : i < hs.length) : (LM.shAt hs i).fixes.length <= 16:=by
 have all : ∀ n,LM.riseTo hs n = true -> ∀ i,i < n -> LM.sheetB (LM.shAt hs i) = true:=fun n=>by
  induction n with
  | zero=>intro _ i hi;omega
  | succ n ih =>
   intro hn i hi
   unfold LM.riseTo at hn
   rw [Bool.and_eq_true,Bool.and_eq_true] at hn
   by_cases c : i = n
   · rw [c];exact hn.2.1
   · exact ih hn.1 i (by omega)
 have hb:=all hs.length h i hi
 unfold LM.sheetB at hb
 rw [Bool.and_eq_true] at hb
 have:=LM.endTo_ge _ _ hb.2
 omega
theorem small_right {k : KM.Kn} (hR : KM.RightK k) (hF : FitK k) : Small k:=by
 have hc:=hR.c
 refine ⟨by omega,fun i hi=>?_,by omega,by omega,by omega,fun i hi=>?_,fun i hi=>by have:=KX.ents_few hR hi;omega⟩
 · have:=rise_fixes hR.rise i hi
   omega
 · have:=AM.good_len _ (hR.sp hi).areas
   omega
theorem km_of {lo mb : Nat} {w' V : World} {S : St} {k : KM.Kn} {hs : List LM.Sh} {k0 : KM.Kn} {a : KAt} (hr : Kr lo w' S (KM.withS k hs)) (hm : w'.heap[mb]? = some (.cells (memK a k0) 104 (0,0))) (hlb : lo <= mb) (hno : S.lab mb = .no) (ht : tailK k0 = tailK k)
  (hV : V = ((((w'.setCell ⟨mb,0,none⟩ S.vS).setCell ⟨mb,1,none⟩ S.vF).setCell ⟨mb,2,none⟩ S.vL).setCell ⟨mb,3,none⟩ S.vP).setCell ⟨mb,4,none⟩ (.int .i64 k.hand)) :
  Km lo mb 104 (tailK k) V ⟨fun b=>if b = mb then .head else S.lab b,S.vS,S.vF,S.vL,S.vP,S.L⟩ (KM.withS k hs):=by
 have kp : Kp (fun b=>b = mb) w' V:=by
  rw [hV]
  exact ((((Kp.set (fun b=>b = mb) w' ⟨mb,0,none⟩ _ rfl).trans (Kp.set (fun b=>b = mb) _ ⟨mb,1,none⟩ _ rfl) (fun _ _ g=>g)).trans (Kp.set (fun b=>b = mb) _ ⟨mb,2,none⟩ _ rfl) (fun _ _ g=>g)).trans (Kp.set (fun b=>b = mb) _ ⟨mb,3,none⟩ _ rfl) (fun _ _ g=>g)).trans (Kp.set (fun b=>b = mb) _ ⟨mb,4,none⟩ _ rfl) (fun _ _ g=>g)
 have r1:=hr.kp kp (fun b hb e=>hb (by rw [e];exact hno))
 have lb : ∀ b c,S.lab b = c -> c ≠ .no -> (if b = mb then Lb.head else S.lab b) = c:=fun b c e hc=>by
  rw [if_neg,e]
  intro x
  exact hc (by rw [<- e,x];exact hno)
 refine ⟨⟨fun b hb=>?_,r1.sheets,r1.fixes,r1.frames,r1.slots,r1.spaces,r1.len,r1.each,fun b hb=>lb b _ (r1.lS b hb) (by simp),fun i hi b hb=>lb b _ (r1.lX i hi b hb) (by simp),fun b hb=>lb b _ (r1.lF b hb) (by simp),fun b hb=>lb b _ (r1.lL b hb) (by simp),fun b hb=>lb b _ (r1.lP b hb) (by simp),fun i hi b hb=>lb b _ (r1.lA i hi b hb) (by simp),fun i hi b hb=>lb b _ (r1.lE i hi b hb) (by simp)⟩,?_,if_pos rfl⟩
 · by_cases c : b = mb
   · rw [c]
     exact ⟨hlb,Nat.lt_of_lt_of_le (B.isLt hm) kp.size⟩
   · have hb : (if b = mb then Lb.head else S.lab b) ≠ .no:=hb
     rw [if_neg c] at hb
     exact r1.bnd b hb
 · rw [hV,B.set (B.set (B.set (B.set (B.set hm 0 S.vS) 1 S.vF) 2 S.vL) 3 S.vP) 4 (.int .i64 k.hand)]
   unfold memK KW.memC
   rw [<- ht]
   congr 2
set_option maxHeartbeats 8000000 in
theorem own_any (hcp : CopyK) (k : KM.Kn) (a : KAt) (mb : Nat) (w : World) (hK : HasK w a k) (hsm : Small k) (hm : w.heap[mb]? = some (.cells (memK a k) 104 (0,0))) (lo : Nat) (hlo : lo <= mb) :
  Calls Tryz.prog 84 #[.pointer (some ⟨mb,0,none⟩)] w fun e w'=>e = .returned (.tuple #[]) /\ ∃ S hs,KM.Same k.sheets hs /\ Km lo mb 104 (tailK k) w' S (KM.withS k hs) /\ (∀ b,S.lab b ≠ .no -> b = mb ∨ w.heap.size <= b) /\ Kp (fun b=>b = mb) w w':=by
 have HCP:=hideC (hcp k a w hK hsm)
 have hml:=B.isLt hm
 have HM:=hideC hm
 have HFIN : Hid (∀ w1 S hs V,KM.Same k.sheets hs -> Kr w.heap.size w1 S (KM.withS k hs) -> Below w.heap.size w w1 -> V = ((((w1.setCell ⟨mb,0,none⟩ S.vS).setCell ⟨mb,1,none⟩ S.vF).setCell ⟨mb,2,none⟩ S.vL).setCell ⟨mb,3,none⟩ S.vP).setCell ⟨mb,4,none⟩ (.int .i64 k.hand) -> ∃ S hs,KM.Same k.sheets hs /\ Km lo mb 104 (tailK k) V S (KM.withS k hs) /\ (∀ b,S.lab b ≠ .no -> b = mb ∨ w.heap.size <= b) /\ Kp (fun b=>b = mb) w V):=fun w1 S hs V h1 h2 h3 h4=>by
  have hm1:=B.below HM.out h3 hml
  have hno : S.lab mb = .no:=Classical.not_not.1 fun x=>by have:=(h2.bnd mb x).1;omega
  have r1 : Kr lo w1 S (KM.withS k hs):=h2.mono (by omega)
  have m:=km_of r1 hm1 hlo hno rfl h4
  refine ⟨_,hs,h1,m,fun b hb=>?_,?_⟩
  · by_cases c : b = mb
    · exact .inl c
    · have hb : (if b = mb then Lb.head else S.lab b) ≠ .no:=hb
      rw [if_neg c] at hb
      exact .inr (h2.bnd b hb).1
  · have kp : Kp (fun b=>b = mb) w1 V:=by
     rw [h4]
     exact ((((Kp.set (fun b=>b = mb) w1 ⟨mb,0,none⟩ _ rfl).trans (Kp.set (fun b=>b = mb) _ ⟨mb,1,none⟩ _ rfl) (fun _ _ g=>g)).trans (Kp.set (fun b=>b = mb) _ ⟨mb,2,none⟩ _ rfl) (fun _ _ g=>g)).trans (Kp.set (fun b=>b = mb) _ ⟨mb,3,none⟩ _ rfl) (fun _ _ g=>g)).trans (Kp.set (fun b=>b = mb) _ ⟨mb,4,none⟩ _ rfl) (fun _ _ g=>g)
    exact (Kp.ofBelow h3).trans kp (fun _ _ g=>g)
 have HCP2 : Hid (Calls Tryz.prog 55 #[.agg (cellsK a k)] w fun e w'=>∃ S hs aS nS cS aF nF cF aL nL cL aP nP cP,S.vS = .slice aS nS cS /\ S.vF = .slice aF nF cF /\ S.vL = .slice aL nL cL /\ S.vP = .slice aP nP cP /\ KM.Same k.sheets hs /\ e = .returned (.agg #[.slice aS nS cS,.slice aF nF cF,.slice aL nL cL,.slice aP nP cP,.int .i64 k.hand]) /\ Kr w.heap.size w' S (KM.withS k hs) /\ Below w.heap.size w w'):=HCP.out.mono fun e w' ⟨S,hs,h1,h2,h3,h4⟩=>by
  obtain ⟨aS,cS,eS,_⟩:=row_form h3.sheets
  obtain ⟨aF,cF,eF,_⟩:=row_form h3.frames
  obtain ⟨aL,cL,eL,_⟩:=row_form h3.slots
  obtain ⟨aP,cP,eP,_⟩:=row_form h3.spaces
  exact ⟨S,hs,aS,_,cS,aF,_,cF,aL,_,cL,aP,_,cP,eS,eF,eL,eP,h1,by rw [h2,eS,eF,eL,eP],h3,h4⟩
 have c0 : w.cell? ⟨mb,0,none⟩ = some (.slice a.aS k.sheets.length a.cS):=B.cell hm 0 rfl
 have c1 : w.cell? ⟨mb,1,none⟩ = some (.slice a.aF k.frames.length a.cF):=B.cell hm 1 rfl
 have c2 : w.cell? ⟨mb,2,none⟩ = some (.slice a.aL k.slots.length a.cL):=B.cell hm 2 rfl
 have c3 : w.cell? ⟨mb,3,none⟩ = some (.slice a.aP k.spaces.length a.cP):=B.cell hm 3 rfl
 have c4 : w.cell? ⟨mb,4,none⟩ = some (.int .i64 k.hand):=B.cell hm 4 rfl
 have HCM : Hid (∀ V,Below w.heap.size w V -> (V.cell? ⟨mb,0,none⟩ = some (.slice a.aS k.sheets.length a.cS) /\ V.cell? ⟨mb,1,none⟩ = some (.slice a.aF k.frames.length a.cF) /\ V.cell? ⟨mb,2,none⟩ = some (.slice a.aL k.slots.length a.cL) /\ V.cell? ⟨mb,3,none⟩ = some (.slice a.aP k.spaces.length a.cP) /\ V.cell? ⟨mb,4,none⟩ = some (.int .i64 k.hand)) /\ V.frozen? ⟨mb,0,none⟩ = false /\ V.frozen? ⟨mb,1,none⟩ = false /\ V.frozen? ⟨mb,2,none⟩ = false /\ V.frozen? ⟨mb,3,none⟩ = false /\ V.frozen? ⟨mb,4,none⟩ = false):=fun V hb=>by
  have h1:=B.below HM.out hb hml
  exact ⟨⟨B.cell h1 0 rfl,B.cell h1 1 rfl,B.cell h1 2 rfl,B.cell h1 3 rfl,B.cell h1 4 rfl⟩,B.free h1 0,B.free h1 1,B.free h1 2,B.free h1 3,B.free h1 4⟩
 unfold cellsK at HCP2
 clear hm hK hsm HCP
 go_enter Tryz.func84,Tryz.ntmps84
 go_wp2_with (go_at_call 55;refine HCP2.out.mono ?_;rintro e w1 ⟨S,hs,aS,nS,cS,aF,nF,cF,aL,nL,cL,aP,nP,cP,eS,eF,eL,eP,hsame,rfl,hkr,hb1⟩;have HF1:=hideC (fun V=>HFIN.out w1 S hs V hsame hkr hb1);rw [eS,eF,eL,eP] at HF1;obtain ⟨⟨y0,y1,y2,y3,y4⟩,f0,f1,f2,f3,f4⟩:=HCM.out w1 hb1;clear hsame hkr hb1 eS eF eL eP)
 refine bodyPost_end (v:=.tuple #[]) (by simp [results,Tryz.results84,go_sem]) rfl ?_
 exact ⟨rfl,HF1.out _ rfl⟩
end KY
namespace KY
open Go.RowKit GK KO
open FW (hideC add_below)
open KW (cellFr cellSl cellEn HasRow KAt HasK cellsK aggEn cellI memK FitK liveK OutOpen)
open KS (Lc cellLc lc0 lcAt blk SpOwn)
open KX (FilX)
def forErr (k : KM.Kn) (sp size way : Int) (ways : List Int) : Int:=if liveK k sp ≠ 0 then liveK k sp else if ¬ (1 <= size /\ size <= 8) then 3 else if way ∈ ways then 0 else 10
def OutFor (w : World) (k : KM.Kn) (e : Ending) (w' : World) : Prop:=∃ mb S hs,e = .returned (.tuple #[.pointer (some ⟨mb,0,none⟩),.int .i64 0]) /\ KM.Same k.sheets hs /\ Km w.heap.size mb 104 (tailK k) w' S (KM.withS k hs) /\ Below w.heap.size w w'
theorem open_err {w : World} {a : KAt} {k : KM.Kn} {sp : Int} (h : Calls Tryz.prog 69 #[.agg (cellsK a k),.int .i64 sp] w (OutOpen w a k (liveK k sp))) (hc : liveK k sp ≠ 0) : Calls Tryz.prog 69 #[.agg (cellsK a k),.int .i64 sp] w fun e w'=>e = .returned (.tuple #[.pointer none,.int .i64 (liveK k sp)]) /\ Below w.heap.size w w':=h.mono fun e w' ⟨hb,hh⟩=>by
 rcases hh with ⟨h0,_⟩ | ⟨_,h1⟩
 · exact absurd h0 hc
 · exact ⟨h1,hb⟩
theorem open_ok {w : World} {a : KAt} {k : KM.Kn} {sp : Int} (h : Calls Tryz.prog 69 #[.agg (cellsK a k),.int .i64 sp] w (OutOpen w a k (liveK k sp))) (hc : liveK k sp = 0) : Calls Tryz.prog 69 #[.agg (cellsK a k),.int .i64 sp] w fun e w'=>∃ mb,e = .returned (.tuple #[.pointer (some ⟨mb,0,none⟩),.int .i64 0]) /\ w.heap.size <= mb /\ w'.heap[mb]? = some (.cells (memK a k) 104 (0,0)) /\ Below w.heap.size w w':=h.mono fun e w' ⟨hb,hh⟩=>by
 rcases hh with ⟨_,mb,h1,h2,h3⟩ | ⟨h0,_⟩
 · exact ⟨mb,h1,h2,h3,hb⟩
 · exact absurd hc h0
theorem live_right {k : KM.Kn} {sp : Int} (h : liveK k sp = 0) : KM.RightK k /\ 0 <= sp /\ sp.toNat < k.spaces.length /\ (KM.spAt k.spaces sp.toNat).live = true:=by
 unfold KW.liveK at h
 by_cases c : KM.checkK k = 0
 · rw [if_pos c] at h
   by_cases d : 0 <= sp /\ sp < (k.spaces.length : Int) /\ (KM.spAt k.spaces sp.toNat).live = true
   · exact ⟨(KM.check_iff k).1 c,d.1,by omega,d.2.2⟩
   · rw [if_neg d] at h;cases h
 · rw [if_neg c] at h;exact absurd h c
set_option maxHeartbeats 8000000 in
theorem openFor_err (k : KM.Kn) (a : KAt) (sp size way : Int) (ways : List Int) (aw : Option Addr) (cw : Nat) (w : World) (hK : HasK w a k) (hF : FitK k) (hsp : M.I64 sp) (hw : HasRow cellI 1 0 w aw ways) (hwl : ways.length <= 1000000) (hc : forErr k sp size way ways ≠ 0) :
  Calls Tryz.prog 51 #[.agg (cellsK a k),.int .i64 sp,.int .i64 size,.int .i64 way,.slice aw ways.length cw] w fun e w'=>e = .returned (.tuple #[.pointer none,.int .i64 (forErr k sp size way ways)]) /\ Below w.heap.size w w':=by
 have HOP:=hideC (fun V (hV : Below w.heap.size w V)=>KW.open_any k a sp V (hK.below hV) hF hsp)
 have HCT:=hideC (fun V (hV : Below w.heap.size w V)=>KW.containsI_any ways way aw cw V (hw.below hV) hwl)
 have HB0:=hideC ((Below.refl w.heap.size w).alloc (Nat.le_refl _) (.cells (cellsK a k) 27))
 have KB:=hideC (B.new w (cellsK a k) 27)
 obtain ⟨C,hC⟩ : ∃ C,C = forErr k sp size way ways:=⟨_,rfl⟩
 rw [<- hC] at hc ⊢
 obtain ⟨P,hP⟩ : ∃ P : Ending -> World -> Prop,P = fun e w'=>e = .returned (.tuple #[.pointer none,.int .i64 C]) /\ Below w.heap.size w w':=⟨_,rfl⟩
 have HE : Hid (∀ V,Below w.heap.size w V -> P (.returned (.tuple #[.pointer none,.int .i64 C])) V):=fun V hV=>by rw [hP];exact ⟨rfl,hV⟩
 rw [<- hP]
 clear hP
 unfold forErr at hC
 by_cases c1 : liveK k sp = 0
 · rw [if_neg (fun x=>x c1)] at hC
   have HO2:=hideC (fun V hV=>open_ok (HOP.out V hV) c1)
   by_cases c2 : 1 <= size /\ size <= 8
   · rw [if_neg (fun x=>x c2)] at hC
     have c3 : way ∉ ways:=fun x=>by rw [if_pos x] at hC;exact hc hC
     rw [if_neg c3] at hC
     subst hC
     rw [decide_eq_false c3] at HCT
     obtain ⟨g1,g2⟩:=c2
     clear HOP c1 c3 hK hF hsp hw hc
     unfold cellsK at HO2 HB0 KB ⊢
     go_enter Tryz.func51,Tryz.ntmps51
     go_wp2_with (first
      | (go_at_call 69;refine (HO2.out _ HB0.out).mono ?_;rintro e w1 ⟨mb,rfl,hm1,hm2,hb1⟩;have HB1:=hideC (add_below HB0.out hb1);clear hb1 hm2)
      | (go_at_call 95;refine (HCT.out _ HB1.out).mono ?_;rintro e w2 ⟨rfl,rfl⟩))
     exact HE.out _ HB1.out
   · rw [if_pos c2] at hC
     subst hC
     clear HOP HCT c1 hK hF hsp hw hc
     unfold cellsK at HO2 HB0 KB ⊢
     rcases (show size < 1 ∨ (1 <= size /\ 8 < size) by omega) with g | ⟨g1,g2⟩
     · go_enter Tryz.func51,Tryz.ntmps51
       go_wp2_with (go_at_call 69;refine (HO2.out _ HB0.out).mono ?_;rintro e w1 ⟨mb,rfl,hm1,hm2,hb1⟩;have HB1:=hideC (add_below HB0.out hb1);clear hb1 hm2)
       exact HE.out _ HB1.out
     · have g3 : ¬ size < 1:=by omega
       go_enter Tryz.func51,Tryz.ntmps51
       go_wp2_with (go_at_call 69;refine (HO2.out _ HB0.out).mono ?_;rintro e w1 ⟨mb,rfl,hm1,hm2,hb1⟩;have HB1:=hideC (add_below HB0.out hb1);clear hb1 hm2)
       exact HE.out _ HB1.out
 · rw [if_pos c1] at hC
   have HO2:=hideC (fun V hV=>open_err (HOP.out V hV) c1)
   rw [<- hC] at HO2
   have cb : (C != 0) = true:=by simpa using hc
   clear HOP HCT c1 hK hF hsp hw hc hC
   unfold cellsK at HO2 HB0 KB ⊢
   go_enter Tryz.func51,Tryz.ntmps51
   go_wp2_with (go_at_call 69;refine (HO2.out _ HB0.out).mono ?_;rintro e w1 ⟨rfl,hb1⟩;have HB1:=hideC (add_below HB0.out hb1);clear hb1)
   exact HE.out _ HB1.out
set_option maxHeartbeats 8000000 in
theorem openFor_ok (hcp : CopyK) (k : KM.Kn) (a : KAt) (sp size way : Int) (ways : List Int) (aw : Option Addr) (cw : Nat) (w : World) (hK : HasK w a k) (hF : FitK k) (hsp : M.I64 sp) (hw : HasRow cellI 1 0 w aw ways) (hwl : ways.length <= 1000000) (hc : forErr k sp size way ways = 0) :
  Calls Tryz.prog 51 #[.agg (cellsK a k),.int .i64 sp,.int .i64 size,.int .i64 way,.slice aw ways.length cw] w (OutFor w k):=by
 have c1 : liveK k sp = 0:=by
  unfold forErr at hc
  by_cases c : liveK k sp = 0
  · exact c
  · rw [if_pos c] at hc;exact absurd hc c
 have c2 : 1 <= size /\ size <= 8:=by
  unfold forErr at hc
  rw [if_neg (fun x=>x c1)] at hc
  by_cases c : 1 <= size /\ size <= 8
  · exact c
  · rw [if_pos c] at hc;cases hc
 have c3 : way ∈ ways:=by
  unfold forErr at hc
  rw [if_neg (fun x=>x c1),if_neg (fun x=>x c2)] at hc
  by_cases c : way ∈ ways
  · exact c
  · rw [if_neg c] at hc;cases hc
 have hR:=(live_right c1).1
 have hsm:=small_right hR hF
 have HO2:=hideC (fun V (hV : Below w.heap.size w V)=>open_ok (KW.open_any k a sp V (hK.below hV) hF hsp) c1)
 have HCT:=hideC (fun V (hV : Below w.heap.size w V)=>KW.containsI_any ways way aw cw V (hw.below hV) hwl)
 rw [decide_eq_true c3] at HCT
 have HB0:=hideC ((Below.refl w.heap.size w).alloc (Nat.le_refl _) (.cells (cellsK a k) 27))
 have KB:=hideC (B.new w (cellsK a k) 27)
 have HOW : Hid (∀ V mb,Below w.heap.size w V -> w.heap.size <= mb -> V.heap[mb]? = some (.cells (memK a k) 104 (0,0)) -> Calls Tryz.prog 84 #[.pointer (some ⟨mb,0,none⟩)] V fun e w'=>e = .returned (.tuple #[]) /\ OutFor w k (.returned (.tuple #[.pointer (some ⟨mb,0,none⟩),.int .i64 0])) w'):=fun V mb hV hm1 hm2=>(own_any hcp k a mb V (hK.below hV) hsm hm2 w.heap.size hm1).mono fun e w' ⟨h1,S,hs,h2,h3,h4,h5⟩=>⟨h1,mb,S,hs,rfl,h2,h3,Kp.below hV h5 hV.size (fun b e=>by omega)⟩
 obtain ⟨P,hP⟩ : ∃ P,P = OutFor w k:=⟨_,rfl⟩
 rw [<- hP] at HOW ⊢
 obtain ⟨g1,g2⟩:=c2
 clear c1 c3 hK hF hsp hw hc hR hsm hP
 unfold cellsK at HO2 HB0 KB ⊢
 go_enter Tryz.func51,Tryz.ntmps51
 go_wp2_with (first
  | (go_at_call 69;refine (HO2.out _ HB0.out).mono ?_;rintro e w1 ⟨mb,rfl,hm1,hm2,hb1⟩;have HB1:=hideC (add_below HB0.out hb1);have HM2:=hideC hm2;have HM1 : Hid (w.heap.size <= mb):=(by simp at hm1;exact Nat.le_trans (by omega) hm1);clear hb1 hm2 hm1)
  | (go_at_call 95;refine (HCT.out _ HB1.out).mono ?_;rintro e w2 ⟨rfl,rfl⟩)
  | (go_at_call 84;refine (HOW.out _ _ HB1.out HM1.out HM2.out).mono ?_;rintro e w3 ⟨rfl,hq⟩;have HQ:=hideC hq;clear hq))
 exact HQ.out
end KY
namespace KR
open Go.RowKit GK
open FW (hideC add_below)
open KW (HasRow KAt HasK cellsK FitK FitSp HasSp cellEn kinC cellFr cellSl liveK)
open KY (forErr)
set_option maxHeartbeats 8000000 in
theorem live_any (k : KM.Kn) (a : KAt) (sp : Int) (w : World) (hK : HasK w a k) (hF : FitK k) (hsp : M.I64 sp) :
  Calls Tryz.prog 56 #[.agg (cellsK a k),.int .i64 sp] w fun e w'=>e = .returned (.int .i64 (liveK k sp)) /\ Below w.heap.size w w':=by
 obtain ⟨WA,hWA⟩ : ∃ WA,WA = w.alloc (.cells (cellsK a k) 27):=⟨_,rfl⟩
 have hb0 : Below w.heap.size w WA:=by rw [hWA];exact (Below.refl _ _).alloc (Nat.le_refl _) _
 have kb : WA.heap[w.heap.size]? = some (.cells (cellsK a k) 27 (0,0)):=by rw [hWA];exact B.new w _ _
 have KB : Hid (∀ V,Below WA.heap.size WA V -> V.heap[w.heap.size]? = some (.cells #[.slice a.aS k.sheets.length a.cS,.slice a.aF k.frames.length a.cF,.slice a.aL k.slots.length a.cL,.slice a.aP k.spaces.length a.cP,.int .i64 k.hand] 27 (0,0))):=fun V hb=>B.below kb hb (B.isLt kb)
 obtain ⟨k0,k1,k2,k3,k4⟩:=B.c5 (KB.out WA (Below.refl _ _))
 have HWA:=hideC hWA
 have HB0:=hideC hb0
 have HCK : Hid (Calls Tryz.prog 14 #[.agg (cellsK a k)] WA fun e w'=>e = .returned (.int .i64 (KM.checkK k)) /\ Below WA.heap.size WA w'):=by
  have:=check_any k a WA (hK.below hb0) hF
  rw [KM.check_same] at this
  exact this
 have hnp : k.spaces.length <= 140737488351232:=hF.np
 have HWI:=hideC (fun V=>AW.within_any sp 0 ((k.spaces.length : Int) - 1) V)
 have HSP : Hid (∀ V i,Below WA.heap.size WA V -> i < k.spaces.length -> ∃ pb po,a.aP = some ⟨pb,po,none⟩ /\ V.cell? ⟨pb,po + i * 3,none⟩ = some (.bool (KM.spAt k.spaces i).live)):=fun V i hV hi=>by
  obtain ⟨pb,po,e1,e2,e3⟩:=(hK.spaces.below (hb0.trans (hV.mono hb0.size))) (by omega)
  obtain ⟨va,ap,cp,c0,_⟩:=e3 i hi
  exact ⟨pb,po,e1,c0⟩
 unfold KW.liveK
 obtain ⟨C,hC⟩ : ∃ C,C = KM.checkK k:=⟨_,rfl⟩
 rw [<- hC] at HCK ⊢
 unfold cellsK at HCK HWA ⊢
 clear hK hF hb0 kb hWA hC
 by_cases c : C = 0
 · rw [if_pos c]
   subst c
   by_cases d : 0 <= sp /\ sp <= (k.spaces.length : Int) - 1
   · rw [decide_eq_true d] at HWI
     obtain ⟨j,rfl⟩ : ∃ j : Nat,sp = (j : Int):=⟨sp.toNat,by omega⟩
     rw [Int.toNat_natCast]
     have hj : j < k.spaces.length:=by omega
     have hji : (j : Int) < (k.spaces.length : Int):=by omega
     obtain ⟨lv,hlv⟩ : ∃ lv,lv = (KM.spAt k.spaces j).live:=⟨_,rfl⟩
     have HSJ : Hid (∀ V,Below WA.heap.size WA V -> ∃ pb po,a.aP = some ⟨pb,po,none⟩ /\ V.cell? ⟨pb,po + j * 3,none⟩ = some (.bool lv)):=fun V hV=>by rw [hlv];exact HSP.out V j hV hj
     rw [<- hlv]
     have HJJ:=hideC hj
     have HLI:=hideC hji
     clear hlv HSP d hj hsp
     have hif : (if 0 <= (j : Int) /\ (j : Int) < (k.spaces.length : Int) /\ lv = true then (0 : Int) else 6) = if lv then 0 else 6:=by
      cases lv <;> simp;omega
     rw [hif]
     clear hif hji
     go_enter Tryz.func56,Tryz.ntmps56
     go_upto_region 1 with fail
     rw [<- HWA.out]
     go_upto_region 2 with (go_at_call 14;refine HCK.out.mono ?_;rintro e w1 ⟨rfl,hb1⟩;have HB1:=hideC hb1;obtain ⟨pb,po,hao,c0⟩:=HSJ.out _ hb1;have hq:=KB.out _ hb1;rw [hao] at hq;obtain ⟨k0,k1,k2,k3,k4⟩:=B.c5 hq;clear hb1 hq)
     have hji:=HLI.out
     have hjj:=HJJ.out
     clear hao
     cases lv with
     | true =>
      go_wp2_with (go_at_call 44;refine (HWI.out _).mono ?_;rintro e w2 ⟨rfl,rfl⟩)
      go_ret
      exact ⟨rfl,HB0.out.trans (HB1.out.mono HB0.out.size)⟩
     | false =>
      go_wp2_with (go_at_call 44;refine (HWI.out _).mono ?_;rintro e w2 ⟨rfl,rfl⟩)
      go_ret
      exact ⟨rfl,HB0.out.trans (HB1.out.mono HB0.out.size)⟩
   · rw [decide_eq_false d] at HWI
     rw [if_neg (fun g=>d ⟨g.1,by omega⟩)]
     clear HSP d
     go_enter Tryz.func56,Tryz.ntmps56
     go_upto_region 1 with fail
     rw [<- HWA.out]
     go_wp2_with (first | (go_at_call 14;refine HCK.out.mono ?_;rintro e w1 ⟨rfl,hb1⟩;have HB1:=hideC hb1;obtain ⟨k0,k1,k2,k3,k4⟩:=B.c5 (KB.out _ hb1);clear hb1) | (go_at_call 44;refine (HWI.out _).mono ?_;rintro e w2 ⟨rfl,rfl⟩))
     go_ret
     exact ⟨rfl,HB0.out.trans (HB1.out.mono HB0.out.size)⟩
 · rw [if_neg c]
   have cb : (C == 0) = false:=by simpa using c
   clear HSP HWI
   go_enter Tryz.func56,Tryz.ntmps56
   go_upto_region 1 with fail
   rw [<- HWA.out]
   go_wp2_with (go_at_call 14;refine HCK.out.mono ?_;rintro e w1 ⟨rfl,hb1⟩;have HB1:=hideC hb1;clear hb1)
   go_ret
   exact ⟨rfl,HB0.out.trans (HB1.out.mono HB0.out.size)⟩
set_option maxHeartbeats 8000000 in
theorem reachError_any (k : KM.Kn) (a : KAt) (sp n way : Int) (w : World) (hK : HasK w a k) (hF : FitK k) (hsp : M.I64 sp) :
  Calls Tryz.prog 19 #[.agg (cellsK a k),.int .i64 sp,.int .i64 n,.int .i64 way] w fun e w'=>e = .returned (.int .i64 (forErr k sp n way [0,1,2])) /\ Below w.heap.size w w':=by
 obtain ⟨WA,hWA⟩ : ∃ WA,WA = w.alloc (.cells (cellsK a k) 27):=⟨_,rfl⟩
 have hb0 : Below w.heap.size w WA:=by rw [hWA];exact (Below.refl _ _).alloc (Nat.le_refl _) _
 have kb : WA.heap[w.heap.size]? = some (.cells (cellsK a k) 27 (0,0)):=by rw [hWA];exact B.new w _ _
 have KB : Hid (∀ V,Below WA.heap.size WA V -> V.heap[w.heap.size]? = some (.cells #[.slice a.aS k.sheets.length a.cS,.slice a.aF k.frames.length a.cF,.slice a.aL k.slots.length a.cL,.slice a.aP k.spaces.length a.cP,.int .i64 k.hand] 27 (0,0))):=fun V hb=>B.below kb hb (B.isLt kb)
 obtain ⟨k0,k1,k2,k3,k4⟩:=B.c5 (KB.out WA (Below.refl _ _))
 have HWA:=hideC hWA
 have HB0:=hideC hb0
 have HLV:=hideC (live_any k a sp WA (hK.below hb0) hF hsp)
 have HW1:=hideC (fun V=>AW.within_any n 1 8 V)
 have HW2:=hideC (fun V=>AW.within_any way 0 2 V)
 unfold KY.forErr
 obtain ⟨C,hC⟩ : ∃ C,C = liveK k sp:=⟨_,rfl⟩
 rw [<- hC] at HLV ⊢
 unfold cellsK at HLV HWA ⊢
 clear hK hF hb0 kb hWA hC hsp
 by_cases c : C = 0
 · rw [if_neg (fun g=>g c)]
   subst c
   by_cases d : 1 <= n /\ n <= 8
   · rw [if_neg (fun g=>g d)]
     rw [decide_eq_true d] at HW1
     by_cases e : 0 <= way /\ way <= 2
     · rw [decide_eq_true e] at HW2
       rw [if_pos (by simp;omega)]
       go_enter Tryz.func19,Tryz.ntmps19
       go_upto_region 1 with fail
       rw [<- HWA.out]
       go_wp2_with (first
        | (go_at_call 56;refine HLV.out.mono ?_;rintro e w1 ⟨rfl,hb1⟩;have HB1:=hideC hb1;clear hb1)
        | (have _:=FIRST;go_at_call 44;refine (HW2.out _).mono ?_;rintro e w3 ⟨rfl,rfl⟩)
        | (go_at_call 44;refine (HW1.out _).mono ?_;rintro e w2 ⟨rfl,rfl⟩;have FIRST:=trivial))
       go_ret
       exact ⟨rfl,HB0.out.trans (HB1.out.mono HB0.out.size)⟩
     · rw [decide_eq_false e] at HW2
       rw [if_neg (by simp;omega)]
       go_enter Tryz.func19,Tryz.ntmps19
       go_upto_region 1 with fail
       rw [<- HWA.out]
       go_wp2_with (first
        | (go_at_call 56;refine HLV.out.mono ?_;rintro e w1 ⟨rfl,hb1⟩;have HB1:=hideC hb1;clear hb1)
        | (have _:=FIRST;go_at_call 44;refine (HW2.out _).mono ?_;rintro e w3 ⟨rfl,rfl⟩)
        | (go_at_call 44;refine (HW1.out _).mono ?_;rintro e w2 ⟨rfl,rfl⟩;have FIRST:=trivial))
       go_ret
       exact ⟨rfl,HB0.out.trans (HB1.out.mono HB0.out.size)⟩
   · rw [if_pos d]
     rw [decide_eq_false d] at HW1
     go_enter Tryz.func19,Tryz.ntmps19
     go_upto_region 1 with fail
     rw [<- HWA.out]
     go_wp2_with (first
      | (go_at_call 56;refine HLV.out.mono ?_;rintro e w1 ⟨rfl,hb1⟩;have HB1:=hideC hb1;clear hb1)
      | (have _:=FIRST;go_at_call 44;refine (HW2.out _).mono ?_;rintro e w3 ⟨rfl,rfl⟩)
      | (go_at_call 44;refine (HW1.out _).mono ?_;rintro e w2 ⟨rfl,rfl⟩;have FIRST:=trivial))
     go_ret
     exact ⟨rfl,HB0.out.trans (HB1.out.mono HB0.out.size)⟩
 · rw [if_pos c]
   have cb : (C != 0) = true:=by simpa using c
   go_enter Tryz.func19,Tryz.ntmps19
   go_upto_region 1 with fail
   rw [<- HWA.out]
   go_wp2_with (first
    | (go_at_call 56;refine HLV.out.mono ?_;rintro e w1 ⟨rfl,hb1⟩;have HB1:=hideC hb1;clear hb1)
    | (have _:=FIRST;go_at_call 44;refine (HW2.out _).mono ?_;rintro e w3 ⟨rfl,rfl⟩)
    | (go_at_call 44;refine (HW1.out _).mono ?_;rintro e w2 ⟨rfl,rfl⟩;have FIRST:=trivial))
   go_ret
   exact ⟨rfl,HB0.out.trans (HB1.out.mono HB0.out.size)⟩
end KR
end Go.Proofs.YtpgifpeohlllfaaGreat
