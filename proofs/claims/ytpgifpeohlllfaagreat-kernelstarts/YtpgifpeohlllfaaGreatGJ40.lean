import Derived.Test.YtpgifpeohlllfaaGreatGJ30
import Derived.Test.YtpgifpeohlllfaaGreatGJ38
import Derived.Test.YtpgifpeohlllfaaGreatGJ39
import Derived.Test.YtpgifpeohlllfaaGreatGJ17
import Derived.Test.YtpgifpeohlllfaaGreatGJ36
import Derived.Test.YtpgifpeohlllfaaGreatGJ37
import Derived.Test.YtpgifpeohlllfaaGreatGJ16
set_option maxHeartbeats 20000000
set_option linter.unusedVariables false
set_option maxRecDepth 100000
set_option linter.unusedSimpArgs false
namespace Go.Proofs.YtpgifpeohlllfaaGreat
namespace KZ
open Go.RowKit GK KO
open FW (hideC add_below)
open KW (cellFr cellSl cellEn HasRow KAt HasK cellsK aggEn cellI memK FitK liveK OutOpen)
open KS (Lc cellLc lc0 lcAt blk SpOwn)
open KX (FilX Held ids)
open KY (CopyK tailK forErr OutFor)
def storeA (k : KM.Kn) (sp a : Int) (d : ByteArray) : KM.Kn × (Int × Int) × Int:=if forErr k sp d.size 1 [1] ≠ 0 then (kn0,(0,0),forErr k sp d.size 1 [1]) else if (FM.faultN (KM.spAt k.spaces sp.toNat).areas a d.size 1).1 ≠ 0 then (kn0,FM.faultN (KM.spAt k.spaces sp.toNat).areas a d.size 1,0) else (KM.storeK k sp.toNat a d,(0,0),0)
theorem one_row (V : World) : HasRow cellI 1 0 (V.alloc (.cells #[.int .i64 1] 3)) (some ⟨V.heap.size,0,none⟩) [1]:=fun _=>by
 have h:=B.new V #[.int .i64 1] 3
 refine ⟨V.heap.size,0,rfl,B.isLt h,fun i hi j hj=>?_⟩
 obtain rfl : j = 0:=by omega
 have hi : i < 1:=hi
 obtain rfl : i = 0:=by omega
 exact B.cell h 0 rfl
set_option maxHeartbeats 16000000 in
theorem store_any (hcp : CopyK) (k : KM.Kn) (a : KAt) (sp ad : Int) (d : ByteArray) (w : World) (hK : HasK w a k) (hF : FitK k) (hsp : M.I64 sp) (had : M.I64 ad) :
  Calls Tryz.prog 28 #[.agg (cellsK a k),.int .i64 sp,.int .i64 ad,.string d] w (OutKn w (storeA k sp ad d).1 [.agg #[.int .i64 (storeA k sp ad d).2.1.1,.int .i64 (storeA k sp ad d).2.1.2],.int .i64 (storeA k sp ad d).2.2]):=by
 obtain ⟨Z5,hZ5⟩ : ∃ Z5 : Array Value,Z5 = #[.slice none 0 0,.slice none 0 0,.slice none 0 0,.slice none 0 0,.int .i64 0]:=⟨_,rfl⟩
 obtain ⟨WA,hWA⟩ : ∃ WA,WA = ((w.alloc (.cells (cellsK a k) 27)).alloc (.cells #[.slice none 0 0,.slice none 0 0,.slice none 0 0,.slice none 0 0,.int .i64 0] 27)).alloc (.cells #[.int .i64 0,.int .i64 0] 36):=⟨_,rfl⟩
 have hb0 : Below w.heap.size w WA:=by rw [hWA];exact (((Below.refl _ _).alloc (Nat.le_refl _) _).alloc (by simp) _).alloc (by simp;omega) _
 have kb : WA.heap[w.heap.size]? = some (.cells (cellsK a k) 27 (0,0)):=by rw [hWA];exact B.alloc (B.alloc (B.new w _ _) _) _
 have rb : WA.heap[w.heap.size + 1]? = some (.cells #[.slice none 0 0,.slice none 0 0,.slice none 0 0,.slice none 0 0,.int .i64 0] 27 (0,0)):=by
  have:=B.alloc (B.new (w.alloc (.cells (cellsK a k) 27)) #[.slice none 0 0,.slice none 0 0,.slice none 0 0,.slice none 0 0,.int .i64 0] 27) (.cells #[.int .i64 0,.int .i64 0] 36)
  rw [World.size_alloc] at this
  rw [hWA];exact this
 have fb : WA.heap[w.heap.size + 1 + 1]? = some (.cells #[.int .i64 0,.int .i64 0] 36 (0,0)):=by
  have:=B.new ((w.alloc (.cells (cellsK a k) 27)).alloc (.cells #[.slice none 0 0,.slice none 0 0,.slice none 0 0,.slice none 0 0,.int .i64 0] 27)) #[.int .i64 0,.int .i64 0] 36
  rw [World.size_alloc,World.size_alloc] at this
  rw [hWA];exact this
 have hsz : WA.heap.size = w.heap.size + 3:=by rw [hWA,World.size_alloc,World.size_alloc,World.size_alloc]
 obtain ⟨WB,hWB⟩ : ∃ WB,WB = WA.alloc (.cells #[.int .i64 1] 3):=⟨_,rfl⟩
 have hb1 : Below w.heap.size w WB:=by rw [hWB];exact hb0.alloc hb0.size _
 have hrow : HasRow cellI 1 0 WB (some ⟨WA.heap.size,0,none⟩) [1]:=by rw [hWB];exact one_row WA
 have hszB : WB.heap.size = w.heap.size + 4:=by rw [hWB,World.size_alloc,hsz]
 have RB : Hid (∀ V,Below WB.heap.size WB V -> V.heap[w.heap.size + 1]? = some (.cells #[.slice none 0 0,.slice none 0 0,.slice none 0 0,.slice none 0 0,.int .i64 0] 27 (0,0))):=fun V hb=>B.below (by rw [hWB];exact B.alloc rb _) hb (by omega)
 have FB : Hid (∀ V,Below WB.heap.size WB V -> V.heap[w.heap.size + 1 + 1]? = some (.cells #[.int .i64 0,.int .i64 0] 36 (0,0))):=fun V hb=>B.below (by rw [hWB];exact B.alloc fb _) hb (by omega)
 have k0 : WA.cell? ⟨w.heap.size,0,none⟩ = some (.slice a.aS k.sheets.length a.cS):=B.cell kb 0 rfl
 have k1 : WA.cell? ⟨w.heap.size,1,none⟩ = some (.slice a.aF k.frames.length a.cF):=B.cell kb 1 rfl
 have k2 : WA.cell? ⟨w.heap.size,2,none⟩ = some (.slice a.aL k.slots.length a.cL):=B.cell kb 2 rfl
 have k3 : WA.cell? ⟨w.heap.size,3,none⟩ = some (.slice a.aP k.spaces.length a.cP):=B.cell kb 3 rfl
 have k4 : WA.cell? ⟨w.heap.size,4,none⟩ = some (.int .i64 k.hand):=B.cell kb 4 rfl
 have HWA:=hideC hWA
 have HWB:=hideC hWB
 have HB1:=hideC hb1
 by_cases c : forErr k sp (d.size : Int) 1 [1] = 0
 · obtain ⟨hlv,hn,hwy⟩:=for_parts c
   obtain ⟨hR,hsp0,hj,hlive⟩:=KY.live_right hlv
   obtain ⟨j,hje⟩ : ∃ j : Nat,sp = (j : Int):=⟨sp.toNat,by omega⟩
   subst hje
   rw [Int.toNat_natCast] at hj hlive
   have HOP:=hideC (KY.openFor_ok hcp k a (j : Int) (d.size : Int) 1 [1] (some ⟨WA.heap.size,0,none⟩) 1 WB (hK.below hb1) hF hsp hrow (by simp) c)
   rw [show ([1] : List Int).length = 1 from rfl] at HOP
   have hne12 : w.heap.size + 1 ≠ w.heap.size + 1 + 1:=by omega
   have HLB:=hideC (show w.heap.size + 1 + 1 < WB.heap.size by omega)
   by_cases hf : (FM.faultN (KM.spAt k.spaces j).areas ad (d.size : Int) 1).1 = 0
   · obtain ⟨hf0,hal,hau,hmap⟩:=KX.fault_none hn.1 hn.2 hf
     have hm1 : KM.mapped k j (ad / 16):=by
      have:=hmap 0 (by omega) (by omega)
      rw [Int.add_zero] at this
      exact this
     have hm2 : KM.mapped k j (KM.lastPg ad (d.size : Int)):=by
      have:=hmap ((d.size : Int) - 1) (by omega) (by omega)
      unfold KM.lastPg
      rw [show ad + (d.size : Int) - 1 = ad + ((d.size : Int) - 1) by omega]
      exact this
     have RH:=KM.reach_had hR hj ad (d.size : Int) 1 hm1 hm2
     have hrk:=RH.kept.sheets
     have hcc:=hR.c
     have hnf0 : 0 < (KM.reachK k j ad (d.size : Int) 1).2.frames.length:=by rw [RH.kept.nf];omega
     have hlen2 : (KM.reachK k j ad (d.size : Int) 1).1.length <= 2:=by
      rw [(KX.st_reach k j ad (d.size : Int) 1).2.2]
      unfold KX.pgs
      split <;> omega
     have hidx : ∀ m,m < (KM.reachK k j ad (d.size : Int) 1).1.length -> (KM.reachK k j ad (d.size : Int) 1).1.getD m 0 < (KM.reachK k j ad (d.size : Int) 1).2.frames.length:=fun m hm=>by
      rw [RH.kept.nf]
      by_cases z : KM.lastPg ad (d.size : Int) = ad / 16
      · have e : (KM.reachK k j ad (d.size : Int) 1).1 = [(KM.oneK k j ad 1).1]:=by unfold KM.reachK;rw [if_pos z]
        rw [e] at hm ⊢
        have hm : m < 1:=hm
        obtain rfl : m = 0:=by omega
        exact RH.one.2
      · have e : (KM.reachK k j ad (d.size : Int) 1).1 = [(KM.oneK k j ad 1).1,(KM.twoB k j ad (d.size : Int) 1).1]:=by unfold KM.reachK;rw [if_neg z]
        rw [e] at hm ⊢
        have hm : m < 2:=hm
        rcases (show m = 0 ∨ m = 1 by omega) with rfl | rfl
        · exact RH.one.2
        · exact (RH.two z).2
     have hsz16 : ∀ m,m < (KM.reachK k j ad (d.size : Int) 1).1.length -> (KM.frAt (KM.reachK k j ad (d.size : Int) 1).2.frames ((KM.reachK k j ad (d.size : Int) 1).1.getD m 0)).data.size <= 1000:=fun m hm=>by
      have hi:=hidx m hm
      by_cases z : (KM.frAt (KM.reachK k j ad (d.size : Int) 1).2.frames ((KM.reachK k j ad (d.size : Int) 1).1.getD m 0)).refs = 0
      · have:=(RH.right.frm _ hi).zero ((RH.right.frm _ hi).nil z)
        rw [this]
        show (0 : Nat) <= 1000
        omega
      · have:=(RH.right.frm _ hi).size ((RH.right.frm _ hi).ne z)
        omega
     have hPg : KM.Pgs (KM.peekK k j) ad (d.size : Int):=⟨KM.peek_size hR hj hm1,KM.peek_size hR hj hm2⟩
     have hfit:=KM.join_fit hPg hn.1 hn.2
     have hjs:=KM.join_size hPg hn.1 hn.2
     have hjoin:=KM.reach_join hR hj ad (d.size : Int) 1 hm1 hm2
     have hjs':=hjs
     have hlL : (CL.over (KM.joinTo (KM.reachK k j ad (d.size : Int) 1).2.frames (KM.reachK k j ad (d.size : Int) 1).1 (KM.reachK k j ad (d.size : Int) 1).1.length) (ad % 16).toNat d).size = (KM.joinB (KM.peekK k j) ad (d.size : Int)).size:=by
      rw [hjoin]
      exact KM.over_size _ _ _ (by omega)
     have hpl : (KM.reachK k j ad (d.size : Int) 1).1.length * 16 = (KM.joinB (KM.peekK k j) ad (d.size : Int)).size:=by
      rw [(KX.st_reach k j ad (d.size : Int) 1).2.2]
      unfold KX.pgs
      split at hjs <;> rename_i z
      · rw [if_pos z];omega
      · rw [if_neg z];omega
     have hb32 : (KM.joinB (KM.peekK k j) ad (d.size : Int)).size <= 32:=by split at hjs <;> omega
     have HLY : Hid (∀ V,Calls Tryz.prog 65 #[.string (KM.joinTo (KM.reachK k j ad (d.size : Int) 1).2.frames (KM.reachK k j ad (d.size : Int) 1).1 (KM.reachK k j ad (d.size : Int) 1).1.length),.int .i64 (((ad % 16).toNat : Nat) : Int),.string d] V fun e w'=>e = .returned (.tuple #[.string (CL.over (KM.joinTo (KM.reachK k j ad (d.size : Int) 1).2.frames (KM.reachK k j ad (d.size : Int) 1).1 (KM.reachK k j ad (d.size : Int) 1).1.length) (ad % 16).toNat d),.int .i64 0]) /\ Below V.heap.size V w'):=fun V=>CW.lay_yes _ d (ad % 16).toNat V (by rw [hjoin];omega) (by rw [hjoin];omega)
     have hmod : ad.tmod 16 = (((ad % 16).toNat : Nat) : Int):=by
      rw [Int.tmod_eq_emod_of_nonneg (by omega)]
      omega
     have hST:=KM.store_had hR hj ad d hn.1 hn.2 hm1 hm2
     have hsk:=hST.sheets
     have hA : storeA k (j : Int) ad d = (KM.storeK k j ad d,(0,0),0):=by
      unfold storeA
      rw [if_neg (fun x=>x c),Int.toNat_natCast,if_neg (fun x=>x hf)]
     rw [hA]
     have HRE : Hid (∀ V S mb hs,KM.Same k.sheets hs -> Km WB.heap.size mb 104 (tailK k) V S (KM.withS k hs) -> Below w.heap.size w V -> V.heap[w.heap.size + 1]? = some (.cells #[.slice none 0 0,.slice none 0 0,.slice none 0 0,.slice none 0 0,.int .i64 0] 27 (0,0)) -> V.heap[w.heap.size + 1 + 1]? = some (.cells #[.int .i64 0,.int .i64 0] 36 (0,0)) -> Calls Tryz.prog 52 #[.pointer (some ⟨mb,0,none⟩),.int .i64 (j : Int),.int .i64 ad,.int .i64 (d.size : Int),.int .i64 1] V fun e w'=>∃ av nv cv,e = .returned (.tuple #[.slice av nv cv,.agg #[.int .i64 0,.int .i64 0]]) /\ (∀ V',Below w'.heap.size w' V' -> Calls Tryz.prog 64 #[.pointer (some ⟨mb,0,none⟩),.slice av nv cv] V' fun e w''=>e = .returned (.string (KM.joinTo (KM.reachK k j ad (d.size : Int) 1).2.frames (KM.reachK k j ad (d.size : Int) 1).1 (KM.reachK k j ad (d.size : Int) 1).1.length)) /\ w'' = V') /\ (∀ V',Below w'.heap.size w' V' -> Calls Tryz.prog 66 #[.pointer (some ⟨mb,0,none⟩),.slice av nv cv,.string (CL.over (KM.joinTo (KM.reachK k j ad (d.size : Int) 1).2.frames (KM.reachK k j ad (d.size : Int) 1).1 (KM.reachK k j ad (d.size : Int) 1).1.length) (ad % 16).toNat d)] V' fun e w''=>∃ aS nS cS aF nF cF aL nL cL aP nP cP hd,e = .returned (.tuple #[]) /\ w''.cell? ⟨mb,0,none⟩ = some (.slice aS nS cS) /\ w''.cell? ⟨mb,1,none⟩ = some (.slice aF nF cF) /\ w''.cell? ⟨mb,2,none⟩ = some (.slice aL nL cL) /\ w''.cell? ⟨mb,3,none⟩ = some (.slice aP nP cP) /\ w''.cell? ⟨mb,4,none⟩ = some (.int .i64 hd) /\ w''.heap[w.heap.size + 1]? = some (.cells #[.slice none 0 0,.slice none 0 0,.slice none 0 0,.slice none 0 0,.int .i64 0] 27 (0,0)) /\ w''.heap[w.heap.size + 1 + 1]? = some (.cells #[.int .i64 0,.int .i64 0] 36 (0,0)) /\ (∀ U,Kp (fun b=>b = w.heap.size + 1 ∨ b = w.heap.size + 1 + 1) w'' U -> OutKn w (KM.storeK k j ad d) [.agg #[.int .i64 0,.int .i64 0],.int .i64 0] (.returned (.tuple #[.agg #[.slice aS nS cS,.slice aF nF cF,.slice aL nL cL,.slice aP nP cP,.int .i64 hd],.agg #[.int .i64 0,.int .i64 0],.int .i64 0])) U))):=fun V S mb hs hsame hV hbV hrV hfV=>by
      have hR':=hR.withS hsame
      refine (KX.reach_fine (KM.withS k hs) S V j ad (d.size : Int) 1 hV hR' hj had hn hf (KY.fil_tail hR.rise hsame)).mono fun e w' ⟨av,cv,S',e1,hheld,hk',hc'⟩=>?_
      rw [KM.reach_withS hR hj hm1 hsame] at hk' e1 hheld
      have hlow : ∀ b,b < WB.heap.size -> S.lab b = .no:=fun b hb=>Classical.not_not.1 fun x=>by have:=(hV.bnd b x).1;omega
      have hbd:=HLB.out
      have hbl : Below w.heap.size w w':=Kp.below hbV hc'.kp hbV.size (fun b hb=>by have:=(hV.bnd b hb).1;omega)
      have hl1 : w.heap.size + 1 < w'.heap.size:=Nat.lt_of_lt_of_le (B.isLt hrV) hc'.kp.size
      have hl2 : w.heap.size + 1 + 1 < w'.heap.size:=Nat.lt_of_lt_of_le (B.isLt hfV) hc'.kp.size
      have n1 : S'.lab (w.heap.size + 1) = .no:=hc'.no _ (B.isLt hrV) (hlow _ (by omega))
      have n2 : S'.lab (w.heap.size + 1 + 1) = .no:=hc'.no _ (B.isLt hfV) (hlow _ hbd)
      have hr':=hc'.keep hrV (hlow _ (by omega))
      have hf':=hc'.keep hfV (hlow _ hbd)
      refine ⟨av,_,cv,e1,fun V' hb'=>?_,fun V' hb'=>?_⟩
      · exact KX.join_any (KM.withS (KM.reachK k j ad (d.size : Int) 1).2 hs) S' V' (KM.reachK k j ad (d.size : Int) 1).1 av cv (hk'.below hb') (hheld.ch (Ch.below hb')) (fun m hm=>hidx m hm) hlen2 (fun m hm=>hsz16 m hm) hnf0
      · refine (KX.part_any (KM.withS (KM.reachK k j ad (d.size : Int) 1).2 hs) S' V' (KM.reachK k j ad (d.size : Int) 1).1 (CL.over (KM.joinTo (KM.reachK k j ad (d.size : Int) 1).2.frames (KM.reachK k j ad (d.size : Int) 1).1 (KM.reachK k j ad (d.size : Int) 1).1.length) (ad % 16).toNat d) av cv (hk'.below hb') (hheld.ch (Ch.below hb')) (fun m hm=>hidx m hm) hlen2 (by rw [hlL,hpl];exact Nat.le_refl _) (by rw [hlL];omega) hnf0).mono fun e w'' ⟨e2,hk2,hc2⟩=>?_
        rw [KM.part_withS] at hk2
        have hk3 : Km WB.heap.size mb 104 (tailK k) w'' S' (KM.withS (KM.storeK k j ad d) hs):=hk2
        clear hk2
        obtain ⟨aS,cS,eS,_⟩:=row_form hk3.sheets
        obtain ⟨aF,cF,eF,_⟩:=row_form hk3.frames
        obtain ⟨aL,cL,eL,_⟩:=row_form hk3.slots
        obtain ⟨aP,cP,eP,_⟩:=row_form hk3.spaces
        have c0:=hk3.c0
        have c1:=hk3.c1
        have c2:=hk3.c2
        have c3:=hk3.c3
        rw [eS] at c0
        rw [eF] at c1
        rw [eL] at c2
        rw [eP] at c3
        have hbl2 : Below w.heap.size w w'':=Kp.below (hbl.trans (hb'.mono hbl.size)) hc2.kp (Nat.le_trans hbl.size hb'.size) (fun b hb=>by have:=(hk'.bnd b hb).1;have:=hb1.size;omega)
        refine ⟨aS,_,cS,aF,_,cF,aL,_,cL,aP,_,cP,_,e2,c0,c1,c2,c3,hk3.c4,hc2.keep (B.below hr' hb' hl1) n1,hc2.keep (B.below hf' hb' hl2) n2,fun U hU=>⟨S',hs,by rw [hsk];exact hsame,by rw [eS,eF,eL,eP];rfl,?_,?_⟩⟩
        · exact (hk3.toKr.kp hU (fun b hb e => hb (by rcases e with e | e; · rw [e]; exact n1
                                                      · rw [e];exact n2))).mono (by have:=hb1.size;omega)
        · exact Kp.below hbl2 hU hbl2.size (fun b e=>by rcases e with e | e <;> omega)
     obtain ⟨P,hP⟩ : ∃ P,P = OutKn w (KM.storeK k j ad d) [.agg #[.int .i64 0,.int .i64 0],.int .i64 0]:=⟨_,rfl⟩
     rw [<- hP] at HRE
     obtain ⟨LD,hLD⟩ : ∃ LD,LD = (CL.over (KM.joinTo (KM.reachK k j ad (d.size : Int) 1).2.frames (KM.reachK k j ad (d.size : Int) 1).1 (KM.reachK k j ad (d.size : Int) 1).1.length) (ad % 16).toNat d):=⟨_,rfl⟩
     rw [<- hLD] at HRE HLY
     obtain ⟨JD,hJD⟩ : ∃ JD,JD = (KM.joinTo (KM.reachK k j ad (d.size : Int) 1).2.frames (KM.reachK k j ad (d.size : Int) 1).1 (KM.reachK k j ad (d.size : Int) 1).1.length):=⟨_,rfl⟩
     rw [<- hJD] at HRE HLY
     obtain ⟨md,hmd⟩ : ∃ md,md = (ad % 16).toNat:=⟨_,rfl⟩
     rw [<- hmd] at HLY hmod
     show Calls _ _ _ _ (OutKn w (KM.storeK k j ad d) [.agg #[.int .i64 0,.int .i64 0],.int .i64 0])
     rw [<- hP]
     have HOP2 : Hid (Calls Tryz.prog 51 #[.agg (cellsK a k),.int .i64 (j : Int),.int .i64 (d.size : Int),.int .i64 1,.slice (some ⟨WA.heap.size,0,none⟩) 1 1] WB fun e w'=>∃ mb S hs,e = .returned (.tuple #[.pointer (some ⟨mb,0,none⟩),.int .i64 0]) /\ KM.Same k.sheets hs /\ Km WB.heap.size mb 104 (tailK k) w' S (KM.withS k hs) /\ Below WB.heap.size WB w'):=HOP.out
     unfold cellsK at HOP2 HWA ⊢
     clear hK hF hsp had hA c hP hWA hWB hb0 hb1 kb rb fb hrow hZ5 hsz hszB HOP hf hf0 hal hau hmap hm1 hm2 hrk hR hlv hn hwy hj hlive hsp0 RH hcc hnf0 hlen2 hidx hsz16 hPg hfit hjs hjs' hjoin hlL hpl hb32 hST hsk hLD hJD hmd
     go_enter Tryz.func28,Tryz.ntmps28
     go_upto_region 1 with fail
     rw [<- HWA.out]
     go_upto_region 7 with (first
      | (go_at_call 51;rw [<- HWB.out];refine HOP2.out.mono ?_;rintro e w1 ⟨mb,S1,hs1,rfl,hs2,hk1,hb1⟩;have HB2:=hideC (HB1.out.trans (hb1.mono HB1.out.size));have R1:=hideC (RB.out _ hb1);have F1:=hideC (FB.out _ hb1);have HK1:=hideC hk1;have HS1:=hideC hs2;clear hb1 hk1 hs2)
      | (go_at_call 52;refine (HRE.out _ _ _ _ HS1.out HK1.out HB2.out R1.out F1.out).mono ?_;rintro e w2 ⟨av,nv,cv,rfl,hjo,hpa⟩;have HJO:=hideC hjo;have HPA:=hideC hpa;clear hjo hpa;have X2:=hideC (B.new w2 #[.int .i64 0,.int .i64 0] 36);obtain ⟨x0,x1⟩:=B.c2 X2.out))
     have HA:=hideC ((Below.refl w2.heap.size w2).alloc (Nat.le_refl _) (.cells #[.int .i64 0,.int .i64 0] 36))
     obtain ⟨W3,hW3⟩ : ∃ W3,W3 = w2.alloc (.cells #[.int .i64 0,.int .i64 0] 36):=⟨_,rfl⟩
     rw [<- hW3] at HA ⊢
     clear hW3 x0 x1 X2
     go_wp2_with (first
      | (go_at_call 64;refine (HJO.out _ HA.out).mono ?_;rintro e w4 ⟨rfl,rfl⟩)
      | (go_at_call 65;refine (HLY.out _).mono ?_;rintro e w5 ⟨rfl,hb5⟩;have HB5:=hideC (HA.out.trans (hb5.mono HA.out.size));clear hb5)
      | (go_at_call 66;refine (HPA.out _ HB5.out).mono ?_;rintro e w6 ⟨aS,nS,cS,aF,nF,cF,aL,nL,cL,aP,nP,cP,hd,rfl,p0,p1,p2,p3,p4,r6,f6,hfin⟩;have R6:=hideC r6;have F6:=hideC f6;have HFI:=hideC hfin;clear r6 f6 hfin;obtain ⟨y0,y1,y2,y3,y4⟩:=B.c5 R6.out;obtain ⟨z0,z1⟩:=B.c2 F6.out;have f0:=B.free R6.out 0;have f1:=B.free R6.out 1;have f2:=B.free R6.out 2;have f3:=B.free R6.out 3;have f4:=B.free R6.out 4;have g0:=B.free F6.out 0;have g1:=B.free F6.out 1))
     have h7:=hideC (fun V=>ret7 R6.out F6.out hne12 (.slice aS nS cS) (.slice aF nF cF) (.slice aL nL cL) (.slice aP nP cP) (.int .i64 hd) (.int .i64 0) (.int .i64 0) (V:=V))
     obtain ⟨q1,q2,q3⟩:=h7.out _ rfl
     obtain ⟨y0,y1,y2,y3,y4⟩:=B.c5 q1
     obtain ⟨z0,z1⟩:=B.c2 q2
     refine bodyPost_ret (v:=.tuple #[.agg #[.slice aS nS cS,.slice aF nF cF,.slice aL nL cL,.slice aP nP cP,.int .i64 hd],.agg #[.int .i64 0,.int .i64 0],.int .i64 0]) (by simp [results,Tryz.results28,go_sem,y0,y1,y2,y3,y4,z0,z1]) rfl ?_
     exact HFI.out _ q3
   · have hA : storeA k (j : Int) ad d = (kn0,FM.faultN (KM.spAt k.spaces j).areas ad (d.size : Int) 1,0):=by
      unfold storeA
      rw [if_neg (fun x=>x c),Int.toNat_natCast,if_pos hf]
     rw [hA]
     obtain ⟨FA,hFA⟩ : ∃ FA,FA = FM.faultN (KM.spAt k.spaces j).areas ad (d.size : Int) 1:=⟨_,rfl⟩
     have HRE : Hid (∀ V S mb hs,KM.Same k.sheets hs -> Km WB.heap.size mb 104 (tailK k) V S (KM.withS k hs) -> Calls Tryz.prog 52 #[.pointer (some ⟨mb,0,none⟩),.int .i64 (j : Int),.int .i64 ad,.int .i64 (d.size : Int),.int .i64 1] V fun e w'=>e = .returned (.tuple #[.slice none 0 0,.agg #[.int .i64 FA.1,.int .i64 FA.2]]) /\ Below V.heap.size V w'):=fun V S mb hs hsame hV=>by
      rw [hFA]
      exact KX.reach_fault (KM.withS k hs) S V j ad (d.size : Int) 1 hV (hR.withS hsame) hj had hn hf
     rw [<- hFA] at hf ⊢
     have hfb : (FA.1 != 0) = true:=by simpa using hf
     have HOP2 : Hid (Calls Tryz.prog 51 #[.agg (cellsK a k),.int .i64 (j : Int),.int .i64 (d.size : Int),.int .i64 1,.slice (some ⟨WA.heap.size,0,none⟩) 1 1] WB fun e w'=>∃ mb S hs,e = .returned (.tuple #[.pointer (some ⟨mb,0,none⟩),.int .i64 0]) /\ KM.Same k.sheets hs /\ Km WB.heap.size mb 104 (tailK k) w' S (KM.withS k hs) /\ Below WB.heap.size WB w'):=HOP.out
     obtain ⟨f0,f1⟩:=FA
     simp only at HRE hfb ⊢
     have HFIN : Hid (∀ V,Below w.heap.size w V -> OutKn w kn0 [.agg #[.int .i64 f0,.int .i64 f1],.int .i64 0] (.returned (.tuple #[.agg #[.slice none 0 0,.slice none 0 0,.slice none 0 0,.slice none 0 0,.int .i64 0],.agg #[.int .i64 f0,.int .i64 f1],.int .i64 0])) V):=fun V hV=>out_none _ hV
     obtain ⟨P,hP⟩ : ∃ P,P = OutKn w kn0 [.agg #[.int .i64 f0,.int .i64 f1],.int .i64 0]:=⟨_,rfl⟩
     rw [<- hP] at HFIN ⊢
     unfold cellsK at HOP2 HWA ⊢
     clear hK hF hsp had hA c hP hWA hWB hb0 hb1 kb rb fb hrow hZ5 hsz hszB HOP hf hR hlv hn hwy hj hlive hsp0 hFA
     go_enter Tryz.func28,Tryz.ntmps28
     go_upto_region 1 with fail
     rw [<- HWA.out]
     go_upto_region 6 with (first
      | (go_at_call 51;rw [<- HWB.out];refine HOP2.out.mono ?_;rintro e w1 ⟨mb,S1,hs1,rfl,hs2,hk1,hb1⟩;have HB2:=hideC (HB1.out.trans (hb1.mono HB1.out.size));have R1:=hideC (RB.out _ hb1);have F1:=hideC (FB.out _ hb1);have HK1:=hideC hk1;have HS1:=hideC hs2;clear hb1 hk1 hs2)
      | (go_at_call 52;refine (HRE.out _ _ _ _ HS1.out HK1.out).mono ?_;rintro e w2 ⟨rfl,hb2⟩;have R2:=hideC (B.below R1.out hb2 (B.isLt R1.out));have F2:=hideC (B.below F1.out hb2 (B.isLt F1.out));have HB3:=hideC (HB2.out.trans (hb2.mono HB2.out.size));have X2:=hideC (B.new w2 #[.int .i64 f0,.int .i64 f1] 36);obtain ⟨x0,x1⟩:=B.c2 X2.out;clear hb2))
     have R3:=hideC (B.alloc R2.out (.cells #[.int .i64 f0,.int .i64 f1] 36))
     have F3:=hideC (B.alloc F2.out (.cells #[.int .i64 f0,.int .i64 f1] 36))
     have HB4:=hideC (HB3.out.alloc HB3.out.size (.cells #[.int .i64 f0,.int .i64 f1] 36))
     have hl2:=B.isLt R2.out
     have hl3:=B.isLt F2.out
     have hne1 : ¬ w2.heap.size = w.heap.size + 1:=by omega
     have hne2 : ¬ w2.heap.size = w.heap.size + 1 + 1:=by omega
     obtain ⟨W3,hW3⟩ : ∃ W3,W3 = w2.alloc (.cells #[.int .i64 f0,.int .i64 f1] 36):=⟨_,rfl⟩
     rw [<- hW3] at R3 F3 HB4 x0 x1 ⊢
     clear hW3
     obtain ⟨y0,y1,y2,y3,y4⟩:=B.c5 R3.out
     obtain ⟨z0,z1⟩:=B.c2 F3.out
     have e0:=B.free R3.out 0
     have e1:=B.free R3.out 1
     have e2:=B.free R3.out 2
     have e3:=B.free R3.out 3
     have e4:=B.free R3.out 4
     have g0:=B.free F3.out 0
     have g1:=B.free F3.out 1
     have h7:=hideC (fun V=>ret7 R3.out F3.out hne12 (.slice none 0 0) (.slice none 0 0) (.slice none 0 0) (.slice none 0 0) (.int .i64 0) (.int .i64 f0) (.int .i64 f1) (V:=V))
     go_region
     go_wp2
     obtain ⟨q1,q2,q3⟩:=h7.out _ rfl
     obtain ⟨y0,y1,y2,y3,y4⟩:=B.c5 q1
     obtain ⟨z0,z1⟩:=B.c2 q2
     refine bodyPost_ret (v:=.tuple #[.agg #[.slice none 0 0,.slice none 0 0,.slice none 0 0,.slice none 0 0,.int .i64 0],.agg #[.int .i64 f0,.int .i64 f1],.int .i64 0]) (by simp [results,Tryz.results28,go_sem,y0,y1,y2,y3,y4,z0,z1]) rfl ?_
     exact HFIN.out _ (Kp.below HB4.out (q3.trans (Kp.drew _ _) (fun _ _ g=>g)) HB4.out.size (fun b e=>by rcases e with e | e <;> omega))
 · have hA : storeA k sp ad d = (kn0,(0,0),forErr k sp (d.size : Int) 1 [1]):=by unfold storeA;rw [if_pos c]
   rw [hA]
   have HOP:=hideC (KY.openFor_err k a sp (d.size : Int) 1 [1] (some ⟨WA.heap.size,0,none⟩) 1 WB (hK.below hb1) hF hsp hrow (by simp) c)
   rw [show ([1] : List Int).length = 1 from rfl] at HOP
   obtain ⟨C,hC⟩ : ∃ C,C = forErr k sp (d.size : Int) 1 [1]:=⟨_,rfl⟩
   rw [<- hC] at HOP c ⊢
   have cb : (C != 0) = true:=by simpa using c
   have HFIN : Hid (∀ V,Below w.heap.size w V -> OutKn w kn0 [.agg #[.int .i64 0,.int .i64 0],.int .i64 C] (.returned (.tuple #[.agg #[.slice none 0 0,.slice none 0 0,.slice none 0 0,.slice none 0 0,.int .i64 0],.agg #[.int .i64 0,.int .i64 0],.int .i64 C])) V):=fun V hV=>out_none _ hV
   obtain ⟨P,hP⟩ : ∃ P,P = OutKn w kn0 [.agg #[.int .i64 0,.int .i64 0],.int .i64 C]:=⟨_,rfl⟩
   rw [<- hP] at HFIN ⊢
   unfold cellsK at HOP HWA ⊢
   clear hK hF hsp had hA hC c hP hWA hWB hb0 hb1 kb rb fb hrow hZ5 hsz hszB
   go_enter Tryz.func28,Tryz.ntmps28
   go_upto_region 1 with fail
   rw [<- HWA.out]
   go_upto_region 3 with (go_at_call 51;rw [<- HWB.out];refine HOP.out.mono ?_;rintro e w1 ⟨rfl,hb1⟩;have HB2:=hideC (HB1.out.trans (hb1.mono HB1.out.size));have R1:=hideC (RB.out _ hb1);have F1:=hideC (FB.out _ hb1);clear hb1)
   obtain ⟨y0,y1,y2,y3,y4⟩:=B.c5 R1.out
   obtain ⟨z0,z1⟩:=B.c2 F1.out
   have f0:=B.free R1.out 0
   have f1:=B.free R1.out 1
   have f2:=B.free R1.out 2
   have f3:=B.free R1.out 3
   have f4:=B.free R1.out 4
   have g0:=B.free F1.out 0
   have g1:=B.free F1.out 1
   have h7:=hideC (fun V=>ret7 R1.out F1.out (by omega) (.slice none 0 0) (.slice none 0 0) (.slice none 0 0) (.slice none 0 0) (.int .i64 0) (.int .i64 0) (.int .i64 0) (V:=V))
   go_wp2
   obtain ⟨q1,q2,q3⟩:=h7.out _ rfl
   obtain ⟨y0,y1,y2,y3,y4⟩:=B.c5 q1
   obtain ⟨z0,z1⟩:=B.c2 q2
   refine bodyPost_ret (v:=.tuple #[.agg #[.slice none 0 0,.slice none 0 0,.slice none 0 0,.slice none 0 0,.int .i64 0],.agg #[.int .i64 0,.int .i64 0],.int .i64 C]) (by simp [results,Tryz.results28,go_sem,y0,y1,y2,y3,y4,z0,z1]) rfl ?_
   exact HFIN.out _ (Kp.below HB2.out q3 HB2.out.size (fun b e=>by rcases e with e | e <;> omega))
end KZ
namespace KL
open Go.RowKit GK KO
open KW (KAt HasK cellsK FitK liveK peekR)
open KZ (loadA storeA kn0)
open KY (forErr)
structure Fine (k : KM.Kn) (sp a n : Int) (j : Nat) : Prop where
 sp : sp = (j : Int)
 lt : j < k.spaces.length
 live : (KM.spAt k.spaces j).live = true
 right : KM.RightK k
 size : 1 <= n /\ n <= 8
 one : KM.mapped k j (a / 16)
 two : KM.mapped k j (KM.lastPg a n)
 lo : 16 <= a
 hi : a + n <= 4096
end KL
namespace KL
open Go.RowKit GK KO
open FW (hideC add_below)
open KW (KAt HasK cellsK FitK)
open KY (OutC CopyK)
open KZ (newA newK kn0 n1)
theorem fit_new {l : List AM.Ar} {hs : List LM.Sh} {en nf ns : Int} (hc : LM.checkL l hs en = 0) (h64 : nf <= 64) (h512 : ns <= 512) {hs1 : List LM.Sh} (s : KM.Same (newK l hs nf ns).sheets hs1) : FitK (KM.withS (newK l hs nf ns) hs1):=by
 obtain ⟨r1,r2,r3⟩:=KZ.check_rise hc
 have hl : hs1.length = hs.length:=by have:=congrArg List.length s;simpa [newK] using this
 have htb:=KW.total_bd l
 have hr : LM.riseB hs1 = true:=by rw [KM.same_rise s];exact r2
 refine ⟨⟨by show M.Short hs1.length;unfold M.Short;omega,fun k hk=>KG.sheet_fit (LM.riseTo_ok hs1 hs1.length hr k hk).1⟩,?_,fun i hi=>?_,?_,fun i hi=>?_,?_,fun i hi=>?_,⟨by show -9223372036854775808 <= (0 : Int);omega,by show (0 : Int) <= 9223372036854775807;omega⟩⟩
 · show M.Short (List.replicate nf.toNat KM.fr0).length
   rw [List.length_replicate];unfold M.Short;omega
 · have hi : i < (List.replicate nf.toNat KM.fr0).length:=hi
   rw [List.length_replicate] at hi
   show M.Short ((List.replicate nf.toNat KM.fr0).getD i KM.fr0).data.size /\ M.I64 ((List.replicate nf.toNat KM.fr0).getD i KM.fr0).refs
   rw [KZ.rep_at _ _ _ _ hi]
   exact ⟨by unfold M.Short;decide,⟨by decide,by decide⟩⟩
 · show M.Short (List.replicate ns.toNat KM.sl0).length
   rw [List.length_replicate];unfold M.Short;omega
 · have hi : i < (List.replicate ns.toNat KM.sl0).length:=hi
   rw [List.length_replicate] at hi
   show M.Short ((List.replicate ns.toNat KM.sl0).getD i KM.sl0).data.size /\ M.I64 ((List.replicate ns.toNat KM.sl0).getD i KM.sl0).refs
   rw [KZ.rep_at _ _ _ _ hi]
   exact ⟨by unfold M.Short;decide,⟨by decide,by decide⟩⟩
 · show M.Short 1
   unfold M.Short;decide
 · have hi : i < 1:=hi
   obtain rfl : i = 0:=by omega
   exact ⟨AM.fits_of_check _ r1,by show M.Short 0;unfold M.Short;decide,fun n hn=>absurd hn (Nat.not_lt_zero _)⟩
theorem fit_none {hs1 : List LM.Sh} (s : KM.Same kn0.sheets hs1) : FitK (KM.withS kn0 hs1):=by
 obtain rfl : hs1 = []:=by simpa [KM.Same,kn0] using s
 refine ⟨⟨by show M.Short 0;unfold M.Short;decide,fun k hk=>absurd hk (Nat.not_lt_zero _)⟩,by show M.Short 0;unfold M.Short;decide,fun i hi=>absurd hi (Nat.not_lt_zero _),by show M.Short 0;unfold M.Short;decide,fun i hi=>absurd hi (Nat.not_lt_zero _),by show M.Short 0;unfold M.Short;decide,fun i hi=>absurd hi (Nat.not_lt_zero _),⟨by show -9223372036854775808 <= (0 : Int);omega,by show (0 : Int) <= 9223372036854775807;omega⟩⟩
def Kept (N : Nat) (k : KM.Kn) (c : Array Value) (w : World) : Prop:=∃ hs a,KM.Same k.sheets hs /\ c = cellsK a (KM.withS k hs) /\ ∀ U,Kp (fun b=>b < N) w U -> HasK U a (KM.withS k hs)
theorem Kept.cells {N : Nat} {k : KM.Kn} {c : Array Value} {w : World} (h : Kept N k c w) : ∃ s1 n1 q1 s2 n2 q2 s3 n3 q3 s4 n4 q4 hd,c = #[.slice s1 n1 q1,.slice s2 n2 q2,.slice s3 n3 q3,.slice s4 n4 q4,.int .i64 hd]:=by
 obtain ⟨hs,a,_,h2,_⟩:=h
 exact ⟨_,_,_,_,_,_,_,_,_,_,_,_,_,h2⟩
theorem kept_out {w w' : World} {k : KM.Kn} {e : Ending} (h : OutC w k e w') : ∃ c,e = .returned (.agg c) /\ Kept w.heap.size k c w' /\ Below w.heap.size w w':=by
 obtain ⟨S,hs,h1,h2,h3,h4⟩:=h
 obtain ⟨a,e1,e2⟩:=KG.out_keep h3
 exact ⟨_,h2,⟨hs,a,h1,e1,e2⟩,h4⟩
theorem kept_none (N : Nat) (w : World) : Kept N kn0 #[.slice none 0 0,.slice none 0 0,.slice none 0 0,.slice none 0 0,.int .i64 0] w:=by
 obtain ⟨a,e1,e2⟩:=KG.out_keep (KZ.kr_none N w)
 exact ⟨[],a,rfl,e1,e2⟩
theorem kept_same {N N' : Nat} {k : KM.Kn} {c c' : Array Value} {V V' U : World} (h : Kept N k c V) (h' : Kept N' k c' V') (hf : ∀ hs1,KM.Same k.sheets hs1 -> FitK (KM.withS k hs1)) (g : Kp (fun b=>b < N) V U) (g' : Kp (fun b=>b < N') V' U) :
  Calls Tryz.prog 20 #[.agg c,.agg c'] U fun e w'=>e = .returned (.bool true) /\ Below U.heap.size U w':=by
 obtain ⟨hs,a,h1,h2,h3⟩:=h
 obtain ⟨hs',a',h1',h2',h3'⟩:=h'
 subst h2 h2'
 have s : KM.Same (KM.withS k hs).sheets hs':=by
  show hs'.map LM.plain = hs.map LM.plain
  exact Eq.trans (show hs'.map LM.plain = k.sheets.map LM.plain from h1') (Eq.symm (show hs.map LM.plain = k.sheets.map LM.plain from h1))
 exact KR.sameKernels_yes (KM.withS k hs) hs' a a' U (h3 U g) (h3' U g') s (hf hs h1)
theorem new_cases (l : List AM.Ar) (hs : List LM.Sh) (en nf ns : Int) : ((newA l hs en nf ns).1 = kn0 /\ (newA l hs en nf ns).2 ≠ 0) ∨ (LM.checkL l hs en = 0 /\ 3 <= nf /\ nf <= 64 /\ 0 <= ns /\ ns <= 512 /\ newA l hs en nf ns = (newK l hs nf ns,0)):=by
 unfold newA
 by_cases c : LM.checkL l hs en = 0
 · rw [if_neg (fun x=>x c)]
   by_cases c3 : nf < 3
   · rw [if_pos c3];exact .inl ⟨rfl,by decide⟩
   rw [if_neg c3]
   by_cases cr : nf > 64 ∨ ns < 0 ∨ ns > 512
   · rw [if_pos cr];exact .inl ⟨rfl,by decide⟩
   rw [if_neg cr]
   by_cases ct : AM.totalN l > ns
   · rw [if_pos ct];exact .inl ⟨rfl,by decide⟩
   rw [if_neg ct]
   exact .inr ⟨c,by omega,by omega,by omega,by omega,rfl⟩
 · rw [if_pos c];exact .inl ⟨rfl,c⟩
end KL
end Go.Proofs.YtpgifpeohlllfaaGreat
