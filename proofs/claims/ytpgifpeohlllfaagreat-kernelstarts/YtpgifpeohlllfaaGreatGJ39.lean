import Derived.Test.YtpgifpeohlllfaaGreatGJ30
set_option maxHeartbeats 20000000
set_option linter.unusedVariables false
set_option maxRecDepth 100000
set_option linter.unusedSimpArgs false
namespace Go.Proofs.YtpgifpeohlllfaaGreat
namespace KZ
open Go.RowKit GK KO
open FW (hideC add_below)
open KW (cellFr cellSl cellEn HasRow KAt HasK cellsK aggEn cellI memK FitK liveK OutOpen)
open KS (Lc cellLc lc0 lcAt blk SpOwn)
open KX (FilX Held ids)
open KY (CopyK tailK forErr OutFor)
def loadA (k : KM.Kn) (sp a n way : Int) : KM.Kn × ByteArray × (Int × Int) × Int:=if forErr k sp n way [0,2] ≠ 0 then (kn0,⟨#[]⟩,(0,0),forErr k sp n way [0,2]) else if (FM.faultN (KM.spAt k.spaces sp.toNat).areas a n way).1 ≠ 0 then (kn0,⟨#[]⟩,FM.faultN (KM.spAt k.spaces sp.toNat).areas a n way,0) else ((KM.reachK k sp.toNat a n way).2,KM.loadK k sp.toNat a n way,(0,0),0)
theorem two_row (V : World) : HasRow cellI 1 0 (V.alloc (.cells #[.int .i64 0,.int .i64 2] 3)) (some ⟨V.heap.size,0,none⟩) [0,2]:=fun _=>by
 have h:=B.new V #[.int .i64 0,.int .i64 2] 3
 refine ⟨V.heap.size,0,rfl,B.isLt h,fun i hi j hj=>?_⟩
 obtain rfl : j = 0:=by omega
 have hi : i < 2:=hi
 rcases (show i = 0 ∨ i = 1 by omega) with rfl | rfl
 · exact B.cell h 0 rfl
 · exact B.cell h 1 rfl
set_option maxHeartbeats 16000000 in
theorem load_any (hcp : CopyK) (k : KM.Kn) (a : KAt) (sp ad n way : Int) (w : World) (hK : HasK w a k) (hF : FitK k) (hsp : M.I64 sp) (had : M.I64 ad) :
  Calls Tryz.prog 25 #[.agg (cellsK a k),.int .i64 sp,.int .i64 ad,.int .i64 n,.int .i64 way] w (OutKn w (loadA k sp ad n way).1 [.string (loadA k sp ad n way).2.1,.agg #[.int .i64 (loadA k sp ad n way).2.2.1.1,.int .i64 (loadA k sp ad n way).2.2.1.2],.int .i64 (loadA k sp ad n way).2.2.2]):=by
 obtain ⟨Z5,hZ5⟩ : ∃ Z5 : Array Value,Z5 = #[.slice none 0 0,.slice none 0 0,.slice none 0 0,.slice none 0 0,.int .i64 0]:=⟨_,rfl⟩
 obtain ⟨WA,hWA⟩ : ∃ WA,WA = ((w.alloc (.cells (cellsK a k) 27)).alloc (.cells #[.slice none 0 0,.slice none 0 0,.slice none 0 0,.slice none 0 0,.int .i64 0] 27)).alloc (.cells #[.int .i64 0,.int .i64 0] 36):=⟨_,rfl⟩
 have hb0 : Below w.heap.size w WA:=by rw [hWA];exact (((Below.refl _ _).alloc (Nat.le_refl _) _).alloc (by simp) _).alloc (by simp;omega) _
 have kb : WA.heap[w.heap.size]? = some (.cells (cellsK a k) 27 (0,0)):=by rw [hWA];exact B.alloc (B.alloc (B.new w _ _) _) _
 have rb : WA.heap[w.heap.size + 1]? = some (.cells #[.slice none 0 0,.slice none 0 0,.slice none 0 0,.slice none 0 0,.int .i64 0] 27 (0,0)):=by
  have:=B.alloc (B.new (w.alloc (.cells (cellsK a k) 27)) #[.slice none 0 0,.slice none 0 0,.slice none 0 0,.slice none 0 0,.int .i64 0] 27) (.cells #[.int .i64 0,.int .i64 0] 36)
  rw [World.size_alloc] at this
  rw [hWA];exact this
 have fb : WA.heap[w.heap.size + 1 + 1]? = some (.cells #[.int .i64 0,.int .i64 0] 36 (0,0)):=by
  have:=B.new ((w.alloc (.cells (cellsK a k) 27)).alloc (.cells #[.slice none 0 0,.slice none 0 0,.slice none 0 0,.slice none 0 0,.int .i64 0] 27)) #[.int .i64 0,.int .i64 0] 36
  rw [World.size_alloc,World.size_alloc] at this
  rw [hWA];exact this
 have hsz : WA.heap.size = w.heap.size + 3:=by rw [hWA,World.size_alloc,World.size_alloc,World.size_alloc]
 obtain ⟨WB,hWB⟩ : ∃ WB,WB = WA.alloc (.cells #[.int .i64 0,.int .i64 2] 3):=⟨_,rfl⟩
 have hb1 : Below w.heap.size w WB:=by rw [hWB];exact hb0.alloc hb0.size _
 have hrow : HasRow cellI 1 0 WB (some ⟨WA.heap.size,0,none⟩) [0,2]:=by rw [hWB];exact two_row WA
 have hszB : WB.heap.size = w.heap.size + 4:=by rw [hWB,World.size_alloc,hsz]
 have RB : Hid (∀ V,Below WB.heap.size WB V -> V.heap[w.heap.size + 1]? = some (.cells #[.slice none 0 0,.slice none 0 0,.slice none 0 0,.slice none 0 0,.int .i64 0] 27 (0,0))):=fun V hb=>B.below (by rw [hWB];exact B.alloc rb _) hb (by omega)
 have FB : Hid (∀ V,Below WB.heap.size WB V -> V.heap[w.heap.size + 1 + 1]? = some (.cells #[.int .i64 0,.int .i64 0] 36 (0,0))):=fun V hb=>B.below (by rw [hWB];exact B.alloc fb _) hb (by omega)
 have k0 : WA.cell? ⟨w.heap.size,0,none⟩ = some (.slice a.aS k.sheets.length a.cS):=B.cell kb 0 rfl
 have k1 : WA.cell? ⟨w.heap.size,1,none⟩ = some (.slice a.aF k.frames.length a.cF):=B.cell kb 1 rfl
 have k2 : WA.cell? ⟨w.heap.size,2,none⟩ = some (.slice a.aL k.slots.length a.cL):=B.cell kb 2 rfl
 have k3 : WA.cell? ⟨w.heap.size,3,none⟩ = some (.slice a.aP k.spaces.length a.cP):=B.cell kb 3 rfl
 have k4 : WA.cell? ⟨w.heap.size,4,none⟩ = some (.int .i64 k.hand):=B.cell kb 4 rfl
 have HWA:=hideC hWA
 have HWB:=hideC hWB
 have HB1:=hideC hb1
 by_cases c : forErr k sp n way [0,2] = 0
 · obtain ⟨hlv,hn,hwy⟩:=for_parts c
   obtain ⟨hR,hsp0,hj,hlive⟩:=KY.live_right hlv
   obtain ⟨j,hje⟩ : ∃ j : Nat,sp = (j : Int):=⟨sp.toNat,by omega⟩
   subst hje
   rw [Int.toNat_natCast] at hj hlive
   have HOP:=hideC (KY.openFor_ok hcp k a (j : Int) n way [0,2] (some ⟨WA.heap.size,0,none⟩) 2 WB (hK.below hb1) hF hsp hrow (by simp) c)
   rw [show ([0,2] : List Int).length = 2 from rfl] at HOP
   have hne12 : w.heap.size + 1 ≠ w.heap.size + 1 + 1:=by omega
   have HLB:=hideC (show w.heap.size + 1 + 1 < WB.heap.size by omega)
   by_cases hf : (FM.faultN (KM.spAt k.spaces j).areas ad n way).1 = 0
   · obtain ⟨hf0,hal,hau,hmap⟩:=KX.fault_none hn.1 hn.2 hf
     have hm1 : KM.mapped k j (ad / 16):=by
      have:=hmap 0 (by omega) (by omega)
      rw [Int.add_zero] at this
      exact this
     have hm2 : KM.mapped k j (KM.lastPg ad n):=by
      have:=hmap (n - 1) (by omega) (by omega)
      unfold KM.lastPg
      rw [show ad + n - 1 = ad + (n - 1) by omega]
      exact this
     have RH:=KM.reach_had hR hj ad n way hm1 hm2
     have hrk:=RH.kept.sheets
     have hcc:=hR.c
     have hnf0 : 0 < (KM.reachK k j ad n way).2.frames.length:=by rw [RH.kept.nf];omega
     have hlen2 : (KM.reachK k j ad n way).1.length <= 2:=by
      rw [(KX.st_reach k j ad n way).2.2]
      unfold KX.pgs
      split <;> omega
     have hidx : ∀ m,m < (KM.reachK k j ad n way).1.length -> (KM.reachK k j ad n way).1.getD m 0 < (KM.reachK k j ad n way).2.frames.length:=fun m hm=>by
      rw [RH.kept.nf]
      by_cases z : KM.lastPg ad n = ad / 16
      · have e : (KM.reachK k j ad n way).1 = [(KM.oneK k j ad way).1]:=by unfold KM.reachK;rw [if_pos z]
        rw [e] at hm ⊢
        have hm : m < 1:=hm
        obtain rfl : m = 0:=by omega
        exact RH.one.2
      · have e : (KM.reachK k j ad n way).1 = [(KM.oneK k j ad way).1,(KM.twoB k j ad n way).1]:=by unfold KM.reachK;rw [if_neg z]
        rw [e] at hm ⊢
        have hm : m < 2:=hm
        rcases (show m = 0 ∨ m = 1 by omega) with rfl | rfl
        · exact RH.one.2
        · exact (RH.two z).2
     have hsz16 : ∀ m,m < (KM.reachK k j ad n way).1.length -> (KM.frAt (KM.reachK k j ad n way).2.frames ((KM.reachK k j ad n way).1.getD m 0)).data.size <= 1000:=fun m hm=>by
      have hi:=hidx m hm
      by_cases z : (KM.frAt (KM.reachK k j ad n way).2.frames ((KM.reachK k j ad n way).1.getD m 0)).refs = 0
      · have:=(RH.right.frm _ hi).zero ((RH.right.frm _ hi).nil z)
        rw [this]
        show (0 : Nat) <= 1000
        omega
      · have:=(RH.right.frm _ hi).size ((RH.right.frm _ hi).ne z)
        omega
     have hPg : KM.Pgs (KM.peekK k j) ad n:=⟨KM.peek_size hR hj hm1,KM.peek_size hR hj hm2⟩
     have hfit:=KM.join_fit hPg hn.1 hn.2
     have hjs:=KM.join_size hPg hn.1 hn.2
     have hjoin:=KM.reach_join hR hj ad n way hm1 hm2
     have HPT : Hid (∀ V,Calls Tryz.prog 63 #[.string (KM.joinTo (KM.reachK k j ad n way).2.frames (KM.reachK k j ad n way).1 (KM.reachK k j ad n way).1.length),.int .i64 (((ad % 16).toNat : Nat) : Int),.int .i64 n] V fun e w'=>e = .returned (.tuple #[.string (KM.loadK k j ad n way),.int .i64 0]) /\ Below V.heap.size V w'):=fun V=>by
      have:=CW.part_yes (KM.joinTo (KM.reachK k j ad n way).2.frames (KM.reachK k j ad n way).1 (KM.reachK k j ad n way).1.length) (ad % 16).toNat n.toNat V (by rw [hjoin];split at hjs <;> omega) (by rw [hjoin];omega)
      rw [show ((n.toNat : Nat) : Int) = n by omega] at this
      exact this
     have hmod : ad.tmod 16 = (((ad % 16).toNat : Nat) : Int):=by
      rw [Int.tmod_eq_emod_of_nonneg (by omega)]
      omega
     have hA : loadA k (j : Int) ad n way = ((KM.reachK k j ad n way).2,KM.loadK k j ad n way,(0,0),0):=by
      unfold loadA
      rw [if_neg (fun x=>x c),Int.toNat_natCast,if_neg (fun x=>x hf)]
     rw [hA]
     have HRE : Hid (∀ V S mb hs,KM.Same k.sheets hs -> Km WB.heap.size mb 104 (tailK k) V S (KM.withS k hs) -> Below w.heap.size w V -> V.heap[w.heap.size + 1]? = some (.cells #[.slice none 0 0,.slice none 0 0,.slice none 0 0,.slice none 0 0,.int .i64 0] 27 (0,0)) -> V.heap[w.heap.size + 1 + 1]? = some (.cells #[.int .i64 0,.int .i64 0] 36 (0,0)) -> Calls Tryz.prog 52 #[.pointer (some ⟨mb,0,none⟩),.int .i64 (j : Int),.int .i64 ad,.int .i64 n,.int .i64 way] V fun e w'=>∃ av nv cv aS nS cS aF nF cF aL nL cL aP nP cP hd,e = .returned (.tuple #[.slice av nv cv,.agg #[.int .i64 0,.int .i64 0]]) /\ w'.cell? ⟨mb,0,none⟩ = some (.slice aS nS cS) /\ w'.cell? ⟨mb,1,none⟩ = some (.slice aF nF cF) /\ w'.cell? ⟨mb,2,none⟩ = some (.slice aL nL cL) /\ w'.cell? ⟨mb,3,none⟩ = some (.slice aP nP cP) /\ w'.cell? ⟨mb,4,none⟩ = some (.int .i64 hd) /\ mb < w'.heap.size /\ (∀ V',Below w'.heap.size w' V' -> Calls Tryz.prog 64 #[.pointer (some ⟨mb,0,none⟩),.slice av nv cv] V' fun e w''=>e = .returned (.string (KM.joinTo (KM.reachK k j ad n way).2.frames (KM.reachK k j ad n way).1 (KM.reachK k j ad n way).1.length)) /\ w'' = V') /\ w'.heap[w.heap.size + 1]? = some (.cells #[.slice none 0 0,.slice none 0 0,.slice none 0 0,.slice none 0 0,.int .i64 0] 27 (0,0)) /\ w'.heap[w.heap.size + 1 + 1]? = some (.cells #[.int .i64 0,.int .i64 0] 36 (0,0)) /\ Below w.heap.size w w' /\ (∀ U,Kp (fun b=>b = w.heap.size + 1 ∨ b = w.heap.size + 1 + 1) w' U -> OutKn w (KM.reachK k j ad n way).2 [.string (KM.loadK k j ad n way),.agg #[.int .i64 0,.int .i64 0],.int .i64 0] (.returned (.tuple #[.agg #[.slice aS nS cS,.slice aF nF cF,.slice aL nL cL,.slice aP nP cP,.int .i64 hd],.string (KM.loadK k j ad n way),.agg #[.int .i64 0,.int .i64 0],.int .i64 0])) U)):=fun V S mb hs hsame hV hbV hrV hfV=>by
      have hR':=hR.withS hsame
      refine (KX.reach_fine (KM.withS k hs) S V j ad n way hV hR' hj had hn hf (KY.fil_tail hR.rise hsame)).mono fun e w' ⟨av,cv,S',e1,hheld,hk',hc'⟩=>?_
      rw [KM.reach_withS hR hj hm1 hsame] at hk' e1 hheld
      have hlow : ∀ b,b < WB.heap.size -> S.lab b = .no:=fun b hb=>Classical.not_not.1 fun x=>by have:=(hV.bnd b x).1;omega
      have hbd:=HLB.out
      obtain ⟨aS,cS,eS,_⟩:=row_form hk'.sheets
      obtain ⟨aF,cF,eF,_⟩:=row_form hk'.frames
      obtain ⟨aL,cL,eL,_⟩:=row_form hk'.slots
      obtain ⟨aP,cP,eP,_⟩:=row_form hk'.spaces
      have c0:=hk'.c0
      have c1:=hk'.c1
      have c2:=hk'.c2
      have c3:=hk'.c3
      rw [eS] at c0
      rw [eF] at c1
      rw [eL] at c2
      rw [eP] at c3
      have hbl : Below w.heap.size w w':=Kp.below hbV hc'.kp hbV.size (fun b hb=>by have:=(hV.bnd b hb).1;omega)
      refine ⟨av,_,cv,aS,_,cS,aF,_,cF,aL,_,cL,aP,_,cP,_,e1,c0,c1,c2,c3,hk'.c4,hk'.lt,fun V' hb'=>?_,hc'.keep hrV (hlow _ (by omega)),hc'.keep hfV (hlow _ hbd),hbl,fun U hU=>⟨S',hs,by rw [hrk];exact hsame,by rw [eS,eF,eL,eP];rfl,?_,?_⟩⟩
      · exact KX.join_any (KM.withS (KM.reachK k j ad n way).2 hs) S' V' (KM.reachK k j ad n way).1 av cv (hk'.below hb') (hheld.ch (Ch.below hb')) (fun m hm=>hidx m hm) hlen2 (fun m hm=>hsz16 m hm) hnf0
      · exact (hk'.toKr.kp hU (fun b hb e=>hb (hc'.no b (by have:=hc'.kp.size;have:=B.isLt hrV;have:=B.isLt hfV;rcases e with e | e <;> omega) (hlow b (by rcases e with e | e <;> omega))))).mono (by have:=hb1.size;omega)
      · exact Kp.below hbl hU hbl.size (fun b e=>by rcases e with e | e <;> omega)
     obtain ⟨P,hP⟩ : ∃ P,P = OutKn w (KM.reachK k j ad n way).2 [.string (KM.loadK k j ad n way),.agg #[.int .i64 0,.int .i64 0],.int .i64 0]:=⟨_,rfl⟩
     rw [<- hP] at HRE
     obtain ⟨LD,hLD⟩ : ∃ LD,LD = KM.loadK k j ad n way:=⟨_,rfl⟩
     rw [<- hLD] at HRE HPT
     obtain ⟨JD,hJD⟩ : ∃ JD,JD = KM.joinTo (KM.reachK k j ad n way).2.frames (KM.reachK k j ad n way).1 (KM.reachK k j ad n way).1.length:=⟨_,rfl⟩
     rw [<- hJD] at HRE HPT
     obtain ⟨md,hmd⟩ : ∃ md,md = (ad % 16).toNat:=⟨_,rfl⟩
     rw [<- hmd] at HPT hmod
     show Calls _ _ _ _ (OutKn w (KM.reachK k j ad n way).2 [.string (KM.loadK k j ad n way),.agg #[.int .i64 0,.int .i64 0],.int .i64 0])
     rw [<- hP]
     have HOP2 : Hid (Calls Tryz.prog 51 #[.agg (cellsK a k),.int .i64 (j : Int),.int .i64 n,.int .i64 way,.slice (some ⟨WA.heap.size,0,none⟩) 2 2] WB fun e w'=>∃ mb S hs,e = .returned (.tuple #[.pointer (some ⟨mb,0,none⟩),.int .i64 0]) /\ KM.Same k.sheets hs /\ Km WB.heap.size mb 104 (tailK k) w' S (KM.withS k hs) /\ Below WB.heap.size WB w'):=HOP.out
     unfold cellsK at HOP2 HWA ⊢
     clear hK hF hsp had hA c hP hWA hWB hb0 hb1 kb rb fb hrow hZ5 hsz hszB HOP hf hf0 hal hau hmap hm1 hm2 hrk hR hlv hn hwy hj hlive hsp0 RH hcc hnf0 hlen2 hidx hsz16 hPg hfit hjs hjoin hLD hJD hmd
     go_enter Tryz.func25,Tryz.ntmps25
     go_upto_region 1 with fail
     rw [<- HWA.out]
     go_upto_region 7 with (first
      | (go_at_call 51;rw [<- HWB.out];refine HOP2.out.mono ?_;rintro e w1 ⟨mb,S1,hs1,rfl,hs2,hk1,hb1⟩;have HB2:=hideC (HB1.out.trans (hb1.mono HB1.out.size));have R1:=hideC (RB.out _ hb1);have F1:=hideC (FB.out _ hb1);have HK1:=hideC hk1;have HS1:=hideC hs2;clear hb1 hk1 hs2)
      | (go_at_call 52;refine (HRE.out _ _ _ _ HS1.out HK1.out HB2.out R1.out F1.out).mono ?_;rintro e w2 ⟨av,nv,cv,aS,nS,cS,aF,nF,cF,aL,nL,cL,aP,nP,cP,hd,rfl,m0,m1,m2,m3,m4,hml,hjo,hr2,hf2,hb2,hfin⟩;have HJO:=hideC hjo;clear hjo;have R2:=hideC hr2;have F2:=hideC hf2;have HB3:=hideC hb2;have HFI:=hideC hfin;have X2:=hideC (B.new w2 #[.int .i64 0,.int .i64 0] 36);obtain ⟨x0,x1⟩:=B.c2 X2.out;clear hr2 hf2 hb2 hfin))
     have R3:=hideC (B.alloc R2.out (.cells #[.int .i64 0,.int .i64 0] 36))
     have F3:=hideC (B.alloc F2.out (.cells #[.int .i64 0,.int .i64 0] 36))
     have HA:=hideC ((Below.refl w2.heap.size w2).alloc (Nat.le_refl _) (.cells #[.int .i64 0,.int .i64 0] 36))
     have p0:=(HA.out.cell (p:=⟨mb,0,none⟩) hml).trans m0
     have p1:=(HA.out.cell (p:=⟨mb,1,none⟩) hml).trans m1
     have p2:=(HA.out.cell (p:=⟨mb,2,none⟩) hml).trans m2
     have p3:=(HA.out.cell (p:=⟨mb,3,none⟩) hml).trans m3
     have p4:=(HA.out.cell (p:=⟨mb,4,none⟩) hml).trans m4
     obtain ⟨W3,hW3⟩ : ∃ W3,W3 = w2.alloc (.cells #[.int .i64 0,.int .i64 0] 36):=⟨_,rfl⟩
     rw [<- hW3] at R3 F3 HA p0 p1 p2 p3 p4 ⊢
     clear hW3 m0 m1 m2 m3 m4 x0 x1
     obtain ⟨y0,y1,y2,y3,y4⟩:=B.c5 R3.out
     obtain ⟨z0,z1⟩:=B.c2 F3.out
     have f0:=B.free R3.out 0
     have f1:=B.free R3.out 1
     have f2:=B.free R3.out 2
     have f3:=B.free R3.out 3
     have f4:=B.free R3.out 4
     have g0:=B.free F3.out 0
     have g1:=B.free F3.out 1
     have h7:=hideC (fun V=>ret7 R3.out F3.out hne12 (.slice aS nS cS) (.slice aF nF cF) (.slice aL nL cL) (.slice aP nP cP) (.int .i64 hd) (.int .i64 0) (.int .i64 0) (V:=V))
     go_wp2_with (first
      | (go_at_call 64;refine (HJO.out _ HA.out).mono ?_;rintro e w4 ⟨rfl,rfl⟩)
      | (go_at_call 63;refine (HPT.out _).mono ?_;rintro e w5 ⟨rfl,hb5⟩;have HB5:=hideC hb5;have R5:=hideC (B.below R3.out hb5 (B.isLt R3.out));have F5:=hideC (B.below F3.out hb5 (B.isLt F3.out));have HML : mb < w4.heap.size:=Nat.lt_of_lt_of_le hml HA.out.size;have p0:=(hb5.cell (p:=⟨mb,0,none⟩) HML).trans p0;have p1:=(hb5.cell (p:=⟨mb,1,none⟩) HML).trans p1;have p2:=(hb5.cell (p:=⟨mb,2,none⟩) HML).trans p2;have p3:=(hb5.cell (p:=⟨mb,3,none⟩) HML).trans p3;have p4:=(hb5.cell (p:=⟨mb,4,none⟩) HML).trans p4;obtain ⟨y0,y1,y2,y3,y4⟩:=B.c5 R5.out;obtain ⟨z0,z1⟩:=B.c2 F5.out;have f0:=B.free R5.out 0;have f1:=B.free R5.out 1;have f2:=B.free R5.out 2;have f3:=B.free R5.out 3;have f4:=B.free R5.out 4;have g0:=B.free F5.out 0;have g1:=B.free F5.out 1;clear hb5))
     have h7:=hideC (fun V=>ret7 R5.out F5.out hne12 (.slice aS nS cS) (.slice aF nF cF) (.slice aL nL cL) (.slice aP nP cP) (.int .i64 hd) (.int .i64 0) (.int .i64 0) (V:=V))
     obtain ⟨q1,q2,q3⟩:=h7.out _ rfl
     obtain ⟨y0,y1,y2,y3,y4⟩:=B.c5 q1
     obtain ⟨z0,z1⟩:=B.c2 q2
     refine bodyPost_ret (v:=.tuple #[.agg #[.slice aS nS cS,.slice aF nF cF,.slice aL nL cL,.slice aP nP cP,.int .i64 hd],.string LD,.agg #[.int .i64 0,.int .i64 0],.int .i64 0]) (by simp [results,Tryz.results25,go_sem,y0,y1,y2,y3,y4,z0,z1]) rfl ?_
     exact HFI.out _ (((Kp.ofBelow HA.out).trans (Kp.ofBelow HB5.out) (fun _ _ g=>g)).trans q3 (fun _ _ g=>g))
   · have hA : loadA k (j : Int) ad n way = (kn0,⟨#[]⟩,FM.faultN (KM.spAt k.spaces j).areas ad n way,0):=by
      unfold loadA
      rw [if_neg (fun x=>x c),Int.toNat_natCast,if_pos hf]
     rw [hA]
     obtain ⟨FA,hFA⟩ : ∃ FA,FA = FM.faultN (KM.spAt k.spaces j).areas ad n way:=⟨_,rfl⟩
     have HRE : Hid (∀ V S mb hs,KM.Same k.sheets hs -> Km WB.heap.size mb 104 (tailK k) V S (KM.withS k hs) -> Calls Tryz.prog 52 #[.pointer (some ⟨mb,0,none⟩),.int .i64 (j : Int),.int .i64 ad,.int .i64 n,.int .i64 way] V fun e w'=>e = .returned (.tuple #[.slice none 0 0,.agg #[.int .i64 FA.1,.int .i64 FA.2]]) /\ Below V.heap.size V w'):=fun V S mb hs hsame hV=>by
      rw [hFA]
      exact KX.reach_fault (KM.withS k hs) S V j ad n way hV (hR.withS hsame) hj had hn hf
     rw [<- hFA] at hf ⊢
     have hfb : (FA.1 != 0) = true:=by simpa using hf
     have HOP2 : Hid (Calls Tryz.prog 51 #[.agg (cellsK a k),.int .i64 (j : Int),.int .i64 n,.int .i64 way,.slice (some ⟨WA.heap.size,0,none⟩) 2 2] WB fun e w'=>∃ mb S hs,e = .returned (.tuple #[.pointer (some ⟨mb,0,none⟩),.int .i64 0]) /\ KM.Same k.sheets hs /\ Km WB.heap.size mb 104 (tailK k) w' S (KM.withS k hs) /\ Below WB.heap.size WB w'):=HOP.out
     obtain ⟨f0,f1⟩:=FA
     simp only at HRE hfb ⊢
     have HFIN : Hid (∀ V,Below w.heap.size w V -> OutKn w kn0 [.string ⟨#[]⟩,.agg #[.int .i64 f0,.int .i64 f1],.int .i64 0] (.returned (.tuple #[.agg #[.slice none 0 0,.slice none 0 0,.slice none 0 0,.slice none 0 0,.int .i64 0],.string ⟨#[]⟩,.agg #[.int .i64 f0,.int .i64 f1],.int .i64 0])) V):=fun V hV=>out_none _ hV
     obtain ⟨P,hP⟩ : ∃ P,P = OutKn w kn0 [.string ⟨#[]⟩,.agg #[.int .i64 f0,.int .i64 f1],.int .i64 0]:=⟨_,rfl⟩
     rw [<- hP] at HFIN ⊢
     unfold cellsK at HOP2 HWA ⊢
     clear hK hF hsp had hA c hP hWA hWB hb0 hb1 kb rb fb hrow hZ5 hsz hszB HOP hf hR hlv hn hwy hj hlive hsp0 hFA
     go_enter Tryz.func25,Tryz.ntmps25
     go_upto_region 1 with fail
     rw [<- HWA.out]
     go_upto_region 6 with (first
      | (go_at_call 51;rw [<- HWB.out];refine HOP2.out.mono ?_;rintro e w1 ⟨mb,S1,hs1,rfl,hs2,hk1,hb1⟩;have HB2:=hideC (HB1.out.trans (hb1.mono HB1.out.size));have R1:=hideC (RB.out _ hb1);have F1:=hideC (FB.out _ hb1);have HK1:=hideC hk1;have HS1:=hideC hs2;clear hb1 hk1 hs2)
      | (go_at_call 52;refine (HRE.out _ _ _ _ HS1.out HK1.out).mono ?_;rintro e w2 ⟨rfl,hb2⟩;have R2:=hideC (B.below R1.out hb2 (B.isLt R1.out));have F2:=hideC (B.below F1.out hb2 (B.isLt F1.out));have HB3:=hideC (HB2.out.trans (hb2.mono HB2.out.size));have X2:=hideC (B.new w2 #[.int .i64 f0,.int .i64 f1] 36);obtain ⟨x0,x1⟩:=B.c2 X2.out;clear hb2))
     have R3:=hideC (B.alloc R2.out (.cells #[.int .i64 f0,.int .i64 f1] 36))
     have F3:=hideC (B.alloc F2.out (.cells #[.int .i64 f0,.int .i64 f1] 36))
     have HB4:=hideC (HB3.out.alloc HB3.out.size (.cells #[.int .i64 f0,.int .i64 f1] 36))
     have hl2:=B.isLt R2.out
     have hl3:=B.isLt F2.out
     have hne1 : ¬ w2.heap.size = w.heap.size + 1:=by omega
     have hne2 : ¬ w2.heap.size = w.heap.size + 1 + 1:=by omega
     obtain ⟨W3,hW3⟩ : ∃ W3,W3 = w2.alloc (.cells #[.int .i64 f0,.int .i64 f1] 36):=⟨_,rfl⟩
     rw [<- hW3] at R3 F3 HB4 x0 x1 ⊢
     clear hW3
     obtain ⟨y0,y1,y2,y3,y4⟩:=B.c5 R3.out
     obtain ⟨z0,z1⟩:=B.c2 F3.out
     have e0:=B.free R3.out 0
     have e1:=B.free R3.out 1
     have e2:=B.free R3.out 2
     have e3:=B.free R3.out 3
     have e4:=B.free R3.out 4
     have g0:=B.free F3.out 0
     have g1:=B.free F3.out 1
     have h7:=hideC (fun V=>ret7 R3.out F3.out hne12 (.slice none 0 0) (.slice none 0 0) (.slice none 0 0) (.slice none 0 0) (.int .i64 0) (.int .i64 f0) (.int .i64 f1) (V:=V))
     go_region
     go_wp2
     obtain ⟨q1,q2,q3⟩:=h7.out _ rfl
     obtain ⟨y0,y1,y2,y3,y4⟩:=B.c5 q1
     obtain ⟨z0,z1⟩:=B.c2 q2
     refine bodyPost_ret (v:=.tuple #[.agg #[.slice none 0 0,.slice none 0 0,.slice none 0 0,.slice none 0 0,.int .i64 0],.string ⟨#[]⟩,.agg #[.int .i64 f0,.int .i64 f1],.int .i64 0]) (by simp [results,Tryz.results25,go_sem,y0,y1,y2,y3,y4,z0,z1]) rfl ?_
     exact HFIN.out _ (Kp.below HB4.out (q3.trans (Kp.drew _ _) (fun _ _ g=>g)) HB4.out.size (fun b e=>by rcases e with e | e <;> omega))
 · have hA : loadA k sp ad n way = (kn0,⟨#[]⟩,(0,0),forErr k sp n way [0,2]):=by unfold loadA;rw [if_pos c]
   rw [hA]
   have HOP:=hideC (KY.openFor_err k a sp n way [0,2] (some ⟨WA.heap.size,0,none⟩) 2 WB (hK.below hb1) hF hsp hrow (by simp) c)
   rw [show ([0,2] : List Int).length = 2 from rfl] at HOP
   obtain ⟨C,hC⟩ : ∃ C,C = forErr k sp n way [0,2]:=⟨_,rfl⟩
   rw [<- hC] at HOP c ⊢
   have cb : (C != 0) = true:=by simpa using c
   have HFIN : Hid (∀ V,Below w.heap.size w V -> OutKn w kn0 [.string ⟨#[]⟩,.agg #[.int .i64 0,.int .i64 0],.int .i64 C] (.returned (.tuple #[.agg #[.slice none 0 0,.slice none 0 0,.slice none 0 0,.slice none 0 0,.int .i64 0],.string ⟨#[]⟩,.agg #[.int .i64 0,.int .i64 0],.int .i64 C])) V):=fun V hV=>out_none _ hV
   obtain ⟨P,hP⟩ : ∃ P,P = OutKn w kn0 [.string ⟨#[]⟩,.agg #[.int .i64 0,.int .i64 0],.int .i64 C]:=⟨_,rfl⟩
   rw [<- hP] at HFIN ⊢
   unfold cellsK at HOP HWA ⊢
   clear hK hF hsp had hA hC c hP hWA hWB hb0 hb1 kb rb fb hrow hZ5 hsz hszB
   go_enter Tryz.func25,Tryz.ntmps25
   go_upto_region 1 with fail
   rw [<- HWA.out]
   go_upto_region 3 with (go_at_call 51;rw [<- HWB.out];refine HOP.out.mono ?_;rintro e w1 ⟨rfl,hb1⟩;have HB2:=hideC (HB1.out.trans (hb1.mono HB1.out.size));have R1:=hideC (RB.out _ hb1);have F1:=hideC (FB.out _ hb1);clear hb1)
   obtain ⟨y0,y1,y2,y3,y4⟩:=B.c5 R1.out
   obtain ⟨z0,z1⟩:=B.c2 F1.out
   have f0:=B.free R1.out 0
   have f1:=B.free R1.out 1
   have f2:=B.free R1.out 2
   have f3:=B.free R1.out 3
   have f4:=B.free R1.out 4
   have g0:=B.free F1.out 0
   have g1:=B.free F1.out 1
   have h7:=hideC (fun V=>ret7 R1.out F1.out (by omega) (.slice none 0 0) (.slice none 0 0) (.slice none 0 0) (.slice none 0 0) (.int .i64 0) (.int .i64 0) (.int .i64 0) (V:=V))
   go_wp2
   obtain ⟨q1,q2,q3⟩:=h7.out _ rfl
   obtain ⟨y0,y1,y2,y3,y4⟩:=B.c5 q1
   obtain ⟨z0,z1⟩:=B.c2 q2
   refine bodyPost_ret (v:=.tuple #[.agg #[.slice none 0 0,.slice none 0 0,.slice none 0 0,.slice none 0 0,.int .i64 0],.string ⟨#[]⟩,.agg #[.int .i64 0,.int .i64 0],.int .i64 C]) (by simp [results,Tryz.results25,go_sem,y0,y1,y2,y3,y4,z0,z1]) rfl ?_
   exact HFIN.out _ (Kp.below HB2.out q3 HB2.out.size (fun b e=>by rcases e with e | e <;> omega))
end KZ
end Go.Proofs.YtpgifpeohlllfaaGreat
