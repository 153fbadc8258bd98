import Derived.Test.YtkdigjpejnebkaaGreatGS16
set_option linter.unusedVariables false
set_option maxRecDepth 100000
set_option linter.unusedSimpArgs false
namespace Go.Proofs.YtkdigjpejnebkaaGreat
namespace GF
open Go.RowKit GK
open FW (hideC add_below)
theorem set_id (ss : List FM.Sp) (k : Nat) (hk : k < ss.length) : ss.set k (FM.spAt ss k) = ss:=by
 apply List.ext_getElem?
 intro j
 rw [List.getElem?_set]
 by_cases e : k = j
 · subst e
   rw [if_pos rfl,if_pos hk]
   unfold FM.spAt
   rw [List.getD_eq_getElem?_getD,List.getElem?_eq_getElem hk]
   rfl
 · rw [if_neg e]
theorem set_twice (ss : List FM.Sp) (k : Nat) (a b : FM.Sp) : (ss.set k a).set k b = ss.set k b:=List.set_set a
theorem spAt_set_same (ss : List FM.Sp) (k : Nat) (a : FM.Sp) (hk : k < ss.length) : FM.spAt (ss.set k a) k = a:=by rw [GM.spAt_set _ _ _ _ hk,if_pos rfl]
theorem Mem.cellD {lo mb : Nat} {w : World} {D : Nat -> Prop} {sl : Int} {v : Value} {L : List Lc} {ss : List FM.Sp} (h : Mem lo mb w D sl v L ss) (k : Nat) (hk : k < ss.length) {pb n cp : Nat} (hvp : (lcAt L k).vp = .slice (some ⟨pb,0,none⟩) n cp) (j : Nat) (hj : j < (FM.spAt ss k).pages.length) :
  w.cell? ⟨pb,j * 2 + 1,none⟩ = some (.string (FM.pgAt (FM.spAt ss k).pages j).data) /\ w.frozen? ⟨pb,j * 2 + 1,none⟩ = false /\ D pb:=by
 have hkL : k < L.length:=by rw [h.len];exact hk
 have hr:=(h.each k hkL).pages
 have hd:=h.d3 k hkL pb (.inr (by rw [hvp];rfl))
 rw [hvp] at hr
 have hn : n = (FM.spAt ss k).pages.length:=by
  obtain ⟨ao,cap,e,_,_⟩:=row_form hr
  injection e
 rw [hn] at hr
 exact ⟨row_at cellPg cellPg_len FM.pg0 hr j 1 hj (by omega),row_free hr _,hd⟩
set_option maxHeartbeats 8000000 in
theorem store_any {lo mb : Nat} (w : World) (D : Nat -> Prop) (m : GM.Mf) (fl : List Bool) (k : Nat) (a : Int) (d : ByteArray) (h : HdF lo mb w D m) (hok : GM.OkF m fl) (hf : fl.getD k false = true) (ha : M.I64 a) (hn1 : 1 <= d.size) (hn8 : d.size <= 8) :
  Calls Tryz.prog 195 #[.pointer (some ⟨mb,0,none⟩),.int .i64 (k : Int),.int .i64 a,.string d] w (GW.Out (HdF lo mb) w D (.agg (FW.fcells (GM.storeM m k a d).1)) (GM.storeM m k a d).2):=by
 obtain ⟨⟨v,L,hM⟩,hD⟩:=h
 obtain ⟨hk,hlv⟩:=hok.live hf
 have hL:=GM.liv_of (hok.each k hk) hlv
 have h4:=hok.few.2
 have HM:=hideC hM
 have HD:=hideC hD
 have HRE:=hideC (fun V (hV : Below w.heap.size w V)=>reach_any k a d.size 1 V (hM.below hV) hk (by omega) hL ha (by omega) (by omega))
 have HLM : Hid (GM.storeM m k a d = if (FM.faultN (FM.spAt m.spaces k).areas a d.size 1).1 = 0 then ((0,0),GM.turnS m k { FM.spAt m.spaces k with pages:=GM.storeF (FM.spAt m.spaces k).pages a d }) else (FM.faultN (FM.spAt m.spaces k).areas a d.size 1,m)):=rfl
 have HHP : Hid (∀ V,Below w.heap.size w V -> ∀ pb cp,(lcAt L k).vp = .slice (some ⟨pb,0,none⟩) (FM.spAt m.spaces k).pages.length cp -> FW.HasP V (some ⟨pb,0,none⟩) (FM.spAt m.spaces k).pages):=fun V hV pb cp e=>by
  obtain ⟨sb,cap,aa,na,ca,ap,cp',_,_,hlc,_,_,_,_,hHp,_,_,_⟩:=(hM.below hV).space k hk
  rw [hlc] at e
  injection e with e1 e2 e3
  subst e1
  exact hHp
 have HL:=hideC hL
 have HKS:=hideC hk
 obtain ⟨X,hX⟩ : ∃ X,X = GM.storeM m k a d:=⟨_,rfl⟩
 rw [<- hX] at HLM ⊢
 obtain ⟨P,hP⟩ : ∃ P,P = GW.Out (HdF lo mb) w D (.agg (FW.fcells X.1)) X.2:=⟨_,rfl⟩
 have HP : Hid (∀ w',(∃ D',HdF lo mb w' D' X.2 /\ Kp D w w' /\ ∀ b,D' b -> D b ∨ w.heap.size <= b) -> P (.returned (.agg (FW.fcells X.1))) w'):=fun w' ⟨D',h1,h2,h3⟩=>by rw [hP];exact ⟨D',rfl,h1,h2,h3⟩
 rw [<- hP]
 obtain ⟨s,hs⟩ : ∃ s,s = FM.spAt m.spaces k:=⟨_,rfl⟩
 rw [<- hs] at HRE HLM HHP HL
 have HSS:=hideC hs
 obtain ⟨vp,hvp⟩ : ∃ vp,vp = (lcAt L k).vp:=⟨_,rfl⟩
 rw [<- hvp] at HRE HHP
 have HVV:=hideC hvp
 obtain ⟨f,hff⟩ : ∃ f,f = FM.faultN s.areas a d.size 1:=⟨_,rfl⟩
 rw [<- hff] at HRE HLM
 obtain ⟨f1,f2⟩:=f
 have HB0:=hideC ((Below.refl w.heap.size w).alloc (Nat.le_refl _) (.cells #[.int .i64 0,.int .i64 0] 68))
 have BY:=hideC (B.new w #[.int .i64 0,.int .i64 0] 68)
 have hki : k < 9223372036854775807:=by omega
 clear hM hD hok hf hL hlv hP hX hs hvp hff hk
 unfold OutReach FW.fcells at HRE
 simp only at HRE HLM
 by_cases hf1 : f1 = 0
 · subst hf1
   have HX : Hid (X = ((0,0),GM.turnS m k { s with pages:=GM.storeF s.pages a d })):=by rw [HLM.out,if_pos rfl];exact rfl
   clear HLM
   have HR2 : Hid (∀ V,Below w.heap.size w V -> Calls Tryz.prog 197 #[.pointer (some ⟨mb,0,none⟩),.int .i64 (k : Int),.int .i64 a,.int .i64 (d.size : Int),.int .i64 1] V fun e w'=>∃ i pb cp,Below V.heap.size V w' /\ GM.Reach s.pages a d.size i /\ vp = .slice (some ⟨pb,0,none⟩) s.pages.length cp /\ e = .returned (.tuple #[.slice (some ⟨pb,i * 2,none⟩) (GM.lastP a d.size - a / 16 + 1).toNat (cp - i),.agg #[.int .i64 0,.int .i64 0]])):=fun V hV=>(HRE.out V hV).mono fun e w' ⟨hb,hh⟩=>by
    rcases hh with ⟨g,_⟩ | ⟨_,i,pb,cp,h1,h2,h3⟩
    · exact (g rfl).elim
    · exact ⟨i,pb,cp,hb,h1,h2,h3⟩
   have HJ : Hid (∀ V,Below w.heap.size w V -> ∀ i pb cp c,GM.Reach s.pages a d.size i -> vp = .slice (some ⟨pb,0,none⟩) s.pages.length cp -> Calls Tryz.prog 198 #[.slice (some ⟨pb,i * 2,none⟩) (GM.lastP a d.size - a / 16 + 1).toNat c] V fun e w'=>e = .returned (.string (GM.joinF s.pages a d.size)) /\ Below V.heap.size V w'):=fun V hV i pb cp c hr hv=>by
    have hle:=reach_le hr
    have:=FW.join_any (win s.pages i (GM.lastP a d.size - a / 16 + 1).toNat) (some ⟨pb,i * 2,none⟩) c V (win_has (HHP.out V hV pb cp hv) hle) (win_size HL.out hle) (by rw [win_len hle];rcases reach_count hr with ⟨g,_⟩ | ⟨g,_⟩ <;> omega)
    rw [win_len hle,win_cat HL.out hr] at this
    exact this
   have HLY : Hid (∀ V i,GM.Reach s.pages a d.size i -> Calls Tryz.prog 68 #[.string (GM.joinF s.pages a d.size),.int .i64 (a % 16),.string d] V fun e w'=>e = .returned (.tuple #[.string (CL.over (GM.joinF s.pages a d.size) (a % 16).toNat d),.int .i64 0]) /\ Below V.heap.size V w'):=fun V i hr=>by
    have h1:=hr.low
    have hsz:=GM.join_size HL.out hr
    have:=CW.lay_yes (GM.joinF s.pages a d.size) d (a % 16).toNat V (by rcases hsz with ⟨g,_⟩ | ⟨g,_⟩ <;> omega) (by rcases hsz with ⟨g,g2⟩ | ⟨g,g2⟩ <;> (unfold GM.lastP at g2;omega))
    rw [show (((a % 16).toNat : Nat) : Int) = a % 16 by omega] at this
    exact this
   have HPA : Hid (∀ V i,GM.Reach s.pages a d.size i -> ∀ t : Nat,t < (GM.lastP a d.size - a / 16 + 1).toNat -> Calls Tryz.prog 142 #[.string (CL.over (GM.joinF s.pages a d.size) (a % 16).toNat d),.int .i64 ((t : Int) * 16),.int .i64 16] V fun e w'=>e = .returned (.tuple #[.string ((CL.over (GM.joinF s.pages a d.size) (a % 16).toNat d).extract (t * 16) (t * 16 + 16)),.int .i64 0]) /\ Below V.heap.size V w'):=fun V i hr t ht=>by
    have h1:=hr.low
    have hsz:=GM.join_size HL.out hr
    have hov : (CL.over (GM.joinF s.pages a d.size) (a % 16).toNat d).size = (GM.joinF s.pages a d.size).size:=CL.over_size' _ _ _ (by rcases hsz with ⟨g,g2⟩ | ⟨g,g2⟩ <;> (unfold GM.lastP at g2;omega))
    have:=CW.part_yes (CL.over (GM.joinF s.pages a d.size) (a % 16).toNat d) (t * 16) 16 V (by rw [hov];rcases hsz with ⟨g,_⟩ | ⟨g,_⟩ <;> omega) (by rw [hov];rcases hsz with ⟨g,g2⟩ | ⟨g,g2⟩ <;> omega)
    rw [show ((t * 16 : Nat) : Int) = (t : Int) * 16 by omega] at this
    exact this
   have HLOW:=hideC (fun i (hr : GM.Reach s.pages a d.size i)=>hr.low)
   have HPT:=hideC (fun i (hr : GM.Reach s.pages a d.size i)=>putTo_all HL.out hr)
   have HLE:=hideC (fun i (hr : GM.Reach s.pages a d.size i)=>reach_le hr)
   have HCT:=hideC (fun i (hr : GM.Reach s.pages a d.size i)=>reach_count hr)
   obtain ⟨DT,hDT⟩ : ∃ DT,DT = CL.over (GM.joinF s.pages a d.size) (a % 16).toNat d:=⟨_,rfl⟩
   rw [<- hDT] at HLY HPA HPT
   obtain ⟨MM,hMM⟩ : ∃ MM,MM = (GM.lastP a d.size - a / 16 + 1).toNat:=⟨_,rfl⟩
   rw [<- hMM] at HR2 HJ HPA HPT HLE HCT
   obtain ⟨J,hJ⟩ : ∃ J,J = GM.joinF s.pages a d.size:=⟨_,rfl⟩
   rw [<- hJ] at HJ HLY
   clear HRE hMM hJ hDT
   go_enter Tryz.func195,Tryz.ntmps195
   go_wp2_with (first
    | (go_at_call 197;refine (HR2.out _ HB0.out).mono ?_;rintro e w1 ⟨i,pb,cp,hb1,hre,hvp,rfl⟩;have HRX:=hideC hre;have HVP:=hideC hvp;have HB1:=hideC (HB0.out.trans (hb1.mono HB0.out.size));have BY1:=hideC (B.below BY.out hb1 (B.isLt BY.out));have h16:=HLOW.out i hre;have HB2:=hideC (HB1.out.alloc HB1.out.size (.cells #[.int .i64 0,.int .i64 0] 68));have BY2:=hideC (B.alloc BY1.out (.cells #[.int .i64 0,.int .i64 0] 68));clear hb1 hre hvp)
    | (go_at_call 198;refine (HJ.out _ HB2.out i pb cp _ HRX.out HVP.out).mono ?_;rintro e w3 ⟨rfl,hb3⟩;have HB3:=hideC (HB2.out.trans (hb3.mono HB2.out.size));have BY3:=hideC (B.below BY2.out hb3 (B.isLt BY2.out));clear hb3)
    | (go_at_call 68;refine (HLY.out _ i HRX.out).mono ?_;rintro e w4 ⟨rfl,hb4⟩;have HB4:=hideC (HB3.out.trans (hb4.mono HB3.out.size));have BY4:=hideC (B.below BY3.out hb4 (B.isLt BY3.out));clear hb4))
   have hcnt : MM <= 2:=by rcases HCT.out i HRX.out with ⟨g,_⟩ | ⟨g,_⟩ <;> omega
   have hlei:=HLE.out i HRX.out
   have HEQ:=hideC (HPT.out i HRX.out)
   have HVK : Hid ((lcAt L k).vp = .slice (some ⟨pb,0,none⟩) s.pages.length cp):=by rw [<- HVV.out];exact HVP.out
   go_loopw [38] (fun iv wr=>∃ t : Nat,t <= MM /\ iv = .int .i64 (t : Int) /\ Mem lo mb wr D m.slots v L (m.spaces.set k { s with pages:=putTo s.pages i DT t }) /\ Kp D w wr /\ wr.heap[w.heap.size]? = some (.cells #[.int .i64 0,.int .i64 0] 68 (0,0))) (fun iv _=>MM - (intOf iv).toNat)
   case atStart =>
    refine ⟨0,by omega,rfl,?_,Kp.ofBelow HB4.out,BY4.out⟩
    have e : m.spaces.set k { s with pages:=putTo s.pages i DT 0 } = m.spaces:=by
     show m.spaces.set k s = m.spaces
     rw [HSS.out]
     exact set_id _ _ HKS.out
    rw [e]
    exact HM.out.below HB4.out
   case round =>
    obtain ⟨t,ht,rfl,hm,hkp,hy⟩:=hrel
    have HMr:=hideC hm
    have HKr:=hideC hkp
    have HYr:=hideC hy
    by_cases hlt : t < MM
    · have hkl : k < (m.spaces.set k { s with pages:=putTo s.pages i DT t }).length:=by rw [List.length_set];exact HKS.out
      have hsp:=spAt_set_same m.spaces k { s with pages:=putTo s.pages i DT t } HKS.out
      have hcd:=hm.cellD k hkl HVK.out (i + t) (by rw [hsp];show i + t < (putTo s.pages i DT t).length;rw [putTo_len];omega)
      rw [Nat.add_mul] at hcd
      obtain ⟨q0,q1,q2⟩:=hcd
      have HQ2:=hideC q2
      have HPB : Hid (pb < wr.heap.size):=World.block_lt_of_cell? wr _ q0
      have HNX : Hid (∀ V,Below wr.heap.size wr V -> Mem lo mb (V.setCell ⟨pb,(i + t) * 2 + 1,none⟩ (.string (DT.extract (t * 16) (t * 16 + 16)))) D m.slots v L (m.spaces.set k { s with pages:=putTo s.pages i DT (t + 1) })):=fun V hV=>by
       have:=(hm.below hV).data k hkl HVK.out (i + t) (by rw [hsp];show i + t < (putTo s.pages i DT t).length;rw [putTo_len];omega) (DT.extract (t * 16) (t * 16 + 16))
       rw [hsp,set_twice] at this
       have e : (putTo s.pages i DT t).set (i + t) ⟨(FM.pgAt (putTo s.pages i DT t) (i + t)).page,DT.extract (t * 16) (t * 16 + 16)⟩ = putTo s.pages i DT (t + 1):=by
        rw [putTo_page];rfl
       rw [show (FM.Sp.pages { s with pages:=putTo s.pages i DT t }) = putTo s.pages i DT t from rfl,e] at this
       exact this
      rw [Nat.add_mul] at HNX
      have HPT2:=hideC (fun V=>HPA.out V i HRX.out t hlt)
      obtain ⟨od,hod⟩ : ∃ od,od = (FM.pgAt (FM.spAt (m.spaces.set k { s with pages:=putTo s.pages i DT t }) k).pages (i + t)).data:=⟨_,rfl⟩
      rw [<- hod] at q0
      have hti : (t : Int) < (MM : Int):=by omega
      clear hm hkp hy hod hsp hkl q2
      go_wp2_with (go_at_call 142;refine (HPT2.out _).mono ?_;rintro e w5 ⟨rfl,hb5⟩;have HB5:=hideC hb5;have r0 : w5.cell? ⟨pb,i * 2 + t * 2 + 1,none⟩ = some (.string od):=(hb5.cell (p:=⟨pb,i * 2 + t * 2 + 1,none⟩) HPB.out).trans q0;have r1 : w5.frozen? ⟨pb,i * 2 + t * 2 + 1,none⟩ = false:=(hb5.frozen (p:=⟨pb,i * 2 + t * 2 + 1,none⟩) HPB.out).trans q1;clear hb5)
      go_roundw
      case rel =>
       refine ⟨t + 1,by omega,by go_num,HNX.out _ HB5.out,(HKr.out.trans (Kp.ofBelow HB5.out) (fun _ _ g=>g)).trans (Kp.set D _ ⟨pb,i * 2 + t * 2 + 1,none⟩ _ HQ2.out) (fun _ _ g=>g),?_⟩
       exact B.other (B.below HYr.out HB5.out (B.isLt HYr.out)) _ _ _ (fun e=>by have:=HD.out _ HQ2.out;omega)
      case measure=>simp [intOf];omega
    · obtain rfl : t = MM:=by omega
      have y0:=B.cell (v:=.int .i64 0) hy 0 rfl
      have y1:=B.cell (v:=.int .i64 0) hy 1 rfl
      have y2:=B.free hy 0
      have y3:=B.free hy 1
      clear hm hkp hy
      go_wp2
      refine bodyPost_ret (v:=.agg #[.int .i64 0,.int .i64 0]) (by simp [results,Tryz.results195,go_sem,y0,y1]) rfl ?_
      have hfin:=HP.out ((wr.setCell ⟨w.heap.size,0,none⟩ (.int .i64 0)).setCell ⟨w.heap.size,1,none⟩ (.int .i64 0)) (by
       have hs2 : Kp (fun b=>b = w.heap.size) wr ((wr.setCell ⟨w.heap.size,0,none⟩ (.int .i64 0)).setCell ⟨w.heap.size,1,none⟩ (.int .i64 0)):=(Kp.set (fun b=>b = w.heap.size) wr ⟨w.heap.size,0,none⟩ _ rfl).trans (Kp.set (fun b=>b = w.heap.size) _ ⟨w.heap.size,1,none⟩ _ rfl) (fun _ _ g=>g)
       refine ⟨D,?_,HKr.out.trans hs2 (fun b hb e=>by omega),fun b hb=>.inl hb⟩
       rw [HX.out]
       refine ⟨⟨v,L,?_⟩,fun b hb=>⟨(HD.out b hb).1,Nat.lt_of_lt_of_le (HD.out b hb).2 (Nat.le_trans HKr.out.size hs2.size)⟩⟩
       have:=HMr.out.kp hs2 (fun b hb e=>by have:=HD.out b hb;omega)
       rw [HEQ.out] at this
       exact this)
      rw [HX.out] at hfin
      exact hfin
 · have HX : Hid (X = ((f1,f2),m)):=by rw [HLM.out,if_neg hf1];exact rfl
   have hfi : (f1 == 0) = false:=by rw [beq_eq_false_iff_ne];exact hf1
   have HR2 : Hid (∀ V,Below w.heap.size w V -> Calls Tryz.prog 197 #[.pointer (some ⟨mb,0,none⟩),.int .i64 (k : Int),.int .i64 a,.int .i64 (d.size : Int),.int .i64 1] V fun e w'=>Below V.heap.size V w' /\ e = .returned (.tuple #[.slice none 0 0,.agg #[.int .i64 f1,.int .i64 f2]])):=fun V hV=>(HRE.out V hV).mono fun e w' ⟨hb,hh⟩=>by
    rcases hh with ⟨_,g⟩ | ⟨g,_⟩
    · exact ⟨hb,g⟩
    · exact (hf1 g).elim
   clear HLM HRE hf1
   go_enter Tryz.func195,Tryz.ntmps195
   go_wp2_with (go_at_call 197;refine (HR2.out _ HB0.out).mono ?_;rintro e w1 ⟨hb1,rfl⟩;have HB1:=hideC (HB0.out.trans (hb1.mono HB0.out.size));have BY1:=hideC (B.below BY.out hb1 (B.isLt BY.out));have y0 : ∀ ob,(w1.alloc ob).cell? ⟨w.heap.size,0,none⟩ = some (.int .i64 0):=(fun ob=>B.cell (B.alloc BY1.out ob) 0 rfl);have y1 : ∀ ob,(w1.alloc ob).cell? ⟨w.heap.size,1,none⟩ = some (.int .i64 0):=(fun ob=>B.cell (B.alloc BY1.out ob) 1 rfl);have y2 : ∀ ob,(w1.alloc ob).frozen? ⟨w.heap.size,0,none⟩ = false:=(fun ob=>B.free (B.alloc BY1.out ob) 0);have y3 : ∀ ob,(w1.alloc ob).frozen? ⟨w.heap.size,1,none⟩ = false:=(fun ob=>B.free (B.alloc BY1.out ob) 1);clear hb1)
   refine bodyPost_ret (v:=.agg #[.int .i64 f1,.int .i64 f2]) (by simp [results,Tryz.results195,go_sem,y0,y1]) rfl ?_
   have hbe:=(((HB1.out.alloc HB1.out.size (.cells #[.int .i64 f1,.int .i64 f2] 68)).setCell (p:=⟨w.heap.size,0,none⟩) (Nat.le_refl _) (.int .i64 f1)).setCell (p:=⟨w.heap.size,1,none⟩) (Nat.le_refl _) (.int .i64 f2))
   have hfin:=HP.out _ (by
    refine ⟨D,?_,Kp.ofBelow hbe,fun b hb=>.inl hb⟩
    rw [HX.out]
    exact HdF.below ⟨⟨v,L,HM.out⟩,HD.out⟩ hbe)
   rw [HX.out] at hfin
   exact hfin
theorem lcAt_set (L : List Lc) (k j : Nat) (l : Lc) (hk : k < L.length) : lcAt (L.set k l) j = if j = k then l else lcAt L j:=by
 unfold lcAt
 rw [List.getD_eq_getElem?_getD,List.getD_eq_getElem?_getD,List.getElem?_set]
 by_cases h : j = k
 · rw [if_pos h,if_pos h.symm]
   subst h
   rw [if_pos hk];rfl
 · rw [if_neg h,if_neg (fun g=>h g.symm)]
theorem Mem.turn {lo mb : Nat} {w w2 : World} {D D' : Nat -> Prop} {sl : Int} {v : Value} {L : List Lc} {ss : List FM.Sp} (h : Mem lo mb w D sl v L ss) {k : Nat} (hk : k < L.length) {l : Lc} {s : FM.Sp}
  (hkp : Kp (fun b=>blk v b ∨ blk (lcAt L k).vp b) w w2) (hrow : w2.ownsRow lo 53 3 v L.length ((L.set k l).flatMap cellLc)) (hs : SpOwn lo w2 l s)
  (hva : ∀ b,blk l.va b -> blk (lcAt L k).va b ∨ w.heap.size <= b) (hvp : ∀ b,blk l.vp b -> blk (lcAt L k).vp b ∨ w.heap.size <= b) (hne : ∀ b,blk l.vp b -> ¬ blk l.va b) (hd : ∀ b,D b -> D' b) (hd2 : ∀ b,w.heap.size <= b -> b < w2.heap.size -> D' b) :
  Mem lo mb w2 D' sl v (L.set k l) (ss.set k s):=by
 have hmb:=B.isLt h.head
 have hlen:=h.len
 have hL : (L.set k l).length = L.length:=List.length_set
 have new : ∀ b,(blk l.va b -> blk (lcAt L k).va b ∨ w.heap.size <= b):=hva
 have at_ : ∀ j,lcAt (L.set k l) j = if j = k then l else lcAt L j:=fun j=>lcAt_set L k j l hk
 refine ⟨by rw [hL,List.length_set];exact hlen,hkp.keep h.head (fun e=>by rcases e with e | e;exact h.n1 e;exact (h.n2 k hk).2 e),by rw [hL];exact hrow,fun j hj=>?_,h.base,h.n1,fun j hj=>?_,fun j hj b hb=>?_,fun i j hi hj b hb=>?_,hd _ h.d1,fun b hb=>hd _ (h.d2 b hb),fun j hj b hb=>?_⟩
 · rw [hL] at hj
   rw [at_,GM.spAt_set _ _ _ _ (by omega)]
   by_cases c : j = k
   · rw [if_pos c,if_pos c];exact hs
   · rw [if_neg c,if_neg c]
     refine (h.each j hj).kp hkp (fun b hb e=>?_) (fun b hb e=>?_)
     · rcases e with e | e
       · exact (h.n3 j hj b e).1 hb
       · exact (h.n4 k j hk hj b e).1 hb
     · rcases e with e | e
       · exact (h.n3 j hj b e).2 hb
       · exact (h.n4 k j hk hj b e).2 (fun g=>c g.symm) hb
 · rw [hL] at hj
   rw [at_]
   by_cases c : j = k
   · rw [if_pos c]
     exact ⟨fun g=>by rcases hva _ g with e | e;exact (h.n2 k hk).1 e;omega,fun g=>by rcases hvp _ g with e | e;exact (h.n2 k hk).2 e;omega⟩
   · rw [if_neg c];exact h.n2 j hj
 · rw [hL] at hj
   rw [at_]
   by_cases c : j = k
   · rw [if_pos c]
     have:=(h.row.lt b hb).2
     exact ⟨fun g=>by rcases hva _ g with e | e;exact (h.n3 k hk b hb).1 e;omega,fun g=>by rcases hvp _ g with e | e;exact (h.n3 k hk b hb).2 e;omega⟩
   · rw [if_neg c];exact h.n3 j hj b hb
 · rw [hL] at hi hj
   rw [at_] at hb ⊢
   by_cases ci : i = k
   · rw [if_pos ci] at hb
     by_cases cj : j = k
     · rw [if_pos cj]
       exact ⟨hne b hb,fun g=>(g (by omega)).elim⟩
     · rw [if_neg cj]
       rcases hvp b hb with e | e
       · exact ⟨(h.n4 k j hk hj b e).1,fun _=>(h.n4 k j hk hj b e).2 (fun g=>cj g.symm)⟩
       · exact ⟨fun g=>by have:=h.lt j hj b (.inl g);omega,fun _ g=>by have:=h.lt j hj b (.inr g);omega⟩
   · rw [if_neg ci] at hb
     have hlt:=h.lt i hi b (.inr hb)
     by_cases cj : j = k
     · rw [if_pos cj]
       refine ⟨fun g=>?_,fun _ g=>?_⟩
       · rcases hva b g with e | e
         · exact (h.n4 i k hi hk b hb).1 e
         · omega
       · rcases hvp b g with e | e
         · exact (h.n4 i k hi hk b hb).2 ci e
         · omega
     · rw [if_neg cj];exact h.n4 i j hi hj b hb
 · rw [hL] at hj
   rw [at_] at hb
   by_cases c : j = k
   · rw [if_pos c] at hb
     rcases hb with g | g
     · rcases hva b g with e | e
       · exact hd _ (h.d3 k hk b (.inl e))
       · exact hd2 b e (hs.areas.lt b g).2
     · rcases hvp b g with e | e
       · exact hd _ (h.d3 k hk b (.inr e))
       · exact hd2 b e (hs.pages.lt b g).2
   · rw [if_neg c] at hb
     exact hd _ (h.d3 j hj b hb)
theorem flat_nextL (L : List Lc) (k : Nat) (hk : k < L.length) (a b : Lc) (j : Nat) (hj : j < 3) (x : Value) (e : cellLc b = (cellLc a).set j x) : (L.set k b).flatMap cellLc = ((L.set k a).flatMap cellLc).set (k * 3 + j) x:=by
 have:=rows_set cellLc 3 cellLc_len lc0 b j x hj (L.set k a) k (by rw [List.length_set];exact hk) (by
  rw [e,List.getD_eq_getElem?_getD,List.getElem?_set_self hk];rfl)
 rw [List.set_set] at this
 exact this
theorem lc_id (L : List Lc) (k : Nat) (hk : k < L.length) : L.set k (lcAt L k) = L:=by
 apply List.ext_getElem?
 intro j
 rw [List.getElem?_set]
 by_cases e : k = j
 · subst e
   rw [if_pos rfl,if_pos hk]
   unfold lcAt
   rw [List.getD_eq_getElem?_getD,List.getElem?_eq_getElem hk]
   rfl
 · rw [if_neg e]
theorem Mem.setA {lo mb : Nat} {w w1 : World} {D D' : Nat -> Prop} {sl : Int} {sb n cap : Nat} {L : List Lc} {ss : List FM.Sp} (h : Mem lo mb w D sl (.slice (some ⟨sb,0,none⟩) n cap) L ss) {k : Nat} (hk : k < L.length) {va : Value} {l : List AM.Ar}
  (hb : Below w.heap.size w w1) (ho : AW.Own lo w1 va l) (hva : ∀ b,blk va b -> w.heap.size <= b) (hd : ∀ b,D b -> D' b) (hd2 : ∀ b,w.heap.size <= b -> b < w1.heap.size -> D' b) :
  Mem lo mb (w1.setCell ⟨sb,k * 3 + 1,none⟩ va) D' sl (.slice (some ⟨sb,0,none⟩) n cap) (L.set k { lcAt L k with va:=va }) (ss.set k { FM.spAt ss k with areas:=l }) /\ Kp (fun b=>b = sb) w (w1.setCell ⟨sb,k * 3 + 1,none⟩ va):=by
 have hbs : blk (.slice (some ⟨sb,0,none⟩) n cap) sb:=rfl
 have hkS : Kp (fun b=>b = sb) w1 (w1.setCell ⟨sb,k * 3 + 1,none⟩ va):=Kp.set _ _ _ _ rfl
 have hkp : Kp (fun b=>b = sb) w (w1.setCell ⟨sb,k * 3 + 1,none⟩ va):=(Kp.ofBelow hb).trans hkS (fun _ _ g=>g)
 have hnL : n = L.length:=by
  obtain ⟨ao,c,e,_,_⟩:=row_form h.row
  injection e
 have hsz : (w1.setCell ⟨sb,k * 3 + 1,none⟩ va).heap.size = w1.heap.size:=by simp
 refine ⟨h.turn hk (hkp.mono (fun b _ e=>.inl (e ▸ hbs))) ?_ ?_ (fun b g=>.inr (hva b g)) (fun b g=>.inl g) (fun b g1 g2=>?_) hd (fun b g1 g2=>hd2 b g1 (by rw [hsz] at g2;exact g2)),hkp⟩
 · have hr:=(h.below hb).row
   rw [<- hnL] at hr
   rw [<- lc_id L k hk] at hr
   have:=row_set hr (k * 3 + 1) va
   rw [<- flat_nextL L k hk (lcAt L k) { lcAt L k with va:=va } 1 (by omega) va rfl] at this
   rw [<- hnL]
   exact this
 · have hsp:=(h.below hb).each k hk
   refine ⟨hsp.live,hkS.row ho (fun b hb' e=>?_),hkS.row hsp.pages (fun b hb' e=>?_)⟩
   · have h1:=hva b hb'
     have h2:=(h.row.lt sb hbs).2
     omega
   · exact (h.n3 k hk sb hbs).2 (e ▸ hb')
 · have h1:=hva b g2
   have h2:=(h.lt k hk b (.inr g1)).2
   omega
set_option maxHeartbeats 2000000 in
theorem drop_any {lo mb : Nat} (w : World) (D : Nat -> Prop) (m : GM.Mf) (fl : List Bool) (k : Nat) (h : HdF lo mb w D m) (hok : GM.OkF m fl) (hf : fl.getD k false = true) :
  Calls Tryz.prog 190 #[.pointer (some ⟨mb,0,none⟩),.int .i64 (k : Int)] w (GW.Out (HdF lo mb) w D (.tuple #[]) (GM.dropM m k)):=by
 obtain ⟨⟨v,L,hM⟩,hD⟩:=h
 obtain ⟨hk,hlv⟩:=hok.live hf
 have h4:=hok.few.2
 obtain ⟨sb,cap,aa,na,ca,ap,cp,hv,hsb,hlc,c0,c1,c2,_,_,_,hfz,_⟩:=hM.space k hk
 subst hv
 have HM:=hideC hM
 have HD:=hideC hD
 have m1 : w.cell? ⟨mb,1,none⟩ = some (.slice (some ⟨sb,0,none⟩) m.spaces.length cap):=B.cell hM.head 1 rfl
 have hki : (k : Int) < (m.spaces.length : Int):=by omega
 have f0:=hfz (k * 3)
 have f1:=hfz (k * 3 + 1)
 have f2:=hfz (k * 3 + 2)
 have HFIN : Hid (GW.Out (HdF lo mb) w D (.tuple #[]) (GM.dropM m k) (.returned (.tuple #[])) (((w.setCell ⟨sb,k * 3,none⟩ (.bool false)).setCell ⟨sb,k * 3 + 1,none⟩ (.slice none 0 0)).setCell ⟨sb,k * 3 + 2,none⟩ (.slice none 0 0))):=by
  have hkL : k < L.length:=by rw [hM.len];exact hk
  have hbs : blk (.slice (some ⟨sb,0,none⟩) m.spaces.length cap) sb:=rfl
  have hkp : Kp (fun b=>b = sb) w (((w.setCell ⟨sb,k * 3,none⟩ (.bool false)).setCell ⟨sb,k * 3 + 1,none⟩ (.slice none 0 0)).setCell ⟨sb,k * 3 + 2,none⟩ (.slice none 0 0)):=kp_set3 w sb _ _ _ _ _ _ rfl
  refine ⟨D,rfl,⟨⟨_,L.set k lc0,hM.turn hkL (l:=lc0) (s:=FM.sp0) (hkp.mono (fun b _ e=>.inl (e ▸ hbs))) ?_ ⟨rfl,AW.Own.nil _ _,World.ownsRow_nil _ _ _ _⟩ (fun b g=>by cases g) (fun b g=>by cases g) (fun b g=>by cases g) (fun b g=>g) (fun b g1 g2=>?_)⟩,fun b hb=>⟨(hD b hb).1,Nat.lt_of_lt_of_le (hD b hb).2 hkp.size⟩⟩,hkp.mono (fun b _ e=>hM.d2 b (e ▸ hbs)),fun b hb=>.inl hb⟩
  · have hnL : m.spaces.length = L.length:=hM.len.symm
    have hr:=hM.row
    rw [<- hnL] at hr ⊢
    rw [<- lc_id L k hkL] at hr
    have r0:=row_set hr (k * 3 + 0) (.bool false)
    rw [<- flat_nextL L k hkL (lcAt L k) ⟨false,(lcAt L k).va,(lcAt L k).vp⟩ 0 (by omega) (.bool false) rfl] at r0
    have r1:=row_set r0 (k * 3 + 1) (.slice none 0 0)
    rw [<- flat_nextL L k hkL ⟨false,(lcAt L k).va,(lcAt L k).vp⟩ ⟨false,.slice none 0 0,(lcAt L k).vp⟩ 1 (by omega) (.slice none 0 0) rfl] at r1
    have r2:=row_set r1 (k * 3 + 2) (.slice none 0 0)
    rw [<- flat_nextL L k hkL ⟨false,.slice none 0 0,(lcAt L k).vp⟩ lc0 2 (by omega) (.slice none 0 0) rfl] at r2
    exact r2
  · simp at g2;omega
 obtain ⟨P,hP⟩ : ∃ P,P = GW.Out (HdF lo mb) w D (.tuple #[]) (GM.dropM m k):=⟨_,rfl⟩
 rw [<- hP] at HFIN ⊢
 obtain ⟨ns,hns⟩ : ∃ ns,ns = m.spaces.length:=⟨_,rfl⟩
 rw [<- hns] at m1 hki hk h4
 obtain ⟨lv,hlv2⟩ : ∃ lv,lv = (FM.spAt m.spaces k).live:=⟨_,rfl⟩
 obtain ⟨np,hnp⟩ : ∃ np,np = (FM.spAt m.spaces k).pages.length:=⟨_,rfl⟩
 rw [<- hlv2] at c0
 rw [<- hnp] at c2
 clear hM hD hok hf hlv hP hns hlv2 hnp hlc hfz
 go_enter Tryz.func190,Tryz.ntmps190
 go_wp2
 go_end0
 exact HFIN.out
set_option maxHeartbeats 2000000 in
theorem protect_any {lo mb : Nat} (w : World) (D : Nat -> Prop) (m : GM.Mf) (fl : List Bool) (k : Nat) (p n q : Int) (h : HdF lo mb w D m) (hok : GM.OkF m fl) (hf : fl.getD k false = true) (hp : M.I64 p) (hn : M.I64 n) :
  Calls Tryz.prog 194 #[.pointer (some ⟨mb,0,none⟩),.int .i64 (k : Int),.int .i64 p,.int .i64 n,.int .i64 q] w (GW.Out (HdF lo mb) w D (.int .i64 (GM.protectM m k p n q).1) (GM.protectM m k p n q).2):=by
 obtain ⟨⟨v,L,hM⟩,hD⟩:=h
 obtain ⟨hk,hlv⟩:=hok.live hf
 have hL:=GM.liv_of (hok.each k hk) hlv
 have h4:=hok.few.2
 obtain ⟨sb,cap,aa,na,ca,ap,cp,hv,hsb,hlc,c0,c1,c2,hHa,_,_,hfz,_⟩:=hM.space k hk
 subst hv
 have hfit:=AM.fits_of_check _ hL.check
 have HMP:=hideC (AW.protect_own (FM.spAt m.spaces k).areas (.slice aa na ca) p n q w hHa hfit hp hn)
 have m1 : w.cell? ⟨mb,1,none⟩ = some (.slice (some ⟨sb,0,none⟩) m.spaces.length cap):=B.cell hM.head 1 rfl
 have hmb:=B.isLt hM.head
 have hki : (k : Int) < (m.spaces.length : Int):=by omega
 have HLM : Hid (GM.protectM m k p n q = if ¬ (AW.protectN (FM.spAt m.spaces k).areas p n q).2 = 0 then ((AW.protectN (FM.spAt m.spaces k).areas p n q).2,m) else (0,GM.turnS m k { FM.spAt m.spaces k with areas:=(AW.protectN (FM.spAt m.spaces k).areas p n q).1 })):=rfl
 obtain ⟨X,hX⟩ : ∃ X,X = AW.protectN (FM.spAt m.spaces k).areas p n q:=⟨_,rfl⟩
 rw [<- hX] at HMP HLM
 have HM:=hideC hM
 have HD:=hideC hD
 have HFZ:=hideC hfz
 have HKS:=hideC hk
 obtain ⟨R,hR⟩ : ∃ R,R = GM.protectM m k p n q:=⟨_,rfl⟩
 rw [<- hR] at HLM ⊢
 obtain ⟨P,hP⟩ : ∃ P,P = GW.Out (HdF lo mb) w D (.int .i64 R.1) R.2:=⟨_,rfl⟩
 have HP : Hid (∀ w',(∃ D',HdF lo mb w' D' R.2 /\ Kp D w w' /\ ∀ b,D' b -> D b ∨ w.heap.size <= b) -> P (.returned (.int .i64 R.1)) w'):=fun w' ⟨D',h1,h2,h3⟩=>by rw [hP];exact ⟨D',rfl,h1,h2,h3⟩
 rw [<- hP]
 obtain ⟨X1,X2⟩:=X
 simp only at HMP HLM
 obtain ⟨ns,hns⟩ : ∃ ns,ns = m.spaces.length:=⟨_,rfl⟩
 rw [<- hns] at m1 hki hk h4
 have HNS:=hideC hns
 clear hM hD hok hf hlv hX hR hP hL hHa hfit hlc hfz hns c0 c2
 by_cases hX2 : X2 = 0
 · subst hX2
   have HR : Hid (R = (0,GM.turnS m k { FM.spAt m.spaces k with areas:=X1 })):=by rw [HLM.out,if_neg (fun g=>g rfl)];exact rfl
   clear HLM
   go_enter Tryz.func194,Tryz.ntmps194
   go_wp2_with (go_at_call 201;refine HMP.out.mono ?_;rintro e w1 ⟨r,rfl,hr,hb⟩;obtain ⟨ra,rc,hre,_,_⟩:=row_form (show w1.ownsRow w.heap.size 59 4 r _ _ from hr);subst hre;have HRO:=hideC hr;have HB1:=hideC hb;have x1 : w1.cell? ⟨mb,1,none⟩ = some (.slice (some ⟨sb,0,none⟩) ns cap):=(hb.cell (p:=⟨mb,1,none⟩) hmb).trans m1;have x2 : w1.cell? ⟨sb,k * 3 + 1,none⟩ = some (.slice aa na ca):=(hb.cell (p:=⟨sb,k * 3 + 1,none⟩) hsb).trans c1;have x3 : w1.frozen? ⟨sb,k * 3 + 1,none⟩ = false:=(hb.frozen (p:=⟨sb,k * 3 + 1,none⟩) hsb).trans (HFZ.out _);clear hr hb)
   have hkL : k < L.length:=by rw [HM.out.len];exact HKS.out
   have hlo:=HM.out.base
   obtain ⟨hA,hK⟩:=HM.out.setA (D':=fun b=>D b ∨ (w.heap.size <= b /\ b < w1.heap.size)) hkL HB1.out (AW.Own.mono HRO.out (by omega)) (fun b hb=>(World.ownsRow.lt (show w1.ownsRow w.heap.size _ 4 _ _ _ from HRO.out) b hb).1) (fun b hb=>.inl hb) (fun b g1 g2=>.inr ⟨g1,g2⟩)
   have:=HP.out _ ⟨_,by rw [HR.out];exact ⟨⟨_,_,hA⟩,fun b hb=>by
    have hs:=HB1.out.size
    have hz : (w1.setCell ⟨sb,k * 3 + 1,none⟩ (.slice ra X1.length rc)).heap.size = w1.heap.size:=by simp
    rw [hz]
    rcases hb with g | g
    · have:=HD.out b g;omega
    · omega⟩,hK.mono (fun b _ e=>HM.out.d2 b (by rw [e];rfl)),fun b hb=>by
    rcases hb with g | g
    · exact .inl g
    · exact .inr g.1⟩
   rw [HR.out] at this
   exact this
 · have HR : Hid (R = (X2,m)):=by rw [HLM.out,if_pos hX2];exact rfl
   have hxi : (X2 == 0) = false:=by rw [beq_eq_false_iff_ne];exact hX2
   clear HLM hX2
   go_enter Tryz.func194,Tryz.ntmps194
   go_wp2_with (go_at_call 201;refine HMP.out.mono ?_;rintro e w1 ⟨r,rfl,hr,hb⟩;obtain ⟨ra,rc,hre,_,_⟩:=row_form (show w1.ownsRow w.heap.size 59 4 r _ _ from hr);subst hre;have HB1:=hideC hb;clear hr hb)
   have:=HP.out w1 ⟨D,by rw [HR.out];exact HdF.below ⟨⟨_,L,HM.out⟩,HD.out⟩ HB1.out,Kp.ofBelow HB1.out,fun b hb=>.inl hb⟩
   rw [HR.out] at this
   exact this
end GF
end Go.Proofs.YtkdigjpejnebkaaGreat
