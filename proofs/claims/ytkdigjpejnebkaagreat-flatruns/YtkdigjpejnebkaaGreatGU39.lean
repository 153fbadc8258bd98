import Derived.Test.YtkdigjpejnebkaaGreatGU00
import Derived.Test.YtkdigjpejnebkaaGreatGU23
import Derived.Test.YtkdigjpejnebkaaGreatGU33
import Derived.Test.YtkdigjpejnebkaaGreatGU13
import Derived.Test.YtkdigjpejnebkaaGreatGU38
import Derived.Deep.RegionLaw
import Derived.Deep.RegionHeld3
import Derived.Deep.DeepCutAuto
import Derived.Test.YtkdigjpejnebkaaGreatGU14
import Derived.Test.YtkdigjpejnebkaaGreatGU02
import Derived.Test.YtkdigjpejnebkaaGreatChecked
import Derived.Deep.Slices
import Derived.ProofKit
import Derived.SizedLaws
set_option maxHeartbeats 20000000
set_option linter.unusedVariables false
set_option maxRecDepth 100000
set_option linter.unusedSimpArgs false
namespace Go.Proofs.YtkdigjpejnebkaaGreat
namespace GH
open Go.RowKit GK
open GW (aI bR bg cB)
open FW (ai aB)
open GF (blk aH bl)
theorem kY (hs:List LM.Sh) (k:Nat) (h:k<hs.length):((hs.take (k+1)).map tY).flatMap aH=((hs.take k).map tY).flatMap aH++[I (LM.gm hs k).page,.string (LM.ou (LM.gm hs k)).1]:=by
 have e:hs.take (k+1)=hs.take k++[LM.gm hs k]:=by
  rw[List.take_add_one,List.getElem?_eq_getElem h]
  unfold LM.gm
  rw[List.getD_eq_getElem?_getD,List.getElem?_eq_getElem h]
  rfl
 rw[e,List.map_append,List.flatMap_append]
 rfl
theorem JU (w:World) (o:Obj) (C:Array Value) (t:TypeId):((w.alloc o).alloc (.cells C t)).heap[w.heap.size+1]?=some (.cells C t (0,0)):=by
 have:=B.new (w.alloc o) C t
 simpa using this
theorem P9 (l:List AM.Ar) (hs:List LM.Sh) (en slots:Int) (aa ah:Option Addr) (na ca ch:Nat) (w:World) (ha:AW.Has w (.slice aa na ca) l) (hf:AW.dE l) (h:LM.nZ w ah hs) (y9:LM.Jd hs) (hcap:hs.length<=ch) (he:M.dF en) :
  Calls Tryz.prog 7 #[.agg #[.slice aa na ca,.slice ah hs.length ch,I en],I slots] w (ny w (Qb l hs en slots)):=by
 have vQ:Hid (∀V,Below w.heap.size w V->Calls Tryz.prog 21 #[.agg #[.slice aa na ca,.slice ah hs.length ch,I en]] V fun e w'=>e=.returned (I (LM.lO l hs en))/\Below V.heap.size V w'):=fun V hV=>LW.dx l hs en _ ah ch V (ha.below hV) hf (h.below hV) y9 hcap he
 have HTO:Hid (∀V,Below w.heap.size w V->Calls Tryz.prog 22 #[.slice aa na ca] V fun e w'=>e=.returned (I (AM.br l))/\Below V.heap.size V w'):=fun V hV=>AW.jr _ _ _ (ha.below hV) hf
 have Lr:Hid (AM.aD l=0->∀V,Below w.heap.size w V->Calls Tryz.prog 23 #[.slice aa na ca] V fun e w'=>∃a' c',e=.returned (.slice a' l.length c')/\AW.Own V.heap.size w' (.slice a' l.length c') l/\Below V.heap.size V w'):=fun hk V hV=>by
  obtain⟨hn,Na⟩:=GF.nY (ha.below hV)
  subst hn
  refine(IV aa l.length ca (AM.aT l) V ?_ Na ?_ (by have:=AM.dY _ hk;omega)).mono ?_
  · exact AM.gN l
  · exact AM.gj l
  · rintro e w' ⟨v,rfl,h1,h2⟩
    obtain⟨a',c',rfl,_,_⟩:=aL h1
    exact⟨a',c',rfl,h1,h2⟩
 have Tx:Hid (∀k,k<hs.length->∀V,Below w.heap.size w V->Calls Tryz.prog 24 #[.agg (LM.pH (LM.gm hs k))] V fun e w'=>e=.returned (.tuple #[.string (LM.ou (LM.gm hs k)).1,I (LM.ou (LM.gm hs k)).2])/\Below V.heap.size V w'):=fun k hk V hV=>by
  obtain⟨b,off,_,_,hl⟩:=(h.below hV) (by omega)
  exact LW.NH (LM.gm hs k) V (hl k hk).2.2.2 (y9.2 k hk)
 have Tz:=ai (fun V=>FW.KH en V)
 have EG:=ai (fun (g:LM.lO l hs en=0)=>E2 g)
 have dI:=ai (fun (g:LM.lO l hs en=0)=>(u9 g).1)
 have HTD:=ai (FW.gB l)
 have Wz:=ai h
 have HTS:=ai (kY hs)
 obtain⟨ck,qa⟩:=ex (LM.lO l hs en)
 obtain⟨tt,VZ⟩:=ex (AM.br l)
 have Vv:Hid (Qb l hs en slots=if ¬ck=0 then (oL,ck) else if ¬(0<=slots/\slots<=512) then (oL,3) else if slots<tt then (oL,8) else (⟨slots,[⟨true,l,hs.map tY⟩],[FW.pI en],[]⟩,0)):=by rw[qa,VZ];exact rfl
 rw[<- qa] at vQ EG dI
 rw[<- VZ] at HTO EG HTD
 obtain⟨R,hR⟩:=ex (Qb l hs en slots)
 rw[<- hR] at Vv ⊢
 obtain⟨P,hP⟩:=ex (ny w R)
 have HP:Hid (∀e w',ny w R e w'->P e w'):=fun e w' h=>by rw[hP];exact h
 rw[<- hP]
 obtain⟨n,hn⟩:=ex hs.length
 rw[<- hn] at vQ Tx EG ⊢
 have HN:=ai hn
 obtain⟨X,hX⟩:∃X:Array Value,X=#[.slice aa na ca,.slice ah n ch,I en]:=⟨_,rfl⟩
 have cY:=ai (((Below.refl w.heap.size w).alloc (Nat.le_refl _) (.cells #[.slice aa na ca,.slice ah n ch,I en] 25)).alloc (by simp) (.cells #[I 0,Nl,Nl,Nl] 30))
 have BX:=ai (B.alloc (B.new w #[.slice aa na ca,.slice ah n ch,I en] 25) (.cells #[I 0,Nl,Nl,Nl] 30))
 have BZ:=ai (B.new (w.alloc (.cells #[.slice aa na ca,.slice ah n ch,I en] 25)) #[I 0,Nl,Nl,Nl] 30)
 clear h ha hf y9 qa VZ hR hP hn hX he hcap
 go_enter Tryz.func7,Tryz.ntmps7
 go_wp2_with fail
 obtain⟨WA,gw⟩:=ex ((w.alloc (.cells #[.slice aa na ca,.slice ah n ch,I en] 25)).alloc (.cells #[I 0,Nl,Nl,Nl] 30))
 have hsz1:(w.alloc (.cells #[.slice aa na ca,.slice ah n ch,I en] 25)).heap.size=w.heap.size+1:=by simp
 rw[hsz1] at BZ
 rw[<- gw] at cY BX BZ ⊢
 obtain⟨x,Ip⟩:=ex w.heap.size
 obtain⟨z,J5⟩:=ex (w.heap.size+1)
 rw[<- J5] at BZ ⊢
 rw[<- Ip] at BX ⊢
 have hxz:¬x=z:=by omega
 have hzx:¬z=x:=by omega
 have tG:Hid (∀V,Below WA.heap.size WA V->V.cell? (Ad x 0)=some (.slice aa na ca)/\V.cell? (Ad x 1)=some (.slice ah n ch)/\V.cell? (Ad x 2)=some (I en)):=fun V hb=>by
  have h1:=B.below BX.o hb (B.isLt BX.o)
  exact⟨B.cell h1 0 rfl,B.cell h1 1 rfl,B.cell h1 2 rfl⟩
 have Pd:Hid (∀V,Below WA.heap.size WA V->(V.cell? (Ad z 0)=some (I 0)/\V.cell? (Ad z 1)=some Nl/\V.cell? (Ad z 2)=some Nl/\V.cell? (Ad z 3)=some Nl)/\V.frozen? (Ad z 0)=false/\V.frozen? (Ad z 1)=false/\V.frozen? (Ad z 2)=false/\V.frozen? (Ad z 3)=false):=fun V hb=>by
  have h1:=B.below BZ.o hb (B.isLt BZ.o)
  exact⟨⟨B.cell h1 0 rfl,B.cell h1 1 rfl,B.cell h1 2 rfl,B.cell h1 3 rfl⟩,B.free h1 0,B.free h1 1,B.free h1 2,B.free h1 3⟩
 have MW:=B.isLt BZ.o
 have Vc:Hid (w.heap.size<=z):=(by rw[J5];omega:w.heap.size<=z)
 have Wn:Hid (x=w.heap.size):=Ip
 clear gw hsz1 Ip J5 BX BZ
 have mS:Hid (∀(V:World) (er:Int),R=(oL,er)->Below WA.heap.size WA V->P (.returned (.tuple #[.agg #[I 0,Nl,Nl,Nl],I er])) ((((V.setCell (Ad z 0) (I 0)).setCell (Ad z 1) Nl).setCell (Ad z 2) Nl).setCell (Ad z 3) Nl)):=fun V er hRe hV=>by
  refine HP.o _ _ ?_
  rw[hRe]
  exact⟨none,0,none,0,none,0,rfl,fun V _=>vZ V,Kp.below (cY.o.trans (hV.mono cY.o.size)) (mv V z _ _ _ _) (Nat.le_trans cY.o.size hV.size) (fun b e=>by rw[e];exact Vc.o)⟩
 refine(vQ.o _ cY.o).mono ?_
 rintro e w1 ⟨rfl,hb1⟩
 have bj:=ai hb1
 obtain⟨⟨z0,z1,z2,z3⟩,f0,f1,f2,f3⟩:=Pd.o _ hb1
 obtain⟨x0,x1,x2⟩:=tG.o _ hb1
 clear hb1 vQ
 by_cases F8:ck=0
 · subst F8
   obtain⟨hnt,hnb⟩:=EG.o rfl
   have hnl:(n:Int)<=65025:=by omega
   have ZQ:=ai (Lr.o (dI.o rfl))
   have Cj:Hid (R=if ¬(0<=slots/\slots<=512) then (oL,3) else if slots<tt then (oL,8) else (⟨slots,[⟨true,l,hs.map tY⟩],[FW.pI en],[]⟩,0)):=by rw[Vv.o,if_neg (fun g=>g rfl)];exact rfl
   clear Vv EG dI Lr
   by_cases hs0:0<=slots
   · by_cases hs5:slots<=512
     · by_cases hst:slots<tt
       · have ki:Hid (R=(oL,8)):=by rw[Cj.o,if_neg (fun g=>g ⟨hs0,hs5⟩),if_pos hst];exact rfl
         clear Cj
         go_wp2_with (go_at_call 22;refine(HTO.o _ (cY.o.trans (bj.o.mono cY.o.size))).mono ?_;rintro e w2 ⟨rfl,hb2⟩;have bW:=ai (bj.o.trans (hb2.mono bj.o.size));obtain⟨⟨y0,y1,y2,y3⟩,g0,g1,g2,g3⟩:=Pd.o _ bW.o;clear hb2)
         refine bodyPost_ret (v:=.tuple #[.agg #[I 0,Nl,Nl,Nl],I 8]) (by simp[results,Tryz.results7,go_sem,y0,y1,y2,y3]) rfl ?_
         exact mS.o _ _ ki.o bW.o
       · have ki:Hid (R=(⟨slots,[⟨true,l,hs.map tY⟩],[FW.pI en],[]⟩,0)):=by rw[Cj.o,if_neg (fun g=>g ⟨hs0,hs5⟩),if_neg hst];exact rfl
         clear Cj
         go_wp2_with (first
          | (go_at_call 22;refine(HTO.o _ (cY.o.trans (bj.o.mono cY.o.size))).mono ?_;rintro e w2 ⟨rfl,hb2⟩;have bW:=ai (bj.o.trans (hb2.mono bj.o.size));obtain⟨q0,q1,q2⟩:=tG.o _ bW.o;clear hb2)
          | (go_at_call 23;refine(ZQ.o _ (cY.o.trans (bW.o.mono cY.o.size))).mono ?_;rintro e w3 ⟨a3,c3,rfl,XV,hb3⟩;have Vu:=ai XV;have fH:=ai (bW.o.trans (hb3.mono bW.o.size));obtain⟨p0,p1,p2⟩:=tG.o _ fH.o;have ahu:x<w3.heap.size:=World.block_lt_of_cell? _ _ p0;have hxn:¬x=w3.heap.size:=(by omega);clear XV hb3))
         have Lh:=ai (B.new w3 #[.bool true,.slice a3 l.length c3,Nl] 53)
         have uy:=ai ((Below.refl w3.heap.size w3).alloc (Nat.le_refl _) (.cells #[.bool true,.slice a3 l.length c3,Nl] 53))
         obtain⟨i0,hin,hz0,hz1,hz2⟩:=info_parts ry
         have nB:=ai hin
         have vP:=ai hz0
         have rT:=ai hz1
         have mQ:=ai hz2
         have Hm:=ai (cY.o.trans (fH.o.mono cY.o.size))
         clear hin hz0 hz1 hz2 q0 q1 q2 x0 x1 x2 z0 z1 z2 z3 f0 f1 f2 f3 HTO ZQ
         go_loopw [40] (fun iv wr=>∃(k:Nat) (av:Option Addr) (cv:Nat),k<=n/\iv=I (k:Int)/\wr.heap[w3.heap.size]?=some (.cells #[.bool true,.slice a3 l.length c3,.slice av k cv] 53 (0,0))/\wr.ownsRow (w3.heap.size+1) 65 2 (.slice av k cv) k (((hs.take k).map tY).flatMap aH)/\Below w3.heap.size w3 wr) (fun iv _=>n-(intOf iv).toNat)
         case atStart=>exact⟨0,none,0,by omega,rfl,Lh.o,World.ownsRow_nil _ _ _ _,uy.o⟩
         case round =>
          obtain⟨k,av,cv,hk,rfl,V3,hrow,hbr⟩:=hrel
          have Zg:=ai V3
          have tN:=ai hrow
          have CA:=ai hbr
          have htl:w3.heap.size<wr.heap.size:=B.isLt V3
          by_cases hlt:k<n
          · have jd:(k:Int)<(n:Int):=by omega
            obtain⟨b,off,hah,hbl,bP⟩:=(Wz.o.below (Hm.o.trans (hbr.mono Hm.o.size))) (by have:=HN.o;omega)
            subst hah
            obtain⟨c0,c1,c2,_⟩:=bP k (by have:=HN.o;omega)
            have rY:=ai (Tx.o k hlt)
            have RP:=ai (HTS.o k (by have:=HN.o;omega))
            unfold LM.pH at rY
            obtain⟨S,hS⟩:=ex (LM.gm hs k)
            rw[<- hS] at c0 c1 c2 rY RP
            obtain⟨sp,hsp⟩:=ex S.page
            obtain⟨sd,hsd⟩:=ex S.data
            obtain⟨sf,hsf⟩:=ex S.ik.length
            obtain⟨FD,hFD⟩:=ex ((LM.ou S).1)
            obtain⟨FE,hFE⟩:=ex ((LM.ou S).2)
            rw[<- hsp] at c0 rY RP
            rw[<- hsd] at c1 rY
            rw[<- hsf] at c2 rY
            rw[<- hFD] at rY RP
            rw[<- hFE] at rY
            have Px:=ai ((Below.refl wr.heap.size wr).alloc (Nat.le_refl _) (.cells #[I sp,.string sd,.slice S.ao sf S.cap] 62))
            have HN4:=ai (B.new wr #[I sp,.string sd,.slice S.ao sf S.cap] 62)
            clear V3 hrow hbr bP hS hsp hsd hsf hFD hFE
            go_wp2_with (first
             | (at_builtin;refine b7 (P:=Tryz.prog) rfl _ _ 51 rfl (w3.heap.size+1) 65 i0 (.agg #[I 0,.string ⟨#[]⟩]) 2 24 Tryz.underlying51 nB.o vP.o rT.o mQ.o rfl (by decide) _ k (((hs.take k).map tY).flatMap aH) rfl (Vk.o.alloc _) (some (Ad w5.heap.size 0)) 1 1 [I sp,.string FD] rfl rfl (fun _=>⟨_,rfl,B.news (B.new w5 _ _)⟩) (by intro u hu;simp at hu;rcases hu with rfl | rfl <;> rfl) (by unfold maxLen;omega) (by omega) (by simp;omega) ?_;intro v' w6 hown hgr hat;obtain⟨a6,c6,XC,_,_⟩:=aL hown;subst XC;have Ph:=ai hown;have ZH:=ai hgr;have HT6:=ai (B.grown (B.alloc Zf.o (.cells #[I sp,.string FD] 65)) hgr (fun e=>by have:=(Vk.o.lt _ e.symm).1;omega));have t6:w6.cell? (Ad w3.heap.size 2)=some (.slice av k cv):=B.cell HT6.o 2 rfl;have t7:=B.free HT6.o 2;clear hown hgr hat)
             | (go_at_call 24;refine(rY.o _ (Hm.o.trans ((CA.o.trans (Px.o.mono CA.o.size)).mono Hm.o.size))).mono ?_;rintro e w5 ⟨rfl,ot⟩;have jg:=ai (CA.o.trans ((Px.o.trans (ot.mono Px.o.size)).mono CA.o.size));have O8:=(Px.o.trans (ot.mono Px.o.size)).size;have Zf:=ai (B.below (B.alloc Zg.o (.cells #[I sp,.string sd,.slice S.ao sf S.cap] 62)) ot (B.isLt (B.alloc Zg.o _)));have Vk:=ai (Kp.row (Kp.aF (D:=fun _=>False) (Px.o.trans (ot.mono Px.o.size))) tN.o (fun _ _ g=>g));have t5:w5.cell? (Ad w3.heap.size 2)=some (.slice av k cv):=B.cell Zf.o 2 rfl;have t4:w5.cell? (Ad wr.heap.size 0)=some (I sp):=B.cell (B.below HN4.o ot (B.isLt HN4.o)) 0 rfl;clear ot))
            go_roundw
            case rel =>
             refine⟨k+1,a6,c6,by omega,by go_num,?_,?_,?_⟩
             · exact B.set HT6.o 2 _
             · have hr:=Kp.row (Kp.set (fun b=>b=w3.heap.size) w6 (Ad w3.heap.size 2) (.slice a6 (k+1) c6) rfl) Ph.o (fun g hg e=>by have:=(Ph.o.lt g hg).1;omega)
               rw[RP.o]
               exact hr
             · have tJ:Kp (fun b=>w3.heap.size<=b) w5 w6:=((Kp.alloc (fun b=>w3.heap.size<=b) w5 (.cells #[I sp,.string FD] 65)).trans (Kp.grown (D:=fun b=>w3.heap.size<=b) ZH.o (fun g hg=>by have:=(Vk.o.lt g hg).1;omega)) (fun _ _ g=>g))
               exact Kp.below (Kp.below jg.o tJ jg.o.size (fun b g=>g)) (Kp.set (fun b=>w3.heap.size<=b) w6 (Ad w3.heap.size 2) _ (Nat.le_refl _)) (Nat.le_trans jg.o.size tJ.size) (fun b g=>g)
            case measure=>simp[intOf];omega
          · obtain rfl:n=k:=by omega
            clear V3 hrow hbr
            have aeg:Hid (∀V,Calls Tryz.prog 25 #[I en] V fun e w'=>e=.returned (.agg #[I 0,I 0,I 0,I 0,I 0,I 0,I 0,I 0,I en,I 1,I 0,I 0,I 0])/\Below V.heap.size V w'):=fun V=>Tz.o V
            have Pk:=ai (fH.o.trans (CA.o.mono fH.o.size))
            obtain⟨⟨z0,z1,z2,z3⟩,f0,f1,f2,f3⟩:=Pd.o _ Pk.o
            obtain⟨r0,r1,r2⟩:=tG.o _ Pk.o
            obtain⟨t0,t1,t2⟩:=B.c3 Zg.o
            have HTD:Hid (wr.drew.heap[w3.heap.size]?=some (.cells #[.bool true,.slice a3 l.length c3,.slice av n cv] 53 (0,0))):=Zg.o
            have HDR:=ai ((Below.refl wr.heap.size wr).drew)
            have HAD:Hid (∀o,Below wr.heap.size wr (wr.alloc o).drew/\wr.heap.size<=(wr.alloc o).drew.heap.size):=fun o=>⟨((Below.refl wr.heap.size wr).alloc (Nat.le_refl _) o).drew,((Below.refl wr.heap.size wr).alloc (Nat.le_refl _) o).drew.size⟩
            have dz:Hid (∀(Y:World) (A C:Nat),Y.heap[A]?=some (.cells #[.bool true,.slice a3 l.length c3,.slice av n cv] 53 (0,0))->Y.heap[C]?=some (.cells #[I 0,I 0,I 0,I 0,I 0,I 0,I 0,I 0,I en,I 1,I 0,I 0,I 0] 70 (0,0))->Below wr.heap.size wr Y->wr.heap.size<=A->wr.heap.size<=C->P (.returned (.tuple #[.agg #[I slots,.slice (some (Ad A 0)) 1 1,.slice (some (Ad C 0)) 1 1,Nl],I 0])) ((((Y.setCell (Ad z 0) (I slots)).setCell (Ad z 1) (.slice (some (Ad A 0)) 1 1)).setCell (Ad z 2) (.slice (some (Ad C 0)) 1 1)).setCell (Ad z 3) Nl)):=fun Y A C hA hC hY QK hCl=>by
             refine HP.o _ _ ?_
             rw[ki.o]
             have hk4:=mv Y z (I slots) (.slice (some (Ad A 0)) 1 1) (.slice (some (Ad C 0)) 1 1) Nl
             have hw3:=Hm.o.size
             have hwr:=CA.o.size
             have hzl:z<w3.heap.size:=Nat.lt_of_lt_of_le MW fH.o.size
             have hwz:=Vc.o
             refine⟨some (Ad A 0),1,some (Ad C 0),1,none,0,rfl,fun V hV=>?_,?_⟩
             · have hk:Kp (fun b=>b<=z) Y V:=(hk4.mono (fun b _ e=>Nat.le_of_eq e)).trans hV (fun b _ g=>by have g':b<w.heap.size:=g;omega)
               have gA:=hk.keep hA (fun g=>by have g':A<=z:=g;omega)
               have gC:=hk.keep hC (fun g=>by have g':C<=z:=g;omega)
               have hO:AW.Own (z+1) V (.slice a3 l.length c3) l:=by
                have h1:=Vu.o
                have h2:w3.ownsRow w2.heap.size 59 4 (.slice a3 l.length c3) l.length (AM.aT l):=h1
                have hz2:z<w2.heap.size:=Nat.lt_of_lt_of_le MW bW.o.size
                have h3:=Kp.row (Kp.aF (D:=fun _=>False) CA.o) h2 (fun _ _ g=>g)
                have h4:=Kp.row (Kp.aF (D:=fun _=>False) hY) h3 (fun _ _ g=>g)
                have h5:=Kp.row hk h4 (fun g hg e=>by have g':g<=z:=e;have:=(h2.lt g hg).1;omega)
                exact lD h5 (fun g hg=>by have:=(h2.lt g hg).1;omega)
               have Wh:=Kp.row hk (Kp.row (Kp.aF (D:=fun _=>False) hY) tN.o (fun _ _ g=>g)) (fun g hg e=>by have g':g<=z:=e;have:=(tN.o.lt g hg).1;omega)
               have hfull:(hs.take n).map tY=hs.map tY:=by rw[HN.o,List.take_length]
               rw[hfull] at Wh
               have hlen:(hs.map tY).length=n:=by rw[List.length_map,HN.o]
               have hHP:FW.iL V av (hs.map tY):=fun hp=>by
                obtain⟨ov,cap',e0,_,hg⟩:=aL Wh
                injection e0 with ea _ _
                obtain⟨g,hgo,_,acy⟩:=hg (by omega)
                have hao:av=some (Ad g 0):=ea.trans hgo
                refine⟨g,0,hao,acy,fun i hi=>?_⟩
                rw[hao,<- hlen] at Wh
                rw[Nat.zero_add]
                exact⟨cZ aH bl FM.yE Wh i 0 hi (by omega),cZ aH bl FM.yE Wh i 1 hi (by omega)⟩
               refine⟨fun _=>⟨A,0,rfl,B.isLt gA,fun i hi=>?_⟩,fun _=>⟨C,0,rfl,B.isLt gC,fun i hi=>?_⟩,fun g=>absurd g (Nat.not_lt_zero _)⟩
               · have hi':i<1:=hi
                 obtain rfl:i=0:=by omega
                 refine⟨_,av,cv,B.cell gA 0 rfl,B.cell gA 1 rfl,?_,AW.Own.has hO,hHP,?_⟩
                 · have:=B.cell gA 2 (v:=.slice av n cv) rfl
                   rw[<- hlen] at this
                   exact this
                 · show(hs.map tY).length<=cv
                   obtain⟨ov,cap',e0,hcc,_⟩:=aL Wh
                   injection e0 with _ _ ec
                   omega
               · have hi':i<1:=hi
                 obtain rfl:i=0:=by omega
                 exact⟨B.cell gC 0 rfl,B.cell gC 1 rfl,B.cell gC 2 rfl,B.cell gC 3 rfl,B.cell gC 4 rfl,B.cell gC 5 rfl,B.cell gC 6 rfl,B.cell gC 7 rfl,B.cell gC 8 rfl,B.cell gC 9 rfl,B.cell gC 10 rfl,B.cell gC 11 rfl,B.cell gC 12 rfl⟩
             · exact Kp.below ((Hm.o.trans (CA.o.mono Hm.o.size)).trans (hY.mono (by omega))) hk4 (by have:=hY.size;omega) (fun b e=>by have e':b=z:=e;omega)
            have hxr:¬x=wr.heap.size:=by have:=World.block_lt_of_cell? _ _ r0;have h':x<wr.heap.size:=this;omega
            have hzr:z<wr.heap.size:=Nat.lt_of_lt_of_le MW Pk.o.size
            have Xq:¬z=wr.heap.size:=by omega
            have ahC:¬w3.heap.size=wr.heap.size:=by omega
            have r3:∀o,(wr.alloc o).cell? (Ad x 2)=some (I en):=fun o=>(tG.o _ (Pk.o.alloc Pk.o.size o)).2.2
            clear Tz Tx Wz HTS mS ki HP p0 p1 p2 Lh uy nB vP rT mQ
            go_wp2_with fail
            go_region_law (go_simp;go_at_call 25;refine(aeg.o _).mono ?_;rintro e w7 ⟨rfl,vJ⟩;have XI:wr.heap.size<=w7.heap.size:=(by first | exact vJ.size | (have:=vJ.size;simp at this;omega));have Y7:Hid (Below wr.heap.size wr w7):=(by first | exact HDR.o.trans vJ | exact(HAD.o _).1.trans (vJ.mono (HAD.o _).2));have iT:=ai vJ;have YJ:=B.below Zg.o Y7.o htl;obtain⟨u0,u1,u2⟩:=B.c3 YJ;have Hh:=ai (Pk.o.trans (Y7.o.mono Pk.o.size));obtain⟨⟨v0,v1,v2,v3⟩,g0,g1,g2,g3⟩:=Pd.o _ Hh.o;have Tm:=ai (fun o=>Pd.o _ (Hh.o.alloc Hh.o.size o));have OC:=ai (fun o o'=>Pd.o _ ((Hh.o.alloc Hh.o.size o).alloc (Hh.o.alloc Hh.o.size o).size o'));have e0:=(fun o=>(Tm.o o).1.1);have e1:=(fun o=>(Tm.o o).1.2.1);have e2:=(fun o=>(Tm.o o).1.2.2.1);have e3:=(fun o=>(Tm.o o).1.2.2.2);have e4:=(fun o=>(Tm.o o).2.1);have e5:=(fun o=>(Tm.o o).2.2.1);have e6:=(fun o=>(Tm.o o).2.2.2.1);have e7:=(fun o=>(Tm.o o).2.2.2.2);have k0:=(fun o o'=>(OC.o o o').1.1);have k1:=(fun o o'=>(OC.o o o').1.2.1);have k2:=(fun o o'=>(OC.o o o').1.2.2.1);have k3:=(fun o o'=>(OC.o o o').1.2.2.2);have k4:=(fun o o'=>(OC.o o o').2.1);have k5:=(fun o o'=>(OC.o o o').2.2.1);have k6:=(fun o o'=>(OC.o o o').2.2.2.1);have k7:=(fun o o'=>(OC.o o o').2.2.2.2);have u3:∀o,(w7.alloc o).cell? (Ad w3.heap.size 0)=some (.bool true):=(fun o=>B.cell (B.alloc YJ o) 0 rfl);have u4:∀o,(w7.alloc o).cell? (Ad w3.heap.size 1)=some (.slice a3 l.length c3):=(fun o=>B.cell (B.alloc YJ o) 1 rfl);have u5:∀o,(w7.alloc o).cell? (Ad w3.heap.size 2)=some (.slice av n cv):=(fun o=>B.cell (B.alloc YJ o) 2 rfl);have hz7:¬z=w7.heap.size:=(by omega);have hz8:¬z=w7.heap.size+1:=(by omega);have ht7:¬w3.heap.size=w7.heap.size:=(by omega);have ht8:¬w3.heap.size=w7.heap.size+1:=(by omega);clear vJ YJ;go_simp)
            all_goals
             go_wp2
             refine bodyPost_ret (v:=?_) ?_ rfl ?_
             rotate_left 2
             · refine dz.o _ _ _ ?_ ?_ ?_ ?_ ?_
               · first
                  | exact B.alloc (B.new w7 _ _) _
                  | exact JU w7 _ _ _
                  | exact B.alloc (B.below (w:=(wr.alloc (.cells #[.bool true,.slice a3 l.length c3,.slice av n cv] 53)).drew) (B.new wr #[.bool true,.slice a3 l.length c3,.slice av n cv] 53) iT.o (show wr.heap.size<(wr.alloc (.cells #[.bool true,.slice a3 l.length c3,.slice av n cv] 53)).heap.size by simp)) _
               · first
                  | exact B.new w7 _ _
                  | exact JU w7 _ _ _
                  | exact B.alloc (B.new w7 _ _) _
               · first
                  | exact Y7.o.alloc XI _
                  | exact(Y7.o.alloc XI _).alloc (Y7.o.alloc XI _).size _
               · first
                  | exact Nat.le_refl _
                  | exact XI
                  | omega
               · first
                  | exact XI
                  | omega
             simp[results,Tryz.results7,go_sem,Act.put,v0,v1,v2,v3,e0,e1,e2,e3,k0,k1,k2,k3]
     · have ki:Hid (R=(oL,3)):=by rw[Cj.o,if_pos (fun g=>hs5 g.2)];exact rfl
       clear Cj
       go_wp2
       refine bodyPost_ret (v:=.tuple #[.agg #[I 0,Nl,Nl,Nl],I 3]) (by simp[results,Tryz.results7,go_sem,z0,z1,z2,z3]) rfl ?_
       exact mS.o _ _ ki.o bj.o
   · have ki:Hid (R=(oL,3)):=by rw[Cj.o,if_pos (fun g=>hs0 g.1)];exact rfl
     clear Cj
     go_wp2
     refine bodyPost_ret (v:=.tuple #[.agg #[I 0,Nl,Nl,Nl],I 3]) (by simp[results,Tryz.results7,go_sem,z0,z1,z2,z3]) rfl ?_
     exact mS.o _ _ ki.o bj.o
 · have ki:Hid (R=(oL,ck)):=by rw[Vv.o,if_pos F8];exact rfl
   have jd:(ck==0)=false:=by rw[beq_eq_false_iff_ne];exact F8
   clear Vv F8 EG dI Lr
   go_wp2
   refine bodyPost_ret (v:=.tuple #[.agg #[I 0,Nl,Nl,Nl],I ck]) (by simp[results,Tryz.results7,go_sem,z0,z1,z2,z3]) rfl ?_
   exact mS.o _ _ ki.o bj.o
end GH
namespace GB
open Go.RowKit GK
open FW (ai aB)
theorem E7 (w:World):Calls Tryz.prog 32 #[] w fun e w'=>(∃pb,e=.returned (.slice (some (Ad pb 0)) 14 14)/\GW.rS w' (some (Ad pb 0)) picks/\pb<w'.heap.size)/\Below w.heap.size w w':=by
 have HN:Hid (∀(V:World),V.heap[w.heap.size]?=some (.cells #[I 0,I 1,I 0,I 1,I 0,I 1,I 0,I 1,I 0,I 1,I 0,I 1,I 0,I 1] 3 (0,0))->GW.rS V (some (Ad w.heap.size 0)) picks):=fun V h _=>by
  refine⟨w.heap.size,0,rfl,B.isLt h,fun i hi=>?_⟩
  match i,hi with
  | 0,_=>exact B.cell h 0 rfl
  | 1,_=>exact B.cell h 1 rfl
  | 2,_=>exact B.cell h 2 rfl
  | 3,_=>exact B.cell h 3 rfl
  | 4,_=>exact B.cell h 4 rfl
  | 5,_=>exact B.cell h 5 rfl
  | 6,_=>exact B.cell h 6 rfl
  | 7,_=>exact B.cell h 7 rfl
  | 8,_=>exact B.cell h 8 rfl
  | 9,_=>exact B.cell h 9 rfl
  | 10,_=>exact B.cell h 10 rfl
  | 11,_=>exact B.cell h 11 rfl
  | 12,_=>exact B.cell h 12 rfl
  | 13,_=>exact B.cell h 13 rfl
  | k+14,h=>exact absurd h (by show ¬k+14<14;omega)
 have HB:=ai ((Below.refl w.heap.size w).alloc (Nat.le_refl _) (.cells #[I 0,I 1,I 0,I 1,I 0,I 1,I 0,I 1,I 0,I 1,I 0,I 1,I 0,I 1] 3))
 have HX:=ai (HN.o _ (B.new w #[I 0,I 1,I 0,I 1,I 0,I 1,I 0,I 1,I 0,I 1,I 0,I 1,I 0,I 1] 3))
 go_enter Tryz.func32,Tryz.ntmps32
 go_wp2
 go_ret
 exact⟨⟨w.heap.size,rfl,HX.o,by simp⟩,HB.o⟩
theorem KG (w:World):Calls Tryz.prog 10 #[] w fun e w'=>e=.returned (.bool true)/\Below w.heap.size w w':=by
 have ZP:=ai Ks
 have HRD:=ai E7
 have Pj:Hid (∀V ar cr ah ch a1 a2 a3 a4 c1 c2 c3 c4,AW.Has V (.slice ar 1 cr) zk->LM.nZ V ah (rK a1 a2 a3 a4 c1 c2 c3 c4)->4<=ch->Calls Tryz.prog 7 #[.agg #[.slice ar 1 cr,.slice ah 4 ch,I 16],I 8] V fun e w'=>∃az cs af cf ao co,e=.returned (.tuple #[.agg #[I 8,.slice az 1 cs,.slice af 1 cf,.slice ao 0 co],I 0])/\(∀U,Kp (fun b=>b<V.heap.size) w' U->FW.fK U rL az af ao)/\Below V.heap.size V w'):=fun V ar cr ah ch a1 a2 a3 a4 c1 c2 c3 c4 h1 h2 h3=>by
  have h:=GH.P9 zk (rK a1 a2 a3 a4 c1 c2 c3 c4) 16 8 ar ah 1 cr ch V h1 DZ h2 (NV a1 a2 a3 a4 c1 c2 c3 c4) h3 (by unfold M.dF;decide)
  rw[QW] at h
  refine h.mono ?_
  rintro e w' ⟨az,cs,af,cf,ao,co,g1,g2,g3⟩
  exact⟨az,cs,af,cf,ao,co,g1,g2,g3⟩
 obtain⟨R,hR⟩:=ex ((GH.l6 rL picks).1)
 have hr1:R.procs.length=2:=by rw[hR];exact JI
 have hr2:R.out.length=2:=by rw[hR];exact PQ
 have hr3:(FM.lA R.out 0).value=0:=by rw[hR];exact TK
 have hr4:(FM.lA R.out 1).value=1:=by rw[hR];exact TJ
 have uL:(FM.au R.procs 0).st=2:=by rw[hR];exact TL
 have uK:(FM.au R.procs 0).cd=1:=by rw[hR];exact TM
 have Tj:Hid (∀V az cs af cf ao co ap cp,FW.fK V rL az af ao->GW.rS V ap picks->(∀b,ap=some b->b.block<V.heap.size)->Calls Tryz.prog 17 #[.agg #[I 8,.slice az 1 cs,.slice af 1 cf,.slice ao 0 co],.slice ap 14 cp] V fun e w'=>∃az cs cf co b1 o1 b2 o2 s0 ns,e=.returned (.tuple #[.agg #[I s0,.slice az ns cs,.slice (some (Ad b1 o1)) 2 cf,.slice (some (Ad b2 o2)) 2 co],I 0])/\(∀U,Kp (fun b=>b<V.heap.size) w' U->U.cell? (Ad b1 (o1+9))=some (I 2)/\U.cell? (Ad b1 (o1+10))=some (I 1)/\U.cell? (Ad b2 (o2+1))=some (I 0)/\U.cell? (Ad b2 (o2+2+1))=some (I 1))/\Below V.heap.size V w'):=fun V az cs af cf ao co ap cp h1 h2 h3=>by
  refine(GH.vU rL picks ap cp az af ao cs cf co V h1 NT NU h2 (fun _=>h3) (by show(14:Nat)<=_;decide)).mono ?_
  rintro e w' ⟨bz,ds,bf,df,bo,d_o,g1,g2,g3⟩
  rw[PU,<- hR] at g1
  rw[<- hR] at g2
  have hk:=g2 w' (Kp.refl _ _)
  obtain⟨b1,o1,e1,_,_⟩:=hk.procs (by rw[hr1];decide)
  obtain⟨b2,o2,e2,_,_⟩:=hk.out (by rw[hr2];decide)
  subst e1 e2
  unfold FW.bw at g1
  rw[hr1,hr2] at g1
  refine⟨bz,ds,df,d_o,b1,o1,b2,o2,_,_,g1,fun U hU=>?_,g3⟩
  have hu:=g2 U hU
  obtain⟨b3,o3,e3,_,l3⟩:=hu.procs (by rw[hr1];decide)
  obtain⟨b4,o4,e4,_,l4⟩:=hu.out (by rw[hr2];decide)
  injection e3 with e3
  injection e4 with e4
  injection e3 with q1 q2
  injection e4 with q3 q4
  subst q1 q2 q3 q4
  obtain⟨_,_,_,_,_,_,_,_,_,k9,k10,_,_⟩:=l3 0 (by rw[hr1];decide)
  obtain⟨_,k1⟩:=l4 0 (by rw[hr2];decide)
  obtain⟨_,k2⟩:=l4 1 (by rw[hr2];decide)
  rw[uL] at k9
  rw[uK] at k10
  rw[hr3] at k1
  rw[hr4] at k2
  simp only[Nat.zero_mul,Nat.add_zero,Nat.one_mul] at k9 k10 k1 k2
  exact⟨k9,k10,k1,k2⟩
 clear hr1 hr2 hr3 hr4 uL uK hR R
 go_enter Tryz.func10,Tryz.ntmps10
 go_wp2_with fail
 go_at_call 31
 refine(ZP.o _).mono ?_
 rintro e w1 ⟨ar,cr,ah,ch,a1,a2,a3,a4,c1,c2,c3,c4,rfl,h1,h2,h3,h4⟩
 have bj:=ai h4
 have Cj:=ai (Pj.o w1 ar cr ah ch a1 a2 a3 a4 c1 c2 c3 c4 h1 h2 h3)
 clear h1 h2 h3 h4 ZP Pj
 go_wp2_with fail
 go_at_call 7
 refine Cj.o.mono ?_
 rintro e w2 ⟨az,cs,af,cf,ao,co,rfl,h1,h2⟩
 have pN:=ai h1
 have bW:=ai (bj.o.trans (h2.mono bj.o.size))
 have hsz:=h2.size
 clear h1 h2 Cj
 go_wp2_with fail
 have dJ:=ai (bW.o.alloc bW.o.size (.cells #[I 8,.slice az 1 cs,.slice af 1 cf,.slice ao 0 co] 30))
 have X0:=ai (B.new w2 #[I 8,.slice az 1 cs,.slice af 1 cf,.slice ao 0 co] 30)
 have I9:Hid (Below w2.heap.size w2 (w2.alloc (.cells #[I 8,.slice az 1 cs,.slice af 1 cf,.slice ao 0 co] 30))):=(Below.refl w2.heap.size w2).alloc (Nat.le_refl _) _
 obtain⟨W,hW⟩:=ex (w2.alloc (.cells #[I 8,.slice az 1 cs,.slice af 1 cf,.slice ao 0 co] 30))
 rw[<- hW] at dJ X0 I9 ⊢
 obtain⟨fb,UG⟩:=ex w2.heap.size
 have hfw:w.heap.size<=fb:=by rw[UG];exact bW.o.size
 rw[<- UG] at X0 ⊢
 clear UG hW
 have jI:=ai (Below.refl W.heap.size W).drew
 have X00:Hid (W.drew.heap[fb]?=some (.cells #[I 8,.slice az 1 cs,.slice af 1 cf,.slice ao 0 co] 30 (0,0))):=X0.o
 have t0:=B.cell X0.o 0 rfl
 have t1:=B.cell X0.o 1 rfl
 have t2:=B.cell X0.o 2 rfl
 have t3:=B.cell X0.o 3 rfl
 go_cut [3] (fun x3 wx=>∃Lg cs' Wl DY b1 o1 b2 o2 s0 ns,x3=I 0/\wx.heap[fb]?=some (.cells #[I s0,.slice Lg ns cs',.slice (some (Ad b1 o1)) 2 Wl,.slice (some (Ad b2 o2)) 2 DY] 30 (0,0))/\(wx.cell? (Ad b1 (o1+9))=some (I 2)/\wx.cell? (Ad b1 (o1+10))=some (I 1)/\wx.cell? (Ad b2 (o2+1))=some (I 0)/\wx.cell? (Ad b2 (o2+2+1))=some (I 1))/\Below w.heap.size w wx)
 case first =>
  go_region_law (first
   | (go_simp;go_at_call 32;refine(HRD.o _).mono ?_;rintro e w3 ⟨⟨pb,rfl,hn,hpl⟩,hb3⟩;have qo:=ai (jI.o.trans (hb3.mono jI.o.size));have X3:=ai (B.below X00.o hb3 (B.isLt X00.o));obtain⟨y0,y1,y2,y3⟩:=B.c4 X3.o;have adw:=ai (Tj.o w3 az cs af cf ao co (some (Ad pb 0)) 14 (pN.o w3 (Kp.aF (I9.o.trans (qo.o.mono I9.o.size)))) hn (fun b hb=>by injection hb with hb;subst hb;exact hpl));clear hn hpl hb3;go_simp)
   | (go_simp;go_at_call 17;refine adw.o.mono ?_;rintro e w4 ⟨Lg,cs',Wl,DY,b1,o1,b2,o2,s0,ns,rfl,hc4,hb4⟩;have HC4:=ai hc4;have mU:=ai hb4;have X4:=ai (B.below X3.o hb4 (B.isLt X3.o));obtain⟨z0,z1,z2,z3⟩:=B.c4 X4.o;have zf:=B.free X4.o;clear hc4 hb4;go_simp))
  all_goals
   go_wp2_with fail
   go_meet
   case rel =>
    have hf3:=B.isLt X3.o
    have kU:=GH.mv w4 fb (I s0) (.slice Lg ns cs') (.slice (some (Ad b1 o1)) 2 Wl) (.slice (some (Ad b2 o2)) 2 DY)
    refine⟨Lg,cs',Wl,DY,b1,o1,b2,o2,s0,ns,rfl,B.set (B.set (B.set (B.set X4.o 0 _) 1 _) 2 _) 3 _,HC4.o _ (kU.mono (fun b _ e=>by rw[e];exact hf3)),?_⟩
    have hb:Below w.heap.size w w4:=(dJ.o.trans (qo.o.mono dJ.o.size)).trans (mU.o.mono (dJ.o.trans (qo.o.mono dJ.o.size)).size)
    exact Kp.below hb kU hb.size (fun b e=>by rw[e];exact hfw)
 case rest =>
  obtain⟨Lg,cs',Wl,DY,b1,o1,b2,o2,s0,ns,rfl,hx,⟨k1,k2,k3,k4⟩,hb⟩:=hcut
  have HB:=ai hb
  have oG:=Q.dS wc
  have hkc:=@Q.cA wc
  have l0:=B.isLt hx
  have l1:=World.block_lt_of_cell? _ _ k1
  have l2:=World.block_lt_of_cell? _ _ k3
  have e2:∀x:Q.dA wc.heap.size wc,x.world.cell? (Ad fb 2)=some (.slice (some (Ad b1 o1)) 2 Wl):=fun x=>(hkc x _ _ l0).trans (B.cell hx 2 rfl)
  have e3:∀x:Q.dA wc.heap.size wc,x.world.cell? (Ad fb 3)=some (.slice (some (Ad b2 o2)) 2 DY):=fun x=>(hkc x _ _ l0).trans (B.cell hx 3 rfl)
  have e4:∀x:Q.dA wc.heap.size wc,x.world.cell? (Ad b1 (o1+9))=some (I 2):=fun x=>(hkc x _ _ l1).trans k1
  have e5:∀x:Q.dA wc.heap.size wc,x.world.cell? (Ad b1 (o1+10))=some (I 1):=fun x=>(hkc x _ _ l1).trans k2
  have e6:∀x:Q.dA wc.heap.size wc,x.world.cell? (Ad b2 (o2+1))=some (I 0):=fun x=>(hkc x _ _ l2).trans k3
  have e7:∀x:Q.dA wc.heap.size wc,x.world.cell? (Ad b2 (o2+2+1))=some (I 1):=fun x=>(hkc x _ _ l2).trans k4
  have e8:∀x:Q.dA wc.heap.size wc,x.world.cell? (Ad b2 (o2+3))=some (I 1):=fun x=>(hkc x _ _ l2).trans k4
  clear hkc hx k1 k2 k3 k4 hb HRD Tj pN I9 jI X00 X0 t0 t1 t2 t3 l0 l1 l2
  go_wp2_with fail
  refine Q.aW (by kernel_rfl) (by kernel_rfl) ?_
  repeat (first | go_big_quiet_step (fail) | quiet_step (fail))
  refine wpQuiet_nil ?_
  intro _ hw'
  obtain⟨x,hw''⟩:=hw'
  subst hw''
  go_wp2
  go_ret
  exact⟨by simp,HB.o.trans (x.keeps.mono HB.o.size)⟩
end GB
namespace W
open Go.RowKit Go.Deep
theorem GC:Tryz.prog.cellsOf 9=1:=by kernel_rfl
theorem mO:Tryz.prog.cellsOf 3=1:=by kernel_rfl
theorem yb:Tryz.prog.cellsOf 4=1:=by kernel_rfl
theorem rz (n:Int) (h:(Lit.int .i64 n).wf=true):M.dF n:=CM.bounds n h
theorem BJ {w:World} {b o:Nat} {v:Value} (h:w.cell? (Ad b o)=some v):b<w.heap.size:=by
 rcases Nat.lt_or_ge b w.heap.size with g | g
 · exact g
 · have e:w.heap[b]?=none:=Array.getElem?_eq_none g
   simp[World.cell?,e] at h
instance:Inhabited M.Sg:=⟨M.O6⟩
instance:Inhabited M.Sy:=⟨M.sy0⟩
instance:Inhabited M.Rl:=⟨M.rl0⟩
def OkW {H:Type} (t:TypeId) (d:DataW H):Prop:=∀n∈d.weights Tryz.prog t,n<=reachBytes
theorem oO {H:Type} {e:TypeId}:∀{l:List (DataW H)} {d:DataW H},d∈l->∀n∈d.weights Tryz.prog e,n∈DataW.weightsAll Tryz.prog e l
 | y::r,d,h,n,hn=>by
  simp only[DataW.weightsAll,List.mem_append]
  rcases List.mem_cons.1 h with h | h
  · subst h;exact .inl hn
  · exact .inr (oO h n hn)
theorem rh {H:Type} {t:TypeId} {b:List UInt8} (h:OkW (H:=H) t (.lit (.string b))):b.length<=reachBytes:=h _ (by simp[DataW.weights])
theorem pX {H:Type} {t e:TypeId} {el sp:List (DataW H)} (hu:Tryz.prog.underlying t=some (.slice e)) (h:OkW t (.slice el sp)):(el.length+sp.length)*Tryz.prog.bytesOf e<=reachBytes/\∀d∈el,OkW e d:=by
 refine⟨h _ (by simp[DataW.weights,hu]),fun d hd n hn=>h n ?_⟩
 simp only[DataW.weights,hu,List.mem_cons,List.mem_append]
 exact .inr (.inl (oO hd n hn))
theorem mo {H:Type} {t:TypeId} {fs:Array Field} {ps:List (DataW H)} (hu:Tryz.prog.underlying t=some (.struct fs)) (h:OkW t (.agg ps)) {j:Nat} {u:TypeId} {d:DataW H} (ht:(fs.toList.map (·.type))[j]?=some u) (hd:ps[j]?=some d):OkW u d:=fun n hn=>h n (by
 simp only[DataW.weights,hu]
 exact DataW.weights_mem_each ht hd n hn)
section
variable {H:Type} {enc:TypeId×Value->H} {w:World} {base:Nat} {spare:Nat->Bool} {held:Bool}
theorem lB {t e:TypeId} {fuel:Nat} {v:Value} {x:DataW H×List MemPlace} (ht:Tryz.prog.underlying t=some (.slice e)) (h:DataW.trod enc Tryz.prog w base spare held fuel t [v]=some x):∃a len cap,v=.slice a len cap:=by
 rcases open_slice ht h with⟨hcs,_⟩ | ⟨a,len',cap',m,n,D,Pl,hcs,_⟩
 · simp at hcs;exact⟨_,_,_,hcs⟩
 · simp at hcs;exact⟨_,_,_,hcs⟩
end
end W
end Go.Proofs.YtkdigjpejnebkaaGreat
