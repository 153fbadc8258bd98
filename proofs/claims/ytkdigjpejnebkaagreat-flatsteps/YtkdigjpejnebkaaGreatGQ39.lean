import Derived.Test.YtkdigjpejnebkaaGreatGQ00
import Derived.Test.YtkdigjpejnebkaaGreatGQ23
import Derived.Test.YtkdigjpejnebkaaGreatGQ33
import Derived.Test.YtkdigjpejnebkaaGreatGQ13
set_option maxHeartbeats 20000000
set_option linter.unusedVariables false
set_option maxRecDepth 100000
set_option linter.unusedSimpArgs false
namespace Go.Proofs.YtkdigjpejnebkaaGreat
namespace GH
open Go.RowKit GK
open GW (aI bM bc cx)
open FW (ai aB)
open GF (blk aH bl)
theorem lj (hs:List LM.Sh) (k:Nat) (h:k<hs.length):((hs.take (k+1)).map tY).flatMap aH=((hs.take k).map tY).flatMap aH++[I (LM.gu hs k).page,.string (LM.oF (LM.gu hs k)).1]:=by
 have e:hs.take (k+1)=hs.take k++[LM.gu hs k]:=by
  rw[List.take_add_one,List.getElem?_eq_getElem h]
  unfold LM.gu
  rw[List.getD_eq_getElem?_getD,List.getElem?_eq_getElem h]
  rfl
 rw[e,List.map_append,List.flatMap_append]
 rfl
theorem J5 (w:World) (o:Obj) (C:Array Value) (t:TypeId):((w.alloc o).alloc (.cells C t)).heap[w.heap.size+1]?=some (.cells C t (0,0)):=by
 have:=B.new (w.alloc o) C t
 simpa using this
theorem Qj (l:List AM.Ar) (hs:List LM.Sh) (en slots:Int) (aa ah:Option Addr) (na ca ch:Nat) (w:World) (ha:AW.Has w (.slice aa na ca) l) (hf:AW.dC l) (h:LM.om w ah hs) (vW:LM.Jn hs) (hcap:hs.length<=ch) (he:M.dD en) :
  Calls Tryz.prog 7 #[.agg #[.slice aa na ca,.slice ah hs.length ch,I en],I slots] w (lX w (Ql l hs en slots)):=by
 have rU:Hid (∀V,Below w.heap.size w V->Calls Tryz.prog 21 #[.agg #[.slice aa na ca,.slice ah hs.length ch,I en]] V fun e w'=>e=.returned (I (LM.lO l hs en))/\Below V.heap.size V w'):=fun V hV=>LW.dm l hs en _ ah ch V (ha.below hV) hf (h.below hV) vW hcap he
 have HTO:Hid (∀V,Below w.heap.size w V->Calls Tryz.prog 22 #[.slice aa na ca] V fun e w'=>e=.returned (I (AM.br l))/\Below V.heap.size V w'):=fun V hV=>AW.ju _ _ _ (ha.below hV) hf
 have Hs:Hid (AM.aD l=0->∀V,Below w.heap.size w V->Calls Tryz.prog 23 #[.slice aa na ca] V fun e w'=>∃a' c',e=.returned (.slice a' l.length c')/\AW.Own V.heap.size w' (.slice a' l.length c') l/\Below V.heap.size V w'):=fun hk V hV=>by
  obtain⟨hn,M6⟩:=GF.oc (ha.below hV)
  subst hn
  refine(I2 aa l.length ca (AM.aT l) V ?_ M6 ?_ (by have:=AM.dR _ hk;omega)).mono ?_
  · exact AM.gP l
  · exact AM.gq l
  · rintro e w' ⟨v,rfl,h1,h2⟩
    obtain⟨a',c',rfl,_,_⟩:=aJ h1
    exact⟨a',c',rfl,h1,h2⟩
 have Ty:Hid (∀k,k<hs.length->∀V,Below w.heap.size w V->Calls Tryz.prog 24 #[.agg (LM.pJ (LM.gu hs k))] V fun e w'=>e=.returned (.tuple #[.string (LM.oF (LM.gu hs k)).1,I (LM.oF (LM.gu hs k)).2])/\Below V.heap.size V w'):=fun k hk V hV=>by
  obtain⟨b,off,_,_,hl⟩:=(h.below hV) (by omega)
  exact LW.ND (LM.gu hs k) V (hl k hk).2.2.2 (vW.2 k hk)
 have PI:=ai (fun V=>FW.KR en V)
 have CC:=ai (fun (g:LM.lO l hs en=0)=>E8 g)
 have dJ:=ai (fun (g:LM.lO l hs en=0)=>(uZ g).1)
 have HTD:=ai (FW.gf l)
 have Wq:=ai h
 have HTS:=ai (lj hs)
 obtain⟨ck,px⟩:=ex (LM.lO l hs en)
 obtain⟨tt,VS⟩:=ex (AM.br l)
 have Vm:Hid (Ql l hs en slots=if ¬ck=0 then (nB,ck) else if ¬(0<=slots/\slots<=512) then (nB,3) else if slots<tt then (nB,8) else (⟨slots,[⟨true,l,hs.map tY⟩],[FW.pL en],[]⟩,0)):=by rw[px,VS];exact rfl
 rw[<- px] at rU CC dJ
 rw[<- VS] at HTO CC HTD
 obtain⟨R,hR⟩:=ex (Ql l hs en slots)
 rw[<- hR] at Vm ⊢
 obtain⟨P,hP⟩:=ex (lX w R)
 have HP:Hid (∀e w',lX w R e w'->P e w'):=fun e w' h=>by rw[hP];exact h
 rw[<- hP]
 obtain⟨n,hn⟩:=ex hs.length
 rw[<- hn] at rU Ty CC ⊢
 have HN:=ai hn
 obtain⟨X,hX⟩:∃X:Array Value,X=#[.slice aa na ca,.slice ah n ch,I en]:=⟨_,rfl⟩
 have cL:=ai (((Below.refl w.heap.size w).alloc (Nat.le_refl _) (.cells #[.slice aa na ca,.slice ah n ch,I en] 25)).alloc (by simp) (.cells #[I 0,Nl,Nl,Nl] 30))
 have BX:=ai (B.alloc (B.new w #[.slice aa na ca,.slice ah n ch,I en] 25) (.cells #[I 0,Nl,Nl,Nl] 30))
 have BZ:=ai (B.new (w.alloc (.cells #[.slice aa na ca,.slice ah n ch,I en] 25)) #[I 0,Nl,Nl,Nl] 30)
 clear h ha hf vW px VS hR hP hn hX he hcap
 go_enter Tryz.func7,Tryz.ntmps7
 go_wp2_with fail
 obtain⟨WA,fH⟩:=ex ((w.alloc (.cells #[.slice aa na ca,.slice ah n ch,I en] 25)).alloc (.cells #[I 0,Nl,Nl,Nl] 30))
 have hsz1:(w.alloc (.cells #[.slice aa na ca,.slice ah n ch,I en] 25)).heap.size=w.heap.size+1:=by simp
 rw[hsz1] at BZ
 rw[<- fH] at cL BX BZ ⊢
 obtain⟨x,Cx⟩:=ex w.heap.size
 obtain⟨z,Cw⟩:=ex (w.heap.size+1)
 rw[<- Cw] at BZ ⊢
 rw[<- Cx] at BX ⊢
 have hxz:¬x=z:=by omega
 have hzx:¬z=x:=by omega
 have pP:Hid (∀V,Below WA.heap.size WA V->V.cell? (Ad x 0)=some (.slice aa na ca)/\V.cell? (Ad x 1)=some (.slice ah n ch)/\V.cell? (Ad x 2)=some (I en)):=fun V hb=>by
  have h1:=B.below BX.o hb (B.isLt BX.o)
  exact⟨B.cell h1 0 rfl,B.cell h1 1 rfl,B.cell h1 2 rfl⟩
 have Jc:Hid (∀V,Below WA.heap.size WA V->(V.cell? (Ad z 0)=some (I 0)/\V.cell? (Ad z 1)=some Nl/\V.cell? (Ad z 2)=some Nl/\V.cell? (Ad z 3)=some Nl)/\V.frozen? (Ad z 0)=false/\V.frozen? (Ad z 1)=false/\V.frozen? (Ad z 2)=false/\V.frozen? (Ad z 3)=false):=fun V hb=>by
  have h1:=B.below BZ.o hb (B.isLt BZ.o)
  exact⟨⟨B.cell h1 0 rfl,B.cell h1 1 rfl,B.cell h1 2 rfl,B.cell h1 3 rfl⟩,B.free h1 0,B.free h1 1,B.free h1 2,B.free h1 3⟩
 have F8:=B.isLt BZ.o
 have Ls:Hid (w.heap.size<=z):=(by rw[Cw];omega:w.heap.size<=z)
 have We:Hid (x=w.heap.size):=Cx
 clear fH hsz1 Cx Cw BX BZ
 have mh:Hid (∀(V:World) (er:Int),R=(nB,er)->Below WA.heap.size WA V->P (.returned (.tuple #[.agg #[I 0,Nl,Nl,Nl],I er])) ((((V.setCell (Ad z 0) (I 0)).setCell (Ad z 1) Nl).setCell (Ad z 2) Nl).setCell (Ad z 3) Nl)):=fun V er hRe hV=>by
  refine HP.o _ _ ?_
  rw[hRe]
  exact⟨none,0,none,0,none,0,rfl,fun V _=>nV V,Kp.below (cL.o.trans (hV.mono cL.o.size)) (gM V z _ _ _ _) (Nat.le_trans cL.o.size hV.size) (fun b e=>by rw[e];exact Ls.o)⟩
 refine(rU.o _ cL.o).mono ?_
 rintro e w1 ⟨rfl,hb1⟩
 have bh:=ai hb1
 obtain⟨⟨z0,z1,z2,z3⟩,f0,f1,f2,f3⟩:=Jc.o _ hb1
 obtain⟨x0,x1,x2⟩:=pP.o _ hb1
 clear hb1 rU
 by_cases z7:ck=0
 · subst z7
   obtain⟨hnt,hnb⟩:=CC.o rfl
   have hnl:(n:Int)<=65025:=by omega
   have ZG:=ai (Hs.o (dJ.o rfl))
   have Es:Hid (R=if ¬(0<=slots/\slots<=512) then (nB,3) else if slots<tt then (nB,8) else (⟨slots,[⟨true,l,hs.map tY⟩],[FW.pL en],[]⟩,0)):=by rw[Vm.o,if_neg (fun g=>g rfl)];exact rfl
   clear Vm CC dJ Hs
   by_cases hs0:0<=slots
   · by_cases hs5:slots<=512
     · by_cases hst:slots<tt
       · have jd:Hid (R=(nB,8)):=by rw[Es.o,if_neg (fun g=>g ⟨hs0,hs5⟩),if_pos hst];exact rfl
         clear Es
         go_wp2_with (go_at_call 22;refine(HTO.o _ (cL.o.trans (bh.o.mono cL.o.size))).mono ?_;rintro e w2 ⟨rfl,hb2⟩;have bY:=ai (bh.o.trans (hb2.mono bh.o.size));obtain⟨⟨y0,y1,y2,y3⟩,g0,g1,g2,g3⟩:=Jc.o _ bY.o;clear hb2)
         refine bodyPost_ret (v:=.tuple #[.agg #[I 0,Nl,Nl,Nl],I 8]) (by simp[results,Tryz.results7,go_sem,y0,y1,y2,y3]) rfl ?_
         exact mh.o _ _ jd.o bY.o
       · have jd:Hid (R=(⟨slots,[⟨true,l,hs.map tY⟩],[FW.pL en],[]⟩,0)):=by rw[Es.o,if_neg (fun g=>g ⟨hs0,hs5⟩),if_neg hst];exact rfl
         clear Es
         go_wp2_with (first
          | (go_at_call 22;refine(HTO.o _ (cL.o.trans (bh.o.mono cL.o.size))).mono ?_;rintro e w2 ⟨rfl,hb2⟩;have bY:=ai (bh.o.trans (hb2.mono bh.o.size));obtain⟨q0,q1,q2⟩:=pP.o _ bY.o;clear hb2)
          | (go_at_call 23;refine(ZG.o _ (cL.o.trans (bY.o.mono cL.o.size))).mono ?_;rintro e w3 ⟨a3,c3,rfl,SZ,hb3⟩;have R7:=ai SZ;have fK:=ai (bY.o.trans (hb3.mono bY.o.size));obtain⟨p0,p1,p2⟩:=pP.o _ fK.o;have ag5:x<w3.heap.size:=World.block_lt_of_cell? _ _ p0;have hxn:¬x=w3.heap.size:=(by omega);clear SZ hb3))
         have Lt:=ai (B.new w3 #[.bool true,.slice a3 l.length c3,Nl] 53)
         have uv:=ai ((Below.refl w3.heap.size w3).alloc (Nat.le_refl _) (.cells #[.bool true,.slice a3 l.length c3,Nl] 53))
         obtain⟨i0,hin,hz0,hz1,hz2⟩:=info_parts ru
         have nC:=ai hin
         have vM:=ai hz0
         have rR:=ai hz1
         have mU:=ai hz2
         have Hu:=ai (cL.o.trans (fK.o.mono cL.o.size))
         clear hin hz0 hz1 hz2 q0 q1 q2 x0 x1 x2 z0 z1 z2 z3 f0 f1 f2 f3 HTO ZG
         go_loopw [40] (fun iv wr=>∃(k:Nat) (av:Option Addr) (cv:Nat),k<=n/\iv=I (k:Int)/\wr.heap[w3.heap.size]?=some (.cells #[.bool true,.slice a3 l.length c3,.slice av k cv] 53 (0,0))/\wr.ownsRow (w3.heap.size+1) 65 2 (.slice av k cv) k (((hs.take k).map tY).flatMap aH)/\Below w3.heap.size w3 wr) (fun iv _=>n-(intOf iv).toNat)
         case atStart=>exact⟨0,none,0,by omega,rfl,Lt.o,World.ownsRow_nil _ _ _ _,uv.o⟩
         case round =>
          obtain⟨k,av,cv,hk,rfl,VT,hrow,hbr⟩:=hrel
          have Za:=ai VT
          have tO:=ai hrow
          have K6:=ai hbr
          have htl:w3.heap.size<wr.heap.size:=B.isLt VT
          by_cases hlt:k<n
          · have jc:(k:Int)<(n:Int):=by omega
            obtain⟨b,off,hah,hbl,bQ⟩:=(Wq.o.below (Hu.o.trans (hbr.mono Hu.o.size))) (by have:=HN.o;omega)
            subst hah
            obtain⟨c0,c1,c2,_⟩:=bQ k (by have:=HN.o;omega)
            have si:=ai (Ty.o k hlt)
            have Va:=ai (HTS.o k (by have:=HN.o;omega))
            unfold LM.pJ at si
            obtain⟨S,hS⟩:=ex (LM.gu hs k)
            rw[<- hS] at c0 c1 c2 si Va
            obtain⟨sp,hsp⟩:=ex S.page
            obtain⟨sd,hsd⟩:=ex S.data
            obtain⟨sf,hsf⟩:=ex S.ik.length
            obtain⟨FD,hFD⟩:=ex ((LM.oF S).1)
            obtain⟨FE,hFE⟩:=ex ((LM.oF S).2)
            rw[<- hsp] at c0 si Va
            rw[<- hsd] at c1 si
            rw[<- hsf] at c2 si
            rw[<- hFD] at si Va
            rw[<- hFE] at si
            have PJ:=ai ((Below.refl wr.heap.size wr).alloc (Nat.le_refl _) (.cells #[I sp,.string sd,.slice S.ao sf S.cap] 62))
            have HN4:=ai (B.new wr #[I sp,.string sd,.slice S.ao sf S.cap] 62)
            clear VT hrow hbr bQ hS hsp hsd hsf hFD hFE
            go_wp2_with (first
             | (at_builtin;refine b9 (P:=Tryz.prog) rfl _ _ 51 rfl (w3.heap.size+1) 65 i0 (.agg #[I 0,.string ⟨#[]⟩]) 2 24 Tryz.underlying51 nC.o vM.o rR.o mU.o rfl (by decide) _ k (((hs.take k).map tY).flatMap aH) rfl (Ve.o.alloc _) (some (Ad w5.heap.size 0)) 1 1 [I sp,.string FD] rfl rfl (fun _=>⟨_,rfl,B.news (B.new w5 _ _)⟩) (by intro u hu;simp at hu;rcases hu with rfl | rfl <;> rfl) (by unfold maxLen;omega) (by omega) (by simp;omega) ?_;intro v' w6 hown hgr hat;obtain⟨a6,c6,Xt,_,_⟩:=aJ hown;subst Xt;have Py:=ai hown;have Zw:=ai hgr;have HT6:=ai (B.grown (B.alloc Y9.o (.cells #[I sp,.string FD] 65)) hgr (fun e=>by have:=(Ve.o.lt _ e.symm).1;omega));have t6:w6.cell? (Ad w3.heap.size 2)=some (.slice av k cv):=B.cell HT6.o 2 rfl;have t7:=B.free HT6.o 2;clear hown hgr hat)
             | (go_at_call 24;refine(si.o _ (Hu.o.trans ((K6.o.trans (PJ.o.mono K6.o.size)).mono Hu.o.size))).mono ?_;rintro e w5 ⟨rfl,kV⟩;have gK:=ai (K6.o.trans ((PJ.o.trans (kV.mono PJ.o.size)).mono K6.o.size));have Pm:=(PJ.o.trans (kV.mono PJ.o.size)).size;have Y9:=ai (B.below (B.alloc Za.o (.cells #[I sp,.string sd,.slice S.ao sf S.cap] 62)) kV (B.isLt (B.alloc Za.o _)));have Ve:=ai (Kp.row (Kp.aF (D:=fun _=>False) (PJ.o.trans (kV.mono PJ.o.size))) tO.o (fun _ _ g=>g));have t5:w5.cell? (Ad w3.heap.size 2)=some (.slice av k cv):=B.cell Y9.o 2 rfl;have t4:w5.cell? (Ad wr.heap.size 0)=some (I sp):=B.cell (B.below HN4.o kV (B.isLt HN4.o)) 0 rfl;clear kV))
            go_roundw
            case rel =>
             refine⟨k+1,a6,c6,by omega,by go_num,?_,?_,?_⟩
             · exact B.set HT6.o 2 _
             · have hr:=Kp.row (Kp.set (fun b=>b=w3.heap.size) w6 (Ad w3.heap.size 2) (.slice a6 (k+1) c6) rfl) Py.o (fun g hg e=>by have:=(Py.o.lt g hg).1;omega)
               rw[Va.o]
               exact hr
             · have tK:Kp (fun b=>w3.heap.size<=b) w5 w6:=((Kp.alloc (fun b=>w3.heap.size<=b) w5 (.cells #[I sp,.string FD] 65)).trans (Kp.grown (D:=fun b=>w3.heap.size<=b) Zw.o (fun g hg=>by have:=(Ve.o.lt g hg).1;omega)) (fun _ _ g=>g))
               exact Kp.below (Kp.below gK.o tK gK.o.size (fun b g=>g)) (Kp.set (fun b=>w3.heap.size<=b) w6 (Ad w3.heap.size 2) _ (Nat.le_refl _)) (Nat.le_trans gK.o.size tK.size) (fun b g=>g)
            case measure=>simp[intOf];omega
          · obtain rfl:n=k:=by omega
            clear VT hrow hbr
            have adW:Hid (∀V,Calls Tryz.prog 25 #[I en] V fun e w'=>e=.returned (.agg #[I 0,I 0,I 0,I 0,I 0,I 0,I 0,I 0,I en,I 1,I 0,I 0,I 0])/\Below V.heap.size V w'):=fun V=>PI.o V
            have PA:=ai (fK.o.trans (K6.o.mono fK.o.size))
            obtain⟨⟨z0,z1,z2,z3⟩,f0,f1,f2,f3⟩:=Jc.o _ PA.o
            obtain⟨r0,r1,r2⟩:=pP.o _ PA.o
            obtain⟨t0,t1,t2⟩:=B.c3 Za.o
            have HTD:Hid (wr.drew.heap[w3.heap.size]?=some (.cells #[.bool true,.slice a3 l.length c3,.slice av n cv] 53 (0,0))):=Za.o
            have HDR:=ai ((Below.refl wr.heap.size wr).drew)
            have HAD:Hid (∀o,Below wr.heap.size wr (wr.alloc o).drew/\wr.heap.size<=(wr.alloc o).drew.heap.size):=fun o=>⟨((Below.refl wr.heap.size wr).alloc (Nat.le_refl _) o).drew,((Below.refl wr.heap.size wr).alloc (Nat.le_refl _) o).drew.size⟩
            have dx:Hid (∀(Y:World) (A C:Nat),Y.heap[A]?=some (.cells #[.bool true,.slice a3 l.length c3,.slice av n cv] 53 (0,0))->Y.heap[C]?=some (.cells #[I 0,I 0,I 0,I 0,I 0,I 0,I 0,I 0,I en,I 1,I 0,I 0,I 0] 70 (0,0))->Below wr.heap.size wr Y->wr.heap.size<=A->wr.heap.size<=C->P (.returned (.tuple #[.agg #[I slots,.slice (some (Ad A 0)) 1 1,.slice (some (Ad C 0)) 1 1,Nl],I 0])) ((((Y.setCell (Ad z 0) (I slots)).setCell (Ad z 1) (.slice (some (Ad A 0)) 1 1)).setCell (Ad z 2) (.slice (some (Ad C 0)) 1 1)).setCell (Ad z 3) Nl)):=fun Y A C hA hC hY QT hCl=>by
             refine HP.o _ _ ?_
             rw[jd.o]
             have hk4:=gM Y z (I slots) (.slice (some (Ad A 0)) 1 1) (.slice (some (Ad C 0)) 1 1) Nl
             have hw3:=Hu.o.size
             have hwr:=K6.o.size
             have hzl:z<w3.heap.size:=Nat.lt_of_lt_of_le F8 fK.o.size
             have hwz:=Ls.o
             refine⟨some (Ad A 0),1,some (Ad C 0),1,none,0,rfl,fun V hV=>?_,?_⟩
             · have hk:Kp (fun b=>b<=z) Y V:=(hk4.mono (fun b _ e=>Nat.le_of_eq e)).trans hV (fun b _ g=>by have g':b<w.heap.size:=g;omega)
               have gA:=hk.keep hA (fun g=>by have g':A<=z:=g;omega)
               have gC:=hk.keep hC (fun g=>by have g':C<=z:=g;omega)
               have hO:AW.Own (z+1) V (.slice a3 l.length c3) l:=by
                have h1:=R7.o
                have h2:w3.ownsRow w2.heap.size 59 4 (.slice a3 l.length c3) l.length (AM.aT l):=h1
                have hz2:z<w2.heap.size:=Nat.lt_of_lt_of_le F8 bY.o.size
                have h3:=Kp.row (Kp.aF (D:=fun _=>False) K6.o) h2 (fun _ _ g=>g)
                have h4:=Kp.row (Kp.aF (D:=fun _=>False) hY) h3 (fun _ _ g=>g)
                have h5:=Kp.row hk h4 (fun g hg e=>by have g':g<=z:=e;have:=(h2.lt g hg).1;omega)
                exact lF h5 (fun g hg=>by have:=(h2.lt g hg).1;omega)
               have V7:=Kp.row hk (Kp.row (Kp.aF (D:=fun _=>False) hY) tO.o (fun _ _ g=>g)) (fun g hg e=>by have g':g<=z:=e;have:=(tO.o.lt g hg).1;omega)
               have hfull:(hs.take n).map tY=hs.map tY:=by rw[HN.o,List.take_length]
               rw[hfull] at V7
               have hlen:(hs.map tY).length=n:=by rw[List.length_map,HN.o]
               have hHP:FW.iN V av (hs.map tY):=fun hp=>by
                obtain⟨oG,cap',e0,_,hg⟩:=aJ V7
                injection e0 with ea _ _
                obtain⟨g,hgo,_,ack⟩:=hg (by omega)
                have hao:av=some (Ad g 0):=ea.trans hgo
                refine⟨g,0,hao,ack,fun i hi=>?_⟩
                rw[hao,<- hlen] at V7
                rw[Nat.zero_add]
                exact⟨cZ aH bl FM.yC V7 i 0 hi (by omega),cZ aH bl FM.yC V7 i 1 hi (by omega)⟩
               refine⟨fun _=>⟨A,0,rfl,B.isLt gA,fun i hi=>?_⟩,fun _=>⟨C,0,rfl,B.isLt gC,fun i hi=>?_⟩,fun g=>absurd g (Nat.not_lt_zero _)⟩
               · have hi':i<1:=hi
                 obtain rfl:i=0:=by omega
                 refine⟨_,av,cv,B.cell gA 0 rfl,B.cell gA 1 rfl,?_,AW.Own.has hO,hHP,?_⟩
                 · have:=B.cell gA 2 (v:=.slice av n cv) rfl
                   rw[<- hlen] at this
                   exact this
                 · show(hs.map tY).length<=cv
                   obtain⟨oG,cap',e0,hcc,_⟩:=aJ V7
                   injection e0 with _ _ ec
                   omega
               · have hi':i<1:=hi
                 obtain rfl:i=0:=by omega
                 exact⟨B.cell gC 0 rfl,B.cell gC 1 rfl,B.cell gC 2 rfl,B.cell gC 3 rfl,B.cell gC 4 rfl,B.cell gC 5 rfl,B.cell gC 6 rfl,B.cell gC 7 rfl,B.cell gC 8 rfl,B.cell gC 9 rfl,B.cell gC 10 rfl,B.cell gC 11 rfl,B.cell gC 12 rfl⟩
             · exact Kp.below ((Hu.o.trans (K6.o.mono Hu.o.size)).trans (hY.mono (by omega))) hk4 (by have:=hY.size;omega) (fun b e=>by have e':b=z:=e;omega)
            have hxr:¬x=wr.heap.size:=by have:=World.block_lt_of_cell? _ _ r0;have h':x<wr.heap.size:=this;omega
            have Z3:z<wr.heap.size:=Nat.lt_of_lt_of_le F8 PA.o.size
            have Xh:¬z=wr.heap.size:=by omega
            have ahe:¬w3.heap.size=wr.heap.size:=by omega
            have r3:∀o,(wr.alloc o).cell? (Ad x 2)=some (I en):=fun o=>(pP.o _ (PA.o.alloc PA.o.size o)).2.2
            clear PI Ty Wq HTS mh jd HP p0 p1 p2 Lt uv nC vM rR mU
            go_wp2_with fail
            go_region_law (go_simp;go_at_call 25;refine(adW.o _).mono ?_;rintro e w7 ⟨rfl,tL⟩;have Xz:wr.heap.size<=w7.heap.size:=(by first | exact tL.size | (have:=tL.size;simp at this;omega));have YY:Hid (Below wr.heap.size wr w7):=(by first | exact HDR.o.trans tL | exact(HAD.o _).1.trans (tL.mono (HAD.o _).2));have iE:=ai tL;have YC:=B.below Za.o YY.o htl;obtain⟨u0,u1,u2⟩:=B.c3 YC;have Hn:=ai (PA.o.trans (YY.o.mono PA.o.size));obtain⟨⟨v0,v1,v2,v3⟩,g0,g1,g2,g3⟩:=Jc.o _ Hn.o;have Tk:=ai (fun o=>Jc.o _ (Hn.o.alloc Hn.o.size o));have OH:=ai (fun o o'=>Jc.o _ ((Hn.o.alloc Hn.o.size o).alloc (Hn.o.alloc Hn.o.size o).size o'));have e0:=(fun o=>(Tk.o o).1.1);have e1:=(fun o=>(Tk.o o).1.2.1);have e2:=(fun o=>(Tk.o o).1.2.2.1);have e3:=(fun o=>(Tk.o o).1.2.2.2);have e4:=(fun o=>(Tk.o o).2.1);have e5:=(fun o=>(Tk.o o).2.2.1);have e6:=(fun o=>(Tk.o o).2.2.2.1);have e7:=(fun o=>(Tk.o o).2.2.2.2);have k0:=(fun o o'=>(OH.o o o').1.1);have k1:=(fun o o'=>(OH.o o o').1.2.1);have k2:=(fun o o'=>(OH.o o o').1.2.2.1);have k3:=(fun o o'=>(OH.o o o').1.2.2.2);have k4:=(fun o o'=>(OH.o o o').2.1);have k5:=(fun o o'=>(OH.o o o').2.2.1);have k6:=(fun o o'=>(OH.o o o').2.2.2.1);have k7:=(fun o o'=>(OH.o o o').2.2.2.2);have u3:∀o,(w7.alloc o).cell? (Ad w3.heap.size 0)=some (.bool true):=(fun o=>B.cell (B.alloc YC o) 0 rfl);have u4:∀o,(w7.alloc o).cell? (Ad w3.heap.size 1)=some (.slice a3 l.length c3):=(fun o=>B.cell (B.alloc YC o) 1 rfl);have u5:∀o,(w7.alloc o).cell? (Ad w3.heap.size 2)=some (.slice av n cv):=(fun o=>B.cell (B.alloc YC o) 2 rfl);have hz7:¬z=w7.heap.size:=(by omega);have hz8:¬z=w7.heap.size+1:=(by omega);have ht7:¬w3.heap.size=w7.heap.size:=(by omega);have ht8:¬w3.heap.size=w7.heap.size+1:=(by omega);clear tL YC;go_simp)
            all_goals
             go_wp2
             refine bodyPost_ret (v:=?_) ?_ rfl ?_
             rotate_left 2
             · refine dx.o _ _ _ ?_ ?_ ?_ ?_ ?_
               · first
                  | exact B.alloc (B.new w7 _ _) _
                  | exact J5 w7 _ _ _
                  | exact B.alloc (B.below (w:=(wr.alloc (.cells #[.bool true,.slice a3 l.length c3,.slice av n cv] 53)).drew) (B.new wr #[.bool true,.slice a3 l.length c3,.slice av n cv] 53) iE.o (show wr.heap.size<(wr.alloc (.cells #[.bool true,.slice a3 l.length c3,.slice av n cv] 53)).heap.size by simp)) _
               · first
                  | exact B.new w7 _ _
                  | exact J5 w7 _ _ _
                  | exact B.alloc (B.new w7 _ _) _
               · first
                  | exact YY.o.alloc Xz _
                  | exact(YY.o.alloc Xz _).alloc (YY.o.alloc Xz _).size _
               · first
                  | exact Nat.le_refl _
                  | exact Xz
                  | omega
               · first
                  | exact Xz
                  | omega
             simp[results,Tryz.results7,go_sem,Act.put,v0,v1,v2,v3,e0,e1,e2,e3,k0,k1,k2,k3]
     · have jd:Hid (R=(nB,3)):=by rw[Es.o,if_pos (fun g=>hs5 g.2)];exact rfl
       clear Es
       go_wp2
       refine bodyPost_ret (v:=.tuple #[.agg #[I 0,Nl,Nl,Nl],I 3]) (by simp[results,Tryz.results7,go_sem,z0,z1,z2,z3]) rfl ?_
       exact mh.o _ _ jd.o bh.o
   · have jd:Hid (R=(nB,3)):=by rw[Es.o,if_pos (fun g=>hs0 g.1)];exact rfl
     clear Es
     go_wp2
     refine bodyPost_ret (v:=.tuple #[.agg #[I 0,Nl,Nl,Nl],I 3]) (by simp[results,Tryz.results7,go_sem,z0,z1,z2,z3]) rfl ?_
     exact mh.o _ _ jd.o bh.o
 · have jd:Hid (R=(nB,ck)):=by rw[Vm.o,if_pos z7];exact rfl
   have jc:(ck==0)=false:=by rw[beq_eq_false_iff_ne];exact z7
   clear Vm z7 CC dJ Hs
   go_wp2
   refine bodyPost_ret (v:=.tuple #[.agg #[I 0,Nl,Nl,Nl],I ck]) (by simp[results,Tryz.results7,go_sem,z0,z1,z2,z3]) rfl ?_
   exact mh.o _ _ jd.o bh.o
end GH
namespace GH
open Go.RowKit GK
open GW (aI bM bc cx)
open FW (ai aB)
open GF (blk)
theorem BU (f:FM.Fl) (r:Int×Option (GG.St GM.Mf)) (q:Nat) (az ar ao:Option Addr) (cs cr co:Nat) (w:World) (h:FW.fJ w f az ar ao) (hf:FW.mL f) (hr:r.1=0->∃s,r.2=some s)
  (hc:FM.bV f=0->∀(V:World) (lo mb gb:Nat) (D:Nat->Prop) (vr vo:Value),Below w.heap.size w V->w.heap.size<=lo->GW.jk (GF.iV lo mb) lo mb gb V D vr vo (bb f)->Calls Tryz.prog 58 #[.pointer (some ⟨gb,0,none⟩),.pointer (some ⟨q,0,none⟩)] V (GW.og (GF.iV lo mb) lo mb gb V D vr vo r)) :
  Calls Tryz.prog 44 #[.agg (FW.bC f az ar ao cs cr co),.func (.func 58) #[] #[.pointer (some ⟨q,0,none⟩)]] w (lX w (kX f r)):=by
 have rU:Hid (∀V,Below w.heap.size w V->Calls Tryz.prog 12 #[.agg (FW.bC f az ar ao cs cr co)] V fun e w'=>e=.returned (I (FM.bV f))/\Below V.heap.size V w'):=fun V hV=>FW.dm f az ar ao cs cr co V (h.below hV) hf
 have EK:Hid (FM.bV f=0->∀V,Below w.heap.size w V->Calls Tryz.prog 78 #[.agg (FW.bC f az ar ao cs cr co)] V (GF.ym V f.slots f.ak)):=fun hk V hV=>by
  obtain⟨c1,c2,c3,c4⟩:=counts_of hk
  obtain⟨h1,h2⟩:=j6 hk
  unfold FM.fO at h1
  simp only[Bool.and_eq_true,decide_eq_true_eq,List.all_eq_true] at h1
  refine GF.qH f az ar ao cs cr co V (h.ak.below hV) hf.ak (by omega) (fun k hk=>?_)
  have hm:FM.ax f.ak k∈f.ak:=by
   unfold FM.ax
   rw[List.getD_eq_getElem?_getD,List.getElem?_eq_getElem hk]
   exact List.getElem_mem hk
  have hrs:=h1.1 _ hm
  cases hl:(FM.ax f.ak k).live with
  | true =>
   have hL:=GM.fX hrs hl
   have:=AM.dR _ hL.check
   have:=GM.dU hL
   have:=FW.gf (FM.ax f.ak k).aw
   omega
  | false =>
   unfold FM.aU at hrs
   rw[hl] at hrs
   simp only[Bool.false_eq_true,if_false,Bool.and_eq_true,decide_eq_true_eq] at hrs
   omega
 have yE:Hid (FM.bV f=0->∀V,Below w.heap.size w V->Calls Tryz.prog 79 #[.slice ar f.procs.length cr] V fun e w'=>∃a' c',e=.returned (.slice a' f.procs.length c')/\w'.ownsRow V.heap.size 70 13 (.slice a' f.procs.length c') f.procs.length (f.procs.flatMap aI)/\Below V.heap.size V w'):=fun hk V hV=>by
  obtain⟨c1,c2,c3,c4⟩:=counts_of hk
  refine(I1 ar f.procs.length cr (f.procs.flatMap aI) V (bu aI 13 bc _) ((A5 h.procs).below hV) (A4 _) (by omega)).mono ?_
  rintro e w' ⟨v,rfl,h1,h2⟩
  obtain⟨a',c',rfl,_,_⟩:=aJ h1
  exact⟨a',c',rfl,h1,h2⟩
 have OA:Hid (FM.bV f=0->∀V,Below w.heap.size w V->Calls Tryz.prog 80 #[.slice ao f.out.length co] V fun e w'=>∃a' c',e=.returned (.slice a' f.out.length c')/\w'.ownsRow V.heap.size 78 2 (.slice a' f.out.length c') f.out.length (f.out.flatMap bM)/\Below V.heap.size V w'):=fun hk V hV=>by
  obtain⟨c1,c2,c3,c4⟩:=counts_of hk
  refine(I0 ao f.out.length co (f.out.flatMap bM) V (bu bM 2 cx _) ((AB h.out).below hV) (EW _) (by omega)).mono ?_
  rintro e w' ⟨v,rfl,h1,h2⟩
  obtain⟨a',c',rfl,_,_⟩:=aJ h1
  exact⟨a',c',rfl,h1,h2⟩
 have HC:=ai hc
 have HR:=ai hr
 obtain⟨ck,px⟩:=ex (FM.bV f)
 have vh:Hid (kX f r=if ¬ck=0 then (nB,ck) else if ¬r.1=0 then (nB,r.1) else match r.2 with | none=>(nB,r.1) | some s=>(su s,0)):=by rw[px];exact rfl
 rw[<- px] at rU EK yE OA HC
 obtain⟨R,hR⟩:=ex (kX f r)
 rw[<- hR] at vh ⊢
 obtain⟨P,hP⟩:=ex (lX w R)
 have HP:Hid (∀e w',lX w R e w'->P e w'):=fun e w' h=>by rw[hP];exact h
 rw[<- hP]
 unfold FW.bC at rU EK ⊢
 have Tn:Hid (bb f=⟨⟨f.slots,f.ak⟩,f.procs,f.out⟩):=rfl
 obtain⟨ns,hns⟩:=ex f.ak.length
 obtain⟨np,fE⟩:=ex f.procs.length
 obtain⟨no,hno⟩:=ex f.out.length
 obtain⟨sl,hsl⟩:=ex f.slots
 rw[<- hns,<- fE,<- hno,<- hsl] at rU EK ⊢
 rw[<- fE] at yE
 rw[<- hno] at OA
 have vd:=ai fE
 have mh:=ai hno
 have CC:=ai hsl
 have cL:=ai (((Below.refl w.heap.size w).alloc (Nat.le_refl _) (.cells #[I sl,.slice az ns cs,.slice ar np cr,.slice ao no co] 30)).alloc (by simp) (.cells #[I 0,Nl,Nl,Nl] 30))
 have BX:=ai (B.alloc (B.new w #[I sl,.slice az ns cs,.slice ar np cr,.slice ao no co] 30) (.cells #[I 0,Nl,Nl,Nl] 30))
 have BZ:=ai (B.new (w.alloc (.cells #[I sl,.slice az ns cs,.slice ar np cr,.slice ao no co] 30)) #[I 0,Nl,Nl,Nl] 30)
 clear h hf hc hr px hR hP hns fE hno hsl
 go_enter Tryz.func44,Tryz.ntmps44
 go_wp2_with fail
 obtain⟨WA,fH⟩:=ex ((w.alloc (.cells #[I sl,.slice az ns cs,.slice ar np cr,.slice ao no co] 30)).alloc (.cells #[I 0,Nl,Nl,Nl] 30))
 have hsz1:(w.alloc (.cells #[I sl,.slice az ns cs,.slice ar np cr,.slice ao no co] 30)).heap.size=w.heap.size+1:=by simp
 rw[hsz1] at BZ
 rw[<- fH] at cL BX BZ ⊢
 obtain⟨x,Cx⟩:=ex w.heap.size
 obtain⟨z,Cw⟩:=ex (w.heap.size+1)
 rw[<- Cw] at BZ ⊢
 rw[<- Cx] at BX ⊢
 have Y3:=ai Cx
 have HZE:=ai Cw
 have hxz:¬x=z:=by omega
 have hzx:¬z=x:=by omega
 have se:Hid (∀V,Below WA.heap.size WA V->V.heap[z]?=some (.cells #[I 0,Nl,Nl,Nl] 30 (0,0))):=fun V hb=>B.below BZ.o hb (B.isLt BZ.o)
 have pP:Hid (∀V,Below WA.heap.size WA V->V.cell? ⟨x,0,none⟩=some (I sl)/\V.cell? ⟨x,1,none⟩=some (.slice az ns cs)/\V.cell? ⟨x,2,none⟩=some (.slice ar np cr)/\V.cell? ⟨x,3,none⟩=some (.slice ao no co)):=fun V hb=>by
  have h1:=B.below BX.o hb (B.isLt BX.o)
  exact⟨B.cell h1 0 rfl,B.cell h1 1 rfl,B.cell h1 2 rfl,B.cell h1 3 rfl⟩
 have Jc:Hid (∀V,Below WA.heap.size WA V->(V.cell? ⟨z,0,none⟩=some (I 0)/\V.cell? ⟨z,1,none⟩=some Nl/\V.cell? ⟨z,2,none⟩=some Nl/\V.cell? ⟨z,3,none⟩=some Nl)/\V.frozen? ⟨z,0,none⟩=false/\V.frozen? ⟨z,1,none⟩=false/\V.frozen? ⟨z,2,none⟩=false/\V.frozen? ⟨z,3,none⟩=false):=fun V hb=>by
  have h1:=se.o V hb
  exact⟨⟨B.cell h1 0 rfl,B.cell h1 1 rfl,B.cell h1 2 rfl,B.cell h1 3 rfl⟩,B.free h1 0,B.free h1 1,B.free h1 2,B.free h1 3⟩
 have F8:=B.isLt BZ.o
 have Ls:Hid (w.heap.size<=z):=(by rw[Cw];omega:w.heap.size<=z)
 clear fH hsz1 Cx Cw BX BZ
 refine(rU.o _ cL.o).mono ?_
 rintro e w1 ⟨rfl,hb1⟩
 have bh:=ai hb1
 obtain⟨⟨z0,z1,z2,z3⟩,f0,f1,f2,f3⟩:=Jc.o _ hb1
 obtain⟨x0,x1,x2,x3⟩:=pP.o _ hb1
 clear hb1 rU
 by_cases z7:ck=0
 · subst z7
   have O8:=ai (HC.o rfl)
   have OM:=ai (EK.o rfl)
   have OI:=ai (yE.o rfl)
   have Oz:=ai (OA.o rfl)
   have Ct:Hid (R=if ¬r.1=0 then (nB,r.1) else match r.2 with | none=>(nB,r.1) | some s=>(su s,0)):=by rw[vh.o,if_neg (fun g=>g rfl)];exact rfl
   clear HC EK yE OA vh
   go_wp2_with (go_at_call 78;refine(OM.o _ (cL.o.trans (bh.o.mono cL.o.size))).mono ?_;rintro e w2 ⟨mb,v,L,rfl,hm,hb2⟩;have Hl:=ai hm;have bY:=ai hb2;clear hm hb2)
   have OW:=ai (bh.o.trans (bY.o.mono bh.o.size))
   have iw:=ai OW.o.drew
   have cB:=ai ((pP.o _ iw.o).2.2)
   clear x0 x1 x2 x3 z0 z1 z2 z3 f0 f1 f2 f3
   go_cut [8] (fun x8 wx=>∃gb D vr vo,x8=.pointer (some ⟨gb,0,none⟩)/\GW.jk (GF.iV w1.heap.size mb) w1.heap.size mb gb wx D vr vo (bb f)/\Below WA.heap.size WA wx)
   case first =>
    go_region_held3 (fun V=>V.cell? ⟨x,2,none⟩=some (.slice ar np cr)/\V.cell? ⟨x,3,none⟩=some (.slice ao no co)) (first | exact Pv.o | exact vN.o | exact cB.o | exact(pP.o _ (Ay.o.alloc Ay.o.size _)).2.2)
     (first
      | (go_at_call 79;refine(OI.o _ (cL.o.trans (iw.o.mono cL.o.size))).mono ?_;rintro e w3 ⟨a3,c3,rfl,SZ,hb3⟩;have R7:=ai SZ;have fK:=ai hb3;have oq:=ai (iw.o.trans (hb3.mono iw.o.size));have vN:=ai ((pP.o _ oq.o).2.2);clear SZ hb3)
      | (go_at_call 80;refine(Oz.o _ (cL.o.trans (oq.o.mono cL.o.size))).mono ?_;rintro e w4 ⟨a4,c4,rfl,XL,hb4⟩;have Tp:=ai XL;have lZ:=ai hb4;have Ay:=ai (oq.o.trans (hb4.mono oq.o.size));have Pv:=ai ((pP.o _ Ay.o).2.2);clear XL hb4))
    all_goals
     go_wp2_with fail
     go_meet
     case rel =>
      refine⟨_,_,_,_,rfl,DF (by rw[<- CC.o];exact Hl.o) ((Below.refl _ _).drew.trans fK.o) ?_ lZ.o ?_,Ay.o.alloc Ay.o.size _⟩
      · rw[<- vd.o];exact R7.o
      · rw[<- mh.o];exact Tp.o
   case rest =>
    obtain⟨gb,D,vr,vo,rfl,hg,hbc⟩:=hcut
    have HG:=ai hg
    have kO:=ai hbc
    have HWB:=ai (cL.o.trans (hbc.mono cL.o.size))
    have Ji:Hid (w.heap.size<=w1.heap.size):=(by have:=cL.o.size;have:=bh.o.size;omega:w.heap.size<=w1.heap.size)
    have cJ:=ai (O8.o wc w1.heap.size mb gb D vr vo HWB.o Ji.o hg)
    have Vw:=ai (fun b=>GW.jk.lt (GF.FO w1.heap.size mb) hg b)
    clear hg hbc O8 OM OI Oz Hl bY OW iw cB
    by_cases ma:r.1=0
    · obtain⟨s,hs⟩:=HR.o ma
      have jd:Hid (R=(su s,0)):=by rw[Ct.o,if_neg (fun g=>g ma),hs];exact rfl
      have mi:Hid (Calls Tryz.prog 58 #[.pointer (some ⟨gb,0,none⟩),.pointer (some ⟨q,0,none⟩)] wc fun e w'=>e=.returned (I 0)/\Below WA.heap.size WA w'/\∃D' vr' vo',GW.jk (GF.iV w1.heap.size mb) w1.heap.size mb gb w' D' vr' vo' s):=cJ.o.mono fun e w' ⟨h1,h2,h3⟩=>by
       obtain⟨D',vr',vo',hg',_,_⟩:=h3 s hs
       rw[ma] at h1
       exact⟨h1,Kp.below kO.o h2 kO.o.size (fun b hb=>Nat.le_trans bh.o.size (Vw.o b hb).1),D',vr',vo',hg'⟩
      have ZI:Hid (Calls Tryz.prog 58 #[.pointer (some ⟨gb,0,none⟩),.pointer (some ⟨q,0,none⟩)] wc fun e w'=>∃a5 c5 a6 c6 a7 c7,e=.returned (I 0)/\Below WA.heap.size WA w'/\(w'.cell? ⟨mb,0,none⟩=some (I s.mem.slots)/\w'.cell? ⟨mb,1,none⟩=some (.slice a7 s.mem.ak.length c7)/\w'.cell? ⟨gb,1,none⟩=some (.slice a5 s.ps.length c5)/\w'.cell? ⟨gb,2,none⟩=some (.slice a6 s.out.length c6))/\(¬mb=z/\¬gb=z)/\∀V,Kp (fun b=>b<=z) w' V->FW.fJ V (su s) a7 a5 a6):=mi.o.mono fun e w' ⟨h1,h2,D',vr',vo',hg⟩=>by
       obtain⟨a5,c5,rfl,_,_⟩:=aJ hg.procs
       obtain⟨a6,c6,rfl,_,_⟩:=aJ hg.outs
       obtain⟨⟨v7,L7,hM⟩,hD⟩:=hg.mem
       obtain⟨a7,c7,rfl,_⟩:=hM.has
       have Dz:z<w1.heap.size:=Nat.lt_of_lt_of_le F8 bh.o.size
       have hgl:=GW.jk.lt (GF.FO w1.heap.size mb) hg
       refine⟨a5,c5,a6,c6,a7,c7,h1,h2,⟨B.cell hM.head 0 rfl,B.cell hM.head 1 rfl,B.cell hg.head 1 rfl,B.cell hg.head 2 rfl⟩,⟨fun e=>by have:=hM.base;omega,fun e=>by have:=hg.base;omega⟩,fun V hV=>?_⟩
       have hMV:=hM.kp hV (fun b hb e=>by have:=(hD b hb).1;omega)
       obtain⟨a8,c8,e8,h8⟩:=hMV.has
       injection e8 with e9 _ _
       subst e9
       exact⟨h8,Fp (hV.row hg.procs (fun b hb e=>by have:=(hgl b (.inr (.inr (.inl hb)))).1;omega)),EX (hV.row hg.outs (fun b hb e=>by have:=(hgl b (.inr (.inr (.inr hb)))).1;omega))⟩
      have HTF:Hid (su s=⟨s.mem.slots,s.mem.ak,s.ps,s.out⟩):=rfl
      obtain⟨s0,hs0⟩:=ex s.mem.slots
      obtain⟨s1,hs1⟩:=ex s.mem.ak.length
      obtain⟨s2,hs2⟩:=ex s.ps.length
      obtain⟨s3,hs3⟩:=ex s.out.length
      rw[<- hs0,<- hs1,<- hs2,<- hs3] at ZI
      have Vz:Hid (∀a7 c7 a5 c5 a6 c6,FW.bC (su s) a7 a5 a6 c7 c5 c6=#[I s0,.slice a7 s1 c7,.slice a5 s2 c5,.slice a6 s3 c6]):=fun a7 c7 a5 c5 a6 c6=>by rw[hs0,hs1,hs2,hs3];rfl
      clear Ct cJ hs ma HR mi hs0 hs1 hs2 hs3 Vw HG
      go_wp2_with (go_at_call 58;refine ZI.o.mono ?_;rintro e w5 ⟨a5,c5,a6,c6,a7,c7,rfl,kV,hcl,hnz,hfl⟩;have gK:=ai kV;have Hs:=ai hcl;have Hq:=ai hfl;obtain⟨⟨z0,z1,z2,z3⟩,f0,f1,f2,f3⟩:=Jc.o _ kV;obtain⟨WL,WK⟩:=hnz;clear kV hcl hfl)
      have rS:Hid (∀V,Kp (fun b=>b=z) w5 V->V.cell? ⟨mb,0,none⟩=some (I s0)/\V.cell? ⟨mb,1,none⟩=some (.slice a7 s1 c7)/\V.cell? ⟨gb,1,none⟩=some (.slice a5 s2 c5)/\V.cell? ⟨gb,2,none⟩=some (.slice a6 s3 c6)):=fun V hV=>by
       obtain⟨q0,q1,q2,q3⟩:=Hs.o
       exact⟨hV.cell q0 WL,hV.cell q1 WL,hV.cell q2 WK,hV.cell q3 WK⟩
      go_region_held3 (fun V=>V.cell? ⟨mb,0,none⟩=some (I s0)/\V.cell? ⟨mb,1,none⟩=some (.slice a7 s1 c7)/\V.cell? ⟨gb,1,none⟩=some (.slice a5 s2 c5)/\V.cell? ⟨gb,2,none⟩=some (.slice a6 s3 c6)) (first | exact Hs.o | exact rS.o _ ((gM w5 z _ _ _ _).trans (Kp.drew (fun b=>b=z) _) (fun _ _ g=>g))) (fail)
      all_goals
       go_wp2
       refine bodyPost_ret (v:=.tuple #[.agg #[I s0,.slice a7 s1 c7,.slice a5 s2 c5,.slice a6 s3 c6],I 0]) (by simp[results,Tryz.results44,go_sem,z0,z1,z2,z3]) rfl ?_
       refine HP.o _ _ ?_
       rw[jd.o]
       have hk4:=(gM w5 z (I s0) (.slice a7 s1 c7) (.slice a5 s2 c5) (.slice a6 s3 c6)).trans (Kp.drew (fun b=>b=z) _) (fun _ _ g=>g)
       refine⟨a7,c7,a5,c5,a6,c6,by rw[Vz.o],fun V hV=>Hq.o _ ((hk4.mono (fun b _ e=>Nat.le_of_eq e)).trans hV (fun b _ g=>Nat.le_of_lt (Nat.lt_of_lt_of_le g Ls.o))),Kp.below (cL.o.trans (gK.o.mono cL.o.size)) hk4 (Nat.le_trans cL.o.size gK.o.size) (fun b e=>by rw[e];exact Ls.o)⟩
    · have jd:Hid (R=(nB,r.1)):=by rw[Ct.o,if_pos ma];exact rfl
      obtain⟨rc,hrc⟩:=ex r.1
      have mi:Hid (Calls Tryz.prog 58 #[.pointer (some ⟨gb,0,none⟩),.pointer (some ⟨q,0,none⟩)] wc fun e w'=>e=.returned (I rc)/\Below WA.heap.size WA w'):=cJ.o.mono fun e w' ⟨h1,h2,h3⟩=>by
       rw[<- hrc] at h1
       exact⟨h1,Kp.below kO.o h2 kO.o.size (fun b hb=>Nat.le_trans bh.o.size (Vw.o b hb).1)⟩
      have jc:(rc==0)=false:=by rw[beq_eq_false_iff_ne,hrc];exact ma
      rw[<- hrc] at jd
      clear Ct cJ ma HR hrc
      go_wp2_with (go_at_call 58;refine mi.o.mono ?_;rintro e w5 ⟨rfl,kV⟩;have gK:=ai kV;obtain⟨⟨z0,z1,z2,z3⟩,f0,f1,f2,f3⟩:=Jc.o _ kV;clear kV)
      refine bodyPost_ret (v:=.tuple #[.agg #[I 0,Nl,Nl,Nl],I rc]) (by simp[results,Tryz.results44,go_sem,z0,z1,z2,z3]) rfl ?_
      refine HP.o _ _ ?_
      rw[jd.o]
      exact⟨none,0,none,0,none,0,rfl,fun V _=>nV V,Kp.below (cL.o.trans (gK.o.mono cL.o.size)) (gM w5 z _ _ _ _) (Nat.le_trans cL.o.size gK.o.size) (fun b e=>by rw[e];exact Ls.o)⟩
 · have jd:Hid (R=(nB,ck)):=by rw[vh.o,if_pos z7];exact rfl
   have jc:(ck==0)=false:=by rw[beq_eq_false_iff_ne];exact z7
   clear vh z7 HC EK yE OA
   go_wp2
   refine bodyPost_ret (v:=.tuple #[.agg #[I 0,Nl,Nl,Nl],I ck]) (by simp[results,Tryz.results44,go_sem,z0,z1,z2,z3]) rfl ?_
   refine HP.o _ _ ?_
   rw[jd.o]
   exact⟨none,0,none,0,none,0,rfl,fun V _=>nV V,Kp.below (cL.o.trans (bh.o.mono cL.o.size)) (gM w1 z _ _ _ _) (Nat.le_trans cL.o.size bh.o.size) (fun b e=>by rw[e];exact Ls.o)⟩
theorem yt.below {w w':World} {ao:Option Addr} {l:List Int} (h:GW.yt w ao l) (hb:Below w.heap.size w w'):GW.yt w' ao l:=fun hl=>by
 obtain⟨b,off,e,hlt,hc⟩:=h hl
 exact⟨b,off,e,Nat.lt_of_lt_of_le hlt hb.size,fun i hi=>(hb.cell (p:=⟨b,off+i,none⟩) hlt).trans (hc i hi)⟩
theorem Ma (st:GG.St GM.Mf) (picks:List Int) (h:(GG.yM GM.aQ st picks).1=0):∃s,(GG.yM GM.aQ st picks).2=some s:=by
 unfold GG.yM at h ⊢
 by_cases c:2000<picks.length
 · rw[if_pos c] at h;cases h
 · rw[if_neg c] at h ⊢
   cases e:GG.jZ GM.aQ picks picks.length (some st) with
   | none=>rw[e] at h;cases h
   | some s=>exact⟨s,rfl⟩
theorem Mb {f:FM.Fl} {lo mb gb:Nat} {D:Nat->Prop} {vr vo:Value} (picks:List Int) (ap:Option Addr) (cp q:Nat) (V:World) (hk:FM.bV f=0) (hp:pS f.procs) (hg:GW.jk (GF.iV lo mb) lo mb gb V D vr vo (bb f)) (hq:V.cell? ⟨q,0,none⟩=some (.slice ap picks.length cp)) (hn:GW.yt V ap picks) (hps:0<picks.length->∀b,ap=some b->b.block<lo) (hpl:picks.length<=140737488351232) :
  Calls Tryz.prog 58 #[.pointer (some ⟨gb,0,none⟩),.pointer (some ⟨q,0,none⟩)] V (GW.og (GF.iV lo mb) lo mb gb V D vr vo (GG.yM GM.aQ (bb f) picks)):=by
 have HS:=ai (GW.AR (GF.FO lo mb) picks ap cp V hg (Gt hk hp) hn (fun h0 b e g=>by have:=(hg.lt (GF.FO lo mb) _ g).1;have:=hps h0 b e;omega) hpl)
 obtain⟨X,hX⟩:=ex (GG.yM GM.aQ (bb f) picks)
 rw[<- hX] at HS ⊢
 obtain⟨P,hP⟩:=ex (GW.og (GF.iV lo mb) lo mb gb V D vr vo X)
 have HP:Hid (∀w',(Kp (GW.kg gb D vr vo) V w'/\∀s,X.2=some s->GW.Left (GF.iV lo mb) lo mb gb V D vr vo s w')->P (.returned (I X.1)) w'):=fun w' h=>by
  rw[hP]
  exact⟨rfl,h.1,h.2⟩
 rw[<- hP]
 obtain⟨X1,hX1⟩:=ex X.1
 have qm:Hid (Calls Tryz.prog 59 #[.pointer (some ⟨gb,0,none⟩),.slice ap picks.length cp] V fun e w'=>e=.returned (I X1)/\Kp (GW.kg gb D vr vo) V w'/\∀s,X.2=some s->GW.Left (GF.iV lo mb) lo mb gb V D vr vo s w'):=by rw[hX1];exact HS.o
 rw[<- hX1] at HP
 clear hX hP hg HS hX1 hn hps
 go_enter Tryz.func58,Tryz.ntmps58
 go_wp2_with (go_at_call 59;refine qm.o.mono ?_;rintro e w1 ⟨rfl,hl⟩;have HL:=ai hl;clear hl)
 exact HP.o _ HL.o
theorem AR (f:FM.Fl) (picks:List Int) (ap:Option Addr) (cp:Nat) (az ar ao:Option Addr) (cs cr co:Nat) (w:World) (h:FW.fJ w f az ar ao) (hf:FW.mL f) (hp:pS f.procs) (hn:GW.yt w ap picks) (hps:0<picks.length->∀b,ap=some b->b.block<w.heap.size) (hpl:picks.length<=140737488351232) :
  Calls Tryz.prog 17 #[.agg (FW.bC f az ar ao cs cr co),.slice ap picks.length cp] w (lX w (yN f picks)):=by
 obtain⟨r,hr⟩:=ex (yN f picks)
 have Ht:Hid (∀V q,Below w.heap.size w V->V.cell? ⟨q,0,none⟩=some (.slice ap picks.length cp)->Calls Tryz.prog 44 #[.agg (FW.bC f az ar ao cs cr co),.func (.func 58) #[] #[.pointer (some ⟨q,0,none⟩)]] V fun e w'=>∃s0 a1 s1 c1 a2 s2 c2 a3 s3 c3 er,e=.returned (.tuple #[.agg #[I s0,.slice a1 s1 c1,.slice a2 s2 c2,.slice a3 s3 c3],I er])/\Below V.heap.size V w'/\∀U,Kp (fun b=>b<V.heap.size) w' U->Below w.heap.size w U->lX w r (.returned (.tuple #[.agg #[I s0,.slice a1 s1 c1,.slice a2 s2 c2,.slice a3 s3 c3],I er])) U):=fun V q hV hq=>by
  rw[hr]
  refine(BU f (GG.yM GM.aQ (bb f) picks) q az ar ao cs cr co V (h.below hV) hf (Ma _ _) (fun hk U lo mb gb D vr vo hU hlo hg=>Mb picks ap cp q U hk hp hg ((hU.cell (p:=⟨q,0,none⟩) (World.block_lt_of_cell? _ _ hq)).trans hq) (yt.below (yt.below hn hV) hU) (fun h0 b e=>Nat.lt_of_lt_of_le (hps h0 b e) (Nat.le_trans hV.size hlo)) hpl)).mono ?_
  rintro e w' ⟨a1,c1,a2,c2,a3,c3,rfl,h1,h2⟩
  exact⟨_,a1,_,c1,a2,_,c2,a3,_,c3,_,rfl,h2,fun U hU hb=>⟨a1,c1,a2,c2,a3,c3,rfl,fun V2 h3=>h1 _ (hU.trans h3 (fun b _ g=>Nat.lt_of_lt_of_le g hV.size)),hb⟩⟩
 rw[<- hr]
 obtain⟨P,hP⟩:=ex (lX w r)
 rw[<- hP] at Ht ⊢
 clear h hf hp hr hP hn hps
 unfold FW.bC at Ht ⊢
 obtain⟨ns,hns⟩:=ex f.ak.length
 obtain⟨np,fE⟩:=ex f.procs.length
 obtain⟨no,hno⟩:=ex f.out.length
 obtain⟨sl,hsl⟩:=ex f.slots
 rw[<- hns,<- fE,<- hno,<- hsl] at Ht ⊢
 clear hns fE hno hsl
 obtain⟨pl,hpe⟩:=ex picks.length
 rw[<- hpe] at Ht ⊢
 clear hpe hpl
 obtain⟨WQ,Ni⟩:=ex ((w.alloc (.cells #[I sl,.slice az ns cs,.slice ar np cr,.slice ao no co] 30)).alloc (.cells #[.slice ap pl cp] 44))
 have Xm:WQ.heap.size=w.heap.size+1+1:=by rw[Ni];simp
 have BQ:WQ.heap[w.heap.size+1]?=some (.cells #[.slice ap pl cp] 44 (0,0)):=by
  rw[Ni]
  have:=B.new (w.alloc (.cells #[I sl,.slice az ns cs,.slice ar np cr,.slice ao no co] 30)) #[.slice ap pl cp] 44
  simpa using this
 have VF:Below w.heap.size w WQ:=by rw[Ni];exact((Below.refl w.heap.size w).alloc (Nat.le_refl _) _).alloc (by simp) _
 have cL:=ai (VF.alloc VF.size (.cells #[I 0,Nl,Nl,Nl] 30))
 have hq:(WQ.alloc (.cells #[I 0,Nl,Nl,Nl] 30)).cell? ⟨w.heap.size+1,0,none⟩=some (.slice ap pl cp):=B.cell (B.alloc BQ _) 0 rfl
 have BZ:=B.new WQ #[I 0,Nl,Nl,Nl] 30
 rw[Xm] at BZ
 obtain⟨WA,fH⟩:=ex (WQ.alloc (.cells #[I 0,Nl,Nl,Nl] 30))
 rw[<- fH] at cL hq BZ
 have O6:=ai (Ht.o WA (w.heap.size+1) cL.o hq)
 have U4:=ai BZ
 rw[Ni] at fH
 rw[fH] at O6
 have Y7:=ai fH
 clear fH Ni Xm BQ VF hq BZ Ht
 go_enter Tryz.func17,Tryz.ntmps17
 go_wp2_with (go_at_call 44;refine O6.o.mono ?_;rintro e w1 ⟨s0,a1,s1,c1,a2,s2,c2,a3,s3,c3,er,rfl,hb,ho⟩;rw[<- Y7.o] at hb ho;have bh:=ai hb;have Jg:=ai ho;have hz1:=B.below U4.o hb (B.isLt U4.o);obtain⟨z0,z1,z2,z3⟩:=B.c4 hz1;have f0:=B.free hz1 0;have f1:=B.free hz1 1;have f2:=B.free hz1 2;have f3:=B.free hz1 3;clear hb ho hz1)
 refine bodyPost_ret (v:=.tuple #[.agg #[I s0,.slice a1 s1 c1,.slice a2 s2 c2,.slice a3 s3 c3],I er]) (by simp[results,Tryz.results17,go_sem,z0,z1,z2,z3]) rfl ?_
 have hk4:=gM w1 (w.heap.size+1+1) (I s0) (.slice a1 s1 c1) (.slice a2 s2 c2) (.slice a3 s3 c3)
 have hzl:=B.isLt U4.o
 exact Jg.o _ (hk4.mono (fun b _ e=>by rw[e];exact hzl)) (Kp.below (cL.o.trans (bh.o.mono cL.o.size)) hk4 (Nat.le_trans cL.o.size bh.o.size) (fun b e=>by omega))
end GH
end Go.Proofs.YtkdigjpejnebkaaGreat
