import Derived.Test.YtpgifpeohlllfaaGreatGS00
import Derived.Test.YtpgifpeohlllfaaGreatGS11
import Derived.Test.YtpgifpeohlllfaaGreatGS09
import Derived.Test.YtpgifpeohlllfaaGreatGS30
import Derived.Test.YtpgifpeohlllfaaGreatGS23
import Derived.Test.YtpgifpeohlllfaaGreatGS28
import Derived.Test.YtpgifpeohlllfaaGreatGS31
set_option maxHeartbeats 20000000
set_option linter.unusedVariables false
set_option maxRecDepth 100000
set_option linter.unusedSimpArgs false
namespace Go.Proofs.YtpgifpeohlllfaaGreat
namespace LW
open Go.RowKit
open W (ai)
theorem wQ (l:List AM.Ar) (hs:List LM.Sh) (en:Int) (va:Value) (ao:Option Addr) (cap:Nat) (w:World) (ha:AW.Has w va l) (hf:AW.ed l) (h:LM.gT w ao hs) (yL:LM.lJ hs) (he:M.gj en) :
  Calls Tryz.prog 60 #[.agg #[va,.slice ao hs.length cap,I en]] w fun e w'=>e=.returned (I (LM.iU l hs en))/\Below w.heap.size w w':=by
 have oU:Hid (∀W,Below w.heap.size w W->Calls Tryz.prog 90 #[va] W fun e w'=>e=.returned (I (AM.aR l))/\Below W.heap.size W w'):=fun W hb=>AW.sW l va W (ha.below hb) hf
 have wY:Hid (AM.aR l=0->∀W,Below w.heap.size w W->Calls Tryz.prog 61 #[va] W fun e w'=>e=.returned (I (AM.sumTo l l.length))/\Below W.heap.size W w'):=fun hc W hb=>by
  have g:=AW.lV l va W (ha.below hb) hc
  have e:AM.cm l=AM.sumTo l l.length:=by simp[AM.cm,hc]
  rw[e] at g
  exact g
 have Ig:Hid (∀W,Below w.heap.size w W->Calls Tryz.prog 45 #[.slice ao hs.length cap] W fun e w'=>e=.returned (.bool (LM.cV hs))/\Below W.heap.size W w'):=fun W hb=>pM hs ao cap W (h.below hb) yL
 have HAA:Hid (AM.aR l=0->∀p W,Below w.heap.size w W->Calls Tryz.prog 31 #[va,I p] W fun e w'=>e=.returned (.tuple #[.agg #[I (AM.aM l p).1.page,I (AM.aM l p).1.aH,I (AM.aM l p).1.bO,.bool (AM.aM l p).1.zero],.bool (AM.aM l p).2])/\Below W.heap.size W w'):=fun hc p W hb=>by
  have g:=AW.sA l va p W (ha.below hb) hc
  have e:AM.aT l p=AM.aM l p:=by simp[AM.aT,hc]
  rw[e] at g
  exact g
 have qH:Hid (AM.aR l=0->∀p,(AM.aM l p).2=true->0<=(AM.aM l p).1.bO/\(AM.aM l p).1.bO<=3):=fun hc p=>LM.yP l hc p
 have HR:Hid (LM.iU l hs en=if AM.aR l=0 then (if decide ((hs.length:Int)=AM.sumTo l l.length)&&(LM.cV hs&&(LM.mr l hs hs.length&&LM.j4 l en)) then 0 else 1) else AM.aR l):=rfl
 have HE:Hid (LM.j4 l en=((AM.aM l (en.tdiv 16)).2&&(decide (2<=(AM.aM l (en.tdiv 16)).1.bO)&&decide (en.tmod 8=0)))):=rfl
 have S9:=ai h
 have hn:hs.length<=140737488351232:=yL.1
 obtain⟨aa,na,ca,rfl⟩:=isSlice ha
 unfold M.gj at he
 clear ha hf h yL
 have HB:=ai ((Below.refl w.heap.size w).alloc (Nat.le_refl _) (.cells #[.slice aa na ca,.slice ao hs.length cap,I en] 30))
 have BX:=ai (B.new w #[.slice aa na ca,.slice ao hs.length cap,I en] 30)
 obtain⟨C,hC⟩:=ex (AM.aR l)
 rw[<- hC] at oU wY HAA qH HR
 rw[HR.o]
 clear hC HR
 by_cases hc:C=0
 · subst hc
   have VT:=ai (wY.o rfl)
   have Wz:=ai (HAA.o rfl)
   have ZE:=ai (qH.o rfl)
   clear wY HAA qH
   rw[if_pos rfl]
   obtain⟨T,hT⟩:=ex (AM.sumTo l l.length)
   rw[<- hT] at VT
   rw[<- hT]
   clear hT
   obtain⟨R,hR⟩:∃R:Int,R=(if decide ((hs.length:Int)=T)&&(LM.cV hs&&(LM.mr l hs hs.length&&LM.j4 l en)) then 0 else 1):=⟨_,rfl⟩
   rw[<- hR]
   have BC:=ai hR
   clear hR
   go_enter Tryz.func60,Tryz.ntmps60
   go_wp2_with (go_at_call 90;refine(oU.o _ HB.o).mono ?_;rintro e w1 ⟨rfl,hb⟩;have HB:=ai (HB.o.trans (hb.mono HB.o.size));have BX:=ai (B.below BX.o hb (B.isLt BX.o));clear hb)
   have lB:=B.isLt BX.o
   have mv:=Q.dW w1
   have hkc:=@Q.cH w1
   have e0:∀x:Q.fF w1.heap.size w1,x.world.cell? (Ad w.heap.size 0)=some (.slice aa na ca):=fun x=>by rw[hkc x _ _ lB];exact B.cell BX.o 0 rfl
   have e1:∀x:Q.fF w1.heap.size w1,x.world.cell? (Ad w.heap.size 1)=some (.slice ao hs.length cap):=fun x=>by rw[hkc x _ _ lB];exact B.cell BX.o 1 rfl
   have o9:Hid (∀W,Below w1.heap.size w1 W->Calls Tryz.prog 61 #[.slice aa na ca] W fun e w'=>e=.returned (I T)/\Below W.heap.size W w'):=fun W hb=>VT.o W (HB.o.trans (hb.mono HB.o.size))
   have eD:Hid (∀W,Below w1.heap.size w1 W->Calls Tryz.prog 45 #[.slice ao hs.length cap] W fun e w'=>e=.returned (.bool (LM.cV hs))/\Below W.heap.size W w'):=fun W hb=>Ig.o W (HB.o.trans (hb.mono HB.o.size))
   clear hkc VT Ig oU
   by_cases hT:(hs.length:Int)=T
   · have WZ:decide ((hs.length:Int)=T)=true:=decide_eq_true hT
     rw[WZ,Bool.true_and] at BC
     cases er:LM.cV hs with
     | false =>
      rw[er] at eD BC
      clear er WZ
      refine Q.br (by kernel_rfl) (by kernel_rfl) ?_
      repeat (first | go_big_quiet_step ((first | (go_at_call 61;exact bl _ o9.o) | (go_at_call 45;exact bl _ eD.o))) | quiet_step ((first | (go_at_call 61;exact bl _ o9.o) | (go_at_call 45;exact bl _ eD.o))))
      refine wpQuiet_nil ?_
      intro _ hw'
      obtain⟨x,hw''⟩:=hw'
      subst hw''
      go_wp2
      go_ret
      exact⟨dE (by rw[BC.o];rfl),HB.o.trans (x.keeps.mono HB.o.size)⟩
     | true =>
      rw[er] at eD BC
      rw[Bool.true_and] at BC
      clear er WZ
      refine Q.br (by kernel_rfl) (by kernel_rfl) ?_
      repeat (first | go_big_quiet_step ((first | (go_at_call 61;exact bl _ o9.o) | (go_at_call 45;exact bl _ eD.o))) | quiet_step ((first | (go_at_call 61;exact bl _ o9.o) | (go_at_call 45;exact bl _ eD.o))))
      refine wpQuiet_nil ?_
      intro _ hw'
      obtain⟨x,hw''⟩:=hw'
      subst hw''
      go_wp2
      have nK:=ai (HB.o.trans (x.keeps.mono HB.o.size))
      have BXX:=ai (B.below BX.o x.keeps lB)
      obtain⟨w2,hw2⟩:=ex x.world
      rw[<- hw2] at nK BXX
      rw[<- hw2]
      clear hw2 e0 e1 mv o9 eD
      go_loopw [4] (fun i wr=>∃k:Nat,k<=hs.length/\i=I k/\LM.mr l hs k=true/\Below w.heap.size w wr/\wr.heap[w.heap.size]?=some (.cells #[.slice aa na ca,.slice ao hs.length cap,I en] 30 (0,0))) (fun i _=>hs.length-(intOf i).toNat)
      case atStart=>exact⟨0,by omega,rfl,rfl,nK.o,BXX.o⟩
      case round =>
       obtain⟨k,hk,rfl,hin,hb,hbr⟩:=hrel
       have qI:=ai hin
       have fw:=ai hb
       have Qt:=ai hbr
       have Lf:=B.isLt hbr
       have x0:=B.cell hbr 0 rfl
       have x1:=B.cell hbr 1 rfl
       have x2:=B.cell hbr 2 rfl
       clear hin hbr
       by_cases hlt:k<hs.length
       · obtain⟨b,off,hao,hbl,bM⟩:=(S9.o.below hb) (by omega)
         subst hao
         obtain⟨c0,-,-,-⟩:=bM k hlt
         have Qj:Hid (LM.mr l hs (k+1)=((AM.aM l (LM.aW hs k).page).2&&!(AM.aM l (LM.aW hs k).page).1.zero)):=by
          show _=_
          simp only[LM.mr]
          rw[qI.o,Bool.true_and]
          rfl
         have C7:Hid (((AM.aM l (LM.aW hs k).page).2&&!(AM.aM l (LM.aW hs k).page).1.zero)=false->LM.mr l hs hs.length=false):=fun e=>LM.UN l hs k hlt e
         obtain⟨p,hp⟩:=ex ((LM.aW hs k).page)
         rw[<- hp] at c0 Qj C7
         have kg:=ai (Wz.o p)
         obtain⟨r,hr⟩:=ex (AM.aM l p)
         rw[<- hr] at kg Qj C7
         clear hp hr bM hb
         obtain⟨⟨pg,pn,pr,zr⟩,ok⟩:=r
         simp only at kg Qj C7
         have Ud:=ai (zo wr)
         have Dd:=ai (fw.o.trans (Ud.o.mono fw.o.size))
         have qR:=ai ((fw.o.trans (Ud.o.mono fw.o.size)).alloc (fw.o.trans (Ud.o.mono fw.o.size)).size (.cells #[I 0,I 0,I 0,.bool false] 47))
         have HBZ:=ai (Ud.o.alloc (Nat.le_refl _) (.cells #[I 0,I 0,I 0,.bool false] 47))
         have BZ:Hid ((wr.drew.alloc (.cells #[I 0,I 0,I 0,.bool false] 47)).heap[wr.heap.size]?=some (.cells #[I 0,I 0,I 0,.bool false] 47 (0,0))):=B.new wr.drew _ _
         by_cases vv:(ok&&!zr)=true
         · obtain⟨rfl,rfl⟩:ok=true/\zr=false:=by simpa using vv
           clear vv C7
           go_wp2
           go_region_law (go_simp;go_at_call 31;refine(kg.o _ (by first | exact Dd.o | exact qR.o)).mono ?_;rintro e w3 ⟨rfl,hb⟩;have cZ:Hid (Below w.heap.size w w3):=(by first | exact Dd.o.trans (hb.mono Dd.o.size) | exact qR.o.trans (hb.mono qR.o.size));have Mq:Hid (w3.heap[w.heap.size]?=some (.cells #[.slice aa na ca,.slice (some (Ad b off)) hs.length cap,I en] 30 (0,0))):=(by first | exact B.below (B.below Qt.o Ud.o Lf) hb (by simpa using Lf) | exact B.below (B.below Qt.o HBZ.o Lf) hb (by have:=Lf;simp;omega));(try (have oh:=ai (B.below BZ.o hb (B.isLt BZ.o));have z0:=B.cell oh.o 0 rfl;have z1:=B.cell oh.o 1 rfl;have z2:=B.cell oh.o 2 rfl;have z3:=B.cell oh.o 3 rfl;have zf:=B.free oh.o));clear hb;go_simp)
           all_goals
            go_wp2
            go_roundw
            case rel=>first | exact⟨k+1,by omega,by go_num,Qj.o,cZ.o.alloc cZ.o.size _,B.alloc Mq.o _⟩ | exact⟨k+1,by omega,by go_num,Qj.o,((((cZ.o.setCell (p:=(Ad wr.heap.size 0)) fw.o.size _).setCell (p:=(Ad wr.heap.size 1)) fw.o.size _).setCell (p:=(Ad wr.heap.size 2)) fw.o.size _).setCell (p:=(Ad wr.heap.size 3)) fw.o.size _),(B.other (B.other (B.other (B.other Mq.o wr.heap.size 0 _ (by omega)) wr.heap.size 1 _ (by omega)) wr.heap.size 2 _ (by omega)) wr.heap.size 3 _ (by omega))⟩
            case measure=>simp[intOf];omega
         · have HX:=ai (C7.o (by simpa using vv))
           rw[HX.o,Bool.false_and] at BC
           clear Qj C7
           cases ok
           · clear vv
             go_wp2
             go_region_law (go_simp;go_at_call 31;refine(kg.o _ (by first | exact Dd.o | exact qR.o)).mono ?_;rintro e w3 ⟨rfl,hb⟩;have cZ:Hid (Below w.heap.size w w3):=(by first | exact Dd.o.trans (hb.mono Dd.o.size) | exact qR.o.trans (hb.mono qR.o.size));(try (have oh:=ai (B.below BZ.o hb (B.isLt BZ.o));have z0:=B.cell oh.o 0 rfl;have z1:=B.cell oh.o 1 rfl;have z2:=B.cell oh.o 2 rfl;have z3:=B.cell oh.o 3 rfl;have zf:=B.free oh.o));clear hb;go_simp)
             all_goals
              go_wp2
              go_ret
              first | exact⟨dE (by rw[BC.o];rfl),cZ.o.alloc cZ.o.size _⟩ | exact⟨dE (by rw[BC.o];rfl),((((cZ.o.setCell (p:=(Ad wr.heap.size 0)) fw.o.size _).setCell (p:=(Ad wr.heap.size 1)) fw.o.size _).setCell (p:=(Ad wr.heap.size 2)) fw.o.size _).setCell (p:=(Ad wr.heap.size 3)) fw.o.size _)⟩
           · obtain rfl:zr=true:=by simpa using vv
             clear vv
             go_wp2
             go_region_law (go_simp;go_at_call 31;refine(kg.o _ (by first | exact Dd.o | exact qR.o)).mono ?_;rintro e w3 ⟨rfl,hb⟩;have cZ:Hid (Below w.heap.size w w3):=(by first | exact Dd.o.trans (hb.mono Dd.o.size) | exact qR.o.trans (hb.mono qR.o.size));(try (have oh:=ai (B.below BZ.o hb (B.isLt BZ.o));have z0:=B.cell oh.o 0 rfl;have z1:=B.cell oh.o 1 rfl;have z2:=B.cell oh.o 2 rfl;have z3:=B.cell oh.o 3 rfl;have zf:=B.free oh.o));clear hb;go_simp)
             all_goals
              go_wp2
              go_ret
              first | exact⟨dE (by rw[BC.o];rfl),cZ.o.alloc cZ.o.size _⟩ | exact⟨dE (by rw[BC.o];rfl),((((cZ.o.setCell (p:=(Ad wr.heap.size 0)) fw.o.size _).setCell (p:=(Ad wr.heap.size 1)) fw.o.size _).setCell (p:=(Ad wr.heap.size 2)) fw.o.size _).setCell (p:=(Ad wr.heap.size 3)) fw.o.size _)⟩
       · obtain rfl:k=hs.length:=by omega
         rw[qI.o,Bool.true_and,HE.o] at BC
         have kg:=ai (Wz.o (en.tdiv 16))
         have C5:=ai (ZE.o (en.tdiv 16))
         obtain⟨r,hr⟩:=ex (AM.aM l (en.tdiv 16))
         rw[<- hr] at kg BC C5
         clear hr hb HE Wz ZE
         obtain⟨⟨pg,pn,pr,zr⟩,ok⟩:=r
         simp only at kg BC C5
         cases ok with
         | false =>
          go_wp2_with (go_at_call 31;refine(kg.o _ fw.o).mono ?_;rintro e w3 ⟨rfl,hb⟩;have cZ:=ai (fw.o.trans (hb.mono fw.o.size));clear hb)
          go_ret
          exact⟨dE (by rw[BC.o];rfl),cZ.o.alloc cZ.o.size _⟩
         | true =>
          have Ew:=LM.x9 (C5.o rfl)
          clear C5
          by_cases h8:en.tmod 8=0
          · rw[decide_eq_true h8,Bool.and_true,Bool.true_and] at BC
            rcases Ew with rfl | rfl | rfl | rfl
            all_goals
             go_wp2_with (go_at_call 31;refine(kg.o _ fw.o).mono ?_;rintro e w3 ⟨rfl,hb⟩;have cZ:=ai (fw.o.trans (hb.mono fw.o.size));have Mq:=ai (B.below Qt.o hb Lf);have hb3:=B.isLt Mq.o;have y2:=B.cell Mq.o 2 rfl;clear hb)
             go_ret
             exact⟨dE (by rw[BC.o];rfl),cZ.o.alloc cZ.o.size _⟩
          · have h8':(en.tmod 8==0)=false:=by simpa using h8
            rw[decide_eq_false h8,Bool.and_false,Bool.and_false] at BC
            go_wp2_with (go_at_call 31;refine(kg.o _ fw.o).mono ?_;rintro e w3 ⟨rfl,hb⟩;have cZ:=ai (fw.o.trans (hb.mono fw.o.size));have Mq:=ai (B.below Qt.o hb Lf);have hb3:=B.isLt Mq.o;have y2:=B.cell Mq.o 2 rfl;clear hb)
            go_ret
            exact⟨dE (by rw[BC.o];rfl),cZ.o.alloc cZ.o.size _⟩
   · have WZ:decide ((hs.length:Int)=T)=false:=decide_eq_false hT
     have aiX:((hs.length:Int)==T)=false:=by simpa using hT
     rw[WZ,Bool.false_and] at BC
     clear WZ
     refine Q.br (by kernel_rfl) (by kernel_rfl) ?_
     repeat (first | go_big_quiet_step ((first | (go_at_call 61;exact bl _ o9.o) | (go_at_call 45;exact bl _ eD.o))) | quiet_step ((first | (go_at_call 61;exact bl _ o9.o) | (go_at_call 45;exact bl _ eD.o))))
     refine wpQuiet_nil ?_
     intro _ hw'
     obtain⟨x,hw''⟩:=hw'
     subst hw''
     go_wp2
     go_ret
     exact⟨dE (by rw[BC.o];rfl),HB.o.trans (x.keeps.mono HB.o.size)⟩
 · have hc':(C==0)=false:=by simpa using hc
   rw[if_neg hc]
   go_enter Tryz.func60,Tryz.ntmps60
   go_wp2_with (go_at_call 90;refine(oU.o _ HB.o).mono ?_;rintro e w1 ⟨rfl,hb⟩;have HB:=ai (HB.o.trans (hb.mono HB.o.size));clear hb)
   go_ret
   exact⟨rfl,HB.o⟩
end LW
namespace KR
open Go.RowKit GK KO
open FW (ai aB)
open KW (fu cI aJ eW)
open KY (sF)
open KZ (qO oC zf zl mkF mkL xm qp n1 n2 mg kN)
theorem Cw (l:List AM.Ar) (hs:List LM.Sh) (en nf ns:Int) (va:Value) (ao:Option Addr) (cap:Nat) (w:World) (ha:AW.Has w va l) (hf:AW.ed l) (h:LM.gT w ao hs) (yL:LM.lJ hs) (he:M.gj en) :
  Calls Tryz.prog 23 #[.agg #[va,.slice ao hs.length cap,I en],I nf,I ns] w fun e w'=>e=.returned (I (qO l hs en nf ns).2)/\Below w.heap.size w w':=by
 obtain⟨aa,ca,qP,_⟩:=id ha
 subst qP
 obtain⟨WA,dK⟩:=ex (w.alloc (.cells #[.slice aa l.length ca,.slice ao hs.length cap,I en] 30))
 have hb0:Below w.heap.size w WA:=by rw[dK];exact(Below.refl _ _).alloc (Nat.le_refl _) _
 have kb:WA.heap[w.heap.size]?=some (.cells #[.slice aa l.length ca,.slice ao hs.length cap,I en] 30 (0,0)):=by rw[dK];exact B.new _ _ _
 have KB:Hid (∀V,Below WA.heap.size WA V->V.heap[w.heap.size]?=some (.cells #[.slice aa l.length ca,.slice ao hs.length cap,I en] 30 (0,0))):=fun V hb=>B.below kb hb (B.isLt kb)
 obtain⟨k0,k1,k2⟩:=B.c3 (KB.o WA (Below.refl _ _))
 have gp:=ai dK
 have bW:=ai hb0
 have nI:=ai (Below.refl WA.heap.size WA)
 have oU:Hid (∀V,Below WA.heap.size WA V->Calls Tryz.prog 60 #[.agg #[.slice aa l.length ca,.slice ao hs.length cap,I en]] V fun e w'=>e=.returned (I (LM.gF l hs en))/\Below WA.heap.size WA w'/\w'.heap[w.heap.size]?=some (.cells #[.slice aa l.length ca,.slice ao hs.length cap,I en] 30 (0,0))):=fun V hV=>(LW.wQ l hs en (.slice aa l.length ca) ao cap V (ha.below (hb0.trans (hV.mono hb0.size))) hf (h.below (hb0.trans (hV.mono hb0.size))) yL he).mono fun e w' ⟨h1,h2⟩=>by
  rw[<- LM.jy] at h1
  have hb:=hV.trans (h2.mono hV.size)
  exact⟨h1,hb,KB.o _ hb⟩
 have LO:LM.gF l hs en=0->Hid (∀V,Below WA.heap.size WA V->Calls Tryz.prog 61 #[.slice aa l.length ca] V fun e w'=>e=.returned (I (AM.cm l))/\Below WA.heap.size WA w'):=fun hc V hV=>(AW.lV l _ V (ha.below (hb0.trans (hV.mono hb0.size))) (KZ.mE hc).1).mono fun e w' ⟨h1,h2⟩=>⟨h1,hV.trans (h2.mono hV.size)⟩
 have zB:=ai (fun V=>AW.eG ns 0 512 V)
 have Tz:=KW.iY l
 unfold qO
 obtain⟨C,hC⟩:=ex (LM.gF l hs en)
 rw[<- hC] at oU LO ⊢
 obtain⟨T1,OG⟩:=ex (AM.cm l)
 rw[<- OG] at LO Tz ⊢
 clear ha hf h yL he kb hb0 dK hC OG
 by_cases c:C=0
 · subst c
   have HT:=LO rfl
   clear LO
   rw[if_neg (fun x=>x rfl)]
   by_cases c3:nf<3
   · rw[if_pos c3]
     go_enter Tryz.func23,Tryz.ntmps23
     go_upto_region 1 with fail
     rw[<- gp.o]
     go_wp2_with (first
      | (go_at_call 60;refine(oU.o _ nI.o).mono ?_;rintro e w1 ⟨rfl,hb1,hq⟩;have zE:=ai hb1;clear nI;have nI:=ai zE.o;clear zE;obtain⟨k0,k1,k2⟩:=B.c3 hq;clear hb1 hq)
      | (go_at_call 44;refine(zB.o _).mono ?_;rintro e w2 ⟨rfl,rfl⟩)
      | (go_at_call 61;refine(HT.o _ nI.o).mono ?_;rintro e w3 ⟨rfl,hb3⟩;clear nI;have nI:=ai hb3;clear hb3))
     go_ret
     exact⟨rfl,bW.o.trans (nI.o.mono bW.o.size)⟩
   rw[if_neg c3]
   by_cases cr:nf>64∨ns<0∨ns>512
   · rw[if_pos cr]
     by_cases g1:64<nf
     · clear cr
       go_enter Tryz.func23,Tryz.ntmps23
       go_upto_region 1 with fail
       rw[<- gp.o]
       go_wp2_with (first
        | (go_at_call 60;refine(oU.o _ nI.o).mono ?_;rintro e w1 ⟨rfl,hb1,hq⟩;have zE:=ai hb1;clear nI;have nI:=ai zE.o;clear zE;obtain⟨k0,k1,k2⟩:=B.c3 hq;clear hb1 hq)
        | (go_at_call 44;refine(zB.o _).mono ?_;rintro e w2 ⟨rfl,rfl⟩)
        | (go_at_call 61;refine(HT.o _ nI.o).mono ?_;rintro e w3 ⟨rfl,hb3⟩;clear nI;have nI:=ai hb3;clear hb3))
       go_ret
       exact⟨rfl,bW.o.trans (nI.o.mono bW.o.size)⟩
     · have d:¬(0<=ns/\ns<=512):=by omega
       rw[decide_eq_false d] at zB
       clear cr d
       go_enter Tryz.func23,Tryz.ntmps23
       go_upto_region 1 with fail
       rw[<- gp.o]
       go_wp2_with (first
        | (go_at_call 60;refine(oU.o _ nI.o).mono ?_;rintro e w1 ⟨rfl,hb1,hq⟩;have zE:=ai hb1;clear nI;have nI:=ai zE.o;clear zE;obtain⟨k0,k1,k2⟩:=B.c3 hq;clear hb1 hq)
        | (go_at_call 44;refine(zB.o _).mono ?_;rintro e w2 ⟨rfl,rfl⟩)
        | (go_at_call 61;refine(HT.o _ nI.o).mono ?_;rintro e w3 ⟨rfl,hb3⟩;clear nI;have nI:=ai hb3;clear hb3))
       go_ret
       exact⟨rfl,bW.o.trans (nI.o.mono bW.o.size)⟩
   rw[if_neg cr]
   have g1:¬64<nf:=by omega
   have d:0<=ns/\ns<=512:=by omega
   rw[decide_eq_true d] at zB
   clear cr
   by_cases ct:T1>ns
   · rw[if_pos ct]
     have c2:ns<T1:=ct
     go_enter Tryz.func23,Tryz.ntmps23
     go_upto_region 1 with fail
     rw[<- gp.o]
     go_wp2_with (first
      | (go_at_call 60;refine(oU.o _ nI.o).mono ?_;rintro e w1 ⟨rfl,hb1,hq⟩;have zE:=ai hb1;clear nI;have nI:=ai zE.o;clear zE;obtain⟨k0,k1,k2⟩:=B.c3 hq;clear hb1 hq)
      | (go_at_call 44;refine(zB.o _).mono ?_;rintro e w2 ⟨rfl,rfl⟩)
      | (go_at_call 61;refine(HT.o _ nI.o).mono ?_;rintro e w3 ⟨rfl,hb3⟩;clear nI;have nI:=ai hb3;clear hb3))
     go_ret
     exact⟨rfl,bW.o.trans (nI.o.mono bW.o.size)⟩
   · rw[if_neg ct]
     have c2:¬ns<T1:=ct
     go_enter Tryz.func23,Tryz.ntmps23
     go_upto_region 1 with fail
     rw[<- gp.o]
     go_wp2_with (first
      | (go_at_call 60;refine(oU.o _ nI.o).mono ?_;rintro e w1 ⟨rfl,hb1,hq⟩;have zE:=ai hb1;clear nI;have nI:=ai zE.o;clear zE;obtain⟨k0,k1,k2⟩:=B.c3 hq;clear hb1 hq)
      | (go_at_call 44;refine(zB.o _).mono ?_;rintro e w2 ⟨rfl,rfl⟩)
      | (go_at_call 61;refine(HT.o _ nI.o).mono ?_;rintro e w3 ⟨rfl,hb3⟩;clear nI;have nI:=ai hb3;clear hb3))
     go_ret
     exact⟨rfl,bW.o.trans (nI.o.mono bW.o.size)⟩
 · rw[if_pos c]
   have cb:(C != 0)=true:=by simpa using c
   clear LO
   go_enter Tryz.func23,Tryz.ntmps23
   go_upto_region 1 with fail
   rw[<- gp.o]
   go_wp2_with (first
    | (go_at_call 60;refine(oU.o _ nI.o).mono ?_;rintro e w1 ⟨rfl,hb1,hq⟩;have zE:=ai hb1;clear nI;have nI:=ai zE.o;clear zE;obtain⟨k0,k1,k2⟩:=B.c3 hq;clear hb1 hq)
    | (go_at_call 44;refine(zB.o _).mono ?_;rintro e w2 ⟨rfl,rfl⟩)
    | (go_at_call 61;refine(HT.o _ nI.o).mono ?_;rintro e w3 ⟨rfl,hb3⟩;clear nI;have nI:=ai hb3;clear hb3))
   go_ret
   exact⟨rfl,bW.o.trans (nI.o.mono bW.o.size)⟩
theorem zY (l:List AM.Ar) (hs:List LM.Sh) (en nf ns:Int) (va:Value) (ao:Option Addr) (cap:Nat) (w:World) (ha:AW.Has w va l) (h:LM.gT w ao hs) (hc:LM.gF l hs en=0) (h3:3<=nf) (h64:nf<=64) (h0:0<=ns) (Zd:ns<=512) :
  Calls Tryz.prog 22 #[.agg #[va,.slice ao hs.length cap,I en],I nf,I ns] w (sF w (oC l hs nf ns)):=by
 obtain⟨aa,ca,qP,_⟩:=id ha
 subst qP
 obtain⟨WA,dK⟩:=ex ((w.alloc (.cells #[.slice aa l.length ca,.slice ao hs.length cap,I en] 30)).alloc (.cells #[Nl,Nl,Nl,Nl,I 0] 27))
 have hb0:Below w.heap.size w WA:=by rw[dK];exact((Below.refl _ _).alloc (Nat.le_refl _) _).alloc (by simp) _
 have kb:WA.heap[w.heap.size]?=some (.cells #[.slice aa l.length ca,.slice ao hs.length cap,I en] 30 (0,0)):=by rw[dK];exact B.alloc (B.new w _ _) _
 have rb:WA.heap[w.heap.size+1]?=some (.cells #[Nl,Nl,Nl,Nl,I 0] 27 (0,0)):=by rw[dK];exact n1 _ _ _ _
 have RB:Hid (∀V,Below WA.heap.size WA V->V.heap[w.heap.size+1]?=some (.cells #[Nl,Nl,Nl,Nl,I 0] 27 (0,0))):=fun V hb=>B.below rb hb (B.isLt rb)
 have KB:Hid (∀V,Below WA.heap.size WA V->V.heap[w.heap.size]?=some (.cells #[.slice aa l.length ca,.slice ao hs.length cap,I en] 30 (0,0))):=fun V hb=>B.below kb hb (B.isLt kb)
 have gp:=ai dK
 have bW:=ai hb0
 have hrl:=B.isLt rb
 have wZ:Hid (∀(W:World) fb sb pb,Below WA.heap.size WA W->W.heap[fb]?=some (.cells (zf nf.toNat) 40 (0,0))->W.heap[sb]?=some (.cells (zl ns.toNat) 86 (0,0))->W.heap[pb]?=some (.cells #[.bool true,.slice aa l.length ca,Nl] 43 (0,0))->Calls Tryz.prog 16 #[.agg #[.slice ao hs.length cap,.slice (some (Ad fb 0)) nf.toNat nf.toNat,.slice (some (Ad sb 0)) ns.toNat ns.toNat,.slice (some (Ad pb 0)) 1 1,I 0]] W fun e w'=>∃aS nS cS aF nF cF aL nL cL aP nP cP,e=.returned (.agg #[.slice aS nS cS,.slice aF nF cF,.slice aL nL cL,.slice aP nP cP,I 0])/\Below WA.heap.size WA w'/\w'.heap[w.heap.size+1]?=some (.cells #[Nl,Nl,Nl,Nl,I 0] 27 (0,0))/\∀U,Kp (fun b=>b=w.heap.size+1) w' U->sF w (oC l hs nf ns) (.returned (.agg #[.slice aS nS cS,.slice aF nF cF,.slice aL nL cL,.slice aP nP cP,I 0])) U):=fun W fb sb pb hW g1 g2 g3=>by
  have eK:Below w.heap.size w W:=hb0.trans (hW.mono hb0.size)
  have hk:=xm (cap:=cap) (ha.below eK) (h.below eK) g1 g2 g3
  have hcl:=xd _ _ W hk (qp hc nf.toNat ns.toNat (by omega) (by omega))
  unfold aJ at hcl
  simp only[List.length_replicate,List.length_singleton] at hcl
  refine hcl.mono fun e w' ⟨S,hs',hsame,e1,hr,hb⟩=>?_
  obtain⟨aS,nS,cS,eS⟩:∃b n d,S.vS=.slice b n d:=by obtain⟨b,d,e,_⟩:=aQ hr.ak;exact⟨b,_,d,e⟩
  obtain⟨aF,nF,cF,eF⟩:∃b n d,S.vF=.slice b n d:=by obtain⟨b,d,e,_⟩:=aQ hr.frames;exact⟨b,_,d,e⟩
  obtain⟨aL,nL,cL,eL⟩:∃b n d,S.vL=.slice b n d:=by obtain⟨b,d,e,_⟩:=aQ hr.slots;exact⟨b,_,d,e⟩
  obtain⟨aP,nP,cP,eP⟩:∃b n d,S.vP=.slice b n d:=by obtain⟨b,d,e,_⟩:=aQ hr.aj;exact⟨b,_,d,e⟩
  rw[eS,eF,eL,eP] at e1
  have hbl:Below WA.heap.size WA w':=hW.trans (hb.mono hW.size)
  have Ow:Below w.heap.size w w':=hb0.trans (hbl.mono hb0.size)
  have hWz:=hW.size
  refine⟨aS,nS,cS,aF,nF,cF,aL,nL,cL,aP,nP,cP,e1,hbl,RB.o _ hbl,fun U hU=>⟨S,hs',hsame,by rw[eS,eF,eL,eP];rfl,(hr.kp hU (fun b hb e=>by have:=(hr.kP b hb).1;omega)).mono eK.size,Kp.below Ow hU Ow.size (fun b e=>by omega)⟩⟩
 have e2:=fun V:World=>mkF V nf (by omega) (by omega)
 have e3:=fun V:World=>mkL V ns (by omega) (by omega)
 obtain⟨P,hP⟩:=ex (sF w (oC l hs nf ns))
 rw[<- hP] at wZ ⊢
 obtain⟨NF,Vo⟩:=ex nf.toNat
 obtain⟨NS,Vn⟩:=ex ns.toNat
 rw[<- Vo] at wZ
 rw[<- Vn] at wZ
 simp only[<- Vo] at e2
 simp only[<- Vn] at e3
 clear hP Vo Vn ha h hc kb rb dK hb0
 go_enter Tryz.func22,Tryz.ntmps22
 go_upto_region 1 with fail
 rw[<- gp.o]
 have cA:Hid (∀V,Below WA.heap.size WA V->V.cell? (Ad w.heap.size 0)=some (.slice aa l.length ca)/\V.cell? (Ad w.heap.size 1)=some (.slice ao hs.length cap)):=fun V hV=>⟨B.cell (KB.o _ hV) 0 rfl,B.cell (KB.o _ hV) 1 rfl⟩
 refine GZ.p8 (S:=fun V=>V.cell? (Ad w.heap.size 0)=some (.slice aa l.length ca)/\V.cell? (Ad w.heap.size 1)=some (.slice ao hs.length cap)) (z:=12) (by kernel_rfl) ?_
 have eX:=ai ((Below.refl WA.heap.size WA).drew)
 obtain⟨V0,YY⟩:=ex WA.drew
 rw[<- YY] at eX ⊢
 clear YY
 refine GZ.tk 0 (cA.o _ eX.o) ?_ ?_ ?_
 rotate_left 1
 · intro V h
   obtain⟨k0,k1⟩:=h
   go_simp
   try with_reducible rfl
 refine GZ.tk 1 (cA.o _ eX.o) ?_ ?_ ?_
 rotate_left 1
 · intro V h
   obtain⟨k0,k1⟩:=h
   go_simp
   try with_reducible rfl
 refine GZ.tk 2 (cA.o _ eX.o) ?_ ?_ ?_
 rotate_left 1
 · intro V h
   obtain⟨k0,k1⟩:=h
   go_simp
   try with_reducible rfl
 refine GZ.tk 4 (cA.o _ eX.o) ?_ ?_ ?_
 rotate_left 1
 · intro V h
   obtain⟨k0,k1⟩:=h
   go_simp
   try with_reducible rfl
 refine GZ.tk 6 (cA.o _ eX.o) ?_ ?_ ?_
 rotate_left 1
 · intro V h
   obtain⟨k0,k1⟩:=h
   go_simp
   try with_reducible rfl
 refine GZ.tk 7 (cA.o _ eX.o) ?_ ?_ ?_
 rotate_left 1
 · intro V h
   obtain⟨k0,k1⟩:=h
   go_simp
   try with_reducible rfl
 refine GZ.tk 8 (cA.o _ eX.o) ?_ ?_ ?_
 rotate_left 1
 · intro V h
   obtain⟨k0,k1⟩:=h
   go_simp
   try with_reducible rfl
 refine GZ.all (rs:=[3,5,9]) (by kernel_rfl) (by simp) ?_
 refine GZ.aV.cons rfl (fun K hK=>?_) (GZ.aV.cons rfl (fun K hK=>?_) (GZ.aV.cons rfl (fun K hK=>?_) GZ.aV.nil))
 · go_simp
   refine hK.out _ _ (fun _=>?_) ?_
   · exact cA.o _ (eX.o.alloc eX.o.size _)
   clear hK K
   have gm:=ai (eX.o.alloc eX.o.size (.cells (zf NF) 40))
   have BF:=ai (B.new V0 (zf NF) 40)
   obtain⟨V1,hV1⟩:=ex (V0.alloc (.cells (zf NF) 40))
   obtain⟨bF,tH⟩:=ex V0.heap.size
   rw[<- hV1] at gm BF ⊢
   rw[<- tH] at BF ⊢
   clear hV1 tH
   try simp only[Act.put,List.setIfInBounds_toArray,List.set_cons_zero,List.set_cons_succ]
   refine GZ.all (rs:=[5,9]) (by kernel_rfl) (by simp) ?_
   refine GZ.aV.cons rfl (fun K hK=>?_) (GZ.aV.cons rfl (fun K hK=>?_) GZ.aV.nil)
   · go_simp
     refine hK.out _ _ (fun _=>?_) ?_
     · exact cA.o _ (gm.o.alloc gm.o.size _)
     clear hK K
     have eD:=ai (gm.o.alloc gm.o.size (.cells (zl NS) 86))
     have BF:=ai (B.alloc BF.o (.cells (zl NS) 86))
     have BL:=ai (B.new V1 (zl NS) 86)
     obtain⟨V2,hV2⟩:=ex (V1.alloc (.cells (zl NS) 86))
     obtain⟨bL,hbL⟩:=ex V1.heap.size
     rw[<- hV2] at eD BF BL ⊢
     rw[<- hbL] at BL ⊢
     clear hV2 hbL
     try simp only[Act.put,List.setIfInBounds_toArray,List.set_cons_zero,List.set_cons_succ]
     refine GZ.all (rs:=[9]) (by kernel_rfl) (by simp) ?_
     refine GZ.aV.cons rfl (fun K hK=>?_) GZ.aV.nil
     go_simp
     refine hK.out _ _ (fun _=>?_) ?_
     · exact cA.o _ (eD.o.alloc eD.o.size _)
     clear hK K
     have gH:=ai (eD.o.alloc eD.o.size (.cells #[.bool true,.slice aa l.length ca,Nl] 43))
     have BF:=ai (B.alloc BF.o (.cells #[.bool true,.slice aa l.length ca,Nl] 43))
     have BL:=ai (B.alloc BL.o (.cells #[.bool true,.slice aa l.length ca,Nl] 43))
     have BP:=ai (B.new V2 #[.bool true,.slice aa l.length ca,Nl] 43)
     obtain⟨V3,pT⟩:=ex (V2.alloc (.cells #[.bool true,.slice aa l.length ca,Nl] 43))
     obtain⟨bP,tG⟩:=ex V2.heap.size
     rw[<- pT] at gH BF BL BP ⊢
     rw[<- tG] at BP ⊢
     clear pT tG
     try simp only[Act.put,List.setIfInBounds_toArray,List.set_cons_zero,List.set_cons_succ]
     refine GZ.tk 10 (cA.o _ gH.o) ?_ ?_ ?_
     rotate_left 1
     · intro V h
       obtain⟨k0,k1⟩:=h
       go_simp
       try with_reducible rfl
     refine GZ.all (rs:=[11]) (by kernel_rfl) (by simp) ?_
     refine GZ.aV.cons rfl (fun K hK=>?_) GZ.aV.nil
     rw[if_pos (by rfl)];go_simp;go_at_call 16;refine(wZ.o _ _ _ _ gH.o BF.o BL.o BP.o).mono ?_;rintro e w6 ⟨aS,nS,cS,aF,nF,cF,aL,nL,cL,aP,nP,cP,rfl,o6,oZ,hfin⟩;have sG:=ai o6;have R6:=ai oZ;have jZ:=ai hfin;clear o6 oZ hfin;try go_simp
     refine hK.out _ _ (fun _=>?_) ?_
     · exact cA.o _ sG.o
     clear hK K
     try simp only[Act.put,List.setIfInBounds_toArray,List.set_cons_zero,List.set_cons_succ]
     obtain⟨y0,y1,y2,y3,y4⟩:=B.c5 R6.o
     have f0:=B.free R6.o 0
     have f1:=B.free R6.o 1
     have f2:=B.free R6.o 2
     have f3:=B.free R6.o 3
     have f4:=B.free R6.o 4
     have h5:=ai (fun V=>mg R6.o (.slice aS nS cS) (.slice aF nF cF) (.slice aL nL cL) (.slice aP nP cP) (I 0) (V:=V))
     refine GZ.all (rs:=[12]) (by kernel_rfl) (by simp) ?_
     refine GZ.aV.cons rfl (fun K hK=>?_) GZ.aV.nil
     go_simp
     obtain⟨r1,r2⟩:=h5.out _ rfl
     refine hK.out _ _ (fun g=>absurd rfl g) ?_
     refine GZ.done (by kernel_rfl) ?_ _
     clear y0 y1 y2 y3 y4
     go_wp2
     obtain⟨y0,y1,y2,y3,y4⟩:=B.c5 r1
     refine bodyPost_ret (v:=.agg #[.slice aS nS cS,.slice aF nF cF,.slice aL nL cL,.slice aP nP cP,I 0]) (by simp[results,Tryz.results22,go_sem,y0,y1,y2,y3,y4]) rfl ?_
     exact jZ.o _ r2
   · go_simp
     refine hK.out _ _ (fun _=>?_) ?_
     · exact cA.o _ (gm.o.alloc gm.o.size _)
     clear hK K
     have eD:=ai (gm.o.alloc gm.o.size (.cells #[.bool true,.slice aa l.length ca,Nl] 43))
     have BF:=ai (B.alloc BF.o (.cells #[.bool true,.slice aa l.length ca,Nl] 43))
     have BP:=ai (B.new V1 #[.bool true,.slice aa l.length ca,Nl] 43)
     obtain⟨V2,hV2⟩:=ex (V1.alloc (.cells #[.bool true,.slice aa l.length ca,Nl] 43))
     obtain⟨bP,tG⟩:=ex V1.heap.size
     rw[<- hV2] at eD BF BP ⊢
     rw[<- tG] at BP ⊢
     clear hV2 tG
     try simp only[Act.put,List.setIfInBounds_toArray,List.set_cons_zero,List.set_cons_succ]
     refine GZ.all (rs:=[5]) (by kernel_rfl) (by simp) ?_
     refine GZ.aV.cons rfl (fun K hK=>?_) GZ.aV.nil
     go_simp
     refine hK.out _ _ (fun _=>?_) ?_
     · exact cA.o _ (eD.o.alloc eD.o.size _)
     clear hK K
     have gH:=ai (eD.o.alloc eD.o.size (.cells (zl NS) 86))
     have BF:=ai (B.alloc BF.o (.cells (zl NS) 86))
     have BP:=ai (B.alloc BP.o (.cells (zl NS) 86))
     have BL:=ai (B.new V2 (zl NS) 86)
     obtain⟨V3,pT⟩:=ex (V2.alloc (.cells (zl NS) 86))
     obtain⟨bL,hbL⟩:=ex V2.heap.size
     rw[<- pT] at gH BF BP BL ⊢
     rw[<- hbL] at BL ⊢
     clear pT hbL
     try simp only[Act.put,List.setIfInBounds_toArray,List.set_cons_zero,List.set_cons_succ]
     refine GZ.tk 10 (cA.o _ gH.o) ?_ ?_ ?_
     rotate_left 1
     · intro V h
       obtain⟨k0,k1⟩:=h
       go_simp
       try with_reducible rfl
     refine GZ.all (rs:=[11]) (by kernel_rfl) (by simp) ?_
     refine GZ.aV.cons rfl (fun K hK=>?_) GZ.aV.nil
     rw[if_pos (by rfl)];go_simp;go_at_call 16;refine(wZ.o _ _ _ _ gH.o BF.o BL.o BP.o).mono ?_;rintro e w6 ⟨aS,nS,cS,aF,nF,cF,aL,nL,cL,aP,nP,cP,rfl,o6,oZ,hfin⟩;have sG:=ai o6;have R6:=ai oZ;have jZ:=ai hfin;clear o6 oZ hfin;try go_simp
     refine hK.out _ _ (fun _=>?_) ?_
     · exact cA.o _ sG.o
     clear hK K
     try simp only[Act.put,List.setIfInBounds_toArray,List.set_cons_zero,List.set_cons_succ]
     obtain⟨y0,y1,y2,y3,y4⟩:=B.c5 R6.o
     have f0:=B.free R6.o 0
     have f1:=B.free R6.o 1
     have f2:=B.free R6.o 2
     have f3:=B.free R6.o 3
     have f4:=B.free R6.o 4
     have h5:=ai (fun V=>mg R6.o (.slice aS nS cS) (.slice aF nF cF) (.slice aL nL cL) (.slice aP nP cP) (I 0) (V:=V))
     refine GZ.all (rs:=[12]) (by kernel_rfl) (by simp) ?_
     refine GZ.aV.cons rfl (fun K hK=>?_) GZ.aV.nil
     go_simp
     obtain⟨r1,r2⟩:=h5.out _ rfl
     refine hK.out _ _ (fun g=>absurd rfl g) ?_
     refine GZ.done (by kernel_rfl) ?_ _
     clear y0 y1 y2 y3 y4
     go_wp2
     obtain⟨y0,y1,y2,y3,y4⟩:=B.c5 r1
     refine bodyPost_ret (v:=.agg #[.slice aS nS cS,.slice aF nF cF,.slice aL nL cL,.slice aP nP cP,I 0]) (by simp[results,Tryz.results22,go_sem,y0,y1,y2,y3,y4]) rfl ?_
     exact jZ.o _ r2
 · go_simp
   refine hK.out _ _ (fun _=>?_) ?_
   · exact cA.o _ (eX.o.alloc eX.o.size _)
   clear hK K
   have gm:=ai (eX.o.alloc eX.o.size (.cells (zl NS) 86))
   have BL:=ai (B.new V0 (zl NS) 86)
   obtain⟨V1,hV1⟩:=ex (V0.alloc (.cells (zl NS) 86))
   obtain⟨bL,hbL⟩:=ex V0.heap.size
   rw[<- hV1] at gm BL ⊢
   rw[<- hbL] at BL ⊢
   clear hV1 hbL
   try simp only[Act.put,List.setIfInBounds_toArray,List.set_cons_zero,List.set_cons_succ]
   refine GZ.all (rs:=[3,9]) (by kernel_rfl) (by simp) ?_
   refine GZ.aV.cons rfl (fun K hK=>?_) (GZ.aV.cons rfl (fun K hK=>?_) GZ.aV.nil)
   · go_simp
     refine hK.out _ _ (fun _=>?_) ?_
     · exact cA.o _ (gm.o.alloc gm.o.size _)
     clear hK K
     have eD:=ai (gm.o.alloc gm.o.size (.cells (zf NF) 40))
     have BL:=ai (B.alloc BL.o (.cells (zf NF) 40))
     have BF:=ai (B.new V1 (zf NF) 40)
     obtain⟨V2,hV2⟩:=ex (V1.alloc (.cells (zf NF) 40))
     obtain⟨bF,tH⟩:=ex V1.heap.size
     rw[<- hV2] at eD BL BF ⊢
     rw[<- tH] at BF ⊢
     clear hV2 tH
     try simp only[Act.put,List.setIfInBounds_toArray,List.set_cons_zero,List.set_cons_succ]
     refine GZ.all (rs:=[9]) (by kernel_rfl) (by simp) ?_
     refine GZ.aV.cons rfl (fun K hK=>?_) GZ.aV.nil
     go_simp
     refine hK.out _ _ (fun _=>?_) ?_
     · exact cA.o _ (eD.o.alloc eD.o.size _)
     clear hK K
     have gH:=ai (eD.o.alloc eD.o.size (.cells #[.bool true,.slice aa l.length ca,Nl] 43))
     have BL:=ai (B.alloc BL.o (.cells #[.bool true,.slice aa l.length ca,Nl] 43))
     have BF:=ai (B.alloc BF.o (.cells #[.bool true,.slice aa l.length ca,Nl] 43))
     have BP:=ai (B.new V2 #[.bool true,.slice aa l.length ca,Nl] 43)
     obtain⟨V3,pT⟩:=ex (V2.alloc (.cells #[.bool true,.slice aa l.length ca,Nl] 43))
     obtain⟨bP,tG⟩:=ex V2.heap.size
     rw[<- pT] at gH BL BF BP ⊢
     rw[<- tG] at BP ⊢
     clear pT tG
     try simp only[Act.put,List.setIfInBounds_toArray,List.set_cons_zero,List.set_cons_succ]
     refine GZ.tk 10 (cA.o _ gH.o) ?_ ?_ ?_
     rotate_left 1
     · intro V h
       obtain⟨k0,k1⟩:=h
       go_simp
       try with_reducible rfl
     refine GZ.all (rs:=[11]) (by kernel_rfl) (by simp) ?_
     refine GZ.aV.cons rfl (fun K hK=>?_) GZ.aV.nil
     rw[if_pos (by rfl)];go_simp;go_at_call 16;refine(wZ.o _ _ _ _ gH.o BF.o BL.o BP.o).mono ?_;rintro e w6 ⟨aS,nS,cS,aF,nF,cF,aL,nL,cL,aP,nP,cP,rfl,o6,oZ,hfin⟩;have sG:=ai o6;have R6:=ai oZ;have jZ:=ai hfin;clear o6 oZ hfin;try go_simp
     refine hK.out _ _ (fun _=>?_) ?_
     · exact cA.o _ sG.o
     clear hK K
     try simp only[Act.put,List.setIfInBounds_toArray,List.set_cons_zero,List.set_cons_succ]
     obtain⟨y0,y1,y2,y3,y4⟩:=B.c5 R6.o
     have f0:=B.free R6.o 0
     have f1:=B.free R6.o 1
     have f2:=B.free R6.o 2
     have f3:=B.free R6.o 3
     have f4:=B.free R6.o 4
     have h5:=ai (fun V=>mg R6.o (.slice aS nS cS) (.slice aF nF cF) (.slice aL nL cL) (.slice aP nP cP) (I 0) (V:=V))
     refine GZ.all (rs:=[12]) (by kernel_rfl) (by simp) ?_
     refine GZ.aV.cons rfl (fun K hK=>?_) GZ.aV.nil
     go_simp
     obtain⟨r1,r2⟩:=h5.out _ rfl
     refine hK.out _ _ (fun g=>absurd rfl g) ?_
     refine GZ.done (by kernel_rfl) ?_ _
     clear y0 y1 y2 y3 y4
     go_wp2
     obtain⟨y0,y1,y2,y3,y4⟩:=B.c5 r1
     refine bodyPost_ret (v:=.agg #[.slice aS nS cS,.slice aF nF cF,.slice aL nL cL,.slice aP nP cP,I 0]) (by simp[results,Tryz.results22,go_sem,y0,y1,y2,y3,y4]) rfl ?_
     exact jZ.o _ r2
   · go_simp
     refine hK.out _ _ (fun _=>?_) ?_
     · exact cA.o _ (gm.o.alloc gm.o.size _)
     clear hK K
     have eD:=ai (gm.o.alloc gm.o.size (.cells #[.bool true,.slice aa l.length ca,Nl] 43))
     have BL:=ai (B.alloc BL.o (.cells #[.bool true,.slice aa l.length ca,Nl] 43))
     have BP:=ai (B.new V1 #[.bool true,.slice aa l.length ca,Nl] 43)
     obtain⟨V2,hV2⟩:=ex (V1.alloc (.cells #[.bool true,.slice aa l.length ca,Nl] 43))
     obtain⟨bP,tG⟩:=ex V1.heap.size
     rw[<- hV2] at eD BL BP ⊢
     rw[<- tG] at BP ⊢
     clear hV2 tG
     try simp only[Act.put,List.setIfInBounds_toArray,List.set_cons_zero,List.set_cons_succ]
     refine GZ.all (rs:=[3]) (by kernel_rfl) (by simp) ?_
     refine GZ.aV.cons rfl (fun K hK=>?_) GZ.aV.nil
     go_simp
     refine hK.out _ _ (fun _=>?_) ?_
     · exact cA.o _ (eD.o.alloc eD.o.size _)
     clear hK K
     have gH:=ai (eD.o.alloc eD.o.size (.cells (zf NF) 40))
     have BL:=ai (B.alloc BL.o (.cells (zf NF) 40))
     have BP:=ai (B.alloc BP.o (.cells (zf NF) 40))
     have BF:=ai (B.new V2 (zf NF) 40)
     obtain⟨V3,pT⟩:=ex (V2.alloc (.cells (zf NF) 40))
     obtain⟨bF,tH⟩:=ex V2.heap.size
     rw[<- pT] at gH BL BP BF ⊢
     rw[<- tH] at BF ⊢
     clear pT tH
     try simp only[Act.put,List.setIfInBounds_toArray,List.set_cons_zero,List.set_cons_succ]
     refine GZ.tk 10 (cA.o _ gH.o) ?_ ?_ ?_
     rotate_left 1
     · intro V h
       obtain⟨k0,k1⟩:=h
       go_simp
       try with_reducible rfl
     refine GZ.all (rs:=[11]) (by kernel_rfl) (by simp) ?_
     refine GZ.aV.cons rfl (fun K hK=>?_) GZ.aV.nil
     rw[if_pos (by rfl)];go_simp;go_at_call 16;refine(wZ.o _ _ _ _ gH.o BF.o BL.o BP.o).mono ?_;rintro e w6 ⟨aS,nS,cS,aF,nF,cF,aL,nL,cL,aP,nP,cP,rfl,o6,oZ,hfin⟩;have sG:=ai o6;have R6:=ai oZ;have jZ:=ai hfin;clear o6 oZ hfin;try go_simp
     refine hK.out _ _ (fun _=>?_) ?_
     · exact cA.o _ sG.o
     clear hK K
     try simp only[Act.put,List.setIfInBounds_toArray,List.set_cons_zero,List.set_cons_succ]
     obtain⟨y0,y1,y2,y3,y4⟩:=B.c5 R6.o
     have f0:=B.free R6.o 0
     have f1:=B.free R6.o 1
     have f2:=B.free R6.o 2
     have f3:=B.free R6.o 3
     have f4:=B.free R6.o 4
     have h5:=ai (fun V=>mg R6.o (.slice aS nS cS) (.slice aF nF cF) (.slice aL nL cL) (.slice aP nP cP) (I 0) (V:=V))
     refine GZ.all (rs:=[12]) (by kernel_rfl) (by simp) ?_
     refine GZ.aV.cons rfl (fun K hK=>?_) GZ.aV.nil
     go_simp
     obtain⟨r1,r2⟩:=h5.out _ rfl
     refine hK.out _ _ (fun g=>absurd rfl g) ?_
     refine GZ.done (by kernel_rfl) ?_ _
     clear y0 y1 y2 y3 y4
     go_wp2
     obtain⟨y0,y1,y2,y3,y4⟩:=B.c5 r1
     refine bodyPost_ret (v:=.agg #[.slice aS nS cS,.slice aF nF cF,.slice aL nL cL,.slice aP nP cP,I 0]) (by simp[results,Tryz.results22,go_sem,y0,y1,y2,y3,y4]) rfl ?_
     exact jZ.o _ r2
 · go_simp
   refine hK.out _ _ (fun _=>?_) ?_
   · exact cA.o _ (eX.o.alloc eX.o.size _)
   clear hK K
   have gm:=ai (eX.o.alloc eX.o.size (.cells #[.bool true,.slice aa l.length ca,Nl] 43))
   have BP:=ai (B.new V0 #[.bool true,.slice aa l.length ca,Nl] 43)
   obtain⟨V1,hV1⟩:=ex (V0.alloc (.cells #[.bool true,.slice aa l.length ca,Nl] 43))
   obtain⟨bP,tG⟩:=ex V0.heap.size
   rw[<- hV1] at gm BP ⊢
   rw[<- tG] at BP ⊢
   clear hV1 tG
   try simp only[Act.put,List.setIfInBounds_toArray,List.set_cons_zero,List.set_cons_succ]
   refine GZ.all (rs:=[3,5]) (by kernel_rfl) (by simp) ?_
   refine GZ.aV.cons rfl (fun K hK=>?_) (GZ.aV.cons rfl (fun K hK=>?_) GZ.aV.nil)
   · go_simp
     refine hK.out _ _ (fun _=>?_) ?_
     · exact cA.o _ (gm.o.alloc gm.o.size _)
     clear hK K
     have eD:=ai (gm.o.alloc gm.o.size (.cells (zf NF) 40))
     have BP:=ai (B.alloc BP.o (.cells (zf NF) 40))
     have BF:=ai (B.new V1 (zf NF) 40)
     obtain⟨V2,hV2⟩:=ex (V1.alloc (.cells (zf NF) 40))
     obtain⟨bF,tH⟩:=ex V1.heap.size
     rw[<- hV2] at eD BP BF ⊢
     rw[<- tH] at BF ⊢
     clear hV2 tH
     try simp only[Act.put,List.setIfInBounds_toArray,List.set_cons_zero,List.set_cons_succ]
     refine GZ.all (rs:=[5]) (by kernel_rfl) (by simp) ?_
     refine GZ.aV.cons rfl (fun K hK=>?_) GZ.aV.nil
     go_simp
     refine hK.out _ _ (fun _=>?_) ?_
     · exact cA.o _ (eD.o.alloc eD.o.size _)
     clear hK K
     have gH:=ai (eD.o.alloc eD.o.size (.cells (zl NS) 86))
     have BP:=ai (B.alloc BP.o (.cells (zl NS) 86))
     have BF:=ai (B.alloc BF.o (.cells (zl NS) 86))
     have BL:=ai (B.new V2 (zl NS) 86)
     obtain⟨V3,pT⟩:=ex (V2.alloc (.cells (zl NS) 86))
     obtain⟨bL,hbL⟩:=ex V2.heap.size
     rw[<- pT] at gH BP BF BL ⊢
     rw[<- hbL] at BL ⊢
     clear pT hbL
     try simp only[Act.put,List.setIfInBounds_toArray,List.set_cons_zero,List.set_cons_succ]
     refine GZ.tk 10 (cA.o _ gH.o) ?_ ?_ ?_
     rotate_left 1
     · intro V h
       obtain⟨k0,k1⟩:=h
       go_simp
       try with_reducible rfl
     refine GZ.all (rs:=[11]) (by kernel_rfl) (by simp) ?_
     refine GZ.aV.cons rfl (fun K hK=>?_) GZ.aV.nil
     rw[if_pos (by rfl)];go_simp;go_at_call 16;refine(wZ.o _ _ _ _ gH.o BF.o BL.o BP.o).mono ?_;rintro e w6 ⟨aS,nS,cS,aF,nF,cF,aL,nL,cL,aP,nP,cP,rfl,o6,oZ,hfin⟩;have sG:=ai o6;have R6:=ai oZ;have jZ:=ai hfin;clear o6 oZ hfin;try go_simp
     refine hK.out _ _ (fun _=>?_) ?_
     · exact cA.o _ sG.o
     clear hK K
     try simp only[Act.put,List.setIfInBounds_toArray,List.set_cons_zero,List.set_cons_succ]
     obtain⟨y0,y1,y2,y3,y4⟩:=B.c5 R6.o
     have f0:=B.free R6.o 0
     have f1:=B.free R6.o 1
     have f2:=B.free R6.o 2
     have f3:=B.free R6.o 3
     have f4:=B.free R6.o 4
     have h5:=ai (fun V=>mg R6.o (.slice aS nS cS) (.slice aF nF cF) (.slice aL nL cL) (.slice aP nP cP) (I 0) (V:=V))
     refine GZ.all (rs:=[12]) (by kernel_rfl) (by simp) ?_
     refine GZ.aV.cons rfl (fun K hK=>?_) GZ.aV.nil
     go_simp
     obtain⟨r1,r2⟩:=h5.out _ rfl
     refine hK.out _ _ (fun g=>absurd rfl g) ?_
     refine GZ.done (by kernel_rfl) ?_ _
     clear y0 y1 y2 y3 y4
     go_wp2
     obtain⟨y0,y1,y2,y3,y4⟩:=B.c5 r1
     refine bodyPost_ret (v:=.agg #[.slice aS nS cS,.slice aF nF cF,.slice aL nL cL,.slice aP nP cP,I 0]) (by simp[results,Tryz.results22,go_sem,y0,y1,y2,y3,y4]) rfl ?_
     exact jZ.o _ r2
   · go_simp
     refine hK.out _ _ (fun _=>?_) ?_
     · exact cA.o _ (gm.o.alloc gm.o.size _)
     clear hK K
     have eD:=ai (gm.o.alloc gm.o.size (.cells (zl NS) 86))
     have BP:=ai (B.alloc BP.o (.cells (zl NS) 86))
     have BL:=ai (B.new V1 (zl NS) 86)
     obtain⟨V2,hV2⟩:=ex (V1.alloc (.cells (zl NS) 86))
     obtain⟨bL,hbL⟩:=ex V1.heap.size
     rw[<- hV2] at eD BP BL ⊢
     rw[<- hbL] at BL ⊢
     clear hV2 hbL
     try simp only[Act.put,List.setIfInBounds_toArray,List.set_cons_zero,List.set_cons_succ]
     refine GZ.all (rs:=[3]) (by kernel_rfl) (by simp) ?_
     refine GZ.aV.cons rfl (fun K hK=>?_) GZ.aV.nil
     go_simp
     refine hK.out _ _ (fun _=>?_) ?_
     · exact cA.o _ (eD.o.alloc eD.o.size _)
     clear hK K
     have gH:=ai (eD.o.alloc eD.o.size (.cells (zf NF) 40))
     have BP:=ai (B.alloc BP.o (.cells (zf NF) 40))
     have BL:=ai (B.alloc BL.o (.cells (zf NF) 40))
     have BF:=ai (B.new V2 (zf NF) 40)
     obtain⟨V3,pT⟩:=ex (V2.alloc (.cells (zf NF) 40))
     obtain⟨bF,tH⟩:=ex V2.heap.size
     rw[<- pT] at gH BP BL BF ⊢
     rw[<- tH] at BF ⊢
     clear pT tH
     try simp only[Act.put,List.setIfInBounds_toArray,List.set_cons_zero,List.set_cons_succ]
     refine GZ.tk 10 (cA.o _ gH.o) ?_ ?_ ?_
     rotate_left 1
     · intro V h
       obtain⟨k0,k1⟩:=h
       go_simp
       try with_reducible rfl
     refine GZ.all (rs:=[11]) (by kernel_rfl) (by simp) ?_
     refine GZ.aV.cons rfl (fun K hK=>?_) GZ.aV.nil
     rw[if_pos (by rfl)];go_simp;go_at_call 16;refine(wZ.o _ _ _ _ gH.o BF.o BL.o BP.o).mono ?_;rintro e w6 ⟨aS,nS,cS,aF,nF,cF,aL,nL,cL,aP,nP,cP,rfl,o6,oZ,hfin⟩;have sG:=ai o6;have R6:=ai oZ;have jZ:=ai hfin;clear o6 oZ hfin;try go_simp
     refine hK.out _ _ (fun _=>?_) ?_
     · exact cA.o _ sG.o
     clear hK K
     try simp only[Act.put,List.setIfInBounds_toArray,List.set_cons_zero,List.set_cons_succ]
     obtain⟨y0,y1,y2,y3,y4⟩:=B.c5 R6.o
     have f0:=B.free R6.o 0
     have f1:=B.free R6.o 1
     have f2:=B.free R6.o 2
     have f3:=B.free R6.o 3
     have f4:=B.free R6.o 4
     have h5:=ai (fun V=>mg R6.o (.slice aS nS cS) (.slice aF nF cF) (.slice aL nL cL) (.slice aP nP cP) (I 0) (V:=V))
     refine GZ.all (rs:=[12]) (by kernel_rfl) (by simp) ?_
     refine GZ.aV.cons rfl (fun K hK=>?_) GZ.aV.nil
     go_simp
     obtain⟨r1,r2⟩:=h5.out _ rfl
     refine hK.out _ _ (fun g=>absurd rfl g) ?_
     refine GZ.done (by kernel_rfl) ?_ _
     clear y0 y1 y2 y3 y4
     go_wp2
     obtain⟨y0,y1,y2,y3,y4⟩:=B.c5 r1
     refine bodyPost_ret (v:=.agg #[.slice aS nS cS,.slice aF nF cF,.slice aL nL cL,.slice aP nP cP,I 0]) (by simp[results,Tryz.results22,go_sem,y0,y1,y2,y3,y4]) rfl ?_
     exact jZ.o _ r2
end KR
end Go.Proofs.YtpgifpeohlllfaaGreat
