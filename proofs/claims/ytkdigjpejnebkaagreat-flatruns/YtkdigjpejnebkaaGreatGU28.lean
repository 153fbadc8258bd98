import Derived.Test.YtkdigjpejnebkaaGreatGU00
import Derived.Test.YtkdigjpejnebkaaGreatGU27
import Derived.Test.YtkdigjpejnebkaaGreatGU04
import Derived.Test.YtkdigjpejnebkaaGreatGU01
import Derived.Test.YtkdigjpejnebkaaGreatGU24
import Derived.Test.YtkdigjpejnebkaaGreatGU11
import Derived.Deep.RegionHeld3
import Derived.Test.YtkdigjpejnebkaaGreatGU25
import Derived.Laws.BytesArg
import Derived.Laws.MakeOwn
import Derived.Lib.UnsafeStr
set_option maxHeartbeats 20000000
set_option linter.unusedVariables false
set_option maxRecDepth 100000
set_option linter.unusedSimpArgs false
namespace Go.Proofs.YtkdigjpejnebkaaGreat
namespace AW
open Go.RowKit
open FW (ai)
theorem C0 (l:List AM.Ar) (v:Value) (page aj q:Int) (w:World) (h:Has w v l) (hf:dE l) (hp:dF page) (hn:dF aj) :
  Calls Tryz.prog 86 #[v,I page,I aj,I q] w fun e w'=>∃r,e=.returned (.tuple #[r,I (bc l page aj q).2])/\Own w.heap.size w' r (bc l page aj q).1/\Below w.heap.size w w':=by
 by_cases hs:fM l page aj q=0
 · have hall:AM.aD l=0/\AM.bV page aj=true/\AM.dN q=true:=by
    unfold fM at hs
    by_cases hc:AM.aD l=0
    · rw[if_pos hc] at hs
      by_cases hx:(AM.bV page aj&&AM.dN q)=true
      · rw[Bool.and_eq_true] at hx
        exact⟨hc,hx.1,hx.2⟩
      · rw[if_neg hx] at hs;cases hs
    · rw[if_neg hc] at hs;exact absurd hs hc
   obtain⟨hc,jh,uM⟩:=hall
   have HT:Hid (bc l page aj q=if AM.bZ (AM.bb l) (aM q) page.toNat aj.toNat=0 then (AM.cP (AM.turned (AM.bb l) (aM q) page (page+aj)),0) else ([],AM.bZ (AM.bb l) (aM q) page.toNat aj.toNat)):=by
    show _=_;simp[bc,AM.cF,hc,jh,uM]
   have hpb:=(AM.dv page aj).1 jh
   have V5:=(m9 q).1 uM
   have hfin:Hid (∀t,AM.mV (AM.turned (AM.bb l) (aM q) page t)):=fun t=>sZ l page t q hc (by omega) V5
   have y9:Hid (AM.mV (AM.bb l)):=AM.gH l hc
   have kL:=AM.ll l l.length (AM.ij l hc)
   have hlen:=AM.dY l hc
   have SP:=ai (fun W hW=>mZ l v page aj q W hW hf hp hn)
   rw[hs] at SP
   have BO:=ai (fun W hW=>mE l v W hW kL.1 hlen)
   rw[kL.2] at BO
   have HR:=ai kL.2
   obtain⟨Z,hZ⟩:=ex (AM.eG (fun _=>0))
   have hz:=Jg
   rw[<- hZ] at hz
   have tK:Z.size=256:=by rw[hZ];exact AM.gJ _
   clear hZ hs hc jh uM kL hlen
   go_enter Tryz.func86,Tryz.ntmps86
   go_wp2_with fail
   refine(SP.o _ h).mono ?_
   rintro e w1 ⟨rfl,hb1⟩
   go_wp2_with fail
   refine(BO.o _ (h.below hb1)).mono ?_
   rintro e w2 ⟨C,rfl,YP,hb2⟩
   have bW:Hid (Below w.heap.size w w2):=hb1.trans (hb2.mono hb1.size)
   obtain⟨F,hF⟩:=ex (AM.bb l)
   obtain⟨uT,Nu,Pb⟩:=YP
   have hC:=Pb HR.o
   rw[<- hF] at HT hfin y9 hC
   have Ax:=ai hC
   have ZO:=ai Nu
   clear hb1 hb2 hF hC Pb Nu SP BO HR
   have kJ:Hid ((w2.alloc (.cells Z 140)).heap[w2.heap.size]?=some (.cells Z 140 (0,0))):=B.new w2 Z 140
   go_wp2_with (refine wpList_store_row rfl 140 _ _ rfl w2.heap.size C rfl rfl 140 Z kJ.out (by rw[uT];exact fT) (by rw[tK,uT]) ZO.o ?_)
   have Jc:Hid (((w2.alloc (.cells Z 140)).setRow w2.heap.size C).heap[w2.heap.size]?=some (.cells C 140 (0,0))):=setRow_heap _ _ _ _ 140 (0,0) kJ.out
   have fH:Hid (Below w.heap.size w ((w2.alloc (.cells Z 140)).setRow w2.heap.size C)):=below_setRow (bW.o.alloc bW.o.size _) bW.o.size _
   have nS:=bW.o.size
   go_loopw [13] (fun t wr=>∃n:Nat,page<=(n:Int)/\(n:Int)<=page+aj/\t=I n/\(∀k:Nat,page.toNat<=k->k<n->((aM q) (F k)).2=0)/\wr.heap[w2.heap.size]?=some (.cells (bd (AM.turned F (aM q) page n)) 140 (0,0))/\Below w.heap.size w wr) (fun t _=>(page+aj-intOf t).toNat)
   case atStart =>
    refine⟨page.toNat,by omega,by omega,by rw[Int.toNat_of_nonneg (by omega)],fun k h1 h2=>by omega,?_,fH.o⟩
    rw[Int.toNat_of_nonneg (by omega),AM.gL,<- Ax.o]
    exact Jc.o
   case round =>
    obtain⟨n,pZ,Ix,rfl,hno,hA,hb⟩:=hrel
    have HN:Hid (∀k:Nat,page.toNat<=k->k<n->((aM q) (F k)).2=0):=hno
    have HA:Hid (wr.heap[w2.heap.size]?=some (.cells (bd (AM.turned F (aM q) page n)) 140 (0,0))):=hA
    have HB:Hid (Below w.heap.size w wr):=hb
    have QK:w2.heap.size<wr.heap.size:=B.isLt hA
    by_cases hin:(n:Int)<page+aj
    · have z0:=B.cell hA n (AM.lR _ n (by omega))
      have zf:=B.free hA
      rw[AM.kX] at z0
      have xE:(n:Int)<256:=by omega
      clear hno hA hb
      have QA:=y9.out.bE n
      obtain⟨s,hs⟩:=ex (F n)
      rw[<- hs] at z0 QA
      have HS:Hid (s=F n):=hs
      clear hs
      have hstep:Hid (∀x:AM.St,((aM q) s).1=x->(bd (AM.turned F (aM q) page n)).setIfInBounds n (I (AM.enc x))=bd (AM.turned F (aM q) page ((n:Int)+1))):=fun x hx=>by
       unfold bd
       rw[AM.nW _ n _ (by omega),AM.se (AM.turned F (aM q) page n) n x,<- AM.iM F (aM q) page n pZ,<- HS.o,hx]
      by_cases hm:s.m=true
      · have hz8:decide (8<AM.enc s)=s.z:=by
         unfold AM.enc AM.mark
         rw[hm]
         cases s.z <;> simp <;> omega
        have hx:(AM.enc s==0)=false:=by
         simp
         intro hh
         have:=(AM.pG s QA.1).1 hh
         rw[hm] at this;cases this
        obtain⟨x,Ip⟩:=ex (AM.enc s)
        rw[<- Ip] at z0 hx hz8
        clear Ip
        go_wp2_with (first | (go_at_call 106;refine(xo _ _ _ V5).mono ?_;rintro e w' ⟨rfl,rfl⟩))
        go_roundw
        case rel =>
         have kE:=B.set HA.o n (I (AM.mark q s.z))
         rw[show(AM.mark q s.z)=AM.enc ⟨true,q,s.z⟩ from by simp[AM.enc],hstep.out ⟨true,q,s.z⟩ (by simp[aM,hm])] at kE
         refine⟨n+1,by omega,by omega,by go_num,fun k h1 h2=>if e:k=n then by rw[e,<- HS.o];simp[aM,hm] else HN.o k h1 (by omega),?_,HB.o.setCell (by simp;omega) _⟩
         rw[show((n+1:Nat):Int)=(n:Int)+1 from by omega]
         exact kE
        case measure=>simp[intOf];omega
      · have hm':s.m=false:=by simpa using hm
        have hx:AM.enc s=0:=(AM.pG s QA.1).2 hm'
        rw[hx] at z0
        clear hx
        have ht:Hid (bc l page aj q=([],6)):=by
         have mL:AM.bZ F (aM q) page.toNat aj.toNat=6:=by
          have e5:((aM q) (F n)).2=6:=by rw[<- HS.o];simp[aM,hm]
          rw[AM.jD F (aM q) _ _ n (by omega) (by omega) HN.o (by rw[e5];decide),e5]
         show _=_
         rw[HT.o,mL,if_neg (by decide)]
        go_wp2
        go_ret2
        exact⟨Nl,by rw[ht.out];rfl,by rw[ht.out];exact Own.nil _ _,HB.o⟩
    · have hend:Hid ((n:Int)=page+aj):=by show _=_;omega
      have ht:Hid (bc l page aj q=(AM.cP (AM.turned F (aM q) page n),0)):=by
       have mL:AM.bZ F (aM q) page.toNat aj.toNat=0:=AM.fW F (aM q) _ _ (fun k h1 h2=>HN.o k h1 (by have:=hend.out;omega))
       show _=_
       rw[HT.o,mL,if_pos rfl,hend.out]
      clear hno hA hb
      go_wp2_with (refine wpList_load_row rfl 140 _ rfl w2.heap.size rfl 140 _ (0,0) _ HA.o Tryz.underlying140 rfl (by rw[tC];exact fT) ?_)
      refine(mG _ (hfin.out n) _).mono ?_
      rintro e w4 ⟨r,rfl,hr,hb4⟩
      go_wp2
      go_ret2
      exact⟨r,by rw[ht.out];rfl,by rw[ht.out];exact hr.mono HB.o.size,HB.o.trans (hb4.mono HB.o.size)⟩
 · have HT:Hid (bc l page aj q=([],fM l page aj q)):=by
    show _=_
    unfold bc AM.cF fM at *
    by_cases hc:AM.aD l=0
    · rw[if_pos hc] at hs
      rw[if_pos hc,if_pos hc]
      by_cases hx:(AM.bV page aj&&AM.dN q)=true
      · rw[if_pos hx] at hs;exact absurd rfl hs
      · rw[if_neg hx,if_neg hx]
    · rw[if_neg hc,if_neg hc]
   have SP:=ai (fun W hW=>mZ l v page aj q W hW hf hp hn)
   obtain⟨c,hcc⟩:=ex (fM l page aj q)
   rw[<- hcc] at SP hs HT
   clear hcc
   have hs':(c==0)=false:=by simpa using hs
   go_enter Tryz.func86,Tryz.ntmps86
   go_wp2_with fail
   refine(SP.o _ h).mono ?_
   rintro e w1 ⟨rfl,hb1⟩
   go_wp2
   go_ret2
   exact⟨Nl,by rw[HT.o];rfl,by rw[HT.o];exact Own.nil _ _,hb1⟩
end AW
namespace GR
open Go.RowKit GK
open GF (aH bl)
open FW (ai aB)
theorem zh (lo pb sb so cap:Nat) (ps:List FM.Pg) (a:Int) (d:ByteArray) (w:World) (hs:w.cell? (Ad sb (so+2))=some (.slice (some (Ad pb 0)) ps.length cap)) (hrow:w.ownsRow lo 65 2 (.slice (some (Ad pb 0)) ps.length cap) ps.length (ps.flatMap aH)) (hne:sb≠pb) (ha:0<=a) (ha2:a<=100000) (hd:d.size<=8) (hn:ps.length<=100000) (hz:∀k,k<ps.length->(FM.aN ps k).data.size=16) (hp:∀k,k<ps.length->M.dF (FM.aN ps k).page) :
  Calls Tryz.prog 54 #[.pointer (some (Ad sb so)),I a,.string d] w fun e w'=>e=.returned (.tuple #[])/\w'.ownsRow lo 65 2 (.slice (some (Ad pb 0)) ps.length cap) ps.length ((cX ps a d d.size).flatMap aH)/\Kp (fun b=>b=pb) w w':=by
 have HS:=ai hs
 have adr:=ai (AG ps a d)
 have EG:=ai (oQ ps a d)
 have tM:=ai (fun j hj=>AH (ps:=ps) (s:=d) hz ha j hj)
 have dz:Hid (∀w':World,w'.ownsRow lo 65 2 (.slice (some (Ad pb 0)) ps.length cap) ps.length ((cX ps a d d.size).flatMap aH)->Kp (fun b=>b=pb) w w'->(fun (e:Ending) (w':World)=>e=.returned (.tuple #[])/\w'.ownsRow lo 65 2 (.slice (some (Ad pb 0)) ps.length cap) ps.length ((cX ps a d d.size).flatMap aH)/\Kp (fun b=>b=pb) w w') (.returned (.tuple #[])) w'):=fun w' h1 h2=>⟨rfl,h1,h2⟩
 obtain⟨P,hP⟩:∃P:Ending->World->Prop,P=fun e w'=>e=.returned (.tuple #[])/\w'.ownsRow lo 65 2 (.slice (some (Ad pb 0)) ps.length cap) ps.length ((cX ps a d d.size).flatMap aH)/\Kp (fun b=>b=pb) w w':=⟨_,rfl⟩
 rw[<- hP] at dz ⊢
 have KR:Hid (w.ownsRow lo 65 2 (.slice (some (Ad pb 0)) ps.length cap) ps.length ((cX ps a d 0).flatMap aH)):=by
  show w.ownsRow _ _ _ _ _ _
  rw[AE]
  exact hrow
 have jN:=World.block_lt_of_cell? _ _ hs
 clear hP hs hrow hz hp
 obtain⟨n,xD⟩:=ex ps.length
 rw[<- xD] at HS EG tM dz KR hn
 clear xD
 go_enter Tryz.func54,Tryz.ntmps54
 go_wp2
 go_loopw [6] (fun iv wr=>∃j:Nat,j<=d.size/\iv=I (j:Int)/\wr.ownsRow lo 65 2 (.slice (some (Ad pb 0)) n cap) n ((cX ps a d j).flatMap aH)/\Kp (fun b=>b=pb) w wr) (fun iv _=>d.size-(intOf iv).toNat)
 case atStart=>exact⟨0,by omega,rfl,KR.o,Kp.refl _ _⟩
 case round =>
  obtain⟨j,hj,rfl,yF,iz⟩:=hrel
  have I6:=ai yF
  have HKO:=ai iz
  clear yF iz KR
  by_cases hjt:j<d.size
  · have hji:(j:Int)<(d.size:Int):=by omega
    have Wu:=ai (Qf (lG a d j) (cX ps a d j))
    have HMZ:Hid (mix (lG a d j) (cX ps a d j) 0=cX ps a d j):=MB _ _
    have HML:=ai (FB (lG a d j) (cX ps a d j))
    have HMT:=ai (T8 (lG a d j) (cX ps a d j))
    have HMU:=ai (MC (lG a d j) (cX ps a d j))
    have Tq:=ai (MD (lG a d j) (cX ps a d j))
    have rT:=ai (tM.o j hj)
    have mK:=EG.o j
    have HST:=ai (adr.o j)
    obtain⟨Lj,hLj⟩:∃L,L=cX ps a d j:=⟨_,rfl⟩
    rw[<- hLj] at Wu HMZ HML HMT HMU Tq rT mK HST I6
    rw[mK] at Wu
    clear hLj
    obtain⟨WO,hWO⟩:=ex wr
    subst hWO
    go_wp2
    go_loopw [7] (fun iv wi=>∃k:Nat,k<=n/\iv=I (k:Int)/\wi.ownsRow lo 65 2 (.slice (some (Ad pb 0)) n cap) n ((mix (lG a d j) Lj k).flatMap aH)/\Kp (fun b=>b=pb) w wi) (fun iv _=>n-(intOf iv).toNat)
    case atStart=>exact⟨0,by omega,rfl,by rw[HMZ.o];exact I6.o,HKO.o⟩
    case round =>
     obtain⟨k,hk,rfl,yF,iz⟩:=hrel
     have tN:=ai yF
     have Ww:=ai iz
     have s2:wr.cell? (Ad sb (so+2))=some (.slice (some (Ad pb 0)) n cap):=iz.cell HS.o hne
     have hsl:sb<wr.heap.size:=World.block_lt_of_cell? _ _ s2
     clear yF iz
     by_cases hkt:k<n
     · have jd:(k:Int)<(n:Int):=by omega
       have V8:(mix (lG a d j) Lj k).length=n:=by rw[HML.o,mK]
       have hat:=HMT.o k (by omega)
       have Qw:=rT.o k hkt
       have hrr:wr.ownsRow lo 65 2 (.slice (some (Ad pb 0)) (mix (lG a d j) Lj k).length cap) (mix (lG a d j) Lj k).length ((mix (lG a d j) Lj k).flatMap aH):=by rw[V8];exact tN.o
       have c0:=cZ aH bl FM.yE hrr k 0 (by omega) (by omega)
       have c1:=cZ aH bl FM.yE hrr k 1 (by omega) (by omega)
       rw[show(mix (lG a d j) Lj k).getD k FM.yE=FM.aN Lj k from hat] at c0 c1
       have Vw:=ai (HMU.o k (by omega))
       have Vx:=ai (Tq.o k (by omega))
       have RV:Hid (lG a d j (FM.aN Lj k)=if (FM.aN Lj k).page=(a+(j:Int))/16 then ⟨(FM.aN Lj k).page,CL.over (FM.aN Lj k).data ((a+(j:Int))%16).toNat (d.extract j (j+1))⟩ else FM.aN Lj k):=rfl
       have Si:Hid (∀x:FM.Pg,x.page=(FM.aN Lj k).page->((mix (lG a d j) Lj k).set k x).flatMap aH=((mix (lG a d j) Lj k).flatMap aH).set (k*2+1) (.string x.data)):=fun x hx=>gX aH 2 bl FM.yE x 1 (.string x.data) (by omega) _ k (by omega) (by
        rw[show(mix (lG a d j) Lj k).getD k FM.yE=FM.aN Lj k from hat]
        unfold aH
        rw[<- hx]
        rfl)
       have hpl:pb<wr.heap.size:=World.block_lt_of_cell? _ _ c0
       obtain⟨pg,mA⟩:=ex ((FM.aN Lj k).page)
       obtain⟨dt,Dw⟩:=ex ((FM.aN Lj k).data)
       have c0:wr.cell? (Ad pb (k*2))=some (I pg):=by rw[mA];exact c0
       have c1:wr.cell? (Ad pb (k*2+1))=some (.string dt):=by rw[Dw];exact c1
       rw[<- Dw] at Qw
       have hq0:0<=a+(j:Int):=by omega
       have hq1:IntKind.i64.wrap (a+(j:Int))=a+(j:Int):=IntWalk.i64_in _ (by omega)
       by_cases hq:pg=(a+(j:Int))/16
       · have hqi:(pg==(a+(j:Int))/16)=true:=by rw[beq_iff_eq];exact hq
         have h1s:(d.extract j (j+1)).size=1:=C9 d j hjt
         have Pf:Hid (∀V,Calls Tryz.prog 70 #[.string dt,I ((a+(j:Int)).tmod 16),.string (d.extract j (j+1))] V fun e w'=>e=.returned (.string (CL.over dt ((a+(j:Int))%16).toNat (d.extract j (j+1))))/\Below V.heap.size V w'):=fun V=>by
          have h:=CW.Mr dt (d.extract j (j+1)) ((a+(j:Int))%16).toNat V (by omega) (by rw[h1s,Qw];omega)
          rw[show((((a+(j:Int))%16).toNat:Nat):Int)=(a+(j:Int))%16 by omega] at h
          rw[Int.tmod_eq_emod_of_nonneg hq0]
          exact h
         have OH:Hid (mix (lG a d j) Lj (k+1)=(mix (lG a d j) Lj k).set k ⟨pg,CL.over dt ((a+(j:Int))%16).toNat (d.extract j (j+1))⟩):=by
          show _=_
          rw[Vw.o,RV.o,<- mA,<- Dw,if_pos hq]
         have Zi:=ai (Si.o ⟨pg,CL.over dt ((a+(j:Int))%16).toNat (d.extract j (j+1))⟩ mA)
         obtain⟨OV,hOV⟩:=ex (CL.over dt ((a+(j:Int))%16).toNat (d.extract j (j+1)))
         rw[<- hOV] at Pf OH Zi
         have hw1:IntKind.i64.wrap ((j:Int)+1)=(j:Int)+1:=IntWalk.i64_in _ (by omega)
         have hw2:((j:Int)+1).toNat=j+1:=by omega
         have hw3:(0:Int)<=(j:Int)+1:=by omega
         have hw4:(j:Int)+1<=(d.size:Int):=by omega
         have hw5:(j:Int)<=(j:Int)+1:=by omega
         have jI:=ai (Below.refl wr.heap.size wr).drew
         have cw:Hid (wr.drew.cell? (Ad sb (so+2))=some (.slice (some (Ad pb 0)) n cap)):=s2
         have c1':wr.drew.cell? (Ad pb (k*2+1))=some (.string dt):=c1
         clear mA Dw hOV Si RV Vw Vx hq hrr
         go_wp2_with fail
         refine wp_region_held_drew (S:=(fun V=>V.cell? (Ad sb (so+2))=some (.slice (some (Ad pb 0)) n cap))) (by kernel_rfl) ?_ (fun hHeld=>?_)
         · exact cw.o
         refine GZ.htk 0 (by assumption) ?_ ?_ ?_
         rotate_left 1
         · intro w hSw
           try dsimp only at hSw
           go_simp
           try with_reducible rfl
         refine GZ.htk 1 (by assumption) ?_ ?_ ?_
         rotate_left 1
         · intro w hSw
           try dsimp only at hSw
           go_simp
           try with_reducible rfl
         refine GZ.htk 2 (by assumption) ?_ ?_ ?_
         rotate_left 1
         · intro w hSw
           try dsimp only at hSw
           go_simp
           try with_reducible rfl
         refine GZ.htk 3 (by assumption) ?_ ?_ ?_
         rotate_left 1
         · intro w hSw
           try dsimp only at hSw
           go_simp
           try with_reducible rfl
         refine GZ.htk 4 (by assumption) ?_ ?_ ?_
         rotate_left 1
         · intro w hSw
           try dsimp only at hSw
           go_simp
           try with_reducible rfl
         refine GZ.htk 5 (by assumption) ?_ ?_ ?_
         rotate_left 1
         · intro w hSw
           try dsimp only at hSw
           go_simp
           try with_reducible rfl
         refine GZ.htk 6 (by assumption) ?_ ?_ ?_
         rotate_left 1
         · intro w hSw
           try dsimp only at hSw
           go_simp
           try with_reducible rfl
         refine GZ.htk 7 (by assumption) ?_ ?_ ?_
         rotate_left 1
         · intro w hSw
           try dsimp only at hSw
           go_simp
           try with_reducible rfl
         refine GZ.htk 8 (by assumption) ?_ ?_ ?_
         rotate_left 1
         · intro w hSw
           try dsimp only at hSw
           go_simp
           try with_reducible rfl
         refine GZ.htk 9 (by assumption) ?_ ?_ ?_
         rotate_left 1
         · intro w hSw
           try dsimp only at hSw
           go_simp
           try with_reducible rfl
         refine GZ.htk 10 (by assumption) ?_ ?_ ?_
         rotate_left 1
         · intro w hSw
           try dsimp only at hSw
           go_simp
           try with_reducible rfl
         refine GZ.htk 11 (by assumption) ?_ ?_ ?_
         rotate_left 1
         · intro w hSw
           try dsimp only at hSw
           go_simp
           try with_reducible rfl
         refine GZ.htk 13 (by assumption) ?_ ?_ ?_
         rotate_left 1
         · intro w hSw
           try dsimp only at hSw
           go_simp
           try with_reducible rfl
         refine GZ.htk 14 (by assumption) ?_ ?_ ?_
         rotate_left 1
         · intro w hSw
           try dsimp only at hSw
           go_simp
           try with_reducible rfl
         refine GZ.htk 15 (by assumption) ?_ ?_ ?_
         rotate_left 1
         · intro w hSw
           try dsimp only at hSw
           go_simp
           try with_reducible rfl
         refine GZ.htk 16 (by assumption) ?_ ?_ ?_
         rotate_left 1
         · intro w hSw
           try dsimp only at hSw
           go_simp
           try with_reducible rfl
         refine GZ.htk 17 (by assumption) ?_ ?_ ?_
         rotate_left 1
         · intro w hSw
           try dsimp only at hSw
           go_simp
           try with_reducible rfl
         refine GZ.htk 18 (by assumption) ?_ ?_ ?_
         rotate_left 1
         · intro w hSw
           try dsimp only at hSw
           go_simp
           try with_reducible rfl
         refine GZ.htk 19 (by assumption) ?_ ?_ ?_
         rotate_left 1
         · intro w hSw
           try dsimp only at hSw
           go_simp
           try with_reducible rfl
         refine GZ.htk 20 (by assumption) ?_ ?_ ?_
         rotate_left 1
         · intro w hSw
           try dsimp only at hSw
           go_simp
           try with_reducible rfl
         refine GZ.htk 21 (by assumption) ?_ ?_ ?_
         rotate_left 1
         · intro w hSw
           try dsimp only at hSw
           go_simp
           try with_reducible rfl
         refine wpAnyH_ready (rs:=[12]) (by kernel_rfl) (by simp) ?_
         refine AllReadyH.cons rfl (fun K hK=>?_) ?_
         · go_simp
           refine hK.out _ _ ?_ (fun hHeld=>?_)
           · try dsimp only
             first | exact ql.o | exact Cg.o | exact cw.o
           clear hK K
           try simp only[Act.put,List.setIfInBounds_toArray,List.set_cons_zero,List.set_cons_succ]
           refine wpAnyH_ready (rs:=[22]) (by kernel_rfl) (by simp) ?_
           refine AllReadyH.cons rfl (fun K hK=>?_) ?_
           · go_simp;go_at_call 70;refine(Pf.o _).mono ?_;rintro e w1 ⟨rfl,hb1⟩;have qp:=ai (jI.o.trans (hb1.mono jI.o.size));have Ei:=ai (Kp.row (Kp.aF (D:=fun _=>False) qp.o) tN.o (fun _ _ g=>g));have Cg:Hid (w1.cell? (Ad sb (so+2))=some (.slice (some (Ad pb 0)) n cap)):=((qp.o.cell (p:=(Ad sb (so+2))) hsl).trans s2);have q1:w1.cell? (Ad pb (k*2+1))=some (.string dt):=((qp.o.cell (p:=(Ad pb (k*2+1))) hpl).trans c1);have qf:w1.frozen? (Ad pb (k*2+1))=false:=fZ Ei.o (k*2+1);have ql:Hid ((w1.setCell (Ad pb (k*2+1)) (.string OV)).drew.cell? (Ad sb (so+2))=some (.slice (some (Ad pb 0)) n cap)):=(by show(w1.setCell (Ad pb (k*2+1)) (.string OV)).cell? (Ad sb (so+2))=_;rw[bQ _ _ _ _ _ _ hne];exact Cg.o);clear hb1;go_wp2_with fail
             refine hK.out _ _ ?_ (fun hHeld=>?_)
             · try dsimp only
               first | exact ql.o | exact Cg.o | exact cw.o
             clear hK K
             try simp only[Act.put,List.setIfInBounds_toArray,List.set_cons_zero,List.set_cons_succ]
             refine GZ.htk 23 (by assumption) ?_ ?_ ?_
             rotate_left 1
             · intro w hSw
               try dsimp only at hSw
               go_simp
               try with_reducible rfl
             refine GZ.htk 24 (by assumption) ?_ ?_ ?_
             rotate_left 1
             · intro w hSw
               try dsimp only at hSw
               go_simp
               try with_reducible rfl
             refine wpAnyH_ready (rs:=[25]) (by kernel_rfl) (by simp) ?_
             refine AllReadyH.cons rfl (fun K hK=>?_) ?_
             · go_simp
               refine hK.out _ _ ?_ (fun hHeld=>?_)
               · try dsimp only
                 first | exact ql.o | exact Cg.o | exact cw.o
               clear hK K
               try simp only[Act.put,List.setIfInBounds_toArray,List.set_cons_zero,List.set_cons_succ]
               refine wpAnyH_done (by kernel_rfl) ?_ _
               go_wp2
               go_roundw
               case rel =>
                have hk2:=((Kp.aF (D:=fun b=>b=pb) qp.o).trans (Kp.set (fun b=>b=pb) w1 (Ad pb (k*2+1)) (.string OV) rfl) (fun _ _ g=>g))
                refine⟨k+1,by omega,by go_num,?_,Ww.o.trans hk2 (fun _ _ g=>g)⟩
                rw[OH.o]
                have hr:=bY Ei.o (k*2+1) (.string OV)
                rw[Zi.o]
                exact hr
               case measure=>simp[intOf];omega
             exact AllReadyH.nil
           exact AllReadyH.nil
         exact AllReadyH.nil
       · have hqi:(pg==(a+(j:Int))/16)=false:=by rw[beq_eq_false_iff_ne];exact hq
         have EI:Hid (mix (lG a d j) Lj (k+1)=mix (lG a d j) Lj k):=Vx.o (by rw[RV.o,<- mA,if_neg hq])
         clear mA Dw Si RV Vw Vx hq hrr
         go_wp2
         go_roundw
         case rel=>exact⟨k+1,by omega,by go_num,by rw[EI.o];exact tN.o,Ww.o⟩
         case measure=>simp[intOf];omega
     · obtain rfl:k=n:=by omega
       go_wp2
       go_roundw
       case rel=>exact⟨j+1,by omega,by go_num,by rw[HST.o,<- Wu.o];exact tN.o,Ww.o⟩
       case measure=>simp[intOf];omega
  · obtain rfl:j=d.size:=by omega
    go_wp2
    go_end0
    exact dz.o _ I6.o HKO.o
theorem Uk:(Tryz.prog.info? 5).map (fun i=>(i.zero,i.size,i.bytes))=some (some (.int .u8 0),1,1):=by kernel_rfl
def zc (d:Nat):Array Value:=madeCells #[.int .u8 0] d
def zs (d:Nat):ByteArray:=⟨Array.replicate d 0⟩
theorem mk_zero (V:World) (d:Nat) (hd:d<=100000):(Instr.makeSlice 158 (I (d:Int)) (I (d:Int))).run Tryz.prog V=.ok (.slice (some (Ad V.heap.size 0)) d d) (V.alloc (.cells (zc d) 5)):=by
 obtain⟨i0,hi,hz0,hz1,hz2⟩:=info_parts Uk
 have h:=run_make (P:=Tryz.prog) V 158 5 i0 (.int .u8 0) Tryz.underlying158 hi hz0 .i64 .i64 (d:Int) (d:Int) (by omega) (Int.le_refl _) (by rw[hz2];omega) (by omega)
 rw[hz1] at h
 rw[Int.toNat_natCast,Nat.mul_one] at h
 exact h
theorem TC (d j:Nat) (h:j<d):(zc d)[j]?=some (.int .u8 0):=by
 unfold zc madeCells
 simp[h,Nat.mod_one]
theorem QT (V:World) (b d:Nat) (h:V.heap[b]?=some (.cells (zc d) 5 (0,0))):(convert 158 9 (.slice (some (Ad b 0)) d d)).run Tryz.prog V=.ok (.string (zs d)) V:=by
 have e:zs d=strOfNums (List.replicate d 0):=by
  unfold zs strOfNums
  simp
 rw[e]
 refine run_convert_bytes_arg _ 158 5 Tryz.underlying158 Tryz.underlying5 _ 0 d d _ (by simp) ?_ 9 Tryz.underlying9
 intro i hi
 rw[Nat.zero_add]
 refine B.cell h i ?_
 rw[TC d i hi,List.getD_eq_getElem?_getD,List.getElem?_replicate,if_pos hi]
 rfl
theorem abC (V:World):(Instr.makeSlice 158 (I 16) (I 16)).run Tryz.prog V=.ok (.slice (some (Ad V.heap.size 0)) 16 16) (V.alloc (.cells (zc 16) 5)):=mk_zero V 16 (by omega)
theorem ac7 (V:World):(convert 158 9 (.slice (some (Ad V.heap.size 0)) 16 16)).run Tryz.prog (V.alloc (.cells (zc 16) 5))=.ok (.string GM.gT) (V.alloc (.cells (zc 16) 5)):=by
 rw[show GM.gT=zs 16 by kernel_rfl]
 exact QT _ _ 16 (B.new V (zc 16) 5)
theorem abA (w:World) (o:Obj) (C:Array Value) (t:TypeId):((w.alloc o).alloc (.cells C t)).heap[w.heap.size+1]?=some (.cells C t (0,0)):=by
 have:=B.new (w.alloc o) C t
 simpa using this
theorem Mt (o:Option ByteArray):o.getD GM.gT=if (FW.xg o).2=true then (FW.xg o).1 else GM.gT:=by cases o <;> rfl
theorem QO (sb so cp nl cl:Nat) (lv:Bool) (va:Value) (al ap:Option Addr) (l:List AM.Ar) (ps:List FM.Pg) (w:World) (sQ:∃a n c,va=.slice a n c) (c0:w.cell? (Ad sb so)=some (.bool lv)) (c1:w.cell? (Ad sb (so+1))=some va) (c2:w.cell? (Ad sb (so+2))=some (.slice ap ps.length cp)) (xI:w.frozen? (Ad sb (so+1))=false) (hf2:w.frozen? (Ad sb (so+2))=false) (h:FW.iL w ap ps) (hn:ps.length<=100000) (hl:AW.Has w (.slice al nl cl) l) (hc:AM.aD l=0) :
  Calls Tryz.prog 87 #[.pointer (some (Ad sb so)),.slice al nl cl] w fun e w'=>e=.returned (.tuple #[])/\∃w1 av cv,w'=(w1.setCell (Ad sb (so+1)) (.slice al nl cl)).setCell (Ad sb (so+2)) (.slice av (eo l ps 255).length cv)/\Below w.heap.size w w1/\w1.ownsRow w.heap.size 65 2 (.slice av (eo l ps 255).length cv) (eo l ps 255).length ((eo l ps 255).flatMap aH):=by
 obtain⟨a1,n1,cc1,rfl⟩:=sQ
 have K0:Hid (∀p V,Below w.heap.size w V->Calls Tryz.prog 42 #[.slice al nl cl,I p] V fun e w'=>(∃g1 g2 g3 g4,e=.returned (.tuple #[.agg #[I g1,I g2,I g3,.bool g4],.bool (AM.aX l p).2]))/\Below V.heap.size V w'):=fun p V hV=>(AW.rR _ _ p _ (hl.below hV) hc).mono fun e w' ⟨h1,h2⟩=>⟨⟨_,_,_,_,h1⟩,h2⟩
 have yz:Hid (∀p V,Below w.heap.size w V->Calls Tryz.prog 20 #[.agg #[.bool lv,.slice a1 n1 cc1,.slice ap ps.length cp],I p] V fun e w'=>e=.returned (.tuple #[.string (FW.xg (FW.cJ p ps)).1,.bool (FW.xg (FW.cJ p ps)).2])/\Below V.heap.size V w'):=fun p V hV=>FW.sX ps p lv _ ap cp V (h.below hV) (by omega)
 have HCE:Hid (∀V,Below w.heap.size w V->V.cell? (Ad sb so)=some (.bool lv)/\V.cell? (Ad sb (so+1))=some (.slice a1 n1 cc1)/\V.cell? (Ad sb (so+2))=some (.slice ap ps.length cp)):=fun V hV=>⟨(M.aA hV (World.block_lt_of_cell? _ _ c0)).trans c0,(M.aA hV (World.block_lt_of_cell? _ _ c0)).trans c1,(M.aA hV (World.block_lt_of_cell? _ _ c0)).trans c2⟩
 have jN:sb<w.heap.size:=World.block_lt_of_cell? _ _ c0
 have Pp:Hid (∀V,Below w.heap.size w V->V.frozen? (Ad sb (so+1))=false/\V.frozen? (Ad sb (so+2))=false):=fun V hV=>by
  have e:=hV.block sb jN
  unfold World.frozen? at xI hf2 ⊢
  simp only[e]
  exact⟨xI,hf2⟩
 have KO:=ai (Kj l ps)
 have mS:=ai (NB l ps)
 have KS:=ai (Kk l ps)
 have kj:Hid (∀x,Gq ps x=⟨x,if (FW.xg (FW.cJ x ps)).2=true then (FW.xg (FW.cJ x ps)).1 else GM.gT⟩):=fun x=>by
  unfold Gq
  rw[Mt]
 have dz:Hid (∀(w1:World) av cv,Below w.heap.size w w1->w1.ownsRow w.heap.size 65 2 (.slice av (eo l ps 255).length cv) (eo l ps 255).length ((eo l ps 255).flatMap aH)->(fun (e:Ending) (w':World)=>e=.returned (.tuple #[])/\∃w1 av cv,w'=(w1.setCell (Ad sb (so+1)) (.slice al nl cl)).setCell (Ad sb (so+2)) (.slice av (eo l ps 255).length cv)/\Below w.heap.size w w1/\w1.ownsRow w.heap.size 65 2 (.slice av (eo l ps 255).length cv) (eo l ps 255).length ((eo l ps 255).flatMap aH)) (.returned (.tuple #[])) ((w1.setCell (Ad sb (so+1)) (.slice al nl cl)).setCell (Ad sb (so+2)) (.slice av (eo l ps 255).length cv))):=fun w1 av cv h1 h2=>⟨rfl,w1,av,cv,rfl,h1,h2⟩
 obtain⟨P,hP⟩:∃P:Ending->World->Prop,P=fun e w'=>e=.returned (.tuple #[])/\∃w1 av cv,w'=(w1.setCell (Ad sb (so+1)) (.slice al nl cl)).setCell (Ad sb (so+2)) (.slice av (eo l ps 255).length cv)/\Below w.heap.size w w1/\w1.ownsRow w.heap.size 65 2 (.slice av (eo l ps 255).length cv) (eo l ps 255).length ((eo l ps 255).flatMap aH):=⟨_,rfl⟩
 rw[<- hP] at dz ⊢
 obtain⟨np,fB⟩:=ex ps.length
 rw[<- fB] at yz HCE
 obtain⟨F,hF⟩:=ex (eo l ps)
 rw[<- hF] at KO mS KS dz
 have HF0:Hid (F 0=[]):=by show _=_;rw[hF];rfl
 obtain⟨i0,hin,hz0,hz1,hz2⟩:=info_parts ry
 have nB:=ai hin
 have vP:=ai hz0
 have rT:=ai hz1
 have mQ:=ai hz2
 clear hP fB hF c0 c1 c2 xI hf2 h hl hc hin hz0 hz1 hz2
 go_enter Tryz.func87,Tryz.ntmps87
 go_wp2
 go_loopw [4,5] (fun sv iv wr=>∃(k:Nat) (av:Option Addr) (cv:Nat),k<=255/\iv=I (1+(k:Int))/\sv=.slice av (F k).length cv/\wr.ownsRow w.heap.size 65 2 (.slice av (F k).length cv) (F k).length ((F k).flatMap aH)/\Below w.heap.size w wr) (fun _ iv _=>(256-intOf iv).toNat)
 case atStart=>exact⟨0,none,0,by omega,by first | rfl | go_num,by rw[HF0.o];rfl,by rw[HF0.o];exact World.ownsRow_nil _ _ _ _,Below.refl _ _⟩
 case round =>
  obtain⟨k,av,cv,hk,rfl,rfl,yF,hb⟩:=hrel
  have tN:=ai yF
  have HB:=ai hb
  have hle:=KS.o k
  clear yF
  by_cases hlt:k<255
  · have jd:(1:Int)+(k:Int)<=255:=by omega
    have fL:=ai (K0.o (1+(k:Int)) wr hb)
    have mR:=ai (yz.o (1+(k:Int)))
    have yw:=ai (KO.o k)
    have vg:=ai (mS.o k)
    rw[kj.o] at yw
    obtain⟨fd,hfd⟩:=ex ((AM.aX l (1+(k:Int))).2)
    rw[<- hfd] at fL yw vg
    obtain⟨od,XU⟩:=ex ((FW.xg (FW.cJ (1+(k:Int)) ps)).1)
    obtain⟨oh,hoh⟩:=ex ((FW.xg (FW.cJ (1+(k:Int)) ps)).2)
    rw[<- XU,<- hoh] at mR yw
    clear hfd XU hoh KO mS kj hb
    cases fd with
    | false =>
     have Cx:=ai (vg.o rfl)
     go_wp2_with (go_at_call 42;refine fL.o.mono ?_;rintro e w1 ⟨⟨g1,g2,g3,g4,rfl⟩,hb1⟩;have bj:=ai (HB.o.trans (hb1.mono HB.o.size));have Ei:=ai (Kp.row (Kp.aF (D:=fun _=>False) hb1) tN.o (fun _ _ g=>g));clear hb1)
     go_roundw
     case rel=>exact⟨k+1,av,cv,by omega,by first | (rw[show(1:Int)+((k+1:Nat):Int)=1+(k:Int)+1 by omega];done) | go_num,by rw[Cx.o],by rw[Cx.o];exact Ei.o.alloc _,bj.o.alloc bj.o.size _⟩
     case measure=>simp[intOf];omega
    | true =>
     have RJ:=ai (yw.o rfl)
     clear vg yw
     cases oh with
     | true =>
      rw[if_pos rfl] at RJ
      go_wp2_with (first
       | (at_builtin;refine b7 (P:=Tryz.prog) rfl _ _ 51 rfl w.heap.size 65 i0 (.agg #[I 0,.string ⟨#[]⟩]) 2 24 Tryz.underlying51 nB.o vP.o rT.o mQ.o rfl (by decide) _ (F k).length ((F k).flatMap aH) rfl (Oy.o.alloc _) (some (Ad w2.heap.size 0)) 1 1 [I (1+(k:Int)),.string od] rfl rfl (fun _=>⟨_,rfl,B.news (B.new w2 _ _)⟩) (by intro u hu;simp at hu;rcases hu with rfl | rfl <;> rfl) (by unfold maxLen;omega) (by omega) (by simp;have:=bW.o.size;omega) ?_;intro v' w6 hown hgr hat;obtain⟨a6,c6,XC,_,_⟩:=aL hown;subst XC;have Ph:=ai hown;have ZH:=ai hgr;clear hown hgr hat)
       | (go_at_call 42;refine fL.o.mono ?_;rintro e w1 ⟨⟨g1,g2,g3,g4,rfl⟩,hb1⟩;have bj:=ai ((HB.o.trans (hb1.mono HB.o.size)).alloc (HB.o.trans (hb1.mono HB.o.size)).size (.cells #[I g1,I g2,I g3,.bool g4] 59));have Ei:=ai ((Kp.row (Kp.aF (D:=fun _=>False) hb1) tN.o (fun _ _ g=>g)).alloc (.cells #[I g1,I g2,I g3,.bool g4] 59));obtain⟨q0,q1,q2⟩:=HCE.o _ bj.o;have hs1:¬sb=w1.heap.size:=(by have:=(HB.o.trans (hb1.mono HB.o.size)).size;omega);clear hb1)
       | (go_at_call 20;refine(mR.o _ bj.o).mono ?_;rintro e w2 ⟨rfl,hb2⟩;have bW:=ai (bj.o.trans (hb2.mono bj.o.size));have Oy:=ai (Kp.row (Kp.aF (D:=fun _=>False) hb2) Ei.o (fun _ _ g=>g));clear hb2))
      go_roundw
      case rel =>
       refine⟨k+1,a6,c6,by omega,by first | (rw[show(1:Int)+((k+1:Nat):Int)=1+(k:Int)+1 by omega];done) | go_num,?_,?_,?_⟩
       · rw[RJ.o,List.length_append];rfl
       · rw[RJ.o,List.length_append,List.flatMap_append]
         exact Ph.o
       · have tJ:Kp (fun b=>w.heap.size<=b) w2 w6:=((Kp.alloc (fun b=>w.heap.size<=b) w2 (.cells #[I (1+(k:Int)),.string od] 65)).trans (Kp.grown (D:=fun b=>w.heap.size<=b) ZH.o (fun g hg=>by have:=(Oy.o.lt g hg).1;omega)) (fun _ _ g=>g))
         exact Kp.below bW.o tJ bW.o.size (fun b g=>g)
      case measure=>simp[intOf];omega
     | false =>
      rw[if_neg (by decide)] at RJ
      have hmk:=abC
      have hcv:=ac7
      go_wp2_with (first
       | (at_builtin;refine b7 (P:=Tryz.prog) rfl _ _ 51 rfl w.heap.size 65 i0 (.agg #[I 0,.string ⟨#[]⟩]) 2 24 Tryz.underlying51 nB.o vP.o rT.o mQ.o rfl (by decide) _ (F k).length ((F k).flatMap aH) rfl ((Oy.o.alloc _).alloc _) (some (Ad (w2.heap.size+1) 0)) 1 1 [I (1+(k:Int)),.string GM.gT] rfl rfl (fun _=>⟨_,rfl,B.news (abA w2 _ _ _)⟩) (by intro u hu;simp at hu;rcases hu with rfl | rfl <;> rfl) (by unfold maxLen;omega) (by omega) (by simp;have:=bW.o.size;omega) ?_;intro v' w6 hown hgr hat;obtain⟨a6,c6,XC,_,_⟩:=aL hown;subst XC;have Ph:=ai hown;have ZH:=ai hgr;clear hown hgr hat)
       | (go_at_call 42;refine fL.o.mono ?_;rintro e w1 ⟨⟨g1,g2,g3,g4,rfl⟩,hb1⟩;have bj:=ai ((HB.o.trans (hb1.mono HB.o.size)).alloc (HB.o.trans (hb1.mono HB.o.size)).size (.cells #[I g1,I g2,I g3,.bool g4] 59));have Ei:=ai ((Kp.row (Kp.aF (D:=fun _=>False) hb1) tN.o (fun _ _ g=>g)).alloc (.cells #[I g1,I g2,I g3,.bool g4] 59));obtain⟨q0,q1,q2⟩:=HCE.o _ bj.o;have hs1:¬sb=w1.heap.size:=(by have:=(HB.o.trans (hb1.mono HB.o.size)).size;omega);clear hb1)
       | (go_at_call 20;refine(mR.o _ bj.o).mono ?_;rintro e w2 ⟨rfl,hb2⟩;have bW:=ai (bj.o.trans (hb2.mono bj.o.size));have Oy:=ai (Kp.row (Kp.aF (D:=fun _=>False) hb2) Ei.o (fun _ _ g=>g));clear hb2))
      go_roundw
      case rel =>
       refine⟨k+1,a6,c6,by omega,by first | (rw[show(1:Int)+((k+1:Nat):Int)=1+(k:Int)+1 by omega];done) | go_num,?_,?_,?_⟩
       · rw[RJ.o,List.length_append];rfl
       · rw[RJ.o,List.length_append,List.flatMap_append]
         exact Ph.o
       · have tJ:Kp (fun b=>w.heap.size<=b) w2 w6:=(((Kp.alloc (fun b=>w.heap.size<=b) w2 (.cells (zc 16) 5)).trans (Kp.alloc (fun b=>w.heap.size<=b) _ (.cells #[I (1+(k:Int)),.string GM.gT] 65)) (fun _ _ g=>g)).trans (Kp.grown (D:=fun b=>w.heap.size<=b) ZH.o (fun g hg=>by have:=(Oy.o.lt g hg).1;omega)) (fun _ _ g=>g))
         exact Kp.below bW.o tJ bW.o.size (fun b g=>g)
      case measure=>simp[intOf];omega
  · obtain rfl:k=255:=by omega
    obtain⟨q0,q1,q2⟩:=HCE.o wr hb
    obtain⟨f1,f2⟩:=Pp.o wr hb
    clear hb
    go_wp2
    go_end0
    exact dz.o _ _ _ HB.o tN.o
end GR
end Go.Proofs.YtkdigjpejnebkaaGreat
