import Derived.Test.YtkdigjpejnebkaaGreatGU00
import Derived.Test.YtkdigjpejnebkaaGreatGU01
set_option maxHeartbeats 20000000
set_option linter.unusedVariables false
set_option maxRecDepth 100000
set_option linter.unusedSimpArgs false
namespace Go.Proofs.YtkdigjpejnebkaaGreat
namespace AM
open Go.RowKit
def turned (F:Nat->St) (how:St->St×Int) (page t:Int):Nat->St:=fun k=>if page<=(k:Int)/\(k:Int)<t then (how (F k)).1 else F k
def bZ (F:Nat->St) (how:St->St×Int):Nat->Nat->Int
 | _,0=>0
 | n,c+1=>if (how (F n)).2=0 then bZ F how (n+1) c else (how (F n)).2
def cF (l:List Ar) (page aj bE:Int) (how:St->St×Int):List Ar×Int :=
 if aD l=0 then
  if bV page aj&&dN bE then
   if bZ (bb l) how page.toNat aj.toNat=0 then (cP (turned (bb l) how page (page+aj)),0)
   else ([],bZ (bb l) how page.toNat aj.toNat)
  else ([],3)
 else ([],aD l)
theorem gL (F:Nat->St) (how:St->St×Int) (page:Int):turned F how page page=F:=by
 funext k;simp only[turned];rw[if_neg (by omega)]
theorem kX (F:Nat->St) (how:St->St×Int) (page:Int) (n:Nat):turned F how page n n=F n:=by
 simp only[turned];rw[if_neg (by omega)]
theorem iM (F:Nat->St) (how:St->St×Int) (page:Int) (n:Nat) (h:page<=(n:Int)):upd (turned F how page n) n (how (F n)).1=turned F how page ((n:Int)+1):=by
 funext k
 simp only[upd,turned]
 by_cases e:k=n
 · subst e;rw[if_pos rfl,if_pos ⟨h,by omega⟩]
 · rw[if_neg e]
   by_cases c:page<=(k:Int)/\(k:Int)<n
   · rw[if_pos c,if_pos ⟨c.1,by omega⟩]
   · rw[if_neg c,if_neg (by omega)]
theorem fW (F:Nat->St) (how:St->St×Int):∀(c n:Nat),(∀k,n<=k->k<n+c->(how (F k)).2=0)->bZ F how n c=0
 | 0,_,_=>rfl
 | c+1,n,h=>by
  simp only[bZ]
  rw[if_pos (h n (by omega) (by omega))]
  exact fW F how c (n+1) (fun k h1 h2=>h k (by omega) (by omega))
theorem jD (F:Nat->St) (how:St->St×Int):∀(c n m:Nat),n<=m->m<n+c->(∀k,n<=k->k<m->(how (F k)).2=0)->(how (F m)).2≠0->bZ F how n c=(how (F m)).2
 | 0,n,m,h1,h2,_,_=>by omega
 | c+1,n,m,h1,h2,h,hm=>by
  simp only[bZ]
  by_cases e:n=m
  · subst e;rw[if_neg hm]
  · rw[if_pos (h n (by omega) (by omega))]
    exact jD F how c (n+1) m (by omega) (by omega) (fun k h1 h2=>h k (by omega) h2) hm
theorem dv (p n:Int):bV p n=true↔1<=p/\1<=n/\n<=256-p:=by simp[bV]
end AM
namespace AW
open Go.RowKit
theorem AA (l:List AM.Ar) (v:Value) (page aj q:Int) (P:Nat) (w:World) (h:Has w v l) (hf:dE l) (hp:-9223372036854775808<=page/\page<=9223372036854775807) (hn:-9223372036854775808<=aj/\aj<=9223372036854775807) (hP:w.cell? (Ad P 0)=some (I q)) :
  Calls Tryz.prog 143 #[v,I page,I aj,I q,.func (.func 144) #[] #[.pointer (some (Ad P 0))]] w fun e w'=>∃r,e=.returned (.tuple #[r,I (AM.cF l page aj q (bF q)).2])/\Own w.heap.size w' r (AM.cF l page aj q (bF q)).1/\Below w.heap.size w w':=by
 by_cases hc:AM.aD l=0
 · by_cases jh:AM.bV page aj=true
   · by_cases uM:AM.dN q=true
     · have HT:Hid (AM.cF l page aj q (bF q)=if AM.bZ (AM.bb l) (bF q) page.toNat aj.toNat=0 then (AM.cP (AM.turned (AM.bb l) (bF q) page (page+aj)),0) else ([],AM.bZ (AM.bb l) (bF q) page.toNat aj.toNat)):=by
        show _=_;simp[AM.cF,hc,jh,uM]
       have hpb:=(AM.dv page aj).1 jh
       obtain⟨Z,hZ⟩:=ex (AM.bK (fun _=>AM.off))
       have hz:=Lu
       rw[<- hZ] at hz
       have tK:Z.size=768:=by rw[hZ];exact AM.cL _
       clear hZ
       go_enter Tryz.func143,Tryz.ntmps143
       go_wp2_with fail
       refine(dx l v _ h hf).mono ?_
       rintro e w1 ⟨rfl,hb1⟩
       rw[hc]
       have HC:Hid (AM.aD l=0):=hc
       clear hc
       go_wp2_with fail
       refine(b9 _ _ _ hp hn).mono ?_
       rintro e w' ⟨rfl,rfl⟩
       go_wp2_with fail
       refine(dK _ _).mono ?_
       rintro e w' ⟨rfl,rfl⟩
       go_wp2_with fail
       refine(qW l v _ (h.below hb1) HC.o).mono ?_
       rintro e w2 ⟨rfl,hb2⟩
       have bW:Hid (Below w.heap.size w w2):=hb1.trans (hb2.mono hb1.size)
       obtain⟨F,hF⟩:=ex (AM.bb l)
       rw[<- hF] at HT ⊢
       obtain⟨C,hC⟩:=ex (AM.bK F)
       have uT:C.size=768:=by rw[hC];exact AM.cL _
       have Ax:Hid (C=AM.bK F):=hC
       rw[<- hC]
       clear hb1 hb2 hF hC jh uM
       have kJ:Hid ((w2.alloc (.cells Z 256)).heap[w2.heap.size]?=some (.cells Z 256 (0,0))):=B.new w2 Z 256
       go_wp2_with (refine wpList_store_row rfl 256 _ _ rfl w2.heap.size C rfl rfl 256 Z kJ.out (by rw[uT];exact js) (by rw[tK,uT]) (by rw[Ax.o];exact AM.lQ _) ?_)
       have Jc:Hid (((w2.alloc (.cells Z 256)).setRow w2.heap.size C).heap[w2.heap.size]?=some (.cells C 256 (0,0))):=setRow_heap _ _ _ _ 256 (0,0) kJ.out
       have fH:Hid (Below w.heap.size w ((w2.alloc (.cells Z 256)).setRow w2.heap.size C)):=below_setRow (bW.o.alloc bW.o.size _) bW.o.size _
       have nS:=bW.o.size
       go_loopw [14] (fun t wr=>∃n:Nat,page<=(n:Int)/\(n:Int)<=page+aj/\t=I n/\(∀k:Nat,page.toNat<=k->k<n->((bF q) (F k)).2=0)/\wr.heap[w2.heap.size]?=some (.cells (AM.bK (AM.turned F (bF q) page n)) 256 (0,0))/\Below w.heap.size w wr) (fun t _=>(page+aj-intOf t).toNat)
       case atStart =>
        refine⟨page.toNat,by omega,by omega,by rw[Int.toNat_of_nonneg (by omega)],fun k h1 h2=>by omega,?_,fH.o⟩
        rw[Int.toNat_of_nonneg (by omega),AM.gL,<- Ax.o]
        exact Jc.o
       case round =>
        obtain⟨n,pZ,Ix,rfl,hno,hA,hb⟩:=hrel
        have HN:Hid (∀k:Nat,page.toNat<=k->k<n->((bF q) (F k)).2=0):=hno
        have HA:Hid (wr.heap[w2.heap.size]?=some (.cells (AM.bK (AM.turned F (bF q) page n)) 256 (0,0))):=hA
        have HB:Hid (Below w.heap.size w wr):=hb
        have QK:w2.heap.size<wr.heap.size:=B.isLt hA
        have hPw:wr.cell? (Ad P 0)=some (I q):=(hb.cell (p:=(Ad P 0)) (World.block_lt_of_cell? w _ hP)).trans hP
        by_cases hin:(n:Int)<page+aj
        · have z0:=B.cell hA (n*3) (AM.fQ _ n (by omega))
          have z1:=B.cell hA (n*3+1) (AM.fP _ n (by omega))
          have z2:=B.cell hA (n*3+2) (AM.fO _ n (by omega))
          rw[AM.kX] at z0 z1 z2
          have xE:(n:Int)<256:=by omega
          clear hno hA hb
          obtain⟨s,hs⟩:=ex (F n)
          rw[<- hs] at z0 z1 z2
          have HS:Hid (s=F n):=hs
          clear hs
          go_wp2_with fail
          refine(MG s q P _ hPw).mono ?_
          rintro e w3 ⟨rfl,hb3⟩
          have bA:=B.below HA.o hb3 QK
          have y0:=B.cell bA (n*3) (AM.fQ _ n (by omega))
          have y1:=B.cell bA (n*3+1) (AM.fP _ n (by omega))
          have y2:=B.cell bA (n*3+2) (AM.fO _ n (by omega))
          have yf:=B.free bA
          have uy:Hid (w3.heap[w2.heap.size]?=some (.cells (AM.bK (AM.turned F (bF q) page n)) 256 (0,0))):=bA
          have Ay:Hid (Below w.heap.size w w3):=HB.o.trans (hb3.mono HB.o.size)
          have Uo:w2.heap.size<w3.heap.size:=B.isLt bA
          clear bA hb3 z0 z1 z2
          obtain⟨r,hr⟩:=ex ((bF q) s)
          rw[<- hr]
          have HR:Hid (r=(bF q) s):=hr
          clear hr
          unfold Am
          by_cases he:r.2=0
          · have he':(r.2 != 0)=false:=by simp[he]
            have HE:Hid (r.2=0):=he
            clear he
            go_wp2
            go_roundw
            case rel =>
             have kE:=B.set (B.set (B.set uy.o (n*3) (.bool r.1.m)) (n*3+1) (I r.1.p)) (n*3+2) (.bool r.1.z)
             have Tc:=AM.iM F (bF q) page n pZ
             rw[<- HS.o,<- HR.o] at Tc
             rw[AM.nV (AM.turned F (bF q) page n) n r.1 (by omega),Tc] at kE
             refine⟨n+1,by omega,by omega,by go_num,fun k h1 h2=>if e:k=n then by rw[e,<- HS.o,<- HR.o];exact HE.o else HN.o k h1 (by omega),?_,?_⟩
             · rw[show((n+1:Nat):Int)=(n:Int)+1 from by omega]
               exact B.alloc kE _
             · have hb4:=((Ay.o.setCell (p:=(Ad w2.heap.size (n*3))) nS (.bool r.1.m)).setCell (p:=(Ad w2.heap.size (n*3+1))) nS (I r.1.p)).setCell (p:=(Ad w2.heap.size (n*3+2))) nS (.bool r.1.z)
               exact hb4.alloc hb4.size _
            case measure=>simp[intOf];omega
          · have he':(r.2 != 0)=true:=by simpa using he
            have HE:Hid (r.2≠0):=he
            clear he
            have ht:Hid (AM.cF l page aj q (bF q)=([],r.2)):=by
             have mL:AM.bZ F (bF q) page.toNat aj.toNat=r.2:=by
              rw[HR.o,HS.o]
              exact AM.jD F (bF q) _ _ n (by omega) (by omega) HN.o (by rw[<- HS.o,<- HR.o];exact HE.o)
             show _=_
             rw[HT.o,mL,if_neg HE.o]
            go_wp2
            go_ret2
            exact⟨Nl,by rw[ht.out];rfl,by rw[ht.out];exact Own.nil _ _,Ay.o.alloc Ay.o.size _⟩
        · have hend:Hid ((n:Int)=page+aj):=by show _=_;omega
          have ht:Hid (AM.cF l page aj q (bF q)=(AM.cP (AM.turned F (bF q) page n),0)):=by
           have mL:AM.bZ F (bF q) page.toNat aj.toNat=0:=AM.fW F (bF q) _ _ (fun k h1 h2=>HN.o k h1 (by have:=hend.out;omega))
           show _=_
           rw[HT.o,mL,if_pos rfl,hend.out]
          clear hno hA hb
          go_wp2_with (refine wpList_load_row rfl 256 _ rfl w2.heap.size rfl 256 _ (0,0) _ HA.o Tryz.underlying256 rfl (by rw[AM.cL];exact js) ?_)
          refine(rC _ _).mono ?_
          rintro e w4 ⟨r,rfl,hr,hb4⟩
          go_wp2
          go_ret2
          exact⟨r,by rw[ht.out];rfl,by rw[ht.out];exact hr.mono HB.o.size,HB.o.trans (hb4.mono HB.o.size)⟩
     · have M4:AM.dN q=false:=by simpa using uM
       have HT:Hid (AM.cF l page aj q (bF q)=([],3)):=by show _=_;simp[AM.cF,hc,jh,M4]
       clear uM
       go_enter Tryz.func143,Tryz.ntmps143
       go_wp2_with fail
       refine(dx l v _ h hf).mono ?_
       rintro e w1 ⟨rfl,hb1⟩
       rw[hc]
       clear hc
       go_wp2_with fail
       refine(b9 _ _ _ hp hn).mono ?_
       rintro e w' ⟨rfl,rfl⟩
       go_wp2_with fail
       refine(dK _ _).mono ?_
       rintro e w' ⟨rfl,rfl⟩
       go_wp2
       go_ret2
       exact⟨Nl,by rw[HT.o];rfl,by rw[HT.o];exact Own.nil _ _,hb1⟩
   · have M5:AM.bV page aj=false:=by simpa using jh
     have HT:Hid (AM.cF l page aj q (bF q)=([],3)):=by show _=_;simp[AM.cF,hc,M5]
     clear jh
     go_enter Tryz.func143,Tryz.ntmps143
     go_wp2_with fail
     refine(dx l v _ h hf).mono ?_
     rintro e w1 ⟨rfl,hb1⟩
     rw[hc]
     clear hc
     go_wp2_with fail
     refine(b9 _ _ _ hp hn).mono ?_
     rintro e w' ⟨rfl,rfl⟩
     go_wp2
     go_ret2
     exact⟨Nl,by rw[HT.o];rfl,by rw[HT.o];exact Own.nil _ _,hb1⟩
 · have HT:Hid (AM.cF l page aj q (bF q)=([],AM.aD l)):=by show _=_;simp[AM.cF,hc]
   have hc':(AM.aD l != 0)=true:=by simpa using hc
   go_enter Tryz.func143,Tryz.ntmps143
   go_wp2_with fail
   refine(dx l v _ h hf).mono ?_
   rintro e w1 ⟨rfl,hb1⟩
   go_wp2
   go_ret2
   exact⟨Nl,by rw[HT.o];rfl,by rw[HT.o];exact Own.nil _ _,hb1⟩
theorem wA (l:List AM.Ar) (v:Value) (page aj q:Int) (w:World) (h:Has w v l) (hf:dE l) (hp:-9223372036854775808<=page/\page<=9223372036854775807) (hn:-9223372036854775808<=aj/\aj<=9223372036854775807) :
  Calls Tryz.prog 143 #[v,I page,I aj,I q,.func (.func 209) #[] #[]] w fun e w'=>∃r,e=.returned (.tuple #[r,I (AM.cF l page aj q aJ).2])/\Own w.heap.size w' r (AM.cF l page aj q aJ).1/\Below w.heap.size w w':=by
 by_cases hc:AM.aD l=0
 · by_cases jh:AM.bV page aj=true
   · by_cases uM:AM.dN q=true
     · have HT:Hid (AM.cF l page aj q aJ=if AM.bZ (AM.bb l) aJ page.toNat aj.toNat=0 then (AM.cP (AM.turned (AM.bb l) aJ page (page+aj)),0) else ([],AM.bZ (AM.bb l) aJ page.toNat aj.toNat)):=by
        show _=_;simp[AM.cF,hc,jh,uM]
       have hpb:=(AM.dv page aj).1 jh
       obtain⟨Z,hZ⟩:=ex (AM.bK (fun _=>AM.off))
       have hz:=Lu
       rw[<- hZ] at hz
       have tK:Z.size=768:=by rw[hZ];exact AM.cL _
       clear hZ
       go_enter Tryz.func143,Tryz.ntmps143
       go_wp2_with fail
       refine(dx l v _ h hf).mono ?_
       rintro e w1 ⟨rfl,hb1⟩
       rw[hc]
       have HC:Hid (AM.aD l=0):=hc
       clear hc
       go_wp2_with fail
       refine(b9 _ _ _ hp hn).mono ?_
       rintro e w' ⟨rfl,rfl⟩
       go_wp2_with fail
       refine(dK _ _).mono ?_
       rintro e w' ⟨rfl,rfl⟩
       go_wp2_with fail
       refine(qW l v _ (h.below hb1) HC.o).mono ?_
       rintro e w2 ⟨rfl,hb2⟩
       have bW:Hid (Below w.heap.size w w2):=hb1.trans (hb2.mono hb1.size)
       obtain⟨F,hF⟩:=ex (AM.bb l)
       rw[<- hF] at HT ⊢
       obtain⟨C,hC⟩:=ex (AM.bK F)
       have uT:C.size=768:=by rw[hC];exact AM.cL _
       have Ax:Hid (C=AM.bK F):=hC
       rw[<- hC]
       clear hb1 hb2 hF hC jh uM
       have kJ:Hid ((w2.alloc (.cells Z 256)).heap[w2.heap.size]?=some (.cells Z 256 (0,0))):=B.new w2 Z 256
       go_wp2_with (refine wpList_store_row rfl 256 _ _ rfl w2.heap.size C rfl rfl 256 Z kJ.out (by rw[uT];exact js) (by rw[tK,uT]) (by rw[Ax.o];exact AM.lQ _) ?_)
       have Jc:Hid (((w2.alloc (.cells Z 256)).setRow w2.heap.size C).heap[w2.heap.size]?=some (.cells C 256 (0,0))):=setRow_heap _ _ _ _ 256 (0,0) kJ.out
       have fH:Hid (Below w.heap.size w ((w2.alloc (.cells Z 256)).setRow w2.heap.size C)):=below_setRow (bW.o.alloc bW.o.size _) bW.o.size _
       have nS:=bW.o.size
       go_loopw [14] (fun t wr=>∃n:Nat,page<=(n:Int)/\(n:Int)<=page+aj/\t=I n/\(∀k:Nat,page.toNat<=k->k<n->(aJ (F k)).2=0)/\wr.heap[w2.heap.size]?=some (.cells (AM.bK (AM.turned F aJ page n)) 256 (0,0))/\Below w.heap.size w wr) (fun t _=>(page+aj-intOf t).toNat)
       case atStart =>
        refine⟨page.toNat,by omega,by omega,by rw[Int.toNat_of_nonneg (by omega)],fun k h1 h2=>by omega,?_,fH.o⟩
        rw[Int.toNat_of_nonneg (by omega),AM.gL,<- Ax.o]
        exact Jc.o
       case round =>
        obtain⟨n,pZ,Ix,rfl,hno,hA,hb⟩:=hrel
        have HN:Hid (∀k:Nat,page.toNat<=k->k<n->(aJ (F k)).2=0):=hno
        have HA:Hid (wr.heap[w2.heap.size]?=some (.cells (AM.bK (AM.turned F aJ page n)) 256 (0,0))):=hA
        have HB:Hid (Below w.heap.size w wr):=hb
        have QK:w2.heap.size<wr.heap.size:=B.isLt hA
        by_cases hin:(n:Int)<page+aj
        · have z0:=B.cell hA (n*3) (AM.fQ _ n (by omega))
          have z1:=B.cell hA (n*3+1) (AM.fP _ n (by omega))
          have z2:=B.cell hA (n*3+2) (AM.fO _ n (by omega))
          rw[AM.kX] at z0 z1 z2
          have xE:(n:Int)<256:=by omega
          clear hno hA hb
          obtain⟨s,hs⟩:=ex (F n)
          rw[<- hs] at z0 z1 z2
          have HS:Hid (s=F n):=hs
          clear hs
          go_wp2_with fail
          refine(nH s _).mono ?_
          rintro e w3 ⟨rfl,hb3⟩
          have bA:=B.below HA.o hb3 QK
          have y0:=B.cell bA (n*3) (AM.fQ _ n (by omega))
          have y1:=B.cell bA (n*3+1) (AM.fP _ n (by omega))
          have y2:=B.cell bA (n*3+2) (AM.fO _ n (by omega))
          have yf:=B.free bA
          have uy:Hid (w3.heap[w2.heap.size]?=some (.cells (AM.bK (AM.turned F aJ page n)) 256 (0,0))):=bA
          have Ay:Hid (Below w.heap.size w w3):=HB.o.trans (hb3.mono HB.o.size)
          have Uo:w2.heap.size<w3.heap.size:=B.isLt bA
          clear bA hb3 z0 z1 z2
          obtain⟨r,hr⟩:=ex (aJ s)
          rw[<- hr]
          have HR:Hid (r=aJ s):=hr
          clear hr
          unfold Am
          by_cases he:r.2=0
          · have he':(r.2 != 0)=false:=by simp[he]
            have HE:Hid (r.2=0):=he
            clear he
            go_wp2
            go_roundw
            case rel =>
             have kE:=B.set (B.set (B.set uy.o (n*3) (.bool r.1.m)) (n*3+1) (I r.1.p)) (n*3+2) (.bool r.1.z)
             have Tc:=AM.iM F aJ page n pZ
             rw[<- HS.o,<- HR.o] at Tc
             rw[AM.nV (AM.turned F aJ page n) n r.1 (by omega),Tc] at kE
             refine⟨n+1,by omega,by omega,by go_num,fun k h1 h2=>if e:k=n then by rw[e,<- HS.o,<- HR.o];exact HE.o else HN.o k h1 (by omega),?_,?_⟩
             · rw[show((n+1:Nat):Int)=(n:Int)+1 from by omega]
               exact B.alloc kE _
             · have hb4:=((Ay.o.setCell (p:=(Ad w2.heap.size (n*3))) nS (.bool r.1.m)).setCell (p:=(Ad w2.heap.size (n*3+1))) nS (I r.1.p)).setCell (p:=(Ad w2.heap.size (n*3+2))) nS (.bool r.1.z)
               exact hb4.alloc hb4.size _
            case measure=>simp[intOf];omega
          · have he':(r.2 != 0)=true:=by simpa using he
            have HE:Hid (r.2≠0):=he
            clear he
            have ht:Hid (AM.cF l page aj q aJ=([],r.2)):=by
             have mL:AM.bZ F aJ page.toNat aj.toNat=r.2:=by
              rw[HR.o,HS.o]
              exact AM.jD F aJ _ _ n (by omega) (by omega) HN.o (by rw[<- HS.o,<- HR.o];exact HE.o)
             show _=_
             rw[HT.o,mL,if_neg HE.o]
            go_wp2
            go_ret2
            exact⟨Nl,by rw[ht.out];rfl,by rw[ht.out];exact Own.nil _ _,Ay.o.alloc Ay.o.size _⟩
        · have hend:Hid ((n:Int)=page+aj):=by show _=_;omega
          have ht:Hid (AM.cF l page aj q aJ=(AM.cP (AM.turned F aJ page n),0)):=by
           have mL:AM.bZ F aJ page.toNat aj.toNat=0:=AM.fW F aJ _ _ (fun k h1 h2=>HN.o k h1 (by have:=hend.out;omega))
           show _=_
           rw[HT.o,mL,if_pos rfl,hend.out]
          clear hno hA hb
          go_wp2_with (refine wpList_load_row rfl 256 _ rfl w2.heap.size rfl 256 _ (0,0) _ HA.o Tryz.underlying256 rfl (by rw[AM.cL];exact js) ?_)
          refine(rC _ _).mono ?_
          rintro e w4 ⟨r,rfl,hr,hb4⟩
          go_wp2
          go_ret2
          exact⟨r,by rw[ht.out];rfl,by rw[ht.out];exact hr.mono HB.o.size,HB.o.trans (hb4.mono HB.o.size)⟩
     · have M4:AM.dN q=false:=by simpa using uM
       have HT:Hid (AM.cF l page aj q aJ=([],3)):=by show _=_;simp[AM.cF,hc,jh,M4]
       clear uM
       go_enter Tryz.func143,Tryz.ntmps143
       go_wp2_with fail
       refine(dx l v _ h hf).mono ?_
       rintro e w1 ⟨rfl,hb1⟩
       rw[hc]
       clear hc
       go_wp2_with fail
       refine(b9 _ _ _ hp hn).mono ?_
       rintro e w' ⟨rfl,rfl⟩
       go_wp2_with fail
       refine(dK _ _).mono ?_
       rintro e w' ⟨rfl,rfl⟩
       go_wp2
       go_ret2
       exact⟨Nl,by rw[HT.o];rfl,by rw[HT.o];exact Own.nil _ _,hb1⟩
   · have M5:AM.bV page aj=false:=by simpa using jh
     have HT:Hid (AM.cF l page aj q aJ=([],3)):=by show _=_;simp[AM.cF,hc,M5]
     clear jh
     go_enter Tryz.func143,Tryz.ntmps143
     go_wp2_with fail
     refine(dx l v _ h hf).mono ?_
     rintro e w1 ⟨rfl,hb1⟩
     rw[hc]
     clear hc
     go_wp2_with fail
     refine(b9 _ _ _ hp hn).mono ?_
     rintro e w' ⟨rfl,rfl⟩
     go_wp2
     go_ret2
     exact⟨Nl,by rw[HT.o];rfl,by rw[HT.o];exact Own.nil _ _,hb1⟩
 · have HT:Hid (AM.cF l page aj q aJ=([],AM.aD l)):=by show _=_;simp[AM.cF,hc]
   have hc':(AM.aD l != 0)=true:=by simpa using hc
   go_enter Tryz.func143,Tryz.ntmps143
   go_wp2_with fail
   refine(dx l v _ h hf).mono ?_
   rintro e w1 ⟨rfl,hb1⟩
   go_wp2
   go_ret2
   exact⟨Nl,by rw[HT.o];rfl,by rw[HT.o];exact Own.nil _ _,hb1⟩
theorem tP (l:List AM.Ar) (v:Value) (page aj q:Int) (P:Nat) (w:World) (h:Has w v l) (hf:dE l) (hp:-9223372036854775808<=page/\page<=9223372036854775807) (hn:-9223372036854775808<=aj/\aj<=9223372036854775807) (hP:w.cell? (Ad P 0)=some (I q)) :
  Calls Tryz.prog 143 #[v,I page,I aj,I q,.func (.func 208) #[] #[.pointer (some (Ad P 0))]] w fun e w'=>∃r,e=.returned (.tuple #[r,I (AM.cF l page aj q (aM q)).2])/\Own w.heap.size w' r (AM.cF l page aj q (aM q)).1/\Below w.heap.size w w':=by
 by_cases hc:AM.aD l=0
 · by_cases jh:AM.bV page aj=true
   · by_cases uM:AM.dN q=true
     · have HT:Hid (AM.cF l page aj q (aM q)=if AM.bZ (AM.bb l) (aM q) page.toNat aj.toNat=0 then (AM.cP (AM.turned (AM.bb l) (aM q) page (page+aj)),0) else ([],AM.bZ (AM.bb l) (aM q) page.toNat aj.toNat)):=by
        show _=_;simp[AM.cF,hc,jh,uM]
       have hpb:=(AM.dv page aj).1 jh
       obtain⟨Z,hZ⟩:=ex (AM.bK (fun _=>AM.off))
       have hz:=Lu
       rw[<- hZ] at hz
       have tK:Z.size=768:=by rw[hZ];exact AM.cL _
       clear hZ
       go_enter Tryz.func143,Tryz.ntmps143
       go_wp2_with fail
       refine(dx l v _ h hf).mono ?_
       rintro e w1 ⟨rfl,hb1⟩
       rw[hc]
       have HC:Hid (AM.aD l=0):=hc
       clear hc
       go_wp2_with fail
       refine(b9 _ _ _ hp hn).mono ?_
       rintro e w' ⟨rfl,rfl⟩
       go_wp2_with fail
       refine(dK _ _).mono ?_
       rintro e w' ⟨rfl,rfl⟩
       go_wp2_with fail
       refine(qW l v _ (h.below hb1) HC.o).mono ?_
       rintro e w2 ⟨rfl,hb2⟩
       have bW:Hid (Below w.heap.size w w2):=hb1.trans (hb2.mono hb1.size)
       obtain⟨F,hF⟩:=ex (AM.bb l)
       rw[<- hF] at HT ⊢
       obtain⟨C,hC⟩:=ex (AM.bK F)
       have uT:C.size=768:=by rw[hC];exact AM.cL _
       have Ax:Hid (C=AM.bK F):=hC
       rw[<- hC]
       clear hb1 hb2 hF hC jh uM
       have kJ:Hid ((w2.alloc (.cells Z 256)).heap[w2.heap.size]?=some (.cells Z 256 (0,0))):=B.new w2 Z 256
       go_wp2_with (refine wpList_store_row rfl 256 _ _ rfl w2.heap.size C rfl rfl 256 Z kJ.out (by rw[uT];exact js) (by rw[tK,uT]) (by rw[Ax.o];exact AM.lQ _) ?_)
       have Jc:Hid (((w2.alloc (.cells Z 256)).setRow w2.heap.size C).heap[w2.heap.size]?=some (.cells C 256 (0,0))):=setRow_heap _ _ _ _ 256 (0,0) kJ.out
       have fH:Hid (Below w.heap.size w ((w2.alloc (.cells Z 256)).setRow w2.heap.size C)):=below_setRow (bW.o.alloc bW.o.size _) bW.o.size _
       have nS:=bW.o.size
       go_loopw [14] (fun t wr=>∃n:Nat,page<=(n:Int)/\(n:Int)<=page+aj/\t=I n/\(∀k:Nat,page.toNat<=k->k<n->((aM q) (F k)).2=0)/\wr.heap[w2.heap.size]?=some (.cells (AM.bK (AM.turned F (aM q) page n)) 256 (0,0))/\Below w.heap.size w wr) (fun t _=>(page+aj-intOf t).toNat)
       case atStart =>
        refine⟨page.toNat,by omega,by omega,by rw[Int.toNat_of_nonneg (by omega)],fun k h1 h2=>by omega,?_,fH.o⟩
        rw[Int.toNat_of_nonneg (by omega),AM.gL,<- Ax.o]
        exact Jc.o
       case round =>
        obtain⟨n,pZ,Ix,rfl,hno,hA,hb⟩:=hrel
        have HN:Hid (∀k:Nat,page.toNat<=k->k<n->((aM q) (F k)).2=0):=hno
        have HA:Hid (wr.heap[w2.heap.size]?=some (.cells (AM.bK (AM.turned F (aM q) page n)) 256 (0,0))):=hA
        have HB:Hid (Below w.heap.size w wr):=hb
        have QK:w2.heap.size<wr.heap.size:=B.isLt hA
        have hPw:wr.cell? (Ad P 0)=some (I q):=(hb.cell (p:=(Ad P 0)) (World.block_lt_of_cell? w _ hP)).trans hP
        by_cases hin:(n:Int)<page+aj
        · have z0:=B.cell hA (n*3) (AM.fQ _ n (by omega))
          have z1:=B.cell hA (n*3+1) (AM.fP _ n (by omega))
          have z2:=B.cell hA (n*3+2) (AM.fO _ n (by omega))
          rw[AM.kX] at z0 z1 z2
          have xE:(n:Int)<256:=by omega
          clear hno hA hb
          obtain⟨s,hs⟩:=ex (F n)
          rw[<- hs] at z0 z1 z2
          have HS:Hid (s=F n):=hs
          clear hs
          go_wp2_with fail
          refine(A0 s q P _ hPw).mono ?_
          rintro e w3 ⟨rfl,hb3⟩
          have bA:=B.below HA.o hb3 QK
          have y0:=B.cell bA (n*3) (AM.fQ _ n (by omega))
          have y1:=B.cell bA (n*3+1) (AM.fP _ n (by omega))
          have y2:=B.cell bA (n*3+2) (AM.fO _ n (by omega))
          have yf:=B.free bA
          have uy:Hid (w3.heap[w2.heap.size]?=some (.cells (AM.bK (AM.turned F (aM q) page n)) 256 (0,0))):=bA
          have Ay:Hid (Below w.heap.size w w3):=HB.o.trans (hb3.mono HB.o.size)
          have Uo:w2.heap.size<w3.heap.size:=B.isLt bA
          clear bA hb3 z0 z1 z2
          obtain⟨r,hr⟩:=ex ((aM q) s)
          rw[<- hr]
          have HR:Hid (r=(aM q) s):=hr
          clear hr
          unfold Am
          by_cases he:r.2=0
          · have he':(r.2 != 0)=false:=by simp[he]
            have HE:Hid (r.2=0):=he
            clear he
            go_wp2
            go_roundw
            case rel =>
             have kE:=B.set (B.set (B.set uy.o (n*3) (.bool r.1.m)) (n*3+1) (I r.1.p)) (n*3+2) (.bool r.1.z)
             have Tc:=AM.iM F (aM q) page n pZ
             rw[<- HS.o,<- HR.o] at Tc
             rw[AM.nV (AM.turned F (aM q) page n) n r.1 (by omega),Tc] at kE
             refine⟨n+1,by omega,by omega,by go_num,fun k h1 h2=>if e:k=n then by rw[e,<- HS.o,<- HR.o];exact HE.o else HN.o k h1 (by omega),?_,?_⟩
             · rw[show((n+1:Nat):Int)=(n:Int)+1 from by omega]
               exact B.alloc kE _
             · have hb4:=((Ay.o.setCell (p:=(Ad w2.heap.size (n*3))) nS (.bool r.1.m)).setCell (p:=(Ad w2.heap.size (n*3+1))) nS (I r.1.p)).setCell (p:=(Ad w2.heap.size (n*3+2))) nS (.bool r.1.z)
               exact hb4.alloc hb4.size _
            case measure=>simp[intOf];omega
          · have he':(r.2 != 0)=true:=by simpa using he
            have HE:Hid (r.2≠0):=he
            clear he
            have ht:Hid (AM.cF l page aj q (aM q)=([],r.2)):=by
             have mL:AM.bZ F (aM q) page.toNat aj.toNat=r.2:=by
              rw[HR.o,HS.o]
              exact AM.jD F (aM q) _ _ n (by omega) (by omega) HN.o (by rw[<- HS.o,<- HR.o];exact HE.o)
             show _=_
             rw[HT.o,mL,if_neg HE.o]
            go_wp2
            go_ret2
            exact⟨Nl,by rw[ht.out];rfl,by rw[ht.out];exact Own.nil _ _,Ay.o.alloc Ay.o.size _⟩
        · have hend:Hid ((n:Int)=page+aj):=by show _=_;omega
          have ht:Hid (AM.cF l page aj q (aM q)=(AM.cP (AM.turned F (aM q) page n),0)):=by
           have mL:AM.bZ F (aM q) page.toNat aj.toNat=0:=AM.fW F (aM q) _ _ (fun k h1 h2=>HN.o k h1 (by have:=hend.out;omega))
           show _=_
           rw[HT.o,mL,if_pos rfl,hend.out]
          clear hno hA hb
          go_wp2_with (refine wpList_load_row rfl 256 _ rfl w2.heap.size rfl 256 _ (0,0) _ HA.o Tryz.underlying256 rfl (by rw[AM.cL];exact js) ?_)
          refine(rC _ _).mono ?_
          rintro e w4 ⟨r,rfl,hr,hb4⟩
          go_wp2
          go_ret2
          exact⟨r,by rw[ht.out];rfl,by rw[ht.out];exact hr.mono HB.o.size,HB.o.trans (hb4.mono HB.o.size)⟩
     · have M4:AM.dN q=false:=by simpa using uM
       have HT:Hid (AM.cF l page aj q (aM q)=([],3)):=by show _=_;simp[AM.cF,hc,jh,M4]
       clear uM
       go_enter Tryz.func143,Tryz.ntmps143
       go_wp2_with fail
       refine(dx l v _ h hf).mono ?_
       rintro e w1 ⟨rfl,hb1⟩
       rw[hc]
       clear hc
       go_wp2_with fail
       refine(b9 _ _ _ hp hn).mono ?_
       rintro e w' ⟨rfl,rfl⟩
       go_wp2_with fail
       refine(dK _ _).mono ?_
       rintro e w' ⟨rfl,rfl⟩
       go_wp2
       go_ret2
       exact⟨Nl,by rw[HT.o];rfl,by rw[HT.o];exact Own.nil _ _,hb1⟩
   · have M5:AM.bV page aj=false:=by simpa using jh
     have HT:Hid (AM.cF l page aj q (aM q)=([],3)):=by show _=_;simp[AM.cF,hc,M5]
     clear jh
     go_enter Tryz.func143,Tryz.ntmps143
     go_wp2_with fail
     refine(dx l v _ h hf).mono ?_
     rintro e w1 ⟨rfl,hb1⟩
     rw[hc]
     clear hc
     go_wp2_with fail
     refine(b9 _ _ _ hp hn).mono ?_
     rintro e w' ⟨rfl,rfl⟩
     go_wp2
     go_ret2
     exact⟨Nl,by rw[HT.o];rfl,by rw[HT.o];exact Own.nil _ _,hb1⟩
 · have HT:Hid (AM.cF l page aj q (aM q)=([],AM.aD l)):=by show _=_;simp[AM.cF,hc]
   have hc':(AM.aD l != 0)=true:=by simpa using hc
   go_enter Tryz.func143,Tryz.ntmps143
   go_wp2_with fail
   refine(dx l v _ h hf).mono ?_
   rintro e w1 ⟨rfl,hb1⟩
   go_wp2
   go_ret2
   exact⟨Nl,by rw[HT.o];rfl,by rw[HT.o];exact Own.nil _ _,hb1⟩
def dH (l:List AM.Ar) (page aj q:Int):List AM.Ar×Int:=AM.cF l page aj q (bF q)
def bO (l:List AM.Ar) (page aj:Int):List AM.Ar×Int:=AM.cF l page aj 0 aJ
def bc (l:List AM.Ar) (page aj q:Int):List AM.Ar×Int:=AM.cF l page aj q (aM q)
def dF (n:Int):Prop:=-9223372036854775808<=n/\n<=9223372036854775807
theorem Ih (l:List AM.Ar) (v:Value) (page aj q:Int) (w:World) (h:Has w v l) (hf:dE l) (hp:dF page) (hn:dF aj) :
  Calls Tryz.prog 121 #[v,I page,I aj,I q] w fun e w'=>∃r,e=.returned (.tuple #[r,I (dH l page aj q).2])/\Own w.heap.size w' r (dH l page aj q).1/\Below w.heap.size w w':=by
 have hb0:Below w.heap.size w (w.alloc (.cells #[I q] 3)):=(Below.refl _ _).alloc (Nat.le_refl _) _
 have hP:=B.cell (B.new w #[I q] 3) 0 rfl
 have H:=h.below hb0
 have HP:Hid ((w.alloc (.cells #[I q] 3)).cell? (Ad w.heap.size 0)=some (I q)):=hP
 clear hP
 go_enter Tryz.func121,Tryz.ntmps121
 go_wp2_with fail
 refine(AA l v page aj q w.heap.size _ H hf hp hn HP.o).mono ?_
 rintro e w1 ⟨r,rfl,hr,hb1⟩
 go_wp2
 go_ret2
 exact⟨r,rfl,hr.mono hb0.size,hb0.trans (hb1.mono hb0.size)⟩
theorem Jn (l:List AM.Ar) (v:Value) (page aj:Int) (w:World) (h:Has w v l) (hf:dE l) (hp:dF page) (hn:dF aj) :
  Calls Tryz.prog 202 #[v,I page,I aj] w fun e w'=>∃r,e=.returned (.tuple #[r,I (bO l page aj).2])/\Own w.heap.size w' r (bO l page aj).1/\Below w.heap.size w w':=by
 go_enter Tryz.func202,Tryz.ntmps202
 go_wp2_with fail
 refine(wA l v page aj 0 _ h hf hp hn).mono ?_
 rintro e w1 ⟨r,rfl,hr,hb1⟩
 go_wp2
 go_ret2
 exact⟨r,rfl,hr,hb1⟩
theorem C2 (l:List AM.Ar) (v:Value) (page aj q:Int) (w:World) (h:Has w v l) (hf:dE l) (hp:dF page) (hn:dF aj) :
  Calls Tryz.prog 201 #[v,I page,I aj,I q] w fun e w'=>∃r,e=.returned (.tuple #[r,I (bc l page aj q).2])/\Own w.heap.size w' r (bc l page aj q).1/\Below w.heap.size w w':=by
 have hb0:Below w.heap.size w (w.alloc (.cells #[I q] 3)):=(Below.refl _ _).alloc (Nat.le_refl _) _
 have hP:=B.cell (B.new w #[I q] 3) 0 rfl
 have H:=h.below hb0
 have HP:Hid ((w.alloc (.cells #[I q] 3)).cell? (Ad w.heap.size 0)=some (I q)):=hP
 clear hP
 go_enter Tryz.func201,Tryz.ntmps201
 go_wp2_with fail
 refine(tP l v page aj q w.heap.size _ H hf hp hn HP.o).mono ?_
 rintro e w1 ⟨r,rfl,hr,hb1⟩
 go_wp2
 go_ret2
 exact⟨r,rfl,hr.mono hb0.size,hb0.trans (hb1.mono hb0.size)⟩
theorem QP {l:List AM.Ar} (h:∀a∈l,AM.Fits a) (hn:l.length<=140737488351232):dE l:=by
 refine⟨fun i hi=>?_,hn⟩
 have e:AM.at_ l i=l[i]:=by simp[AM.at_,hi]
 rw[e]
 exact h _ (List.getElem_mem hi)
theorem Bt:dE []:=QP (fun a h=>by simp at h) (by simp)
end AW
namespace AM
open Go.RowKit
def look (l:List Ar) (n:Nat):St:=let r:=aP l n;if r.2 then ⟨true,r.1.bE,r.1.zero⟩ else off
def gV (G:List Ar):Ar:=at_ G (G.length-1)
def gG (G:List Ar) (a:Ar):Bool:=bV a.page a.aj&&dN a.bE&&(G.length==0 || fC (gV G) a)
theorem xH (p n q:Int) (z:Bool) (x:Int):hit ⟨p,n,q,z⟩ x=decide (p<=x/\x<p+n):=rfl
theorem sS (a:Ar) (x:Int):hit a x=true↔a.page<=x/\x<a.page+a.aj:=⟨fun h=>of_decide_eq_true h,fun h=>decide_eq_true h⟩
theorem dX (G:List Ar) (a:Ar):gV (G++[a])=a:=by simp[gV,at_]
theorem qJ (G H:List Ar):∀k,k<=G.length->fJ (G++H) k=fJ G k
 | 0,_=>rfl
 | k+1,h=>by
  simp only[fJ,qJ G H k (by omega)]
  congr 1
  unfold ni
  rw[gK G H k (by omega)]
  by_cases e:k=0
  · subst e;rfl
  · rw[gK G H (k-1) (by omega)]
theorem gM (G:List Ar) (a:Ar):good (G++[a])=(good G&&gG G a):=by
 unfold good
 rw[List.length_append]
 show fJ (G++[a]) (G.length+1)=_
 simp only[fJ,qJ G [a] G.length (Nat.le_refl _)]
 congr 1
 unfold ni gG gV
 rw[lW]
 by_cases e:G.length=0
 · simp[e]
 · rw[gK G [a] (G.length-1) (by omega)]
theorem mN:∀(G:List Ar) (a:Ar) (p:Int),aP (G++[a]) p=if (aP G p).2 then aP G p else if hit a p then (a,true) else (nil,false)
 | [],a,p=>by simp[aP]
 | b::r,a,p=>by
  simp only[List.cons_append,aP]
  by_cases h:hit b p=true
  · simp[h]
  · simp[h,mN r a p]
theorem qK:∀(G:List Ar) (p:Int),(aP G p).2=false->aP G p=(nil,false)
 | [],p,_=>rfl
 | b::r,p,h=>by
  simp only[aP] at h ⊢
  by_cases c:hit b p=true
  · simp[c] at h
  · simp only[c] at h ⊢
    exact qK r p h
theorem nj (G:List Ar) (a:Ar) (n:Nat):look (G++[a]) n=if (aP G n).2 then look G n else if hit a n then ⟨true,a.bE,a.zero⟩ else off:=by
 unfold look
 rw[mN]
 by_cases h:(aP G n).2=true
 · simp[h]
 · simp only[h]
   by_cases c:hit a n=true
   · simp[c]
   · simp[c]
theorem iI:∀(m:Nat) (G:List Ar),G.length=m->good G=true->∀p:Int,(aP G p).2=true->1<=p/\p<(gV G).eD
 | 0,G,hm,_,p,h=>by
  have e:G=[]:=List.eq_nil_of_length_eq_zero hm
  subst e;simp[aP] at h
 | m+1,G,hm,hg,p,h=>by
  rcases List.eq_nil_or_concat G with rfl | ⟨H,a,rfl⟩
  · simp at hm
  · rw[List.concat_eq_append] at *
    rw[gM,Bool.and_eq_true] at hg
    obtain⟨hgH,hok⟩:=hg
    rw[dX]
    simp only[gG,Bool.and_eq_true,bV,decide_eq_true_eq] at hok
    obtain⟨⟨hpa,_⟩,hfo⟩:=hok
    rw[mN] at h
    by_cases c:(aP H p).2=true
    · have ih:=iI m H (by simpa using hm) hgH p c
      refine⟨ih.1,?_⟩
      have hne:¬H.length=0:=by
       intro e
       have e':H=[]:=List.eq_nil_of_length_eq_zero e
       subst e';simp[aP] at c
      simp only[beq_iff_eq,Bool.or_eq_true,hne,false_or] at hfo
      have hle:(gV H).eD<=a.page:=by
       unfold fC at hfo
       split at hfo
       · omega
       · simp at hfo;omega
      unfold Ar.eD at *
      omega
    · simp only[c] at h
      by_cases d:hit a p=true
      · simp only[hit,decide_eq_true_eq] at d
        unfold Ar.eD at *
        omega
      · simp[d] at h
structure mV (F:Nat->St):Prop where
 zero:(F 0).m=false
 none:∀n,(F n).m=false->F n=off
 bE:∀n,0<=(F n).p/\(F n).p<=3
theorem KE (H:List Ar) (a:Ar):yi (H++[a])=H++[⟨a.page,a.aj+1,a.bE,a.zero⟩]:=by
 unfold yi
 have e:at_ (H++[a]) ((H++[a]).length-1)=a:=dX H a
 rw[e]
 simp
structure aeo (F:Nat->St) (k:Nat) (G:List Ar):Prop where
 good:good G=true
 look:∀n:Nat,AM.look G n=if n<k then F n else off
 yes:(dV F k).m=true->0<G.length/\(gV G).eD=k/\(gV G).bE=(dV F k).p/\(gV G).zero=(dV F k).z
 no:(dV F k).m=false->G.length=0∨(gV G).eD<k∨k=0
theorem Df (G:List Ar) (n:Nat) (h:AM.look G n=off):(aP G n).2=false:=by
 unfold AM.look at h
 by_cases c:(aP G n).2=true
 · simp only[c,if_true] at h
   have:=congrArg St.m h
   simp[off] at this
 · simpa using c
theorem nU (F:Nat->St) (hF:mV F):∀k,k<=256->aeo F k (aV F k)
 | 0,_=>⟨rfl,fun n=>rfl,fun h=>by simp[dV,off] at h,fun _=>.inl rfl⟩
 | k+1,hk=>by
  have ih:=nU F hF k (by omega)
  obtain⟨G,hG⟩:=ex (aV F k)
  rw[<- hG] at ih
  simp only[aV]
  rw[<- hG]
  by_cases hm:(F k).m=false
  · rw[if_pos hm]
    refine⟨ih.good,fun n=>?_,fun h=>?_,fun _=>?_⟩
    · rw[ih.look n]
      by_cases h1:n<k
      · rw[if_pos h1,if_pos (by omega)]
      · rw[if_neg h1]
        by_cases h2:n<k+1
        · obtain rfl:n=k:=by omega
          rw[if_pos h2,hF.none n hm]
        · rw[if_neg h2]
    · have:(F k).m=true:=h
      rw[hm] at this;cases this
    · by_cases hl:(dV F k).m=true
      · obtain⟨h0,h1,_⟩:=ih.yes hl
        exact .inr (.inl (by rw[h1];omega))
      · rcases ih.no (by simpa using hl) with h | h | h
        · exact .inl h
        · exact .inr (.inl (by omega))
        · subst h
          have:G=[]:=hG
          exact .inl (by rw[this];rfl)
  · have hm':(F k).m=true:=by simpa using hm
    rw[if_neg hm]
    have hk1:1<=k:=by
     by_cases e:k=0
     · subst e;rw[hF.zero] at hm';cases hm'
     · omega
    have oq:=Df G k (by rw[ih.look k,if_neg (by omega)])
    by_cases he:qu (F k) (dV F k)=true
    · rw[if_pos he]
      have hst:=AL _ _ he
      obtain⟨h0,h1,h2,h3⟩:=ih.yes (by rw[<- hst];exact hm')
      rcases List.eq_nil_or_concat G with hnil | ⟨H,a,hH⟩
      · rw[hnil] at h0;simp at h0
      · rw[List.concat_eq_append] at hH
        rw[hH,dX] at h1 h2 h3
        have hg:=ih.good
        rw[hH,gM,Bool.and_eq_true] at hg
        obtain⟨hgH,hok⟩:=hg
        have XT:=hok
        simp only[gG,Bool.and_eq_true,bV,decide_eq_true_eq] at XT
        obtain⟨⟨hpa,oK⟩,hfo⟩:=XT
        rw[hH,KE]
        unfold Ar.eD at h1
        refine⟨?_,fun n=>?_,fun _=>⟨by simp,?_,?_,?_⟩,fun h=>?_⟩
        · rw[gM,hgH,Bool.true_and]
          simp only[gG,Bool.and_eq_true,bV,decide_eq_true_eq]
          exact⟨⟨⟨hpa.1,by omega,by omega⟩,oK⟩,hfo⟩
        · have hl:=ih.look n
          rw[hH] at hl
          rw[nj] at hl ⊢
          by_cases c:(aP H n).2=true
          · rw[if_pos c] at hl ⊢
            rw[hl]
            have hb:=iI _ H rfl hgH n c
            have hle:(n:Int)<a.page+a.aj:=by
             have hne:¬H.length=0:=by
              intro e
              have e':H=[]:=List.eq_nil_of_length_eq_zero e
              subst e';simp[aP] at c
             simp only[beq_iff_eq,Bool.or_eq_true,hne,false_or] at hfo
             have hle:(gV H).eD<=a.page:=by
              unfold fC at hfo
              split at hfo
              · omega
              · simp at hfo;omega
             omega
            rw[if_pos (show n<k by omega),if_pos (show n<k+1 by omega)]
          · rw[if_neg c] at hl ⊢
            by_cases d:n=k
            · subst d
              rw[if_pos (by rw[xH];exact decide_eq_true (by omega)),if_pos (by omega)]
              show St.mk true a.bE a.zero=F n
              rw[h2,h3,<- hst,<- hm']
            · by_cases e:hit a n=true
              · rw[if_pos e] at hl
                have e2:hit ⟨a.page,a.aj+1,a.bE,a.zero⟩ n=true:=by
                 rw[sS] at e;rw[xH];exact decide_eq_true (by omega)
                rw[if_pos e2]
                show St.mk true a.bE a.zero=_
                rw[hl]
                rw[sS] at e
                rw[if_pos (show n<k by omega),if_pos (show n<k+1 by omega)]
              · have e2:¬hit ⟨a.page,a.aj+1,a.bE,a.zero⟩ n=true:=by
                 rw[sS] at e;rw[xH,decide_eq_true_eq];omega
                rw[if_neg e] at hl
                rw[if_neg e2,hl]
                by_cases f:n<k
                · rw[if_pos f,if_pos (by omega)]
                · rw[if_neg f,if_neg (by omega)]
        · rw[dX];show a.page+(a.aj+1)=_;omega
        · rw[dX];show a.bE=(F k).p;rw[h2,hst]
        · rw[dX];show a.zero=(F k).z;rw[h3,hst]
        · have:(F k).m=false:=h
          rw[hm'] at this;cases this
    · have he':qu (F k) (dV F k)=false:=by simpa using he
      rw[if_neg he]
      refine⟨?_,fun n=>?_,fun _=>⟨by simp,?_,?_,?_⟩,fun h=>?_⟩
      · rw[gM,ih.good,Bool.true_and]
        simp only[gG,Bool.and_eq_true,bV,dN,decide_eq_true_eq]
        refine⟨⟨⟨by omega,by omega,by omega⟩,hF.bE k⟩,?_⟩
        by_cases h0:G.length=0
        · simp[h0]
        · simp only[Bool.or_eq_true,beq_iff_eq,h0,false_or]
          by_cases hl:(dV F k).m=true
          · obtain⟨_,h1,h2,h3⟩:=ih.yes hl
            unfold fC
            rw[if_pos h1.symm]
            rcases Hx _ _ he' with q | ⟨_,q⟩ | ⟨_,_,q⟩
            · rw[hm',hl] at q;simp at q
            · simp only[Bool.or_eq_true,bne_iff_ne,h2]
              left
              simpa using q
            · simp only[Bool.or_eq_true,bne_iff_ne,h3]
              right
              simpa using q
          · rcases ih.no (by simpa using hl) with h | h | h
            · exact absurd h h0
            · unfold fC
              rw[if_neg (by show ¬(k:Int)=_;omega)]
              simpa using h
            · omega
      · rw[nj]
        by_cases c:(aP G n).2=true
        · rw[if_pos c,ih.look n]
          by_cases f:n<k
          · rw[if_pos f,if_pos (by omega)]
          · exfalso
            have:=Df G n (by rw[ih.look n,if_neg f])
            rw[c] at this;cases this
        · rw[if_neg c]
          have c':(aP G n).2=false:=by simpa using c
          by_cases d:n=k
          · subst d
            rw[if_pos (by rw[xH];exact decide_eq_true (by omega)),if_pos (by omega)]
            show St.mk true (F n).p (F n).z=F n
            rw[<- hm']
          · rw[if_neg (by rw[xH,decide_eq_true_eq];omega)]
            have hl:=ih.look n
            have e0:AM.look G n=off:=by unfold AM.look;simp[c']
            rw[e0] at hl
            by_cases f:n<k
            · rw[if_pos f] at hl;rw[if_pos (by omega),hl]
            · rw[if_neg (by omega)]
      · rw[dX];show(k:Int)+1=_;omega
      · rw[dX];rfl
      · rw[dX];rfl
      · have:(F k).m=false:=h
        rw[hm'] at this;cases this
theorem uX (F:Nat->St) (hF:mV F):good (cP F)=true:=(nU F hF 256 (Nat.le_refl _)).good
theorem uV (F:Nat->St) (hF:mV F) (n:Nat) (hn:n<256):look (cP F) n=F n:=by
 have:=(nU F hF 256 (Nat.le_refl _)).look n
 rw[if_pos hn] at this
 exact this
theorem mi (l:List Ar):∀(m:Nat) (G:List Ar),G.length=m->good G=true->∀n:Nat,look G n=bh G G.length n
 | 0,G,hm,_,n=>by
  have e:G=[]:=List.eq_nil_of_length_eq_zero hm
  subst e;rfl
 | m+1,G,hm,hg,n=>by
  rcases List.eq_nil_or_concat G with rfl | ⟨H,a,rfl⟩
  · simp at hm
  · rw[List.concat_eq_append] at *
    rw[gM,Bool.and_eq_true] at hg
    have ih:=mi l m H (by simpa using hm) hg.1 n
    have hs:∀k,k<=H.length->bh (H++[a]) k=bh H k:=by
     intro k
     induction k with
     | zero=>intro _;rfl
     | succ k ihk=>intro hk;simp only[bh];rw[ihk (by omega),gK H [a] k (by omega)]
    rw[List.length_append]
    show _=bh (H++[a]) (H.length+1) n
    simp only[bh]
    rw[hs H.length (Nat.le_refl _),lW,nj]
    simp only[gf]
    by_cases c:(aP H n).2=true
    · rw[if_pos c,ih]
      have hb:=iI _ H rfl hg.1 n c
      have hok:=hg.2
      simp only[gG,Bool.and_eq_true] at hok
      have hfo:=hok.2
      have hne:¬H.length=0:=by
       intro e
       have e':H=[]:=List.eq_nil_of_length_eq_zero e
       subst e';simp[aP] at c
      simp only[beq_iff_eq,Bool.or_eq_true,hne,false_or] at hfo
      have hle:(gV H).eD<=a.page:=by
       unfold fC at hfo
       split at hfo
       · omega
       · simp at hfo;omega
      rw[if_neg (by omega)]
    · rw[if_neg c]
      have e0:look H n=off:=by unfold look;simp[show(aP H n).2=false by simpa using c]
      by_cases d:hit a n=true
      · rw[if_pos d,if_pos (by simpa [hit] using d)]
      · rw[if_neg d,if_neg (by simpa [hit] using d),<- ih,e0]
end AM
end Go.Proofs.YtkdigjpejnebkaaGreat
