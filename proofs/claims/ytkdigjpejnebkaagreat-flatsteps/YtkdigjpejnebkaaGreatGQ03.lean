import Derived.Test.YtkdigjpejnebkaaGreatGQ00
import Derived.Test.YtkdigjpejnebkaaGreatGQ01
set_option maxHeartbeats 20000000
set_option linter.unusedVariables false
set_option maxRecDepth 100000
set_option linter.unusedSimpArgs false
namespace Go.Proofs.YtkdigjpejnebkaaGreat
namespace AM
open Go.RowKit
def turned (F:Nat->St) (how:St->St×Int) (page t:Int):Nat->St:=fun k=>if page<=(k:Int)/\(k:Int)<t then (how (F k)).1 else F k
def b6 (F:Nat->St) (how:St->St×Int):Nat->Nat->Int
 | _,0=>0
 | n,c+1=>if (how (F n)).2=0 then b6 F how (n+1) c else (how (F n)).2
def cH (l:List Ar) (page aj bE:Int) (how:St->St×Int):List Ar×Int :=
 if aD l=0 then
  if bW page aj&&dM bE then
   if b6 (aZ l) how page.toNat aj.toNat=0 then (cT (turned (aZ l) how page (page+aj)),0)
   else ([],b6 (aZ l) how page.toNat aj.toNat)
  else ([],3)
 else ([],aD l)
theorem gL (F:Nat->St) (how:St->St×Int) (page:Int):turned F how page page=F:=by
 funext k;simp only[turned];rw[if_neg (by omega)]
theorem lh (F:Nat->St) (how:St->St×Int) (page:Int) (n:Nat):turned F how page n n=F n:=by
 simp only[turned];rw[if_neg (by omega)]
theorem iO (F:Nat->St) (how:St->St×Int) (page:Int) (n:Nat) (h:page<=(n:Int)):upd (turned F how page n) n (how (F n)).1=turned F how page ((n:Int)+1):=by
 funext k
 simp only[upd,turned]
 by_cases e:k=n
 · subst e;rw[if_pos rfl,if_pos ⟨h,by omega⟩]
 · rw[if_neg e]
   by_cases c:page<=(k:Int)/\(k:Int)<n
   · rw[if_pos c,if_pos ⟨c.1,by omega⟩]
   · rw[if_neg c,if_neg (by omega)]
theorem fY (F:Nat->St) (how:St->St×Int):∀(c n:Nat),(∀k,n<=k->k<n+c->(how (F k)).2=0)->b6 F how n c=0
 | 0,_,_=>rfl
 | c+1,n,h=>by
  simp only[b6]
  rw[if_pos (h n (by omega) (by omega))]
  exact fY F how c (n+1) (fun k h1 h2=>h k (by omega) (by omega))
theorem jG (F:Nat->St) (how:St->St×Int):∀(c n m:Nat),n<=m->m<n+c->(∀k,n<=k->k<m->(how (F k)).2=0)->(how (F m)).2≠0->b6 F how n c=(how (F m)).2
 | 0,n,m,h1,h2,_,_=>by omega
 | c+1,n,m,h1,h2,h,hm=>by
  simp only[b6]
  by_cases e:n=m
  · subst e;rw[if_neg hm]
  · rw[if_pos (h n (by omega) (by omega))]
    exact jG F how c (n+1) m (by omega) (by omega) (fun k h1 h2=>h k (by omega) h2) hm
theorem dv (p n:Int):bW p n=true↔1<=p/\1<=n/\n<=256-p:=by simp[bW]
end AM
namespace AW
open Go.RowKit
theorem AE (l:List AM.Ar) (v:Value) (page aj q:Int) (P:Nat) (w:World) (h:Has w v l) (hf:dC l) (hp:-9223372036854775808<=page/\page<=9223372036854775807) (hn:-9223372036854775808<=aj/\aj<=9223372036854775807) (hP:w.cell? (Ad P 0)=some (I q)) :
  Calls Tryz.prog 143 #[v,I page,I aj,I q,.func (.func 144) #[] #[.pointer (some (Ad P 0))]] w fun e w'=>∃r,e=.returned (.tuple #[r,I (AM.cH l page aj q (bF q)).2])/\Own w.heap.size w' r (AM.cH l page aj q (bF q)).1/\Below w.heap.size w w':=by
 by_cases hc:AM.aD l=0
 · by_cases jl:AM.bW page aj=true
   · by_cases uJ:AM.dM q=true
     · have HT:Hid (AM.cH l page aj q (bF q)=if AM.b6 (AM.aZ l) (bF q) page.toNat aj.toNat=0 then (AM.cT (AM.turned (AM.aZ l) (bF q) page (page+aj)),0) else ([],AM.b6 (AM.aZ l) (bF q) page.toNat aj.toNat)):=by
        show _=_;simp[AM.cH,hc,jl,uJ]
       have hpb:=(AM.dv page aj).1 jl
       obtain⟨Z,hZ⟩:=ex (AM.bK (fun _=>AM.off))
       have hz:=LC
       rw[<- hZ] at hz
       have tM:Z.size=768:=by rw[hZ];exact AM.cN _
       clear hZ
       go_enter Tryz.func143,Tryz.ntmps143
       go_wp2_with fail
       refine(dm l v _ h hf).mono ?_
       rintro e w1 ⟨rfl,hb1⟩
       rw[hc]
       have HC:Hid (AM.aD l=0):=hc
       clear hc
       go_wp2_with fail
       refine(ct _ _ _ hp hn).mono ?_
       rintro e w' ⟨rfl,rfl⟩
       go_wp2_with fail
       refine(dI _ _).mono ?_
       rintro e w' ⟨rfl,rfl⟩
       go_wp2_with fail
       refine(qW l v _ (h.below hb1) HC.o).mono ?_
       rintro e w2 ⟨rfl,hb2⟩
       have bY:Hid (Below w.heap.size w w2):=hb1.trans (hb2.mono hb1.size)
       obtain⟨F,hF⟩:=ex (AM.aZ l)
       rw[<- hF] at HT ⊢
       obtain⟨C,hC⟩:=ex (AM.bK F)
       have uQ:C.size=768:=by rw[hC];exact AM.cN _
       have vh:Hid (C=AM.bK F):=hC
       rw[<- hC]
       clear hb1 hb2 hF hC jl uJ
       have l6:Hid ((w2.alloc (.cells Z 256)).heap[w2.heap.size]?=some (.cells Z 256 (0,0))):=B.new w2 Z 256
       go_wp2_with (refine wpList_store_row rfl 256 _ _ rfl w2.heap.size C rfl rfl 256 Z l6.out (by rw[uQ];exact jw) (by rw[tM,uQ]) (by rw[vh.o];exact AM.lQ _) ?_)
       have Jm:Hid (((w2.alloc (.cells Z 256)).setRow w2.heap.size C).heap[w2.heap.size]?=some (.cells C 256 (0,0))):=setRow_heap _ _ _ _ 256 (0,0) l6.out
       have fK:Hid (Below w.heap.size w ((w2.alloc (.cells Z 256)).setRow w2.heap.size C)):=below_setRow (bY.o.alloc bY.o.size _) bY.o.size _
       have nU:=bY.o.size
       go_loopw [14] (fun t wr=>∃n:Nat,page<=(n:Int)/\(n:Int)<=page+aj/\t=I n/\(∀k:Nat,page.toNat<=k->k<n->((bF q) (F k)).2=0)/\wr.heap[w2.heap.size]?=some (.cells (AM.bK (AM.turned F (bF q) page n)) 256 (0,0))/\Below w.heap.size w wr) (fun t _=>(page+aj-intOf t).toNat)
       case atStart =>
        refine⟨page.toNat,by omega,by omega,by rw[Int.toNat_of_nonneg (by omega)],fun k h1 h2=>by omega,?_,fK.o⟩
        rw[Int.toNat_of_nonneg (by omega),AM.gL,<- vh.o]
        exact Jm.o
       case round =>
        obtain⟨n,rZ,Pj,rfl,hno,hA,hb⟩:=hrel
        have HN:Hid (∀k:Nat,page.toNat<=k->k<n->((bF q) (F k)).2=0):=hno
        have HA:Hid (wr.heap[w2.heap.size]?=some (.cells (AM.bK (AM.turned F (bF q) page n)) 256 (0,0))):=hA
        have HB:Hid (Below w.heap.size w wr):=hb
        have QT:w2.heap.size<wr.heap.size:=B.isLt hA
        have hPw:wr.cell? (Ad P 0)=some (I q):=(hb.cell (p:=(Ad P 0)) (World.block_lt_of_cell? w _ hP)).trans hP
        by_cases hin:(n:Int)<page+aj
        · have z0:=B.cell hA (n*3) (AM.fR _ n (by omega))
          have z1:=B.cell hA (n*3+1) (AM.fQ _ n (by omega))
          have z2:=B.cell hA (n*3+2) (AM.fP _ n (by omega))
          rw[AM.lh] at z0 z1 z2
          have xD:(n:Int)<256:=by omega
          clear hno hA hb
          obtain⟨s,hs⟩:=ex (F n)
          rw[<- hs] at z0 z1 z2
          have HS:Hid (s=F n):=hs
          clear hs
          go_wp2_with fail
          refine(MD s q P _ hPw).mono ?_
          rintro e w3 ⟨rfl,hb3⟩
          have bA:=B.below HA.o hb3 QT
          have y0:=B.cell bA (n*3) (AM.fR _ n (by omega))
          have y1:=B.cell bA (n*3+1) (AM.fQ _ n (by omega))
          have y2:=B.cell bA (n*3+2) (AM.fP _ n (by omega))
          have yf:=B.free bA
          have uv:Hid (w3.heap[w2.heap.size]?=some (.cells (AM.bK (AM.turned F (bF q) page n)) 256 (0,0))):=bA
          have Az:Hid (Below w.heap.size w w3):=HB.o.trans (hb3.mono HB.o.size)
          have Ul:w2.heap.size<w3.heap.size:=B.isLt bA
          clear bA hb3 z0 z1 z2
          obtain⟨r,hr⟩:=ex ((bF q) s)
          rw[<- hr]
          have HR:Hid (r=(bF q) s):=hr
          clear hr
          unfold Aq
          by_cases he:r.2=0
          · have he':(r.2 != 0)=false:=by simp[he]
            have HE:Hid (r.2=0):=he
            clear he
            go_wp2
            go_roundw
            case rel =>
             have kG:=B.set (B.set (B.set uv.o (n*3) (.bool r.1.m)) (n*3+1) (I r.1.p)) (n*3+2) (.bool r.1.z)
             have Te:=AM.iO F (bF q) page n rZ
             rw[<- HS.o,<- HR.o] at Te
             rw[AM.nY (AM.turned F (bF q) page n) n r.1 (by omega),Te] at kG
             refine⟨n+1,by omega,by omega,by go_num,fun k h1 h2=>if e:k=n then by rw[e,<- HS.o,<- HR.o];exact HE.o else HN.o k h1 (by omega),?_,?_⟩
             · rw[show((n+1:Nat):Int)=(n:Int)+1 from by omega]
               exact B.alloc kG _
             · have hb4:=((Az.o.setCell (p:=(Ad w2.heap.size (n*3))) nU (.bool r.1.m)).setCell (p:=(Ad w2.heap.size (n*3+1))) nU (I r.1.p)).setCell (p:=(Ad w2.heap.size (n*3+2))) nU (.bool r.1.z)
               exact hb4.alloc hb4.size _
            case measure=>simp[intOf];omega
          · have he':(r.2 != 0)=true:=by simpa using he
            have HE:Hid (r.2≠0):=he
            clear he
            have ht:Hid (AM.cH l page aj q (bF q)=([],r.2)):=by
             have mO:AM.b6 F (bF q) page.toNat aj.toNat=r.2:=by
              rw[HR.o,HS.o]
              exact AM.jG F (bF q) _ _ n (by omega) (by omega) HN.o (by rw[<- HS.o,<- HR.o];exact HE.o)
             show _=_
             rw[HT.o,mO,if_neg HE.o]
            go_wp2
            go_ret2
            exact⟨Nl,by rw[ht.out];rfl,by rw[ht.out];exact Own.nil _ _,Az.o.alloc Az.o.size _⟩
        · have hend:Hid ((n:Int)=page+aj):=by show _=_;omega
          have ht:Hid (AM.cH l page aj q (bF q)=(AM.cT (AM.turned F (bF q) page n),0)):=by
           have mO:AM.b6 F (bF q) page.toNat aj.toNat=0:=AM.fY F (bF q) _ _ (fun k h1 h2=>HN.o k h1 (by have:=hend.out;omega))
           show _=_
           rw[HT.o,mO,if_pos rfl,hend.out]
          clear hno hA hb
          go_wp2_with (refine wpList_load_row rfl 256 _ rfl w2.heap.size rfl 256 _ (0,0) _ HA.o Tryz.underlying256 rfl (by rw[AM.cN];exact jw) ?_)
          refine(rA _ _).mono ?_
          rintro e w4 ⟨r,rfl,hr,hb4⟩
          go_wp2
          go_ret2
          exact⟨r,by rw[ht.out];rfl,by rw[ht.out];exact hr.mono HB.o.size,HB.o.trans (hb4.mono HB.o.size)⟩
     · have MX:AM.dM q=false:=by simpa using uJ
       have HT:Hid (AM.cH l page aj q (bF q)=([],3)):=by show _=_;simp[AM.cH,hc,jl,MX]
       clear uJ
       go_enter Tryz.func143,Tryz.ntmps143
       go_wp2_with fail
       refine(dm l v _ h hf).mono ?_
       rintro e w1 ⟨rfl,hb1⟩
       rw[hc]
       clear hc
       go_wp2_with fail
       refine(ct _ _ _ hp hn).mono ?_
       rintro e w' ⟨rfl,rfl⟩
       go_wp2_with fail
       refine(dI _ _).mono ?_
       rintro e w' ⟨rfl,rfl⟩
       go_wp2
       go_ret2
       exact⟨Nl,by rw[HT.o];rfl,by rw[HT.o];exact Own.nil _ _,hb1⟩
   · have MZ:AM.bW page aj=false:=by simpa using jl
     have HT:Hid (AM.cH l page aj q (bF q)=([],3)):=by show _=_;simp[AM.cH,hc,MZ]
     clear jl
     go_enter Tryz.func143,Tryz.ntmps143
     go_wp2_with fail
     refine(dm l v _ h hf).mono ?_
     rintro e w1 ⟨rfl,hb1⟩
     rw[hc]
     clear hc
     go_wp2_with fail
     refine(ct _ _ _ hp hn).mono ?_
     rintro e w' ⟨rfl,rfl⟩
     go_wp2
     go_ret2
     exact⟨Nl,by rw[HT.o];rfl,by rw[HT.o];exact Own.nil _ _,hb1⟩
 · have HT:Hid (AM.cH l page aj q (bF q)=([],AM.aD l)):=by show _=_;simp[AM.cH,hc]
   have hc':(AM.aD l != 0)=true:=by simpa using hc
   go_enter Tryz.func143,Tryz.ntmps143
   go_wp2_with fail
   refine(dm l v _ h hf).mono ?_
   rintro e w1 ⟨rfl,hb1⟩
   go_wp2
   go_ret2
   exact⟨Nl,by rw[HT.o];rfl,by rw[HT.o];exact Own.nil _ _,hb1⟩
theorem wu (l:List AM.Ar) (v:Value) (page aj q:Int) (w:World) (h:Has w v l) (hf:dC l) (hp:-9223372036854775808<=page/\page<=9223372036854775807) (hn:-9223372036854775808<=aj/\aj<=9223372036854775807) :
  Calls Tryz.prog 143 #[v,I page,I aj,I q,.func (.func 209) #[] #[]] w fun e w'=>∃r,e=.returned (.tuple #[r,I (AM.cH l page aj q aL).2])/\Own w.heap.size w' r (AM.cH l page aj q aL).1/\Below w.heap.size w w':=by
 by_cases hc:AM.aD l=0
 · by_cases jl:AM.bW page aj=true
   · by_cases uJ:AM.dM q=true
     · have HT:Hid (AM.cH l page aj q aL=if AM.b6 (AM.aZ l) aL page.toNat aj.toNat=0 then (AM.cT (AM.turned (AM.aZ l) aL page (page+aj)),0) else ([],AM.b6 (AM.aZ l) aL page.toNat aj.toNat)):=by
        show _=_;simp[AM.cH,hc,jl,uJ]
       have hpb:=(AM.dv page aj).1 jl
       obtain⟨Z,hZ⟩:=ex (AM.bK (fun _=>AM.off))
       have hz:=LC
       rw[<- hZ] at hz
       have tM:Z.size=768:=by rw[hZ];exact AM.cN _
       clear hZ
       go_enter Tryz.func143,Tryz.ntmps143
       go_wp2_with fail
       refine(dm l v _ h hf).mono ?_
       rintro e w1 ⟨rfl,hb1⟩
       rw[hc]
       have HC:Hid (AM.aD l=0):=hc
       clear hc
       go_wp2_with fail
       refine(ct _ _ _ hp hn).mono ?_
       rintro e w' ⟨rfl,rfl⟩
       go_wp2_with fail
       refine(dI _ _).mono ?_
       rintro e w' ⟨rfl,rfl⟩
       go_wp2_with fail
       refine(qW l v _ (h.below hb1) HC.o).mono ?_
       rintro e w2 ⟨rfl,hb2⟩
       have bY:Hid (Below w.heap.size w w2):=hb1.trans (hb2.mono hb1.size)
       obtain⟨F,hF⟩:=ex (AM.aZ l)
       rw[<- hF] at HT ⊢
       obtain⟨C,hC⟩:=ex (AM.bK F)
       have uQ:C.size=768:=by rw[hC];exact AM.cN _
       have vh:Hid (C=AM.bK F):=hC
       rw[<- hC]
       clear hb1 hb2 hF hC jl uJ
       have l6:Hid ((w2.alloc (.cells Z 256)).heap[w2.heap.size]?=some (.cells Z 256 (0,0))):=B.new w2 Z 256
       go_wp2_with (refine wpList_store_row rfl 256 _ _ rfl w2.heap.size C rfl rfl 256 Z l6.out (by rw[uQ];exact jw) (by rw[tM,uQ]) (by rw[vh.o];exact AM.lQ _) ?_)
       have Jm:Hid (((w2.alloc (.cells Z 256)).setRow w2.heap.size C).heap[w2.heap.size]?=some (.cells C 256 (0,0))):=setRow_heap _ _ _ _ 256 (0,0) l6.out
       have fK:Hid (Below w.heap.size w ((w2.alloc (.cells Z 256)).setRow w2.heap.size C)):=below_setRow (bY.o.alloc bY.o.size _) bY.o.size _
       have nU:=bY.o.size
       go_loopw [14] (fun t wr=>∃n:Nat,page<=(n:Int)/\(n:Int)<=page+aj/\t=I n/\(∀k:Nat,page.toNat<=k->k<n->(aL (F k)).2=0)/\wr.heap[w2.heap.size]?=some (.cells (AM.bK (AM.turned F aL page n)) 256 (0,0))/\Below w.heap.size w wr) (fun t _=>(page+aj-intOf t).toNat)
       case atStart =>
        refine⟨page.toNat,by omega,by omega,by rw[Int.toNat_of_nonneg (by omega)],fun k h1 h2=>by omega,?_,fK.o⟩
        rw[Int.toNat_of_nonneg (by omega),AM.gL,<- vh.o]
        exact Jm.o
       case round =>
        obtain⟨n,rZ,Pj,rfl,hno,hA,hb⟩:=hrel
        have HN:Hid (∀k:Nat,page.toNat<=k->k<n->(aL (F k)).2=0):=hno
        have HA:Hid (wr.heap[w2.heap.size]?=some (.cells (AM.bK (AM.turned F aL page n)) 256 (0,0))):=hA
        have HB:Hid (Below w.heap.size w wr):=hb
        have QT:w2.heap.size<wr.heap.size:=B.isLt hA
        by_cases hin:(n:Int)<page+aj
        · have z0:=B.cell hA (n*3) (AM.fR _ n (by omega))
          have z1:=B.cell hA (n*3+1) (AM.fQ _ n (by omega))
          have z2:=B.cell hA (n*3+2) (AM.fP _ n (by omega))
          rw[AM.lh] at z0 z1 z2
          have xD:(n:Int)<256:=by omega
          clear hno hA hb
          obtain⟨s,hs⟩:=ex (F n)
          rw[<- hs] at z0 z1 z2
          have HS:Hid (s=F n):=hs
          clear hs
          go_wp2_with fail
          refine(nI s _).mono ?_
          rintro e w3 ⟨rfl,hb3⟩
          have bA:=B.below HA.o hb3 QT
          have y0:=B.cell bA (n*3) (AM.fR _ n (by omega))
          have y1:=B.cell bA (n*3+1) (AM.fQ _ n (by omega))
          have y2:=B.cell bA (n*3+2) (AM.fP _ n (by omega))
          have yf:=B.free bA
          have uv:Hid (w3.heap[w2.heap.size]?=some (.cells (AM.bK (AM.turned F aL page n)) 256 (0,0))):=bA
          have Az:Hid (Below w.heap.size w w3):=HB.o.trans (hb3.mono HB.o.size)
          have Ul:w2.heap.size<w3.heap.size:=B.isLt bA
          clear bA hb3 z0 z1 z2
          obtain⟨r,hr⟩:=ex (aL s)
          rw[<- hr]
          have HR:Hid (r=aL s):=hr
          clear hr
          unfold Aq
          by_cases he:r.2=0
          · have he':(r.2 != 0)=false:=by simp[he]
            have HE:Hid (r.2=0):=he
            clear he
            go_wp2
            go_roundw
            case rel =>
             have kG:=B.set (B.set (B.set uv.o (n*3) (.bool r.1.m)) (n*3+1) (I r.1.p)) (n*3+2) (.bool r.1.z)
             have Te:=AM.iO F aL page n rZ
             rw[<- HS.o,<- HR.o] at Te
             rw[AM.nY (AM.turned F aL page n) n r.1 (by omega),Te] at kG
             refine⟨n+1,by omega,by omega,by go_num,fun k h1 h2=>if e:k=n then by rw[e,<- HS.o,<- HR.o];exact HE.o else HN.o k h1 (by omega),?_,?_⟩
             · rw[show((n+1:Nat):Int)=(n:Int)+1 from by omega]
               exact B.alloc kG _
             · have hb4:=((Az.o.setCell (p:=(Ad w2.heap.size (n*3))) nU (.bool r.1.m)).setCell (p:=(Ad w2.heap.size (n*3+1))) nU (I r.1.p)).setCell (p:=(Ad w2.heap.size (n*3+2))) nU (.bool r.1.z)
               exact hb4.alloc hb4.size _
            case measure=>simp[intOf];omega
          · have he':(r.2 != 0)=true:=by simpa using he
            have HE:Hid (r.2≠0):=he
            clear he
            have ht:Hid (AM.cH l page aj q aL=([],r.2)):=by
             have mO:AM.b6 F aL page.toNat aj.toNat=r.2:=by
              rw[HR.o,HS.o]
              exact AM.jG F aL _ _ n (by omega) (by omega) HN.o (by rw[<- HS.o,<- HR.o];exact HE.o)
             show _=_
             rw[HT.o,mO,if_neg HE.o]
            go_wp2
            go_ret2
            exact⟨Nl,by rw[ht.out];rfl,by rw[ht.out];exact Own.nil _ _,Az.o.alloc Az.o.size _⟩
        · have hend:Hid ((n:Int)=page+aj):=by show _=_;omega
          have ht:Hid (AM.cH l page aj q aL=(AM.cT (AM.turned F aL page n),0)):=by
           have mO:AM.b6 F aL page.toNat aj.toNat=0:=AM.fY F aL _ _ (fun k h1 h2=>HN.o k h1 (by have:=hend.out;omega))
           show _=_
           rw[HT.o,mO,if_pos rfl,hend.out]
          clear hno hA hb
          go_wp2_with (refine wpList_load_row rfl 256 _ rfl w2.heap.size rfl 256 _ (0,0) _ HA.o Tryz.underlying256 rfl (by rw[AM.cN];exact jw) ?_)
          refine(rA _ _).mono ?_
          rintro e w4 ⟨r,rfl,hr,hb4⟩
          go_wp2
          go_ret2
          exact⟨r,by rw[ht.out];rfl,by rw[ht.out];exact hr.mono HB.o.size,HB.o.trans (hb4.mono HB.o.size)⟩
     · have MX:AM.dM q=false:=by simpa using uJ
       have HT:Hid (AM.cH l page aj q aL=([],3)):=by show _=_;simp[AM.cH,hc,jl,MX]
       clear uJ
       go_enter Tryz.func143,Tryz.ntmps143
       go_wp2_with fail
       refine(dm l v _ h hf).mono ?_
       rintro e w1 ⟨rfl,hb1⟩
       rw[hc]
       clear hc
       go_wp2_with fail
       refine(ct _ _ _ hp hn).mono ?_
       rintro e w' ⟨rfl,rfl⟩
       go_wp2_with fail
       refine(dI _ _).mono ?_
       rintro e w' ⟨rfl,rfl⟩
       go_wp2
       go_ret2
       exact⟨Nl,by rw[HT.o];rfl,by rw[HT.o];exact Own.nil _ _,hb1⟩
   · have MZ:AM.bW page aj=false:=by simpa using jl
     have HT:Hid (AM.cH l page aj q aL=([],3)):=by show _=_;simp[AM.cH,hc,MZ]
     clear jl
     go_enter Tryz.func143,Tryz.ntmps143
     go_wp2_with fail
     refine(dm l v _ h hf).mono ?_
     rintro e w1 ⟨rfl,hb1⟩
     rw[hc]
     clear hc
     go_wp2_with fail
     refine(ct _ _ _ hp hn).mono ?_
     rintro e w' ⟨rfl,rfl⟩
     go_wp2
     go_ret2
     exact⟨Nl,by rw[HT.o];rfl,by rw[HT.o];exact Own.nil _ _,hb1⟩
 · have HT:Hid (AM.cH l page aj q aL=([],AM.aD l)):=by show _=_;simp[AM.cH,hc]
   have hc':(AM.aD l != 0)=true:=by simpa using hc
   go_enter Tryz.func143,Tryz.ntmps143
   go_wp2_with fail
   refine(dm l v _ h hf).mono ?_
   rintro e w1 ⟨rfl,hb1⟩
   go_wp2
   go_ret2
   exact⟨Nl,by rw[HT.o];rfl,by rw[HT.o];exact Own.nil _ _,hb1⟩
theorem tQ (l:List AM.Ar) (v:Value) (page aj q:Int) (P:Nat) (w:World) (h:Has w v l) (hf:dC l) (hp:-9223372036854775808<=page/\page<=9223372036854775807) (hn:-9223372036854775808<=aj/\aj<=9223372036854775807) (hP:w.cell? (Ad P 0)=some (I q)) :
  Calls Tryz.prog 143 #[v,I page,I aj,I q,.func (.func 208) #[] #[.pointer (some (Ad P 0))]] w fun e w'=>∃r,e=.returned (.tuple #[r,I (AM.cH l page aj q (aM q)).2])/\Own w.heap.size w' r (AM.cH l page aj q (aM q)).1/\Below w.heap.size w w':=by
 by_cases hc:AM.aD l=0
 · by_cases jl:AM.bW page aj=true
   · by_cases uJ:AM.dM q=true
     · have HT:Hid (AM.cH l page aj q (aM q)=if AM.b6 (AM.aZ l) (aM q) page.toNat aj.toNat=0 then (AM.cT (AM.turned (AM.aZ l) (aM q) page (page+aj)),0) else ([],AM.b6 (AM.aZ l) (aM q) page.toNat aj.toNat)):=by
        show _=_;simp[AM.cH,hc,jl,uJ]
       have hpb:=(AM.dv page aj).1 jl
       obtain⟨Z,hZ⟩:=ex (AM.bK (fun _=>AM.off))
       have hz:=LC
       rw[<- hZ] at hz
       have tM:Z.size=768:=by rw[hZ];exact AM.cN _
       clear hZ
       go_enter Tryz.func143,Tryz.ntmps143
       go_wp2_with fail
       refine(dm l v _ h hf).mono ?_
       rintro e w1 ⟨rfl,hb1⟩
       rw[hc]
       have HC:Hid (AM.aD l=0):=hc
       clear hc
       go_wp2_with fail
       refine(ct _ _ _ hp hn).mono ?_
       rintro e w' ⟨rfl,rfl⟩
       go_wp2_with fail
       refine(dI _ _).mono ?_
       rintro e w' ⟨rfl,rfl⟩
       go_wp2_with fail
       refine(qW l v _ (h.below hb1) HC.o).mono ?_
       rintro e w2 ⟨rfl,hb2⟩
       have bY:Hid (Below w.heap.size w w2):=hb1.trans (hb2.mono hb1.size)
       obtain⟨F,hF⟩:=ex (AM.aZ l)
       rw[<- hF] at HT ⊢
       obtain⟨C,hC⟩:=ex (AM.bK F)
       have uQ:C.size=768:=by rw[hC];exact AM.cN _
       have vh:Hid (C=AM.bK F):=hC
       rw[<- hC]
       clear hb1 hb2 hF hC jl uJ
       have l6:Hid ((w2.alloc (.cells Z 256)).heap[w2.heap.size]?=some (.cells Z 256 (0,0))):=B.new w2 Z 256
       go_wp2_with (refine wpList_store_row rfl 256 _ _ rfl w2.heap.size C rfl rfl 256 Z l6.out (by rw[uQ];exact jw) (by rw[tM,uQ]) (by rw[vh.o];exact AM.lQ _) ?_)
       have Jm:Hid (((w2.alloc (.cells Z 256)).setRow w2.heap.size C).heap[w2.heap.size]?=some (.cells C 256 (0,0))):=setRow_heap _ _ _ _ 256 (0,0) l6.out
       have fK:Hid (Below w.heap.size w ((w2.alloc (.cells Z 256)).setRow w2.heap.size C)):=below_setRow (bY.o.alloc bY.o.size _) bY.o.size _
       have nU:=bY.o.size
       go_loopw [14] (fun t wr=>∃n:Nat,page<=(n:Int)/\(n:Int)<=page+aj/\t=I n/\(∀k:Nat,page.toNat<=k->k<n->((aM q) (F k)).2=0)/\wr.heap[w2.heap.size]?=some (.cells (AM.bK (AM.turned F (aM q) page n)) 256 (0,0))/\Below w.heap.size w wr) (fun t _=>(page+aj-intOf t).toNat)
       case atStart =>
        refine⟨page.toNat,by omega,by omega,by rw[Int.toNat_of_nonneg (by omega)],fun k h1 h2=>by omega,?_,fK.o⟩
        rw[Int.toNat_of_nonneg (by omega),AM.gL,<- vh.o]
        exact Jm.o
       case round =>
        obtain⟨n,rZ,Pj,rfl,hno,hA,hb⟩:=hrel
        have HN:Hid (∀k:Nat,page.toNat<=k->k<n->((aM q) (F k)).2=0):=hno
        have HA:Hid (wr.heap[w2.heap.size]?=some (.cells (AM.bK (AM.turned F (aM q) page n)) 256 (0,0))):=hA
        have HB:Hid (Below w.heap.size w wr):=hb
        have QT:w2.heap.size<wr.heap.size:=B.isLt hA
        have hPw:wr.cell? (Ad P 0)=some (I q):=(hb.cell (p:=(Ad P 0)) (World.block_lt_of_cell? w _ hP)).trans hP
        by_cases hin:(n:Int)<page+aj
        · have z0:=B.cell hA (n*3) (AM.fR _ n (by omega))
          have z1:=B.cell hA (n*3+1) (AM.fQ _ n (by omega))
          have z2:=B.cell hA (n*3+2) (AM.fP _ n (by omega))
          rw[AM.lh] at z0 z1 z2
          have xD:(n:Int)<256:=by omega
          clear hno hA hb
          obtain⟨s,hs⟩:=ex (F n)
          rw[<- hs] at z0 z1 z2
          have HS:Hid (s=F n):=hs
          clear hs
          go_wp2_with fail
          refine(A2 s q P _ hPw).mono ?_
          rintro e w3 ⟨rfl,hb3⟩
          have bA:=B.below HA.o hb3 QT
          have y0:=B.cell bA (n*3) (AM.fR _ n (by omega))
          have y1:=B.cell bA (n*3+1) (AM.fQ _ n (by omega))
          have y2:=B.cell bA (n*3+2) (AM.fP _ n (by omega))
          have yf:=B.free bA
          have uv:Hid (w3.heap[w2.heap.size]?=some (.cells (AM.bK (AM.turned F (aM q) page n)) 256 (0,0))):=bA
          have Az:Hid (Below w.heap.size w w3):=HB.o.trans (hb3.mono HB.o.size)
          have Ul:w2.heap.size<w3.heap.size:=B.isLt bA
          clear bA hb3 z0 z1 z2
          obtain⟨r,hr⟩:=ex ((aM q) s)
          rw[<- hr]
          have HR:Hid (r=(aM q) s):=hr
          clear hr
          unfold Aq
          by_cases he:r.2=0
          · have he':(r.2 != 0)=false:=by simp[he]
            have HE:Hid (r.2=0):=he
            clear he
            go_wp2
            go_roundw
            case rel =>
             have kG:=B.set (B.set (B.set uv.o (n*3) (.bool r.1.m)) (n*3+1) (I r.1.p)) (n*3+2) (.bool r.1.z)
             have Te:=AM.iO F (aM q) page n rZ
             rw[<- HS.o,<- HR.o] at Te
             rw[AM.nY (AM.turned F (aM q) page n) n r.1 (by omega),Te] at kG
             refine⟨n+1,by omega,by omega,by go_num,fun k h1 h2=>if e:k=n then by rw[e,<- HS.o,<- HR.o];exact HE.o else HN.o k h1 (by omega),?_,?_⟩
             · rw[show((n+1:Nat):Int)=(n:Int)+1 from by omega]
               exact B.alloc kG _
             · have hb4:=((Az.o.setCell (p:=(Ad w2.heap.size (n*3))) nU (.bool r.1.m)).setCell (p:=(Ad w2.heap.size (n*3+1))) nU (I r.1.p)).setCell (p:=(Ad w2.heap.size (n*3+2))) nU (.bool r.1.z)
               exact hb4.alloc hb4.size _
            case measure=>simp[intOf];omega
          · have he':(r.2 != 0)=true:=by simpa using he
            have HE:Hid (r.2≠0):=he
            clear he
            have ht:Hid (AM.cH l page aj q (aM q)=([],r.2)):=by
             have mO:AM.b6 F (aM q) page.toNat aj.toNat=r.2:=by
              rw[HR.o,HS.o]
              exact AM.jG F (aM q) _ _ n (by omega) (by omega) HN.o (by rw[<- HS.o,<- HR.o];exact HE.o)
             show _=_
             rw[HT.o,mO,if_neg HE.o]
            go_wp2
            go_ret2
            exact⟨Nl,by rw[ht.out];rfl,by rw[ht.out];exact Own.nil _ _,Az.o.alloc Az.o.size _⟩
        · have hend:Hid ((n:Int)=page+aj):=by show _=_;omega
          have ht:Hid (AM.cH l page aj q (aM q)=(AM.cT (AM.turned F (aM q) page n),0)):=by
           have mO:AM.b6 F (aM q) page.toNat aj.toNat=0:=AM.fY F (aM q) _ _ (fun k h1 h2=>HN.o k h1 (by have:=hend.out;omega))
           show _=_
           rw[HT.o,mO,if_pos rfl,hend.out]
          clear hno hA hb
          go_wp2_with (refine wpList_load_row rfl 256 _ rfl w2.heap.size rfl 256 _ (0,0) _ HA.o Tryz.underlying256 rfl (by rw[AM.cN];exact jw) ?_)
          refine(rA _ _).mono ?_
          rintro e w4 ⟨r,rfl,hr,hb4⟩
          go_wp2
          go_ret2
          exact⟨r,by rw[ht.out];rfl,by rw[ht.out];exact hr.mono HB.o.size,HB.o.trans (hb4.mono HB.o.size)⟩
     · have MX:AM.dM q=false:=by simpa using uJ
       have HT:Hid (AM.cH l page aj q (aM q)=([],3)):=by show _=_;simp[AM.cH,hc,jl,MX]
       clear uJ
       go_enter Tryz.func143,Tryz.ntmps143
       go_wp2_with fail
       refine(dm l v _ h hf).mono ?_
       rintro e w1 ⟨rfl,hb1⟩
       rw[hc]
       clear hc
       go_wp2_with fail
       refine(ct _ _ _ hp hn).mono ?_
       rintro e w' ⟨rfl,rfl⟩
       go_wp2_with fail
       refine(dI _ _).mono ?_
       rintro e w' ⟨rfl,rfl⟩
       go_wp2
       go_ret2
       exact⟨Nl,by rw[HT.o];rfl,by rw[HT.o];exact Own.nil _ _,hb1⟩
   · have MZ:AM.bW page aj=false:=by simpa using jl
     have HT:Hid (AM.cH l page aj q (aM q)=([],3)):=by show _=_;simp[AM.cH,hc,MZ]
     clear jl
     go_enter Tryz.func143,Tryz.ntmps143
     go_wp2_with fail
     refine(dm l v _ h hf).mono ?_
     rintro e w1 ⟨rfl,hb1⟩
     rw[hc]
     clear hc
     go_wp2_with fail
     refine(ct _ _ _ hp hn).mono ?_
     rintro e w' ⟨rfl,rfl⟩
     go_wp2
     go_ret2
     exact⟨Nl,by rw[HT.o];rfl,by rw[HT.o];exact Own.nil _ _,hb1⟩
 · have HT:Hid (AM.cH l page aj q (aM q)=([],AM.aD l)):=by show _=_;simp[AM.cH,hc]
   have hc':(AM.aD l != 0)=true:=by simpa using hc
   go_enter Tryz.func143,Tryz.ntmps143
   go_wp2_with fail
   refine(dm l v _ h hf).mono ?_
   rintro e w1 ⟨rfl,hb1⟩
   go_wp2
   go_ret2
   exact⟨Nl,by rw[HT.o];rfl,by rw[HT.o];exact Own.nil _ _,hb1⟩
def dF (l:List AM.Ar) (page aj q:Int):List AM.Ar×Int:=AM.cH l page aj q (bF q)
def bP (l:List AM.Ar) (page aj:Int):List AM.Ar×Int:=AM.cH l page aj 0 aL
def bg (l:List AM.Ar) (page aj q:Int):List AM.Ar×Int:=AM.cH l page aj q (aM q)
def dD (n:Int):Prop:=-9223372036854775808<=n/\n<=9223372036854775807
theorem Il (l:List AM.Ar) (v:Value) (page aj q:Int) (w:World) (h:Has w v l) (hf:dC l) (hp:dD page) (hn:dD aj) :
  Calls Tryz.prog 121 #[v,I page,I aj,I q] w fun e w'=>∃r,e=.returned (.tuple #[r,I (dF l page aj q).2])/\Own w.heap.size w' r (dF l page aj q).1/\Below w.heap.size w w':=by
 have hb0:Below w.heap.size w (w.alloc (.cells #[I q] 3)):=(Below.refl _ _).alloc (Nat.le_refl _) _
 have hP:=B.cell (B.new w #[I q] 3) 0 rfl
 have H:=h.below hb0
 have HP:Hid ((w.alloc (.cells #[I q] 3)).cell? (Ad w.heap.size 0)=some (I q)):=hP
 clear hP
 go_enter Tryz.func121,Tryz.ntmps121
 go_wp2_with fail
 refine(AE l v page aj q w.heap.size _ H hf hp hn HP.o).mono ?_
 rintro e w1 ⟨r,rfl,hr,hb1⟩
 go_wp2
 go_ret2
 exact⟨r,rfl,hr.mono hb0.size,hb0.trans (hb1.mono hb0.size)⟩
theorem Jw (l:List AM.Ar) (v:Value) (page aj:Int) (w:World) (h:Has w v l) (hf:dC l) (hp:dD page) (hn:dD aj) :
  Calls Tryz.prog 202 #[v,I page,I aj] w fun e w'=>∃r,e=.returned (.tuple #[r,I (bP l page aj).2])/\Own w.heap.size w' r (bP l page aj).1/\Below w.heap.size w w':=by
 go_enter Tryz.func202,Tryz.ntmps202
 go_wp2_with fail
 refine(wu l v page aj 0 _ h hf hp hn).mono ?_
 rintro e w1 ⟨r,rfl,hr,hb1⟩
 go_wp2
 go_ret2
 exact⟨r,rfl,hr,hb1⟩
theorem C5 (l:List AM.Ar) (v:Value) (page aj q:Int) (w:World) (h:Has w v l) (hf:dC l) (hp:dD page) (hn:dD aj) :
  Calls Tryz.prog 201 #[v,I page,I aj,I q] w fun e w'=>∃r,e=.returned (.tuple #[r,I (bg l page aj q).2])/\Own w.heap.size w' r (bg l page aj q).1/\Below w.heap.size w w':=by
 have hb0:Below w.heap.size w (w.alloc (.cells #[I q] 3)):=(Below.refl _ _).alloc (Nat.le_refl _) _
 have hP:=B.cell (B.new w #[I q] 3) 0 rfl
 have H:=h.below hb0
 have HP:Hid ((w.alloc (.cells #[I q] 3)).cell? (Ad w.heap.size 0)=some (I q)):=hP
 clear hP
 go_enter Tryz.func201,Tryz.ntmps201
 go_wp2_with fail
 refine(tQ l v page aj q w.heap.size _ H hf hp hn HP.o).mono ?_
 rintro e w1 ⟨r,rfl,hr,hb1⟩
 go_wp2
 go_ret2
 exact⟨r,rfl,hr.mono hb0.size,hb0.trans (hb1.mono hb0.size)⟩
theorem QY {l:List AM.Ar} (h:∀a∈l,AM.Fits a) (hn:l.length<=140737488351232):dC l:=by
 refine⟨fun i hi=>?_,hn⟩
 have e:AM.at_ l i=l[i]:=by simp[AM.at_,hi]
 rw[e]
 exact h _ (List.getElem_mem hi)
theorem Bx:dC []:=QY (fun a h=>by simp at h) (by simp)
end AW
namespace AM
open Go.RowKit
def look (l:List Ar) (n:Nat):St:=let r:=aP l n;if r.2 then ⟨true,r.1.bE,r.1.zero⟩ else off
def gV (G:List Ar):Ar:=at_ G (G.length-1)
def gF (G:List Ar) (a:Ar):Bool:=bW a.page a.aj&&dM a.bE&&(G.length==0 || fA (gV G) a)
theorem xG (p n q:Int) (z:Bool) (x:Int):hit ⟨p,n,q,z⟩ x=decide (p<=x/\x<p+n):=rfl
theorem sW (a:Ar) (x:Int):hit a x=true↔a.page<=x/\x<a.page+a.aj:=⟨fun h=>of_decide_eq_true h,fun h=>decide_eq_true h⟩
theorem dY (G:List Ar) (a:Ar):gV (G++[a])=a:=by simp[gV,at_]
theorem qK (G H:List Ar):∀k,k<=G.length->fI (G++H) k=fI G k
 | 0,_=>rfl
 | k+1,h=>by
  simp only[fI,qK G H k (by omega)]
  congr 1
  unfold nj
  rw[gJ G H k (by omega)]
  by_cases e:k=0
  · subst e;rfl
  · rw[gJ G H (k-1) (by omega)]
theorem gN (G:List Ar) (a:Ar):good (G++[a])=(good G&&gF G a):=by
 unfold good
 rw[List.length_append]
 show fI (G++[a]) (G.length+1)=_
 simp only[fI,qK G [a] G.length (Nat.le_refl _)]
 congr 1
 unfold nj gF gV
 rw[lV]
 by_cases e:G.length=0
 · simp[e]
 · rw[gJ G [a] (G.length-1) (by omega)]
theorem mQ:∀(G:List Ar) (a:Ar) (p:Int),aP (G++[a]) p=if (aP G p).2 then aP G p else if hit a p then (a,true) else (nil,false)
 | [],a,p=>by simp[aP]
 | b::r,a,p=>by
  simp only[List.cons_append,aP]
  by_cases h:hit b p=true
  · simp[h]
  · simp[h,mQ r a p]
theorem qL:∀(G:List Ar) (p:Int),(aP G p).2=false->aP G p=(nil,false)
 | [],p,_=>rfl
 | b::r,p,h=>by
  simp only[aP] at h ⊢
  by_cases c:hit b p=true
  · simp[c] at h
  · simp only[c] at h ⊢
    exact qL r p h
theorem nk (G:List Ar) (a:Ar) (n:Nat):look (G++[a]) n=if (aP G n).2 then look G n else if hit a n then ⟨true,a.bE,a.zero⟩ else off:=by
 unfold look
 rw[mQ]
 by_cases h:(aP G n).2=true
 · simp[h]
 · simp only[h]
   by_cases c:hit a n=true
   · simp[c]
   · simp[c]
theorem iK:∀(m:Nat) (G:List Ar),G.length=m->good G=true->∀p:Int,(aP G p).2=true->1<=p/\p<(gV G).eB
 | 0,G,hm,_,p,h=>by
  have e:G=[]:=List.eq_nil_of_length_eq_zero hm
  subst e;simp[aP] at h
 | m+1,G,hm,hg,p,h=>by
  rcases List.eq_nil_or_concat G with rfl | ⟨H,a,rfl⟩
  · simp at hm
  · rw[List.concat_eq_append] at *
    rw[gN,Bool.and_eq_true] at hg
    obtain⟨hgH,hok⟩:=hg
    rw[dY]
    simp only[gF,Bool.and_eq_true,bW,decide_eq_true_eq] at hok
    obtain⟨⟨hpa,_⟩,hfo⟩:=hok
    rw[mQ] at h
    by_cases c:(aP H p).2=true
    · have ih:=iK m H (by simpa using hm) hgH p c
      refine⟨ih.1,?_⟩
      have hne:¬H.length=0:=by
       intro e
       have e':H=[]:=List.eq_nil_of_length_eq_zero e
       subst e';simp[aP] at c
      simp only[beq_iff_eq,Bool.or_eq_true,hne,false_or] at hfo
      have hle:(gV H).eB<=a.page:=by
       unfold fA at hfo
       split at hfo
       · omega
       · simp at hfo;omega
      unfold Ar.eB at *
      omega
    · simp only[c] at h
      by_cases d:hit a p=true
      · simp only[hit,decide_eq_true_eq] at d
        unfold Ar.eB at *
        omega
      · simp[d] at h
structure mW (F:Nat->St):Prop where
 zero:(F 0).m=false
 none:∀n,(F n).m=false->F n=off
 bE:∀n,0<=(F n).p/\(F n).p<=3
theorem KO (H:List Ar) (a:Ar):ye (H++[a])=H++[⟨a.page,a.aj+1,a.bE,a.zero⟩]:=by
 unfold ye
 have e:at_ (H++[a]) ((H++[a]).length-1)=a:=dY H a
 rw[e]
 simp
structure ad4 (F:Nat->St) (k:Nat) (G:List Ar):Prop where
 good:good G=true
 look:∀n:Nat,AM.look G n=if n<k then F n else off
 yes:(dW F k).m=true->0<G.length/\(gV G).eB=k/\(gV G).bE=(dW F k).p/\(gV G).zero=(dW F k).z
 no:(dW F k).m=false->G.length=0∨(gV G).eB<k∨k=0
theorem Di (G:List Ar) (n:Nat) (h:AM.look G n=off):(aP G n).2=false:=by
 unfold AM.look at h
 by_cases c:(aP G n).2=true
 · simp only[c,if_true] at h
   have:=congrArg St.m h
   simp[off] at this
 · simpa using c
theorem nX (F:Nat->St) (hF:mW F):∀k,k<=256->ad4 F k (aV F k)
 | 0,_=>⟨rfl,fun n=>rfl,fun h=>by simp[dW,off] at h,fun _=>.inl rfl⟩
 | k+1,hk=>by
  have ih:=nX F hF k (by omega)
  obtain⟨G,hG⟩:=ex (aV F k)
  rw[<- hG] at ih
  simp only[aV]
  rw[<- hG]
  by_cases hm:(F k).m=false
  · rw[if_pos hm]
    refine⟨ih.good,fun n=>?_,fun h=>?_,fun _=>?_⟩
    · rw[ih.look n]
      by_cases h1:n<k
      · rw[if_pos h1,if_pos (by omega)]
      · rw[if_neg h1]
        by_cases h2:n<k+1
        · obtain rfl:n=k:=by omega
          rw[if_pos h2,hF.none n hm]
        · rw[if_neg h2]
    · have:(F k).m=true:=h
      rw[hm] at this;cases this
    · by_cases hl:(dW F k).m=true
      · obtain⟨h0,h1,_⟩:=ih.yes hl
        exact .inr (.inl (by rw[h1];omega))
      · rcases ih.no (by simpa using hl) with h | h | h
        · exact .inl h
        · exact .inr (.inl (by omega))
        · subst h
          have:G=[]:=hG
          exact .inl (by rw[this];rfl)
  · have hm':(F k).m=true:=by simpa using hm
    rw[if_neg hm]
    have hk1:1<=k:=by
     by_cases e:k=0
     · subst e;rw[hF.zero] at hm';cases hm'
     · omega
    have oD:=Di G k (by rw[ih.look k,if_neg (by omega)])
    by_cases he:qu (F k) (dW F k)=true
    · rw[if_pos he]
      have hst:=AO _ _ he
      obtain⟨h0,h1,h2,h3⟩:=ih.yes (by rw[<- hst];exact hm')
      rcases List.eq_nil_or_concat G with hnil | ⟨H,a,hH⟩
      · rw[hnil] at h0;simp at h0
      · rw[List.concat_eq_append] at hH
        rw[hH,dY] at h1 h2 h3
        have hg:=ih.good
        rw[hH,gN,Bool.and_eq_true] at hg
        obtain⟨hgH,hok⟩:=hg
        have XJ:=hok
        simp only[gF,Bool.and_eq_true,bW,decide_eq_true_eq] at XJ
        obtain⟨⟨hpa,oM⟩,hfo⟩:=XJ
        rw[hH,KO]
        unfold Ar.eB at h1
        refine⟨?_,fun n=>?_,fun _=>⟨by simp,?_,?_,?_⟩,fun h=>?_⟩
        · rw[gN,hgH,Bool.true_and]
          simp only[gF,Bool.and_eq_true,bW,decide_eq_true_eq]
          exact⟨⟨⟨hpa.1,by omega,by omega⟩,oM⟩,hfo⟩
        · have hl:=ih.look n
          rw[hH] at hl
          rw[nk] at hl ⊢
          by_cases c:(aP H n).2=true
          · rw[if_pos c] at hl ⊢
            rw[hl]
            have hb:=iK _ H rfl hgH n c
            have hle:(n:Int)<a.page+a.aj:=by
             have hne:¬H.length=0:=by
              intro e
              have e':H=[]:=List.eq_nil_of_length_eq_zero e
              subst e';simp[aP] at c
             simp only[beq_iff_eq,Bool.or_eq_true,hne,false_or] at hfo
             have hle:(gV H).eB<=a.page:=by
              unfold fA at hfo
              split at hfo
              · omega
              · simp at hfo;omega
             omega
            rw[if_pos (show n<k by omega),if_pos (show n<k+1 by omega)]
          · rw[if_neg c] at hl ⊢
            by_cases d:n=k
            · subst d
              rw[if_pos (by rw[xG];exact decide_eq_true (by omega)),if_pos (by omega)]
              show St.mk true a.bE a.zero=F n
              rw[h2,h3,<- hst,<- hm']
            · by_cases e:hit a n=true
              · rw[if_pos e] at hl
                have e2:hit ⟨a.page,a.aj+1,a.bE,a.zero⟩ n=true:=by
                 rw[sW] at e;rw[xG];exact decide_eq_true (by omega)
                rw[if_pos e2]
                show St.mk true a.bE a.zero=_
                rw[hl]
                rw[sW] at e
                rw[if_pos (show n<k by omega),if_pos (show n<k+1 by omega)]
              · have e2:¬hit ⟨a.page,a.aj+1,a.bE,a.zero⟩ n=true:=by
                 rw[sW] at e;rw[xG,decide_eq_true_eq];omega
                rw[if_neg e] at hl
                rw[if_neg e2,hl]
                by_cases f:n<k
                · rw[if_pos f,if_pos (by omega)]
                · rw[if_neg f,if_neg (by omega)]
        · rw[dY];show a.page+(a.aj+1)=_;omega
        · rw[dY];show a.bE=(F k).p;rw[h2,hst]
        · rw[dY];show a.zero=(F k).z;rw[h3,hst]
        · have:(F k).m=false:=h
          rw[hm'] at this;cases this
    · have he':qu (F k) (dW F k)=false:=by simpa using he
      rw[if_neg he]
      refine⟨?_,fun n=>?_,fun _=>⟨by simp,?_,?_,?_⟩,fun h=>?_⟩
      · rw[gN,ih.good,Bool.true_and]
        simp only[gF,Bool.and_eq_true,bW,dM,decide_eq_true_eq]
        refine⟨⟨⟨by omega,by omega,by omega⟩,hF.bE k⟩,?_⟩
        by_cases h0:G.length=0
        · simp[h0]
        · simp only[Bool.or_eq_true,beq_iff_eq,h0,false_or]
          by_cases hl:(dW F k).m=true
          · obtain⟨_,h1,h2,h3⟩:=ih.yes hl
            unfold fA
            rw[if_pos h1.symm]
            rcases Ia _ _ he' with q | ⟨_,q⟩ | ⟨_,_,q⟩
            · rw[hm',hl] at q;simp at q
            · simp only[Bool.or_eq_true,bne_iff_ne,h2]
              left
              simpa using q
            · simp only[Bool.or_eq_true,bne_iff_ne,h3]
              right
              simpa using q
          · rcases ih.no (by simpa using hl) with h | h | h
            · exact absurd h h0
            · unfold fA
              rw[if_neg (by show ¬(k:Int)=_;omega)]
              simpa using h
            · omega
      · rw[nk]
        by_cases c:(aP G n).2=true
        · rw[if_pos c,ih.look n]
          by_cases f:n<k
          · rw[if_pos f,if_pos (by omega)]
          · exfalso
            have:=Di G n (by rw[ih.look n,if_neg f])
            rw[c] at this;cases this
        · rw[if_neg c]
          have c':(aP G n).2=false:=by simpa using c
          by_cases d:n=k
          · subst d
            rw[if_pos (by rw[xG];exact decide_eq_true (by omega)),if_pos (by omega)]
            show St.mk true (F n).p (F n).z=F n
            rw[<- hm']
          · rw[if_neg (by rw[xG,decide_eq_true_eq];omega)]
            have hl:=ih.look n
            have e0:AM.look G n=off:=by unfold AM.look;simp[c']
            rw[e0] at hl
            by_cases f:n<k
            · rw[if_pos f] at hl;rw[if_pos (by omega),hl]
            · rw[if_neg (by omega)]
      · rw[dY];show(k:Int)+1=_;omega
      · rw[dY];rfl
      · rw[dY];rfl
      · have:(F k).m=false:=h
        rw[hm'] at this;cases this
theorem uU (F:Nat->St) (hF:mW F):good (cT F)=true:=(nX F hF 256 (Nat.le_refl _)).good
theorem uS (F:Nat->St) (hF:mW F) (n:Nat) (hn:n<256):look (cT F) n=F n:=by
 have:=(nX F hF 256 (Nat.le_refl _)).look n
 rw[if_pos hn] at this
 exact this
theorem mq (l:List Ar):∀(m:Nat) (G:List Ar),G.length=m->good G=true->∀n:Nat,look G n=bj G G.length n
 | 0,G,hm,_,n=>by
  have e:G=[]:=List.eq_nil_of_length_eq_zero hm
  subst e;rfl
 | m+1,G,hm,hg,n=>by
  rcases List.eq_nil_or_concat G with rfl | ⟨H,a,rfl⟩
  · simp at hm
  · rw[List.concat_eq_append] at *
    rw[gN,Bool.and_eq_true] at hg
    have ih:=mq l m H (by simpa using hm) hg.1 n
    have hs:∀k,k<=H.length->bj (H++[a]) k=bj H k:=by
     intro k
     induction k with
     | zero=>intro _;rfl
     | succ k ihk=>intro hk;simp only[bj];rw[ihk (by omega),gJ H [a] k (by omega)]
    rw[List.length_append]
    show _=bj (H++[a]) (H.length+1) n
    simp only[bj]
    rw[hs H.length (Nat.le_refl _),lV,nk]
    simp only[gj]
    by_cases c:(aP H n).2=true
    · rw[if_pos c,ih]
      have hb:=iK _ H rfl hg.1 n c
      have hok:=hg.2
      simp only[gF,Bool.and_eq_true] at hok
      have hfo:=hok.2
      have hne:¬H.length=0:=by
       intro e
       have e':H=[]:=List.eq_nil_of_length_eq_zero e
       subst e';simp[aP] at c
      simp only[beq_iff_eq,Bool.or_eq_true,hne,false_or] at hfo
      have hle:(gV H).eB<=a.page:=by
       unfold fA at hfo
       split at hfo
       · omega
       · simp at hfo;omega
      rw[if_neg (by omega)]
    · rw[if_neg c]
      have e0:look H n=off:=by unfold look;simp[show(aP H n).2=false by simpa using c]
      by_cases d:hit a n=true
      · rw[if_pos d,if_pos (by simpa [hit] using d)]
      · rw[if_neg d,if_neg (by simpa [hit] using d),<- ih,e0]
end AM
end Go.Proofs.YtkdigjpejnebkaaGreat
