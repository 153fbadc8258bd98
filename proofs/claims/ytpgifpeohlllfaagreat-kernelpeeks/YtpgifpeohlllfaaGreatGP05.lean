import Derived.Test.YtpgifpeohlllfaaGreatGP00
import Derived.WalkKit
import Derived.Below
import Derived.Test.YtpgifpeohlllfaaGreatGP04
import Derived.Deep.WholeRow
import Derived.Laws.CopyOwn
import Derived.Deep.AppendLies
import Derived.Test.YtpgifpeohlllfaaGreatGP01
import Derived.Lib.Hide
import Derived.WalkSpells
import Derived.Deep.CutBlock
import Derived.Deep.DeepCutAuto
import Derived.Test.YtpgifpeohlllfaaGreatProg
import Derived.WalkLawsBesides
set_option maxHeartbeats 20000000
set_option linter.unusedVariables false
set_option maxRecDepth 100000
set_option linter.unusedSimpArgs false
namespace Go.Proofs.YtpgifpeohlllfaaGreat
namespace B
open Go.RowKit
theorem below {w w':World} {b N:Nat} {o:Obj} (h:w.heap[b]?=some o) (hb:Below N w w') (hlt:b<N):w'.heap[b]?=some o:=(hb.block b hlt).trans h
theorem isLt {w:World} {b:Nat} {o:Obj} (h:w.heap[b]?=some o):b<w.heap.size:=(Array.getElem?_eq_some_iff.1 h).1
theorem alloc {w:World} {b:Nat} {o:Obj} (h:w.heap[b]?=some o) (o':Obj):(w.alloc o').heap[b]?=some o:=(Below.heap_alloc w o' b (isLt h)).trans h
theorem cell {w:World} {b:Nat} {C:Array Value} {t:TypeId} {fr:Nat×Nat} (h:w.heap[b]?=some (.cells C t fr)) (j:Nat) {v:Value} (hj:C[j]?=some v):w.cell? (Ad b j)=some v:=(cell_of_row w b j C t fr h).trans hj
theorem free {w:World} {b:Nat} {C:Array Value} {t:TypeId} (h:w.heap[b]?=some (.cells C t (0,0))) (j:Nat):w.frozen? (Ad b j)=false:=frozen_of_row w b j C t h
theorem other {w:World} {b:Nat} {o:Obj} (h:w.heap[b]?=some o) (g j:Nat) (v:Value) (hne:b≠g):(w.setCell (Ad g j) v).heap[b]?=some o:=(heap_setCell_other w (Ad g j) b v hne).trans h
theorem set {w:World} {b:Nat} {C:Array Value} {t:TypeId} (h:w.heap[b]?=some (.cells C t (0,0))) (j:Nat) (v:Value):(w.setCell (Ad b j) v).heap[b]?=some (.cells (C.setIfInBounds j v) t (0,0)):=heap_setCell_same w b j C t v h
theorem new (w:World) (C:Array Value) (t:TypeId):(w.alloc (.cells C t)).heap[w.heap.size]?=some (.cells C t (0,0)):=heap_alloc_new w _
theorem news {w:World} {b:Nat} {C:Array Value} {t:TypeId} {fr:Nat×Nat} (h:w.heap[b]?=some (.cells C t fr)):∀j u,C.toList[j]?=some u->w.cell? (((Ad b 0):Addr).add j)=some u:=fun j u hj=>by
 rw[Addr.add_lit,Nat.zero_add]
 exact cell h j (by simpa using hj)
theorem grown {w w':World} {b:Nat} {o:Obj} {row:Option Nat} (h:w.heap[b]?=some o) (hg:w.grownBy w' row) (hne:some b≠row):w'.heap[b]?=some o:=(hg.block b (isLt h) hne).trans h
theorem c2 {w:World} {b:Nat} {a0 a1:Value} {t:TypeId} (h:w.heap[b]?=some (.cells #[a0,a1] t (0,0))):w.cell? (Ad b 0)=some a0/\w.cell? (Ad b 1)=some a1:=⟨cell h 0 rfl,cell h 1 rfl⟩
theorem c3 {w:World} {b:Nat} {a0 a1 a2:Value} {t:TypeId} (h:w.heap[b]?=some (.cells #[a0,a1,a2] t (0,0))):w.cell? (Ad b 0)=some a0/\w.cell? (Ad b 1)=some a1/\w.cell? (Ad b 2)=some a2:=⟨cell h 0 rfl,cell h 1 rfl,cell h 2 rfl⟩
theorem c4 {w:World} {b:Nat} {a0 a1 a2 a3:Value} {t:TypeId} (h:w.heap[b]?=some (.cells #[a0,a1,a2,a3] t (0,0))):w.cell? (Ad b 0)=some a0/\w.cell? (Ad b 1)=some a1/\w.cell? (Ad b 2)=some a2/\w.cell? (Ad b 3)=some a3:=⟨cell h 0 rfl,cell h 1 rfl,cell h 2 rfl,cell h 3 rfl⟩
theorem c5 {w:World} {b:Nat} {a0 a1 a2 a3 a4:Value} {t:TypeId} (h:w.heap[b]?=some (.cells #[a0,a1,a2,a3,a4] t (0,0))):w.cell? (Ad b 0)=some a0/\w.cell? (Ad b 1)=some a1/\w.cell? (Ad b 2)=some a2/\w.cell? (Ad b 3)=some a3/\w.cell? (Ad b 4)=some a4:=⟨cell h 0 rfl,cell h 1 rfl,cell h 2 rfl,cell h 3 rfl,cell h 4 rfl⟩
end B
namespace AW
open Go.RowKit
def cellsOf (a:AM.Ar):Array Value:=#[I a.page,I a.aB,I a.bJ,.bool a.zero]
theorem Jo (l:List AM.Ar) (b off cap:Nat) (p:Int) (w:World) (hl:AM.zP w b off l) (hf:∀i,i<l.length->AM.Fits (AM.at_ l i)) (hn:l.length<=140737488351232) :
  Calls Tryz.prog 70 #[.slice (some (Ad b off)) l.length cap,I p] w fun e w'=>e=.returned (.tuple #[.agg (cellsOf (AM.aK l p).1),.bool (AM.aK l p).2])/\Below w.heap.size w w':=by
 have hbz:Below w.heap.size w (w.alloc (.cells #[I 0,I 0,I 0,.bool false] 47)):=(Below.refl _ _).alloc (Nat.le_refl _) _
 by_cases hc:AM.aO l=0
 · have hlen:=AM.gm l hc
   have HC:Hid (AM.aK l p=AM.aN l p):=by show _=_;simp[AM.aK,hc]
   have HK:Hid (AM.aO l=0):=hc
   go_enter Tryz.func70,Tryz.ntmps70
   go_wp2_with fail
   refine(lQ l b off cap _ (hl.below hbz) hf hn).mono ?_
   rintro e w1 ⟨rfl,hb1⟩
   rw[hc]
   clear hc
   go_wp2
   go_loopw [14] (fun i wr=>∃k:Nat,k<=l.length/\i=I k/\(∀j,j<k->AM.hit (AM.at_ l j) p=false)/\Below (w.heap.size+1) (w.alloc (.cells #[I 0,I 0,I 0,.bool false] 47)) wr) (fun i _=>l.length-(intOf i).toNat)
   case atStart=>exact⟨0,by omega,rfl,fun j hj=>by omega,hb1.mono (by simp)⟩
   case round =>
    obtain⟨k,hk,rfl,hno,hb⟩:=hrel
    have HN:Hid (∀j,j<k->AM.hit (AM.at_ l j) p=false):=hno
    have eW:Hid (Below w.heap.size w wr):=hbz.trans (hb.mono (Nat.le_succ _))
    have hsz:w.heap.size+1<=wr.heap.size:=by have:=hb.size;simpa using this
    have hlr:=hl.below eW.out
    have hR:wr.heap[w.heap.size]?=some (.cells #[I 0,I 0,I 0,.bool false] 47 (0,0)):=B.below (B.new w _ _) hb (Nat.lt_succ_self _)
    have HR:Hid (wr.heap[w.heap.size]?=some (.cells #[I 0,I 0,I 0,.bool false] 47 (0,0))):=hR
    have HB:Hid (Below (w.heap.size+1) (w.alloc (.cells #[I 0,I 0,I 0,.bool false] 47)) wr):=hb
    clear hR hb
    clear hno hb1
    by_cases hlt:k<l.length
    · obtain⟨c0,c1,c2,c3⟩:=hlr k hlt
      have hbk:=AM.cM l k (AM.cH l HK.o k hlt)
      obtain⟨a,ha⟩:=ex (AM.at_ l k)
      rw[<- ha] at c0 c1 c2 c3 hbk
      have HA:Hid (a=AM.at_ l k):=ha
      clear ha
      by_cases h1:a.page<=p
      · by_cases h2:p<a.page+a.aB
        · have hres:Hid (AM.aK l p=(a,true)):=by
           show _=_
           rw[HC.o,AM.jd l p k hlt HN.o (by rw[<- HA.o];simp[AM.hit,AM.Ar.dN,h1,h2]),<- HA.o]
          go_wp2_with fail
          refine(iQ _ _ _ _ _ (by omega) (by omega)).mono ?_
          rintro e w2 ⟨rfl,hb2⟩
          have Bx:=B.below (B.new wr #[I a.page,I a.aB,I a.bJ,.bool a.zero] 47) hb2 (by simp)
          have A3:=B.below (B.alloc HR.o _) hb2 (by simp;omega)
          have s0:=B.cell Bx 0 rfl
          have s1:=B.cell Bx 1 rfl
          have s2:=B.cell Bx 2 rfl
          have s3:=B.cell Bx 3 rfl
          have t0:=B.cell A3 0 rfl
          have t1:=B.cell A3 1 rfl
          have t2:=B.cell A3 2 rfl
          have t3:=B.cell A3 3 rfl
          have u0:=B.free A3
          have Mq:Hid (Below w.heap.size w w2):=(eW.out.alloc eW.out.size _).trans (hb2.mono (by simp;omega))
          have CS:wr.heap.size+1<=w2.heap.size:=by have:=hb2.size;simpa using this
          clear hb2 Bx A3
          go_wp2
          exact bodyPost_ret (v:=.tuple #[.agg #[I a.page,I a.aB,I a.bJ,.bool a.zero],.bool true]) (by simp[results,Tryz.results70,go_sem,t0,t1,t2,t3]) rfl ⟨by rw[hres.out];rfl,(((Mq.out.setCell (Nat.le_refl _) _).setCell (Nat.le_refl _) _).setCell (Nat.le_refl _) _).setCell (Nat.le_refl _) _⟩
        · have od:Hid (AM.hit (AM.at_ l k) p=false):=by show _=_;rw[<- HA.o];unfold AM.hit AM.Ar.dN;exact decide_eq_false (by omega)
          go_wp2_with fail
          refine(iQ _ _ _ _ _ (by omega) (by omega)).mono ?_
          rintro e w2 ⟨rfl,hb2⟩
          have Mq:Hid (Below (w.heap.size+1) (w.alloc (.cells #[I 0,I 0,I 0,.bool false] 47)) w2):=(HB.o.alloc (by omega) _).trans (hb2.mono (by simp;omega))
          clear hb2
          go_wp2
          go_roundw
          case rel=>exact⟨k+1,by omega,by go_num,fun j hj=>if e:j=k then by rw[e];exact od.out else HN.o j (by omega),Mq.out⟩
          case measure=>simp[intOf];omega
      · have od:Hid (AM.hit (AM.at_ l k) p=false):=by show _=_;rw[<- HA.o];unfold AM.hit AM.Ar.dN;exact decide_eq_false (by omega)
        have d1:decide (a.page<=p)=false:=by simp;omega
        go_wp2
        go_roundw
        case rel=>exact⟨k+1,by omega,by go_num,fun j hj=>if e:j=k then by rw[e];exact od.out else HN.o j (by omega),HB.o.alloc (by omega) _⟩
        case measure=>simp[intOf];omega
    · obtain rfl:k=l.length:=by omega
      have hres:Hid (AM.aK l p=(AM.nil,false)):=by show _=_;rw[HC.o,AM.iH l p HN.o]
      have t0:=B.cell HR.o 0 rfl
      have t1:=B.cell HR.o 1 rfl
      have t2:=B.cell HR.o 2 rfl
      have t3:=B.cell HR.o 3 rfl
      have u0:=B.free HR.o
      go_wp2
      exact bodyPost_ret (v:=.tuple #[.agg #[I 0,I 0,I 0,.bool false],.bool false]) (by simp[results,Tryz.results70,go_sem,t0,t1,t2,t3]) rfl ⟨by rw[hres.out];rfl,(((eW.out.setCell (Nat.le_refl _) _).setCell (Nat.le_refl _) _).setCell (Nat.le_refl _) _).setCell (Nat.le_refl _) _⟩
 · have HC:Hid (AM.aK l p=(AM.nil,false)):=by show _=_;simp[AM.aK,hc]
   have hc':(AM.aO l != 0)=true:=by simpa using hc
   go_enter Tryz.func70,Tryz.ntmps70
   go_wp2_with fail
   refine(lQ l b off cap _ (hl.below hbz) hf hn).mono ?_
   rintro e w1 ⟨rfl,hb1⟩
   have sH:=B.below (B.new w #[I 0,I 0,I 0,.bool false] 47) hb1 (by simp)
   have t0:=B.cell sH 0 rfl
   have t1:=B.cell sH 1 rfl
   have t2:=B.cell sH 2 rfl
   have t3:=B.cell sH 3 rfl
   have u0:=B.free sH
   clear sH
   go_wp2
   exact bodyPost_ret (v:=.tuple #[.agg #[I 0,I 0,I 0,.bool false],.bool false]) (by simp[results,Tryz.results70,go_sem,t0,t1,t2,t3]) rfl ⟨by rw[HC.o];rfl,((((hbz.trans (hb1.mono (by simp))).setCell (Nat.le_refl _) _).setCell (Nat.le_refl _) _).setCell (Nat.le_refl _) _).setCell (Nat.le_refl _) _⟩
theorem MI (ao:Option Addr) (cap:Nat) (p:Int) (w:World) :
  Calls Tryz.prog 70 #[.slice ao 0 cap,I p] w fun e w'=>e=.returned (.tuple #[.agg (cellsOf (AM.aK [] p).1),.bool (AM.aK [] p).2])/\Below w.heap.size w w':=by
 have hbz:Below w.heap.size w (w.alloc (.cells #[I 0,I 0,I 0,.bool false] 47)):=(Below.refl _ _).alloc (Nat.le_refl _) _
 have e2:AM.aO []=0:=by decide
 go_enter Tryz.func70,Tryz.ntmps70
 go_wp2_with fail
 refine(tJ ao cap _).mono ?_
 rintro e w1 ⟨rfl,hb1⟩
 rw[e2]
 have sH:=B.below (B.new w #[I 0,I 0,I 0,.bool false] 47) hb1 (by simp)
 have t0:=B.cell sH 0 rfl
 have t1:=B.cell sH 1 rfl
 have t2:=B.cell sH 2 rfl
 have t3:=B.cell sH 3 rfl
 have u0:=B.free sH
 clear sH
 go_wp2
 refine wp_loop_rounds 1 ?_
 rw[rounds_succ]
 go_wp2
 exact bodyPost_ret (v:=.tuple #[.agg #[I 0,I 0,I 0,.bool false],.bool false]) (by simp[results,Tryz.results70,go_sem,t0,t1,t2,t3]) rfl ⟨rfl,((((hbz.trans (hb1.mono (by simp))).setCell (Nat.le_refl _) _).setCell (Nat.le_refl _) _).setCell (Nat.le_refl _) _).setCell (Nat.le_refl _) _⟩
theorem Ko:(Tryz.prog.info? 215).map (fun i=>(i.zero,i.size))=some (some (.agg (AM.cB (fun _=>AM.off))),768):=by kernel_rfl
theorem nD:(Tryz.prog.info? 215).map (·.size)=some 768:=(zero_of_info Ko).2
theorem RP (w:World):(zeroValue 215).run Tryz.prog w=.ok (.agg (AM.cB (fun _=>AM.off))) w:=(zero_of_info Ko).1 w
theorem B6 (l:List AM.Ar) (b off cap:Nat) (w:World) (hl:AM.zP w b off l) (hc:AM.aO l=0) :
  Calls Tryz.prog 156 #[.slice (some (Ad b off)) l.length cap] w fun e w'=>e=.returned (.agg (AM.cB (AM.cm l)))/\Below w.heap.size w w':=by
 have hlen:=AM.gm l hc
 have HK:Hid (AM.aO l=0):=hc
 clear hc
 obtain⟨Z,hZ⟩:=ex (AM.cB (fun _=>AM.off))
 have hz:=RP
 rw[<- hZ] at hz
 have HZ:Hid (Z=AM.cB (fun _=>AM.off)):=hZ
 clear hZ
 go_enter Tryz.func156,Tryz.ntmps156
 go_wp2
 go_loopw [9] (fun i wr=>∃k:Nat,k<=l.length/\i=I k/\wr.heap[w.heap.size]?=some (.cells Z 215 (0,0))/\wr.heap[w.heap.size+1]?=some (.cells (AM.cB (AM.bg l k)) 215 (0,0))/\Below w.heap.size w wr) (fun i _=>l.length-(intOf i).toNat)
 case atStart =>
  refine⟨0,by omega,rfl,B.alloc (B.new w Z 215) _,?_,((Below.refl _ _).alloc (Nat.le_refl _) _).alloc (by simp) _⟩
  show _=some (Obj.cells (AM.cB (fun _=>AM.off)) 215 (0,0))
  rw[<- HZ.o]
  have:=B.new (w.alloc (.cells Z 215)) Z 215
  simpa using this
 case round =>
  obtain⟨k,hk,rfl,hR,hA,hb⟩:=hrel
  have HR:Hid (wr.heap[w.heap.size]?=some (.cells Z 215 (0,0))):=hR
  have HA:Hid (wr.heap[w.heap.size+1]?=some (.cells (AM.cB (AM.bg l k)) 215 (0,0))):=hA
  have HB:Hid (Below w.heap.size w wr):=hb
  have hsz:w.heap.size+2<=wr.heap.size:=B.isLt hA
  by_cases hlt:k<l.length
  · obtain⟨c0,c1,c2,c3⟩:=hl.below hb k hlt
    have hbk:=AM.cM l k (AM.cH l HK.o k hlt)
    obtain⟨a,ha⟩:=ex (AM.at_ l k)
    rw[<- ha] at c0 c1 c2 c3 hbk
    have YD:Hid (a=AM.at_ l k):=ha
    clear ha hR hA hb
    obtain⟨wo,hwo⟩:∃wo:World,wo=wr:=⟨_,rfl⟩
    subst hwo
    have VG:(k:Int)<(l.length:Int):=by omega
    go_wp2
    go_loopw [6] (fun t wi=>∃n:Nat,a.page<=(n:Int)/\(n:Int)<=a.page+a.aB/\t=I n/\wi.heap[w.heap.size]?=some (.cells Z 215 (0,0))/\wi.heap[w.heap.size+1]?=some (.cells (AM.cB (AM.gj (AM.bg l k) a n)) 215 (0,0))/\wi.heap[wo.heap.size]?=some (.cells #[I a.page,I a.aB,I a.bJ,.bool a.zero] 47 (0,0))/\Below w.heap.size w wi) (fun t _=>(a.page+a.aB-intOf t).toNat)
    case atStart =>
     refine⟨a.page.toNat,by omega,by omega,by rw[Int.toNat_of_nonneg (by omega)],B.alloc HR.o _,?_,B.new _ _ _,HB.o.alloc HB.o.size _⟩
     rw[Int.toNat_of_nonneg (by omega),AM.ue]
     exact B.alloc HA.o _
    case round =>
     obtain⟨n,NM,qK,rfl,iR,iA,iX,ib⟩:=hrel
     have IR:Hid (wr.heap[w.heap.size]?=some (.cells Z 215 (0,0))):=iR
     have IA:Hid (wr.heap[w.heap.size+1]?=some (.cells (AM.cB (AM.gj (AM.bg l k) a n)) 215 (0,0))):=iA
     have IB:Hid (Below w.heap.size w wr):=ib
     have x0:=B.cell iX 0 rfl
     have x1:=B.cell iX 1 rfl
     have x2:=B.cell iX 2 rfl
     have x3:=B.cell iX 3 rfl
     have IX:Hid (wr.heap[wo.heap.size]?=some (.cells #[I a.page,I a.aB,I a.bJ,.bool a.zero] 47 (0,0))):=iX
     have hxs:wo.heap.size<wr.heap.size:=B.isLt iX
     clear iR iA iX ib
     by_cases hin:(n:Int)<a.page+a.aB
     · go_wp2_with fail
       refine(iQ _ _ _ _ _ (by omega) (by omega)).mono ?_
       rintro e w2 ⟨rfl,hb2⟩
       have jR:=B.below IR.o hb2 (by omega)
       have jA:=B.below IA.o hb2 (by omega)
       have jX:=B.below IX.o hb2 hxs
       have y0:=B.cell jX 0 rfl
       have y1:=B.cell jX 1 rfl
       have y2:=B.cell jX 2 rfl
       have y3:=B.cell jX 3 rfl
       have z0:=B.cell jA (n*3) (AM.mG _ n (by omega))
       have z1:=B.cell jA (n*3+1) (AM.mF _ n (by omega))
       have z2:=B.cell jA (n*3+2) (AM.mE _ n (by omega))
       have zf:=B.free jA
       have JR:Hid (w2.heap[w.heap.size]?=some (.cells Z 215 (0,0))):=jR
       have JA:Hid (w2.heap[w.heap.size+1]?=some (.cells (AM.cB (AM.gj (AM.bg l k) a n)) 215 (0,0))):=jA
       have JX:Hid (w2.heap[wo.heap.size]?=some (.cells #[I a.page,I a.aB,I a.bJ,.bool a.zero] 47 (0,0))):=jX
       have JB:Hid (Below w.heap.size w w2):=IB.o.trans (hb2.mono IB.o.size)
       clear jR jA jX hb2 x0 x1 x2 x3
       have QY:(n:Int)<256:=by omega
       go_wp2
       go_roundw
       case rel =>
        refine⟨n+1,by omega,by omega,by go_num,B.other (B.other (B.other JR.o _ _ _ (by omega)) _ _ _ (by omega)) _ _ _ (by omega),?_,B.other (B.other (B.other JX.o _ _ _ (by omega)) _ _ _ (by omega)) _ _ _ (by omega),((JB.o.setCell (by simp) _).setCell (by simp) _).setCell (by simp) _⟩
        have h:=B.set (B.set (B.set JA.o (n*3) (.bool true)) (n*3+1) (I a.bJ)) (n*3+2) (.bool a.zero)
        rw[AM.xJ (AM.gj (AM.bg l k) a n) n ⟨true,a.bJ,a.zero⟩ (by omega),AM.wW _ _ _ NM] at h
        rw[show((n+1:Nat):Int)=(n:Int)+1 from by omega]
        exact h
       case measure=>simp[intOf];omega
     · have hend:(n:Int)=a.page+a.aB:=by omega
       have HE:Hid ((n:Int)=a.page+a.aB):=hend
       clear hend
       go_wp2_with fail
       refine(iQ _ _ _ _ _ (by omega) (by omega)).mono ?_
       rintro e w2 ⟨rfl,hb2⟩
       have JR:Hid (w2.heap[w.heap.size]?=some (.cells Z 215 (0,0))):=B.below IR.o hb2 (by omega)
       have JA:Hid (w2.heap[w.heap.size+1]?=some (.cells (AM.cB (AM.gj (AM.bg l k) a n)) 215 (0,0))):=B.below IA.o hb2 (by omega)
       have JB:Hid (Below w.heap.size w w2):=IB.o.trans (hb2.mono IB.o.size)
       clear hb2 x0 x1 x2 x3
       go_wp2
       go_roundw
       case rel =>
        refine⟨k+1,by omega,by go_num,JR.o,?_,JB.o⟩
        have h:=JA.o
        rw[HE.o] at h
        show _=some (Obj.cells (AM.cB (AM.gj (AM.bg l k) (AM.at_ l k) (AM.at_ l k).dN)) 215 (0,0))
        rw[<- YD.o]
        exact h
       case measure=>simp[intOf];omega
  · obtain rfl:k=l.length:=by omega
    have Bw:Z.size=768:=by rw[HZ.o];exact AM.ed _
    clear hR hA hb
    go_wp2_with (first | (refine wpList_load_row rfl 215 _ rfl (w.heap.size+1) rfl 215 _ (0,0) _ HA.o Tryz.underlying215 rfl (by rw[AM.ed];exact nD) ?_) | (refine wpList_store_row rfl 215 _ _ rfl w.heap.size _ rfl rfl 215 Z HR.o (by rw[AM.ed];exact nD) (by rw[Bw,AM.ed]) (AM.qP _) ?_))
    exact bodyPost_ret (v:=.agg (AM.cB (AM.bg l l.length))) (results_cell_row rfl _ _ w.heap.size 215 _ (0,0) _ rfl (setRow_heap _ _ _ _ 215 (0,0) HR.o) Tryz.underlying215 rfl (by rw[AM.ed];exact nD)) rfl ⟨rfl,below_setRow HB.o (Nat.le_refl _) _⟩
theorem Eg (ao:Option Addr) (cap:Nat) (w:World) :
  Calls Tryz.prog 156 #[.slice ao 0 cap] w fun e w'=>e=.returned (.agg (AM.cB (AM.cm [])))/\Below w.heap.size w w':=by
 obtain⟨Z,hZ⟩:=ex (AM.cB (fun _=>AM.off))
 have hz:=RP
 rw[<- hZ] at hz
 have Bw:Z.size=768:=by rw[hZ];exact AM.ed _
 have HZ:Hid (Z=AM.cB (fun _=>AM.off)):=hZ
 clear hZ
 have HR:Hid (((w.alloc (.cells Z 215)).alloc (.cells Z 215)).heap[w.heap.size]?=some (.cells Z 215 (0,0))):=B.alloc (B.new w Z 215) _
 have HA:Hid (((w.alloc (.cells Z 215)).alloc (.cells Z 215)).heap[w.heap.size+1]?=some (.cells Z 215 (0,0))):=by
  have:=B.new (w.alloc (.cells Z 215)) Z 215
  show _=_
  simpa using this
 go_enter Tryz.func156,Tryz.ntmps156
 go_wp2
 refine wp_loop_rounds 1 ?_
 rw[rounds_succ]
 go_wp2_with (first | (refine wpList_load_row rfl 215 _ rfl (w.heap.size+1) rfl 215 _ (0,0) _ HA.o Tryz.underlying215 rfl (by rw[Bw];exact nD) ?_) | (refine wpList_store_row rfl 215 _ _ rfl w.heap.size _ rfl rfl 215 Z HR.o (by rw[Bw];exact nD) rfl (by rw[HZ.o];exact AM.qP _) ?_))
 exact bodyPost_ret (v:=.agg Z) (results_cell_row rfl _ _ w.heap.size 215 _ (0,0) _ rfl (setRow_heap _ _ _ _ 215 (0,0) HR.o) Tryz.underlying215 rfl (by rw[Bw];exact nD)) rfl ⟨by rw[HZ.o];rfl,below_setRow (((Below.refl _ _).alloc (Nat.le_refl _) _).alloc (by simp) _) (Nat.le_refl _) _⟩
theorem O6 (F:Nat->AM.St) (k:Nat) (hk:k<256) (w:World):(Instr.index 215 (.agg (AM.cB F)) (I k)).run Tryz.prog w=.ok (.agg #[.bool (F k).m,I (F k).p,.bool (F k).z]) w:=by
 have h1:(k:Int)<256:=by omega
 simp[Instr.index,run_underlying Tryz.underlying215,go_sem]
 rw[if_pos hk,AM.Dq F k hk]
theorem LZ:(Tryz.prog.info? 47).map (fun i=>(i.zero,i.size,i.bytes))=some (some (.agg #[I 0,I 0,I 0,.bool false]),4,32):=by kernel_rfl
def Has (w:World) (v:Value) (l:List AM.Ar):Prop:=∃ao cap,v=.slice ao l.length cap/\(l=[]∨∃b off,ao=some (Ad b off)/\AM.zP w b off l)
theorem xq {w wx:World} {v:Value} {n:Nat} {xs:List Value} {C:Array Value} (hC:C.size=3) (hown:wx.ownsRow (w.heap.size+2) 47 4 v n xs) (hl:wx.heap[w.heap.size+1]?=some (.cells C 173 (0,0))) (hb:Below w.heap.size w wx) (x y z:Value) :
  (((wx.setCell (Ad (w.heap.size+1) 0) x).setCell (Ad (w.heap.size+1) 1) y).setCell (Ad (w.heap.size+1) 2) z).ownsRow (w.heap.size+2) 47 4 v n xs /\
  (((wx.setCell (Ad (w.heap.size+1) 0) x).setCell (Ad (w.heap.size+1) 1) y).setCell (Ad (w.heap.size+1) 2) z).heap[w.heap.size+1]?=some (.cells #[x,y,z] 173 (0,0)) /\
  Below w.heap.size w (((wx.setCell (Ad (w.heap.size+1) 0) x).setCell (Ad (w.heap.size+1) 1) y).setCell (Ad (w.heap.size+1) 2) z):=by
 refine⟨ownsRow_setCell_below (ownsRow_setCell_below (ownsRow_setCell_below hown (by simp) _) (by simp) _) (by simp) _,?_,((hb.setCell (by simp) _).setCell (by simp) _).setCell (by simp) _⟩
 rw[B.set (B.set (B.set hl 0 x) 1 y) 2 z]
 congr 2
 match C,hC with
 | ⟨[a,b,c]⟩,_=>rfl
def Own (lo:Nat) (w:World) (v:Value) (l:List AM.Ar):Prop:=w.ownsRow lo 47 4 v l.length (AM.bf l)
theorem Own.nil (lo:Nat) (w:World):Own lo w Nl []:=World.ownsRow_nil _ _ _ _
theorem Own.mono {lo lo':Nat} {w:World} {v:Value} {l:List AM.Ar} (h:Own lo w v l) (hl:lo'<=lo):Own lo' w v l:=by
 refine⟨h.1,?_⟩
 rcases h.2 with h2 | ⟨g,cap,cur,hv,hbg,rest⟩
 · exact .inl h2
 · exact .inr ⟨g,cap,cur,hv,Nat.le_trans hl hbg,rest⟩
theorem Own.has {lo:Nat} {w:World} {v:Value} {l:List AM.Ar} (h:Own lo w v l):Has w v l:=by
 rcases h.2 with⟨hv,h0⟩ | ⟨g,cap,cur,hv,hbg,hg,hnc,hcm,hcs,htake⟩
 · exact⟨none,0,by rw[hv,h0],.inl (List.eq_nil_of_length_eq_zero h0)⟩
 · have ho:=h
   unfold Own at ho
   rw[hv] at ho
   refine⟨some (Ad g 0),cap,hv,.inr ⟨g,0,rfl,fun i hi=>?_⟩⟩
   rw[Nat.zero_add]
   exact⟨(ho.cellAt _ (by omega)).trans (AM.eI _ i 0 hi (by omega)),(ho.cellAt _ (by omega)).trans (AM.eI _ i 1 hi (by omega)),(ho.cellAt _ (by omega)).trans (AM.eI _ i 2 hi (by omega)),(ho.cellAt _ (by omega)).trans (AM.eI _ i 3 hi (by omega))⟩
theorem Fb (F:Nat->AM.St) (w:World) :
  Calls Tryz.prog 157 #[.agg (AM.cB F)] w fun e w'=>∃v,e=.returned v/\Own w.heap.size w' v (AM.dV F)/\Below w.heap.size w w':=by
 have u7:=O6 F
 obtain⟨C,hC⟩:=ex (AM.cB F)
 have MC:C.size=768:=by rw[hC];exact AM.ed _
 rw[<- hC] at u7 ⊢
 clear hC
 obtain⟨i0,hi,hz0,hz1,hz2⟩:=info_parts LZ
 have HX:Hid (((w.alloc (.cells C 215)).alloc (.cells #[.bool false,I 0,.bool false] 173)).heap[w.heap.size]?=some (.cells C 215 (0,0))):=B.alloc (B.new w C 215) _
 have HL:Hid (((w.alloc (.cells C 215)).alloc (.cells #[.bool false,I 0,.bool false] 173)).heap[w.heap.size+1]?=some (.cells #[.bool false,I 0,.bool false] 173 (0,0))):=by
  have:=B.new (w.alloc (.cells C 215)) #[.bool false,I 0,.bool false] 173
  show _=_
  simpa using this
 have bI:Hid (Below w.heap.size w ((w.alloc (.cells C 215)).alloc (.cells #[.bool false,I 0,.bool false] 173))):=((Below.refl _ _).alloc (Nat.le_refl _) _).alloc (by simp) _
 go_enter Tryz.func157,Tryz.ntmps157
 go_wp2_with (first | (refine wpList_load_row rfl 215 _ rfl w.heap.size rfl 215 _ (0,0) _ HX.o Tryz.underlying215 rfl (by rw[MC];exact nD) ?_))
 go_loopw [3,8] (fun v i wr=>∃k:Nat,k<=256/\i=I k/\wr.ownsRow (w.heap.size+2) 47 4 v (AM.aV F k).length (AM.bf (AM.aV F k))/\wr.heap[w.heap.size+1]?=some (.cells #[.bool (AM.dR F k).m,I (AM.dR F k).p,.bool (AM.dR F k).z] 173 (0,0))/\Below w.heap.size w wr) (fun _ i _=>256-(intOf i).toNat)
 case atStart=>exact⟨0,by omega,rfl,World.ownsRow_nil _ _ _ _,HL.o,bI.o⟩
 case round =>
  obtain⟨k,hk,rfl,hown,hl,hb⟩:=hrel
  have HO:Hid (wr.ownsRow (w.heap.size+2) 47 4 u3 (AM.aV F k).length (AM.bf (AM.aV F k))):=hown
  have HLr:Hid (wr.heap[w.heap.size+1]?=some (.cells #[.bool (AM.dR F k).m,I (AM.dR F k).p,.bool (AM.dR F k).z] 173 (0,0))):=hl
  have HB:Hid (Below w.heap.size w wr):=hb
  have hsz:w.heap.size+1<wr.heap.size:=B.isLt hl
  have l0:=B.cell hl 0 rfl
  have l1:=B.cell hl 1 rfl
  have l2:=B.cell hl 2 rfl
  have lf:=B.free hl
  clear hown hl hb
  by_cases hlt:k<256
  · have hx:=fun W=>u7 k hlt W
    have zm:(k:Int)<256:=by omega
    obtain⟨s,hs⟩:=ex (F k)
    obtain⟨t,ht⟩:=ex (AM.dR F k)
    rw[<- hs] at hx
    rw[<- ht] at l0 l1 l2
    have HS:Hid (s=F k):=hs
    have HT:Hid (t=AM.dR F k):=ht
    clear hs ht u7
    by_cases hm:s.m=true
    · by_cases he:AM.pS s t=true
      · have hst:s=t:=AM.Aa s t he
        have HG:Hid (AM.aV F (k+1)=AM.xN (AM.aV F k)):=by show _=_;simp only[AM.aV];rw[<- HS.o,<- HT.o,hm,he];rfl
        have hpos:=AM.oW F k (by rw[<- HT.o,<- hst];exact hm)
        have hlen:=AM.jM F k
        obtain⟨G,hG⟩:=ex (AM.aV F k)
        have DU:=AM.nQ F k ((AM.aV F k).length-1) (by omega)
        rw[<- hG] at HO HG hpos hlen DU
        clear hG
        rcases HO.o.2 with⟨_,h0⟩ | ⟨g,cap,cur,hv,hbg,hg,hnc,hcm,hcs,htake⟩
        · omega
        · have om:=HO.o
          rw[hv] at om
          have p1:wr.cell? ⟨g,(G.length-1)*4+1,none⟩=some (I (AM.at_ G (G.length-1)).aB):=by
           rw[om.cellAt _ (by omega),AM.eI G _ 1 (by omega) (by omega)];rfl
          have pf:=om.frozenAt
          have Yr:Hid (wr.ownsRow (w.heap.size+2) 47 4 (.slice (some (Ad g 0)) G.length cap) G.length (AM.bf G)):=om
          have Hv:Hid (u3=.slice (some (Ad g 0)) G.length cap):=hv
          have hgl:g<wr.heap.size:=B.isLt hg
          rw[hv]
          clear HO om hv hg htake hcs he
          obtain⟨pp,u6⟩:=ex ((AM.at_ G (G.length-1)).aB)
          rw[<- u6] at p1 DU
          have HP:Hid (pp=(AM.at_ G (G.length-1)).aB):=u6
          clear u6
          subst hst
          have hG1:(1:Int)<=(G.length:Int):=by omega
          have hG2:(G.length:Int)<=256:=by omega
          go_wp2
          go_roundw
          case rel =>
           have ho:=(Yr.o.stored ((G.length-1)*4+1) (I (pp+1))).1
           have e:(AM.bf G).set ((G.length-1)*4+1) (I (pp+1))=AM.bf (AM.xN G):=by
            rw[HP.o];exact(AM.gy G (G.length-1) _ (by omega)).symm
           rw[e] at ho
           have h:=xq rfl ho (B.other HLr.o _ _ _ (by omega)) (HB.o.setCell (by simp;omega) _) (.bool true) (I s.p) (.bool s.z)
           refine⟨k+1,by omega,by go_num,?_,?_,h.2.2.alloc h.2.2.size _⟩
           · rw[HG.o,AM.jf];exact h.1.alloc _
           · show _=some (Obj.cells #[.bool (F k).m,I (F k).p,.bool (F k).z] 173 (0,0))
             rw[<- HS.o,hm]
             exact B.alloc h.2.1 _
          case measure=>simp[intOf];omega
      · have he':AM.pS s t=false:=by simpa using he
        have HG:Hid (AM.aV F (k+1)=AM.aV F k++[⟨(k:Int),1,s.p,s.z⟩]):=by show _=_;simp only[AM.aV];rw[<- HS.o,<- HT.o,hm,he'];rfl
        have hlen:=AM.jM F k
        obtain⟨G,hG⟩:=ex (AM.aV F k)
        rw[<- hG] at HO HG hlen
        clear hG he
        have hrow:Hid (∀j,u3.ownBlock=some j->w.heap.size+2<=j/\j<wr.heap.size):=HO.o.lt
        have Mn:=AM.Gm s t he'
        obtain⟨sm,sp,sz⟩:=s
        obtain⟨tm,tp,tz⟩:=t
        simp only at hm Mn l0 l1 l2 HG
        subst hm
        have HN:Hid (((wr.alloc (.cells #[.bool true,I sp,.bool sz] 173)).alloc (.cells #[I (k:Int),I 1,I sp,.bool sz] 47)).heap[wr.heap.size+1]?=some (.cells #[I (k:Int),I 1,I sp,.bool sz] 47 (0,0))):=by
         have:=B.new (wr.alloc (.cells #[.bool true,I sp,.bool sz] 173)) #[I (k:Int),I 1,I sp,.bool sz] 47
         show _=_
         simpa using this
        have VJ:tm=false∨(tm=true/\(sp==tp)=false)∨(tm=true/\sp=tp/\tz=!sz):=by
         cases tm
         · exact .inl rfl
         · rcases Mn with q | ⟨_,q⟩ | ⟨_,q1,q2⟩
           · cases q
           · exact .inr (.inl ⟨rfl,q⟩)
           · refine .inr (.inr ⟨rfl,by simpa using q1,?_⟩)
             cases sz <;> cases tz <;> first | rfl | cases q2
        clear he' Mn
        rcases VJ with rfl | ⟨rfl,q⟩ | ⟨rfl,rfl,rfl⟩
        all_goals
         go_wp2_with (at_builtin;refine wpList_append_lies _ rfl _ _ 28 rfl (w.heap.size+2) 47 i0 (.agg #[I 0,I 0,I 0,.bool false]) 4 32 Tryz.underlying28 hi hz0 hz1 hz2 rfl (by decide) _ _ _ rfl ((HO.o.alloc _).alloc _) (Ad (wr.heap.size+1) 0) 1 1 [I (k:Int),I 1,I sp,.bool sz] rfl rfl (B.news HN.o) (AM.j5 [⟨(k:Int),1,sp,sz⟩]) (by decide) (by unfold maxLen;omega) (by omega) (by simp;omega) (wr.heap.size+2) (by simp) ?_)
         intro g cap w1 hown1 hgrow hat Zw
         have bS:=B.grown (B.alloc (B.new wr #[.bool true,I sp,.bool sz] 173) (.cells #[I (k:Int),I 1,I sp,.bool sz] 47)) hgrow (fun e=>by have:=hrow.out _ e.symm;omega)
         have bL:=B.grown (B.alloc (B.alloc HLr.o (.cells #[.bool true,I sp,.bool sz] 173)) (.cells #[I (k:Int),I 1,I sp,.bool sz] 47)) hgrow (fun e=>by have:=hrow.out _ e.symm;omega)
         have b0:=B.cell bS 0 rfl
         have b1:=B.cell bS 1 rfl
         have b2:=B.cell bS 2 rfl
         have m0:=B.cell bL 0 rfl
         have m1:=B.cell bL 1 rfl
         have m2:=B.cell bL 2 rfl
         have mf:=B.free bL
         have Qv:Hid (w1.ownsRow (w.heap.size+2) 47 4 (Value.slice (some (Ad g 0)) (G.length+1) cap) (G.length+1) (AM.bf G++[I (k:Int),I 1,I sp,.bool sz])):=hown1
         have Nz:Hid (w1.heap[w.heap.size+1]?=some (.cells #[.bool (AM.dR F k).m,I (AM.dR F k).p,.bool (AM.dR F k).z] 173 (0,0))):=bL
         have aZ:Hid (Below w.heap.size w w1):=((HB.o.alloc HB.o.size _).alloc (by have:=HB.o.size;simp;omega) _).grown hgrow (by have:=HB.o.size;simp;omega) (fun k' e=>by have:=hrow.out _ e;omega)
         clear bS bL hown1 hgrow hat l0 l1 l2 lf
         go_wp2
         go_roundw
         case rel =>
          have h:=xq rfl Qv.o Nz.o aZ.o (.bool true) (I sp) (.bool sz)
          refine⟨k+1,by omega,by go_num,?_,?_,h.2.2⟩
          · rw[HG.o,List.length_append,AM.jT];exact h.1
          · show _=some (Obj.cells #[.bool (F k).m,I (F k).p,.bool (F k).z] 173 (0,0))
            rw[<- HS.o]
            exact h.2.1
         case measure=>simp[intOf];omega
    · have hm':s.m=false:=by simpa using hm
      have HG:Hid (AM.aV F (k+1)=AM.aV F k):=by show _=_;simp only[AM.aV];rw[<- HS.o,hm'];rfl
      clear hm
      go_wp2
      go_roundw
      case rel =>
       have h:=xq rfl HO.o HLr.o HB.o (.bool false) (I s.p) (.bool s.z)
       refine⟨k+1,by omega,by go_num,?_,?_,h.2.2.alloc h.2.2.size _⟩
       · rw[HG.o];exact h.1.alloc _
       · show _=some (Obj.cells #[.bool (F k).m,I (F k).p,.bool (F k).z] 173 (0,0))
         rw[<- HS.o,hm']
         exact B.alloc h.2.1 _
      case measure=>simp[intOf];omega
  · obtain rfl:k=256:=by omega
    go_wp2
    go_ret
    refine⟨_,rfl,?_,HB.o⟩
    exact Own.mono (lo:=w.heap.size+2) HO.o (by omega)
def df (q:Int) (s:AM.St):AM.St×Int:=if s.m then (s,5) else (⟨true,q,true⟩,0)
def Rk (s:AM.St):Value:=.agg #[.bool s.m,I s.p,.bool s.z]
theorem LH (s:AM.St) (q:Int) (P:Nat) (w:World) (hP:w.cell? (Ad P 0)=some (I q)) :
  Calls Tryz.prog 122 #[.agg #[.bool s.m,I s.p,.bool s.z],.pointer (some (Ad P 0))] w fun e w'=>e=.returned (.tuple #[Rk (df q s).1,I (df q s).2])/\Below w.heap.size w w':=by
 have hPl:P<w.heap.size:=World.block_lt_of_cell? w _ hP
 obtain⟨m,p,z⟩:=s
 cases m
 · go_enter Tryz.func122,Tryz.ntmps122
   go_wp2
   exact bodyPost_ret (v:=.tuple #[.agg #[.bool true,I q,.bool true],I 0]) (by simp[results,Tryz.results122,go_sem]) rfl ⟨rfl,((Below.refl _ _).alloc (Nat.le_refl _) _).alloc (by simp) _⟩
 · go_enter Tryz.func122,Tryz.ntmps122
   go_wp2
   exact bodyPost_ret (v:=.tuple #[.agg #[.bool true,I p,.bool z],I 5]) (by simp[results,Tryz.results122,go_sem]) rfl ⟨rfl,((Below.refl _ _).alloc (Nat.le_refl _) _).alloc (by simp) _⟩
theorem Has.below {w w':World} {v:Value} {l:List AM.Ar} (h:Has w v l) (hb:Below w.heap.size w w'):Has w' v l:=by
 obtain⟨ao,cap,rfl,h⟩:=h
 rcases h with rfl | ⟨b,off,rfl,hl⟩
 · exact⟨ao,cap,rfl,.inl rfl⟩
 · exact⟨_,cap,rfl,.inr ⟨b,off,rfl,hl.below hb⟩⟩
def eH (l:List AM.Ar):Prop:=(∀i,i<l.length->AM.Fits (AM.at_ l i))/\l.length<=140737488351232
theorem gv (l:List AM.Ar) (v:Value) (w:World) (h:Has w v l) (hf:eH l) :
  Calls Tryz.prog 98 #[v] w fun e w'=>e=.returned (I (AM.aO l))/\Below w.heap.size w w':=by
 obtain⟨ao,cap,rfl,h⟩:=h
 rcases h with rfl | ⟨b,off,rfl,hl⟩
 · exact tJ ao cap w
 · exact lQ l b off cap w hl hf.1 hf.2
theorem sL (l:List AM.Ar) (v:Value) (w:World) (h:Has w v l) (hf:eH l) :
  Calls Tryz.prog 54 #[v] w fun e w'=>e=.returned (I (AM.cD l))/\Below w.heap.size w w':=by
 obtain⟨ao,cap,rfl,h⟩:=h
 rcases h with rfl | ⟨b,off,rfl,hl⟩
 · exact Hx ao cap w
 · exact D9 l b off cap w hl hf.1 hf.2
theorem oY (l:List AM.Ar) (v:Value) (p:Int) (w:World) (h:Has w v l) (hf:eH l) :
  Calls Tryz.prog 70 #[v,I p] w fun e w'=>e=.returned (.tuple #[.agg (cellsOf (AM.aK l p).1),.bool (AM.aK l p).2])/\Below w.heap.size w w':=by
 obtain⟨ao,cap,rfl,h⟩:=h
 rcases h with rfl | ⟨b,off,rfl,hl⟩
 · exact MI ao cap p w
 · exact Jo l b off cap p w hl hf.1 hf.2
theorem Eh (l:List AM.Ar) (v:Value) (w:World) (h:Has w v l) (hc:AM.aO l=0) :
  Calls Tryz.prog 156 #[v] w fun e w'=>e=.returned (.agg (AM.cB (AM.cm l)))/\Below w.heap.size w w':=by
 obtain⟨ao,cap,rfl,h⟩:=h
 rcases h with rfl | ⟨b,off,rfl,hl⟩
 · exact Eg ao cap w
 · exact B6 l b off cap w hl hc
end AW
namespace FW
open Go.RowKit
theorem ai {p:Prop} (h:p):Hid p:=h
theorem aC {w w1 w2:World} (h1:Below w.heap.size w w1) (h2:Below w1.heap.size w1 w2):Below w.heap.size w w2:=h1.trans (h2.mono h1.size)
def nI (way:Int):Int:=if way=1 then 1 else if way=2 then 2 else 0
theorem yU (way:Int) (w:World):Calls Tryz.prog 140 #[I way] w fun e w'=>e=.returned (I (nI way))/\w=w':=by
 unfold nI
 by_cases h1:way=1
 · subst h1
   go_enter Tryz.func140,Tryz.ntmps140
   go_wp2
   go_ret
   exact⟨rfl,rfl⟩
 · rw[if_neg h1]
   have h1i:(way==1)=false:=by rw[beq_eq_false_iff_ne];exact h1
   by_cases h2:way=2
   · subst h2
     go_enter Tryz.func140,Tryz.ntmps140
     go_wp2
     go_ret
     exact⟨rfl,rfl⟩
   · rw[if_neg h2]
     have h2i:(way==2)=false:=by rw[beq_eq_false_iff_ne];exact h2
     clear h1 h2
     go_enter Tryz.func140,Tryz.ntmps140
     go_wp2
     go_ret
     exact⟨rfl,rfl⟩
theorem wB (p way:Int) (h0:0<=p) (h3:p<=3):(bits BinOp.and IntKind.i64 p (nI way)==nI way)=!(FM.ie p way):=by
 have hp:p=0∨p=1∨p=2∨p=3:=by omega
 unfold nI FM.ie
 by_cases h1:way=1
 · subst h1
   rcases hp with rfl | rfl | rfl | rfl <;> decide
 · by_cases h2:way=2
   · subst h2
     rcases hp with rfl | rfl | rfl | rfl <;> decide
   · rw[if_neg h1,if_neg h2]
     simp only[h1,h2,false_and,or_self,decide_false,Bool.not_false]
     rcases hp with rfl | rfl | rfl | rfl <;> decide
end FW
namespace W
open Go.RowKit
theorem ai {p:Prop} (h:p):Hid p:=h
theorem bN {a b:Bool} (h:a=b):Ending.returned (.bool a)=.returned (.bool b):=by rw[h]
theorem xc (n:Int) (w:World):Calls Tryz.prog 209 #[.int .u8 n] w fun e w'=>e=.returned (.bool (M.oa n))/\w=w':=by
 by_cases h1:97<=n/\n<=122
 · have e:M.oa n=true:=by unfold M.oa;rw[decide_eq_true h1];rfl
   rw[e]
   obtain⟨a,b⟩:=h1
   go_enter Tryz.func209,Tryz.ntmps209
   go_wp2
   go_ret
   exact⟨rfl,rfl⟩
 · by_cases h2:48<=n/\n<=57
   · have e:M.oa n=true:=by unfold M.oa;rw[decide_eq_true h2];simp
     rw[e]
     obtain⟨a,b⟩:=h2
     have c:decide (97<=n)=false:=by simp;omega
     clear h1
     go_enter Tryz.func209,Tryz.ntmps209
     go_wp2
     go_ret
     exact⟨rfl,rfl⟩
   · by_cases h3:n=95
     · subst h3
       go_enter Tryz.func209,Tryz.ntmps209
       go_wp2
       go_ret
       exact⟨rfl,rfl⟩
     · have e:M.oa n=false:=by unfold M.oa;rw[decide_eq_false h1,decide_eq_false h2,decide_eq_false h3];rfl
       rw[e]
       have h3':(n==95)=false:=by simpa using h3
       by_cases a:97<=n
       · have b:decide (n<=122)=false:=by simp;omega
         have c:48<=n:=by omega
         have d:decide (n<=57)=false:=by simp;omega
         clear h1 h2
         go_enter Tryz.func209,Tryz.ntmps209
         go_wp2
         go_ret
         exact⟨rfl,rfl⟩
       · have a':decide (97<=n)=false:=by simpa using a
         by_cases c:48<=n
         · have d:decide (n<=57)=false:=by simp;omega
           clear h1 h2
           go_enter Tryz.func209,Tryz.ntmps209
           go_wp2
           go_ret
           exact⟨rfl,rfl⟩
         · have c':decide (48<=n)=false:=by simpa using c
           clear h1 h2
           go_enter Tryz.func209,Tryz.ntmps209
           go_wp2
           go_ret
           exact⟨rfl,rfl⟩
theorem ES (s:ByteArray) (w:World) (hs:M.br s.size):Calls Tryz.prog 198 #[.string s] w fun e w'=>e=.returned (.bool (M.oc s))/\w=w':=by
 unfold M.br at hs
 have mU:s.size<=maxLen:=by unfold maxLen;omega
 by_cases h1:1<=s.size
 · by_cases h2:s.size<=12
   · have d1:¬(s.size:Int)<1:=by omega
     have d2:¬12<(s.size:Int):=by omega
     go_enter Tryz.func198,Tryz.ntmps198
     go_wp2
     go_loop [14] (fun i=>∃k:Nat,k<=s.size/\i=I k/\∀j (hj:j<s.size),j<k->M.oa s[j].toNat=true) (fun i=>s.size-(intOf i).toNat)
     case atStart=>exact⟨0,by omega,rfl,fun j _ h=>by omega⟩
     case round =>
      obtain⟨k,hk,rfl,hall⟩:=hrel
      have HA:=ai hall
      clear hall
      by_cases hlt:k<s.size
      · cases hc:M.oa s[k].toNat
        · have HR:=ai (M.OU s k hlt hc)
          go_wp2_with (go_at_call 209;refine(xc _ _).mono ?_;rintro e w' ⟨rfl,rfl⟩;rw[hc])
          go_ret
          exact⟨bN HR.o.symm,rfl⟩
        · have HC:=ai hc
          go_wp2_with (go_at_call 209;refine(xc _ _).mono ?_;rintro e w' ⟨rfl,rfl⟩;rw[hc])
          go_round
          case rel=>exact⟨k+1,by omega,by go_num,fun j hj h=>if e:j=k then by subst e;exact HC.o else HA.o j hj (by omega)⟩
          case measure=>simp[intOf];omega
      · obtain rfl:k=s.size:=by omega
        have HR:=ai (M.Lx s h1 h2 (fun k hk=>HA.o k hk hk))
        go_wp2
        go_ret
        exact⟨bN HR.o.symm,rfl⟩
   · have HR:=ai (M.CH s (fun h=>h2 h.2))
     have d1:¬(s.size:Int)<1:=by omega
     have d2:12<(s.size:Int):=by omega
     go_enter Tryz.func198,Tryz.ntmps198
     go_wp2
     go_ret
     exact⟨bN HR.o.symm,rfl⟩
 · have HR:=ai (M.CH s (fun h=>h1 h.1))
   have d1:(s.size:Int)<1:=by omega
   go_enter Tryz.func198,Tryz.ntmps198
   go_wp2
   go_ret
   exact⟨bN HR.o.symm,rfl⟩
end W
namespace LW
open Go.RowKit
open W (ai)
theorem FC (w:World):Below w.heap.size w w.drew:=⟨rfl,rfl,rfl,Nat.le_refl _,fun _ _=>rfl⟩
theorem bN {a b:Bool} (h:a=b):Ending.returned (.bool a)=.returned (.bool b):=by rw[h]
theorem oN (s:LM.Sh) (w:World) (h:LM.ou w s.ao s.bq) (hf:LM.Bq s) :
  Calls Tryz.prog 146 #[.agg (LM.kJ s)] w fun e w'=>e=.returned (.bool (LM.bH s))/\Below w.heap.size w w':=by
 obtain⟨f1,f2,f3,f4⟩:=hf
 obtain⟨pg,dt,fs,ao,cap⟩:=s
 simp only at f1 f2 f3 f4
 unfold M.fR at f1
 unfold M.br at f2 f3
 simp only[LM.kJ]
 have ZN:dt.size<=maxLen:=by unfold maxLen;omega
 have F4:=ai f4
 have HH:=ai h
 clear f4 h
 have HB:=ai ((Below.refl w.heap.size w).alloc (Nat.le_refl _) (.cells #[I pg,.string dt,.slice ao fs.length cap] 50))
 by_cases h1:pg<1
 · have e:LM.bH ⟨pg,dt,fs,ao,cap⟩=false:=by
    unfold LM.bH LM.jc
    rw[decide_eq_false (by simp only;omega),Bool.false_and]
   rw[e]
   go_enter Tryz.func146,Tryz.ntmps146
   go_wp2
   go_ret
   exact⟨rfl,HB.o⟩
 by_cases h2:255<pg
 · have e:LM.bH ⟨pg,dt,fs,ao,cap⟩=false:=by
    unfold LM.bH LM.jc
    rw[decide_eq_false (by simp only;omega),Bool.false_and]
   rw[e]
   go_enter Tryz.func146,Tryz.ntmps146
   go_wp2
   go_ret
   exact⟨rfl,HB.o⟩
 by_cases h3:dt.size=16
 · have h3':(dt.size:Int)=16:=by omega
   have e:LM.jc ⟨pg,dt,fs,ao,cap⟩=true:=by
    unfold LM.jc
    exact decide_eq_true ⟨by simp only;omega,by simp only;omega,h3⟩
   have E:Hid (LM.bH ⟨pg,dt,fs,ao,cap⟩=LM.bU fs fs.length):=by
    show _=_
    unfold LM.bH
    rw[e,Bool.true_and]
   clear e h3
   go_enter Tryz.func146,Tryz.ntmps146
   go_wp2
   go_loopw [23,3] (fun i en wr=>∃k:Nat,k<=fs.length/\i=I k/\en=I (LM.kN fs k)/\LM.bU fs k=true/\Below w.heap.size w wr) (fun i _ _=>fs.length-(intOf i).toNat)
   case atStart=>exact⟨0,by omega,rfl,rfl,rfl,HB.o⟩
   case round =>
    obtain⟨k,hk,rfl,rfl,hg,hb⟩:=hrel
    have HG:=ai hg
    have iM:=ai hb
    clear hg
    by_cases hlt:k<fs.length
    · obtain⟨b,off,hao,hbl,bC⟩:=(HH.o.below hb) (by omega)
      subst hao
      obtain⟨c0,c1⟩:=bC k hlt
      obtain⟨g1,g2⟩:=F4.o k hlt
      have VE:=LM.iK fs k HG.o
      obtain⟨f,um⟩:=ex (LM.lM fs k)
      rw[<- um] at c0 c1 g1 g2
      unfold M.fR at g1
      unfold M.br at g2
      have hfl:f.bytes.size<=maxLen:=by unfold maxLen;omega
      have q9:=ai um
      clear um bC hb
      obtain⟨en,hen⟩:=ex (LM.kN fs k)
      rw[<- hen] at VE
      have fX:=ai hen
      rw[<- hen]
      clear hen
      have cj:=ai (iM.o.alloc iM.o.size (.cells #[I f.off,.string f.bytes] 52))
      by_cases q1:f.off<en
      · have HX:Hid (LM.bU fs fs.length=false):=LM.kZ fs k hlt (by rw[<- q9.o,<- fX.o];exact LM.pK (by omega))
        go_wp2
        go_ret
        exact⟨bN (by rw[E.o,HX.o]),cj.o⟩
      by_cases q2:16<f.off
      · have HX:Hid (LM.bU fs fs.length=false):=LM.kZ fs k hlt (by rw[<- q9.o,<- fX.o];exact LM.pK (by omega))
        go_wp2
        go_ret
        exact⟨bN (by rw[E.o,HX.o]),cj.o⟩
      by_cases q3:(f.bytes.size:Int)<1
      · have HX:Hid (LM.bU fs fs.length=false):=LM.kZ fs k hlt (by rw[<- q9.o,<- fX.o];exact LM.pK (by omega))
        go_wp2
        go_ret
        exact⟨bN (by rw[E.o,HX.o]),cj.o⟩
      by_cases q4:16-f.off<(f.bytes.size:Int)
      · have HX:Hid (LM.bU fs fs.length=false):=LM.kZ fs k hlt (by rw[<- q9.o,<- fX.o];exact LM.pK (by omega))
        go_wp2
        go_ret
        exact⟨bN (by rw[E.o,HX.o]),cj.o⟩
      · have HX:Hid (LM.bU fs (k+1)=true):=by
         show _=_
         simp only[LM.bU,Bool.and_eq_true]
         exact⟨HG.o,by rw[<- q9.o,<- fX.o];exact(LM.nu _ _).2 (by omega)⟩
        have HY:Hid (LM.kN fs (k+1)=f.off+(f.bytes.size:Int)):=by show _=_;simp only[LM.kN];rw[<- q9.o]
        go_wp2
        go_roundw
        case rel=>exact⟨k+1,by omega,by go_num,by rw[HY.o],HX.o,cj.o⟩
        case measure=>simp[intOf];omega
    · obtain rfl:k=fs.length:=by omega
      go_wp2
      go_ret
      exact⟨bN (by rw[E.o,HG.o]),iM.o⟩
 · have e:LM.bH ⟨pg,dt,fs,ao,cap⟩=false:=by
    unfold LM.bH LM.jc
    rw[decide_eq_false (fun h=>h3 h.2.2),Bool.false_and]
   have h3':((dt.size:Int)==16)=false:=by simp;omega
   rw[e]
   go_enter Tryz.func146,Tryz.ntmps146
   go_wp2
   go_ret
   exact⟨rfl,HB.o⟩
end LW
namespace CW
open Go.RowKit
end CW
end Go.Proofs.YtpgifpeohlllfaaGreat
