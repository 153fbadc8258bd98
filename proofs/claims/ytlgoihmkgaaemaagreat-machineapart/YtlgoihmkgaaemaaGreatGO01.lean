import Derived.Test.YtlgoihmkgaaemaaGreatGO00
import Derived.Deep.WholeRow
import Derived.Laws.CopyOwn
set_option maxHeartbeats 20000000
set_option linter.unusedVariables false
set_option maxRecDepth 100000
set_option linter.unusedSimpArgs false
namespace Go.Proofs.YtlgoihmkgaaemaaGreat
open Go.RowKit
theorem xI {k:IntKind} {a b:Int} (h:a=b):Ending.returned (.int k a)=.returned (.int k b):=by rw[h]
theorem uO (l:List aY) (b off cap:Nat) (w:World) (hl:yX w b off l) (hf:∀i,i<l.length->Ca (bC l i)) (hn:l.length<=140737488351232) :
  Calls Tryz.prog 117 #[.slice (some (Ad b off)) l.length cap] w fun e w'=>e=.returned (I (bj l))/\Below w.heap.size w w':=by
 by_cases hm:255<l.length
 · have e:bj l=2:=by grind [bj]
   rw[e];have hm':(255:Int)<(l.length:Int):=by omega
   go_enter Tryz.func117,Tryz.ntmps117;go_wp2;go_ret;exact⟨rfl,aK _ _⟩
 · have hm':¬(255:Int)<(l.length:Int):=by omega
   have e:bj l=if uo l then 0 else 1:=by grind [bj]
   have E:Hid (bj l=if uo l then 0 else 1):=e;clear e;go_enter Tryz.func117,Tryz.ntmps117;go_wp2;go_loopw [10] (fun i wr=>∃k:Nat,k<=l.length/\i=I k/\kR l k=true/\Below w.heap.size w wr) (fun i _=>l.length-(intOf i).toNat)
   case atStart=>exact⟨0,by omega,rfl,rfl,aK _ _⟩
   case round =>
    obtain⟨k,hk,rfl,hg,hb⟩:=hrel;have HG:Hid (kR l k=true):=hg;clear hg;by_cases hlt:k<l.length
    · obtain⟨c0,c1,c2,c3⟩:=(hl.below hb) k hlt;obtain⟨f1,f2,f3⟩:=hf k hlt;obtain⟨a,ha⟩:=ex (bC l k);rw[<- ha] at c0 c1 c2 c3 f1 f2 f3;have HA:Hid (a=bC l k):=ha;clear ha;by_cases hp:fX a.page a.aQ=true
      · by_cases hq:kx a.jL=true
        · obtain⟨W,hW⟩:=ex (wr.alloc (.cells #[I a.page,I a.aQ,I a.jL,.bool a.zero] 139));have hs:W.heap.size=wr.heap.size+1:=by rw[hW];simp
          have hbW:Hid (Below w.heap.size w W):=by show Below _ _ _;rw[hW];exact hb.alloc hb.size _
          by_cases hk0:k=0
          · have hok:Hid (nH l k=true):=by show _=true;unfold nH;rw[<- HA.o,hp,hq,hk0];rfl
            have z2:decide (0<k)=false:=by simp;omega
            clear hk0;go_wp2_with (first | (go_at_call 174;refine(fQ _ _ _ f1 f2).mono ?_;rintro e w' ⟨rfl,rfl⟩) | (go_at_call 175;refine(js _ _).mono ?_;rintro e w' ⟨rfl,rfl⟩))
            go_quiet (fail)
            go_wp2;go_roundw
            case rel=>exact⟨k+1,by omega,by go_num,Ss l k HG.o hok.out,G8 (hb.alloc hb.size _) _⟩
            case measure=>simp[intOf];omega
          · have CM:=jt W;have hkc:=@fR W;have hlW:=hl.below hbW.out;have hbl:=hlW.lt k hlt;obtain⟨g0,g1,g2,g3⟩:=hlW (k-1) (by omega);obtain⟨fp1,fp2,fp3⟩:=hf (k-1) (by omega);obtain⟨p,hpd⟩:=ex (bC l (k-1));rw[<- hpd] at g0 g1 g2 g3 fp1 fp2 fp3;have Yw:=EJ l k HG.o (k-1) (by omega);have hps:fX p.page p.aQ=true:=by
             unfold nH at Yw;rw[<- hpd] at Yw;simp only[eO] at Yw;exact Yw.1.1
            have hpb:1<=p.page/\1<=p.aQ/\p.aQ<=256-p.page:=by simpa [fX] using hps
            have hok:Hid (nH l k=mz p a):=by show _=_;unfold nH;rw[<- HA.o,<- hpd,hp,hq];simp[hk0]
            have k0:∀x:dW W.heap.size W,x.world.cell? ⟨b,off+(k-1)*4,none⟩=some (I p.page):=fun x=>by rw[hkc x _ _ hbl,g0]
            have k1:∀x:dW W.heap.size W,x.world.cell? ⟨b,off+(k-1)*4+1,none⟩=some (I p.aQ):=fun x=>by rw[hkc x _ _ hbl,g1]
            have k2:∀x:dW W.heap.size W,x.world.cell? ⟨b,off+(k-1)*4+2,none⟩=some (I p.jL):=fun x=>by rw[hkc x _ _ hbl,g2]
            have k3:∀x:dW W.heap.size W,x.world.cell? ⟨b,off+(k-1)*4+3,none⟩=some (.bool p.zero):=fun x=>by rw[hkc x _ _ hbl,g3]
            have e0:∀x:dW W.heap.size W,x.world.cell? (Ad wr.heap.size 0)=some (I a.page):=fun x=>by rw[hkc x _ _ (by omega),hW];simp
            have e1:∀x:dW W.heap.size W,x.world.cell? (Ad wr.heap.size 1)=some (I a.aQ):=fun x=>by rw[hkc x _ _ (by omega),hW];simp
            have e2:∀x:dW W.heap.size W,x.world.cell? (Ad wr.heap.size 2)=some (I a.jL):=fun x=>by rw[hkc x _ _ (by omega),hW];simp
            have e3:∀x:dW W.heap.size W,x.world.cell? (Ad wr.heap.size 3)=some (.bool a.zero):=fun x=>by rw[hkc x _ _ (by omega),hW];simp
            have HW:Hid (W=wr.alloc (.cells #[I a.page,I a.aQ,I a.jL,.bool a.zero] 139)):=hW;have hk1:(1:Int)<=(k:Int):=by omega
            have hk2:0<k:=by omega
            clear hW hs hkc hlW hbl g0 g1 g2 g3 hpd Yw hps hl;by_cases hfo:mz p a=true
            · go_wp2_with (first | (go_at_call 174;refine(fQ _ _ _ f1 f2).mono ?_;rintro e w' ⟨rfl,rfl⟩) | (go_at_call 175;refine(js _ _).mono ?_;rintro e w' ⟨rfl,rfl⟩))
              rw[<- HW.o];refine dA (by kernel_rfl) (by kernel_rfl) ?_
              repeat (first | go_big_quiet_step ((go_at_call 176;exact gm (fun W=>uk p a W (by omega) (by omega)) _)) | quiet_step ((go_at_call 176;exact gm (fun W=>uk p a W (by omega) (by omega)) _)))
              refine jo ?_;intro _ hw';obtain⟨x,hw''⟩:=hw';subst hw'';go_wp2;go_roundw
              case rel=>exact⟨k+1,by omega,by go_num,Ss l k HG.o (hok.out.trans hfo),hbW.out.trans (x.keeps.mono hbW.out.size)⟩
              case measure=>simp[intOf];omega
            · have apI:mz p a=false:=by simpa using hfo
              clear hfo;go_wp2_with (first | (go_at_call 174;refine(fQ _ _ _ f1 f2).mono ?_;rintro e w' ⟨rfl,rfl⟩) | (go_at_call 175;refine(js _ _).mono ?_;rintro e w' ⟨rfl,rfl⟩))
              rw[<- HW.o];refine dA (by kernel_rfl) (by kernel_rfl) ?_
              repeat (first | go_big_quiet_step ((go_at_call 176;exact gm (fun W=>uk p a W (by omega) (by omega)) _)) | quiet_step ((go_at_call 176;exact gm (fun W=>uk p a W (by omega) (by omega)) _)))
              refine jo ?_;intro _ hw';obtain⟨x,hw''⟩:=hw';subst hw'';go_wp2;go_ret;exact⟨xI (by rw[E.o,Ng l k hlt (hok.out.trans apI)];rfl),hbW.out.trans (x.keeps.mono hbW.out.size)⟩
        · have hq':kx a.jL=false:=by simpa using hq
          clear hq;have hbad:Hid (nH l k=false):=by show _=false;unfold nH;rw[<- HA.o,hp,hq'];rfl
          go_wp2_with (first | (go_at_call 174;refine(fQ _ _ _ f1 f2).mono ?_;rintro e w' ⟨rfl,rfl⟩) | (go_at_call 175;refine(js _ _).mono ?_;rintro e w' ⟨rfl,rfl⟩))
          go_ret;exact⟨xI (by rw[E.o,Ng l k hlt hbad.out];rfl),hb.alloc hb.size _⟩
      · have hp':fX a.page a.aQ=false:=by simpa using hp
        clear hp;have hbad:Hid (nH l k=false):=by show _=false;unfold nH;rw[<- HA.o,hp'];rfl
        go_wp2_with (first | (go_at_call 174;refine(fQ _ _ _ f1 f2).mono ?_;rintro e w' ⟨rfl,rfl⟩))
        go_ret;exact⟨xI (by rw[E.o,Ng l k hlt hbad.out];rfl),hb.alloc hb.size _⟩
    · obtain rfl:k=l.length:=by omega
      go_wp2;go_ret;exact⟨xI (by rw[E.o,show uo l=true from HG.o];rfl),hb⟩
theorem EG (ao:Option Addr) (cap:Nat) (w:World) :
  Calls Tryz.prog 117 #[.slice ao 0 cap] w fun e w'=>e=.returned (I (bj []))/\Below w.heap.size w w':=by
 have e:bj []=0:=by decide
 rw[e];go_enter Tryz.func117,Tryz.ntmps117;go_wp2;refine JY 1 ?_;rw[JU];go_wp2;go_ret;exact⟨rfl,aK _ _⟩
open Go.RowKit
theorem Ui (l:List aY) (b off cap:Nat) (w:World) (hl:yX w b off l) (hf:∀i,i<l.length->Ca (bC l i)) (hn:l.length<=140737488351232) :
  Calls Tryz.prog 70 #[.slice (some (Ad b off)) l.length cap] w fun e w'=>e=.returned (I (bh l))/\Below w.heap.size w w':=by
 by_cases hc:bj l=0
 · have hlen:=oC l hc;have HC:Hid (bh l=kY l l.length):=by show _=_;grind [bh]
   have HK:Hid (bj l=0):=hc;go_enter Tryz.func70,Tryz.ntmps70;go_wp2_with fail
   refine(uO l b off cap _ hl hf hn).mono ?_;rintro e w1 ⟨rfl,hb1⟩;rw[hc];clear hc;go_wp2;go_loopw [3,11] (fun s i wr=>∃k:Nat,k<=l.length/\i=I k/\s=I (kY l k)/\Below w.heap.size w wr) (fun _ i _=>l.length-(intOf i).toNat)
   case atStart=>exact⟨0,by omega,rfl,rfl,hb1⟩
   case round =>
    obtain⟨k,hk,rfl,rfl,hb⟩:=hrel;have hbd:=GZ l HK.o k hk;by_cases hlt:k<l.length
    · obtain⟨c0,c1,c2,c3⟩:=(hl.below hb) k hlt;have hsu:Hid (kY l (k+1)=kY l k+(bC l k).aQ):=rfl;have hbk:=iy l k (gZ l HK.o k hlt);obtain⟨a,ha⟩:=ex (bC l k);rw[<- ha] at c0 c1 c2 c3 hsu hbk;clear ha;go_wp2;go_roundw
      case rel=>exact⟨k+1,by omega,by go_num,by rw[hsu.out],hb.alloc hb.size _⟩
      case measure=>simp[intOf];omega
    · obtain rfl:k=l.length:=by omega
      go_wp2;go_ret;exact⟨xI HC.o.symm,hb⟩
 · have HC:Hid (bh l=0):=by show _=_;grind [bh]
   have hc':(bj l != 0)=true:=by grind
   go_enter Tryz.func70,Tryz.ntmps70;go_wp2_with fail
   refine(uO l b off cap _ hl hf hn).mono ?_;rintro e w1 ⟨rfl,hb1⟩;go_wp2;go_ret;exact⟨xI HC.o.symm,hb1⟩
theorem Yc (ao:Option Addr) (cap:Nat) (w:World) :
  Calls Tryz.prog 70 #[.slice ao 0 cap] w fun e w'=>e=.returned (I (bh []))/\Below w.heap.size w w':=by
 have e:bh []=0:=by decide
 have e2:bj []=0:=by decide
 rw[e];go_enter Tryz.func70,Tryz.ntmps70;go_wp2_with fail
 refine(EG ao cap _).mono ?_;rintro e w1 ⟨rfl,hb1⟩;rw[e2];go_wp2;refine JY 1 ?_;rw[JU];go_wp2;go_ret
 simp_all
open Go.RowKit
theorem aN {w w':World} {b N:Nat} {o:Obj} (h:w.heap[b]?=some o) (hb:Below N w w') (hlt:b<N):w'.heap[b]?=some o:=(hb.block b hlt).trans h
theorem aJ {w:World} {b:Nat} {o:Obj} (h:w.heap[b]?=some o):b<w.heap.size:=(Array.getElem?_eq_some_iff.1 h).1
theorem bk {w:World} {b:Nat} {o:Obj} (h:w.heap[b]?=some o) (o':Obj):(w.alloc o').heap[b]?=some o:=(Below.heap_alloc w o' b (aJ h)).trans h
theorem aq {w:World} {b:Nat} {C:Array Value} {t:TypeId} {fr:Nat×Nat} (h:w.heap[b]?=some (.cells C t fr)) (j:Nat) {v:Value} (hj:C[j]?=some v):w.cell? (Ad b j)=some v:=(U8 w b j C t fr h).trans hj
theorem aO {w:World} {b:Nat} {C:Array Value} {t:TypeId} (h:w.heap[b]?=some (.cells C t (0,0))) (j:Nat):w.frozen? (Ad b j)=false:=frozen_of_row w b j C t h
theorem mv {w:World} {b:Nat} {o:Obj} (h:w.heap[b]?=some o) (g j:Nat) (v:Value) (hne:b≠g):(w.setCell (Ad g j) v).heap[b]?=some o:=(heap_setCell_other w (Ad g j) b v hne).trans h
theorem fP {w:World} {b:Nat} {C:Array Value} {t:TypeId} (h:w.heap[b]?=some (.cells C t (0,0))) (j:Nat) (v:Value):(w.setCell (Ad b j) v).heap[b]?=some (.cells (C.setIfInBounds j v) t (0,0)):=heap_setCell_same w b j C t v h
theorem bB (w:World) (C:Array Value) (t:TypeId):(w.alloc (.cells C t)).heap[w.heap.size]?=some (.cells C t (0,0)):=Pg w _
theorem GR {w:World} {b:Nat} {C:Array Value} {t:TypeId} {fr:Nat×Nat} (h:w.heap[b]?=some (.cells C t fr)):∀j u,C.toList[j]?=some u->w.cell? (((Ad b 0):Addr).add j)=some u:=fun j u hj=>by
 grind [Addr.add_lit,aq]
theorem H6 {w w':World} {b:Nat} {o:Obj} {row:Option Nat} (h:w.heap[b]?=some o) (hg:w.grownBy w' row) (hne:some b≠row):w'.heap[b]?=some o:=(hg.block b (aJ h) hne).trans h
theorem rE {w:World} {b:Nat} {a0 a1:Value} {t:TypeId} (h:w.heap[b]?=some (.cells #[a0,a1] t (0,0))):w.cell? (Ad b 0)=some a0/\w.cell? (Ad b 1)=some a1:=⟨aq h 0 rfl,aq h 1 rfl⟩
theorem GU {w:World} {b:Nat} {a0 a1 a2:Value} {t:TypeId} (h:w.heap[b]?=some (.cells #[a0,a1,a2] t (0,0))):w.cell? (Ad b 0)=some a0/\w.cell? (Ad b 1)=some a1/\w.cell? (Ad b 2)=some a2:=⟨aq h 0 rfl,aq h 1 rfl,aq h 2 rfl⟩
theorem iT {w:World} {b:Nat} {a0 a1 a2 a3 a4:Value} {t:TypeId} (h:w.heap[b]?=some (.cells #[a0,a1,a2,a3,a4] t (0,0))):w.cell? (Ad b 0)=some a0/\w.cell? (Ad b 1)=some a1/\w.cell? (Ad b 2)=some a2/\w.cell? (Ad b 3)=some a3/\w.cell? (Ad b 4)=some a4:=⟨aq h 0 rfl,aq h 1 rfl,aq h 2 rfl,aq h 3 rfl,aq h 4 rfl⟩
open Go.RowKit
def nK (a:aY):Array Value:=#[I a.page,I a.aQ,I a.jL,.bool a.zero]
theorem Ye (l:List aY) (b off cap:Nat) (p:Int) (w:World) (hl:yX w b off l) (hf:∀i,i<l.length->Ca (bC l i)) (hn:l.length<=140737488351232) :
  Calls Tryz.prog 77 #[.slice (some (Ad b off)) l.length cap,I p] w fun e w'=>e=.returned (.tuple #[.agg (nK (aV l p).1),.bool (aV l p).2])/\Below w.heap.size w w':=by
 have hbz:Below w.heap.size w (w.alloc (.cells #[I 0,I 0,I 0,.bool false] 139)):=(aK _ _).alloc (aD _) _;by_cases hc:bj l=0
 · have hlen:=oC l hc;have HC:Hid (aV l p=bW l p):=by show _=_;grind [aV]
   have HK:Hid (bj l=0):=hc;go_enter Tryz.func77,Tryz.ntmps77;go_wp2_with fail
   refine(uO l b off cap _ (hl.below hbz) hf hn).mono ?_;rintro e w1 ⟨rfl,hb1⟩;rw[hc];clear hc;go_wp2;go_loopw [14] (fun i wr=>∃k:Nat,k<=l.length/\i=I k/\(∀j,j<k->iU (bC l j) p=false)/\Below (w.heap.size+1) (w.alloc (.cells #[I 0,I 0,I 0,.bool false] 139)) wr) (fun i _=>l.length-(intOf i).toNat)
   case atStart=>exact⟨0,by omega,rfl,fun j hj=>by omega,hb1.mono (by simp)⟩
   case round =>
    obtain⟨k,hk,rfl,hno,hb⟩:=hrel;have HN:Hid (∀j,j<k->iU (bC l j) p=false):=hno;have xf:Hid (Below w.heap.size w wr):=hbz.trans (hb.mono (kZ _));have hsz:w.heap.size+1<=wr.heap.size:=by have:=hb.size;simpa using this
    have hlr:=hl.below xf.out;have hR:wr.heap[w.heap.size]?=some (.cells #[I 0,I 0,I 0,.bool false] 139 (0,0)):=aN (bB w _ _) hb (Pm _);have HR:Hid (wr.heap[w.heap.size]?=some (.cells #[I 0,I 0,I 0,.bool false] 139 (0,0))):=hR;have HB:Hid (Below (w.heap.size+1) (w.alloc (.cells #[I 0,I 0,I 0,.bool false] 139)) wr):=hb;clear hR hb;clear hno hb1;by_cases hlt:k<l.length
    · obtain⟨c0,c1,c2,c3⟩:=hlr k hlt;have hbk:=iy l k (gZ l HK.o k hlt);obtain⟨a,ha⟩:=ex (bC l k);rw[<- ha] at c0 c1 c2 c3 hbk;have HA:Hid (a=bC l k):=ha;clear ha;by_cases h1:a.page<=p
      · by_cases h2:p<a.page+a.aQ
        · have hres:Hid (aV l p=(a,true)):=by
           show _=_;rw[HC.o,tJ l p k hlt HN.o (by rw[<- HA.o];simp[iU,aY.wX,h1,h2]),<- HA.o]
          go_wp2_with fail
          refine(qb _ _ _ _ _ (by omega) (by omega)).mono ?_;rintro e w2 ⟨rfl,hb2⟩;have hA2:=aN (bB wr #[I a.page,I a.aQ,I a.jL,.bool a.zero] 139) hb2 (by simp);have hR2:=aN (bk HR.o _) hb2 (by simp;omega);have s0:=aq hA2 0 rfl;have s1:=aq hA2 1 rfl;have s2:=aq hA2 2 rfl;have s3:=aq hA2 3 rfl;have t0:=aq hR2 0 rfl;have t1:=aq hR2 1 rfl;have t2:=aq hR2 2 rfl;have t3:=aq hR2 3 rfl;have u0:=aO hR2;have hbe:Hid (Below w.heap.size w w2):=(xf.out.alloc xf.out.size _).trans (hb2.mono (by simp;omega));clear hb2 hA2 hR2;go_wp2;exact bI (v:=.tuple #[.agg #[I a.page,I a.aQ,I a.jL,.bool a.zero],.bool true]) (by simp[results,Tryz.results77,go_sem,t0,t1,t2,t3]) rfl ⟨by rw[hres.out];rfl,(((hbe.out.setCell (aD _) _).setCell (aD _) _).setCell (aD _) _).setCell (aD _) _⟩
        · have Nh:Hid (iU (bC l k) p=false):=by show _=_;rw[<- HA.o];unfold iU aY.wX;grind
          go_wp2_with fail
          refine(qb _ _ _ _ _ (by omega) (by omega)).mono ?_;rintro e w2 ⟨rfl,hb2⟩;have hbe:Hid (Below (w.heap.size+1) (w.alloc (.cells #[I 0,I 0,I 0,.bool false] 139)) w2):=(HB.o.alloc (by omega) _).trans (hb2.mono (by simp;omega));clear hb2;go_wp2;go_roundw
          case rel=>exact⟨k+1,by omega,by go_num,fun j hj=>if e:j=k then by rw[e];exact Nh.out else HN.o j (by omega),hbe.out⟩
          case measure=>simp[intOf];omega
      · have Nh:Hid (iU (bC l k) p=false):=by show _=_;rw[<- HA.o];unfold iU aY.wX;grind
        go_wp2;go_roundw
        case rel=>exact⟨k+1,by omega,by go_num,fun j hj=>if e:j=k then by rw[e];exact Nh.out else HN.o j (by omega),HB.o.alloc (by omega) _⟩
        case measure=>simp[intOf];omega
    · obtain rfl:k=l.length:=by omega
      have hres:Hid (aV l p=(xK,false)):=by show _=_;rw[HC.o,uq l p HN.o]
      have t0:=aq HR.o 0 rfl;have t1:=aq HR.o 1 rfl;have t2:=aq HR.o 2 rfl;have t3:=aq HR.o 3 rfl;have u0:=aO HR.o;go_wp2;exact bI (v:=.tuple #[.agg #[I 0,I 0,I 0,.bool false],.bool false]) (by simp[results,Tryz.results77,go_sem,t0,t1,t2,t3]) rfl ⟨by rw[hres.out];rfl,(((xf.out.setCell (aD _) _).setCell (aD _) _).setCell (aD _) _).setCell (aD _) _⟩
 · have HC:Hid (aV l p=(xK,false)):=by show _=_;grind [aV]
   have hc':(bj l != 0)=true:=by grind
   go_enter Tryz.func77,Tryz.ntmps77;go_wp2_with fail
   refine(uO l b off cap _ (hl.below hbz) hf hn).mono ?_;rintro e w1 ⟨rfl,hb1⟩;have JQ:=aN (bB w #[I 0,I 0,I 0,.bool false] 139) hb1 (by simp);have t0:=aq JQ 0 rfl;have t1:=aq JQ 1 rfl;have t2:=aq JQ 2 rfl;have t3:=aq JQ 3 rfl;have u0:=aO JQ;clear JQ;go_wp2;exact bI (v:=.tuple #[.agg #[I 0,I 0,I 0,.bool false],.bool false]) (by simp[results,Tryz.results77,go_sem,t0,t1,t2,t3]) rfl ⟨by rw[HC.o];rfl,((((hbz.trans (hb1.mono (by simp))).setCell (aD _) _).setCell (aD _) _).setCell (aD _) _).setCell (aD _) _⟩
theorem aaK (ao:Option Addr) (cap:Nat) (p:Int) (w:World) :
  Calls Tryz.prog 77 #[.slice ao 0 cap,I p] w fun e w'=>e=.returned (.tuple #[.agg (nK (aV [] p).1),.bool (aV [] p).2])/\Below w.heap.size w w':=by
 have hbz:Below w.heap.size w (w.alloc (.cells #[I 0,I 0,I 0,.bool false] 139)):=(aK _ _).alloc (aD _) _;have e2:bj []=0:=by decide
 go_enter Tryz.func77,Tryz.ntmps77;go_wp2_with fail
 refine(EG ao cap _).mono ?_;rintro e w1 ⟨rfl,hb1⟩;rw[e2];have JQ:=aN (bB w #[I 0,I 0,I 0,.bool false] 139) hb1 (by simp);have t0:=aq JQ 0 rfl;have t1:=aq JQ 1 rfl;have t2:=aq JQ 2 rfl;have t3:=aq JQ 3 rfl;have u0:=aO JQ;clear JQ;go_wp2;refine JY 1 ?_;rw[JU];go_wp2;exact bI (v:=.tuple #[.agg #[I 0,I 0,I 0,.bool false],.bool false]) (by simp[results,Tryz.results77,go_sem,t0,t1,t2,t3]) rfl ⟨rfl,((((hbz.trans (hb1.mono (by simp))).setCell (aD _) _).setCell (aD _) _).setCell (aD _) _).setCell (aD _) _⟩
open Go.RowKit
structure dx where
 m:Bool
 p:Int
 z:Bool
def jn:dx:=⟨false,0,false⟩
def Dg (s:dx):List Value:=[.bool s.m,I s.p,.bool s.z]
def rG (F:Nat->dx):Nat->List Value
 | 0=>[]
 | m+1=>rG F m++Dg (F m)
def cJ (F:Nat->dx):Array Value:=(rG F 256).toArray
def GY (F:Nat->dx) (n:Nat) (s:dx):Nat->dx:=fun k=>if k=n then s else F k
theorem jZ (F:Nat->dx):∀m,(rG F m).length=m*3
 | 0=>rfl
 | m+1=>by simp[rG,jZ F m,Dg];omega
theorem gq (F:Nat->dx):(cJ F).size=768:=by simp[cJ,jZ]
theorem Oq (F:Nat->dx) (n j:Nat) (hj:j<3):∀m,n<m->(rG F m)[n*3+j]?=(Dg (F n))[j]?
 | 0,h=>by omega
 | m+1,h=>by
  simp only[rG];by_cases e:n=m
  · grind [jZ]
  · rw[Hf (by grind [jZ])];exact Oq F n j hj m (by omega)
theorem CK (F:Nat->dx) (n j:Nat) (hn:n<256) (hj:j<3):(cJ F)[n*3+j]?=(Dg (F n))[j]?:=by
 grind [cJ,Oq]
theorem ng (F:Nat->dx) (n:Nat) (hn:n<256):(cJ F)[n*3]?=some (.bool (F n).m):=CK F n 0 hn (by omega)
theorem m9 (F:Nat->dx) (n:Nat) (hn:n<256):(cJ F)[n*3+1]?=some (I (F n).p):=CK F n 1 hn (by omega)
theorem m8 (F:Nat->dx) (n:Nat) (hn:n<256):(cJ F)[n*3+2]?=some (.bool (F n).z):=CK F n 2 hn (by omega)
theorem Jf (F G:Nat->dx):∀m,(∀k,k<m->F k=G k)->rG F m=rG G m
 | 0,_=>rfl
 | m+1,h=>by simp only[rG];rw[Jf F G m (fun k hk=>h k (by omega)),h m (by omega)]
theorem Om (F:Nat->dx) (n:Nat) (s:dx):∀m,n<m->(((rG F m).set (n*3) (.bool s.m)).set (n*3+1) (I s.p)).set (n*3+2) (.bool s.z)=rG (GY F n s) m
 | 0,h=>by omega
 | m+1,h=>by
  simp only[rG];by_cases e:n=m
  · subst e;rw[AV _ _ (by grind [jZ]),AV _ _ (by grind [jZ]),AV _ _ (by grind [jZ]),jZ,
     show n*3-n*3=0 from by omega,show n*3+1-n*3=1 from by omega,show n*3+2-n*3=2 from by omega]
    grind [Jf,GY,Dg]
  · rw[J2 _ _ (by grind [jZ]),J2 _ _ (by grind [jZ]),J2 _ _ (by grind [jZ]),Om F n s m (by omega)]
    grind [GY]
theorem yl (F:Nat->dx) (n:Nat) (s:dx) (hn:n<256) :
  (((cJ F).setIfInBounds (n*3) (.bool s.m)).setIfInBounds (n*3+1) (I s.p)).setIfInBounds (n*3+2) (.bool s.z)=cJ (GY F n s):=by
 grind [cJ,Om]
theorem Oo (F:Nat->dx):∀m,∀v∈rG F m,v.oneCell'=true
 | 0,v,h=>by grind [rG]
 | m+1,v,h=>by
  simp only[rG,l5] at h;rcases h with h | h
  · exact Oo F m v h
  · simp only[Dg,uQ,G9,or_false] at h;rcases h with rfl | rfl | rfl <;> rfl
theorem uP (F:Nat->dx):(cJ F).all (·.oneCell')=true:=by
 grind [Oo,cJ]
def nT (F:Nat->dx) (a:aY) (t:Int):Nat->dx:=fun n=>if a.page<=(n:Int)/\(n:Int)<t then ⟨true,a.jL,a.zero⟩ else F n
def ft (l:List aY):Nat->Nat->dx
 | 0=>fun _=>jn
 | k+1=>nT (ft l k) (bC l k) (bC l k).wX
def fI (l:List aY):Nat->dx:=ft l l.length
theorem Su (F:Nat->dx) (a:aY):nT F a a.page=F:=by
 grind [nT]
theorem Um (F:Nat->dx) (a:aY) (n:Nat) (h:a.page<=(n:Int)):GY (nT F a n) n ⟨true,a.jL,a.zero⟩=nT F a ((n:Int)+1):=by
 grind [GY,nT]
open Go.RowKit
theorem U7:(Tryz.prog.info? 332).map (fun i=>(i.zero,i.size))=some (some (.agg (cJ (fun _=>jn))),768):=by kernel_rfl
theorem oJ:(Tryz.prog.info? 332).map (·.size)=some 768:=(zero_of_info U7).2
theorem Mb (w:World):(zeroValue 332).run Tryz.prog w=.ok (.agg (cJ (fun _=>jn))) w:=(zero_of_info U7).1 w
theorem Sk (l:List aY) (b off cap:Nat) (w:World) (hl:yX w b off l) (hc:bj l=0) :
  Calls Tryz.prog 210 #[.slice (some (Ad b off)) l.length cap] w fun e w'=>e=.returned (.agg (cJ (fI l)))/\Below w.heap.size w w':=by
 have hlen:=oC l hc;have HK:Hid (bj l=0):=hc;clear hc;obtain⟨Z,hZ⟩:=ex (cJ (fun _=>jn));have hz:=Mb;rw[<- hZ] at hz;have HZ:Hid (Z=cJ (fun _=>jn)):=hZ;clear hZ;go_enter Tryz.func210,Tryz.ntmps210;go_wp2;go_loopw [9] (fun i wr=>∃k:Nat,k<=l.length/\i=I k/\wr.heap[w.heap.size]?=some (.cells Z 332 (0,0))/\wr.heap[w.heap.size+1]?=some (.cells (cJ (ft l k)) 332 (0,0))/\Below w.heap.size w wr) (fun i _=>l.length-(intOf i).toNat)
 case atStart =>
  refine⟨0,by omega,rfl,bk (bB w Z 332) _,?_,((aK _ _).alloc (aD _) _).alloc (by simp) _⟩;show _=some (Obj.cells (cJ (fun _=>jn)) 332 (0,0))
  grind [Hid.o,World.alloc]
 case round =>
  obtain⟨k,hk,rfl,hR,hA,hb⟩:=hrel;have HR:Hid (wr.heap[w.heap.size]?=some (.cells Z 332 (0,0))):=hR;have HA:Hid (wr.heap[w.heap.size+1]?=some (.cells (cJ (ft l k)) 332 (0,0))):=hA;have HB:Hid (Below w.heap.size w wr):=hb;have hsz:w.heap.size+2<=wr.heap.size:=aJ hA;by_cases hlt:k<l.length
  · obtain⟨c0,c1,c2,c3⟩:=hl.below hb k hlt;have hbk:=iy l k (gZ l HK.o k hlt);obtain⟨a,ha⟩:=ex (bC l k);rw[<- ha] at c0 c1 c2 c3 hbk;have HAr:Hid (a=bC l k):=ha;clear ha hR hA hb;obtain⟨wo,hwo⟩:∃wo:World,wo=wr:=⟨_,rfl⟩;subst hwo;have hcx:(k:Int)<(l.length:Int):=by omega
    go_wp2;go_loopw [6] (fun t wi=>∃n:Nat,a.page<=(n:Int)/\(n:Int)<=a.page+a.aQ/\t=I n/\wi.heap[w.heap.size]?=some (.cells Z 332 (0,0))/\wi.heap[w.heap.size+1]?=some (.cells (cJ (nT (ft l k) a n)) 332 (0,0))/\wi.heap[wo.heap.size]?=some (.cells #[I a.page,I a.aQ,I a.jL,.bool a.zero] 139 (0,0))/\Below w.heap.size w wi) (fun t _=>(a.page+a.aQ-intOf t).toNat)
    case atStart =>
     refine⟨a.page.toNat,by omega,by omega,by grind,bk HR.o _,?_,bB _ _ _,HB.o.alloc HB.o.size _⟩;rw[Int.toNat_of_nonneg (by omega),Su];exact bk HA.o _
    case round =>
     obtain⟨n,Ur,Hh,rfl,iR,iA,iX,ib⟩:=hrel;have IR:Hid (wr.heap[w.heap.size]?=some (.cells Z 332 (0,0))):=iR;have IA:Hid (wr.heap[w.heap.size+1]?=some (.cells (cJ (nT (ft l k) a n)) 332 (0,0))):=iA;have IB:Hid (Below w.heap.size w wr):=ib;have x0:=aq iX 0 rfl;have x1:=aq iX 1 rfl;have x2:=aq iX 2 rfl;have x3:=aq iX 3 rfl;have IX:Hid (wr.heap[wo.heap.size]?=some (.cells #[I a.page,I a.aQ,I a.jL,.bool a.zero] 139 (0,0))):=iX;have hxs:wo.heap.size<wr.heap.size:=aJ iX;clear iR iA iX ib;by_cases hin:(n:Int)<a.page+a.aQ
     · go_wp2_with fail
       refine(qb _ _ _ _ _ (by omega) (by omega)).mono ?_;rintro e w2 ⟨rfl,hb2⟩;have jR:=aN IR.o hb2 (by omega);have jA:=aN IA.o hb2 (by omega);have jX:=aN IX.o hb2 hxs;have y2:=aq jX 2 rfl;have y3:=aq jX 3 rfl;have z0:=aq jA (n*3) (ng _ n (by omega));have z1:=aq jA (n*3+1) (m9 _ n (by omega));have z2:=aq jA (n*3+2) (m8 _ n (by omega));have zf:=aO jA;have JR:Hid (w2.heap[w.heap.size]?=some (.cells Z 332 (0,0))):=jR;have JA:Hid (w2.heap[w.heap.size+1]?=some (.cells (cJ (nT (ft l k) a n)) 332 (0,0))):=jA;have JX:Hid (w2.heap[wo.heap.size]?=some (.cells #[I a.page,I a.aQ,I a.jL,.bool a.zero] 139 (0,0))):=jX;have JB:Hid (Below w.heap.size w w2):=IB.o.trans (hb2.mono IB.o.size);clear jR jA jX hb2 x0 x1 x2 x3;have afp:(n:Int)<256:=by omega
       go_wp2;go_roundw
       case rel =>
        refine⟨n+1,by omega,by omega,by go_num,mv (mv (mv JR.o _ _ _ (by omega)) _ _ _ (by omega)) _ _ _ (by omega),?_,mv (mv (mv JX.o _ _ _ (by omega)) _ _ _ (by omega)) _ _ _ (by omega),((JB.o.setCell (by simp) _).setCell (by simp) _).setCell (by simp) _⟩;have h:=fP (fP (fP JA.o (n*3) (.bool true)) (n*3+1) (I a.jL)) (n*3+2) (.bool a.zero);rw[yl (nT (ft l k) a n) n ⟨true,a.jL,a.zero⟩ (by omega),Um _ _ _ Ur] at h;rw[show((n+1:Nat):Int)=(n:Int)+1 from by omega];exact h
       case measure=>simp[intOf];omega
     · have hend:(n:Int)=a.page+a.aQ:=by omega
       have HE:Hid ((n:Int)=a.page+a.aQ):=hend;clear hend;go_wp2_with fail
       refine(qb _ _ _ _ _ (by omega) (by omega)).mono ?_;rintro e w2 ⟨rfl,hb2⟩;have JR:Hid (w2.heap[w.heap.size]?=some (.cells Z 332 (0,0))):=aN IR.o hb2 (by omega);have JA:Hid (w2.heap[w.heap.size+1]?=some (.cells (cJ (nT (ft l k) a n)) 332 (0,0))):=aN IA.o hb2 (by omega);have JB:Hid (Below w.heap.size w w2):=IB.o.trans (hb2.mono IB.o.size);clear hb2 x0 x1 x2 x3;go_wp2;go_roundw
       case rel =>
        refine⟨k+1,by omega,by go_num,JR.o,?_,JB.o⟩;have h:=JA.o;rw[HE.o] at h;show _=some (Obj.cells (cJ (nT (ft l k) (bC l k) (bC l k).wX)) 332 (0,0));rw[<- HAr.o];exact h
       case measure=>simp[intOf];omega
  · obtain rfl:k=l.length:=by omega
    have hZs:Z.size=768:=by rw[HZ.o];exact gq _
    clear hR hA hb;go_wp2_with (first | (refine Ds rfl 332 _ rfl (w.heap.size+1) rfl 332 _ (0,0) _ HA.o Tryz.underlying332 rfl (by rw[gq];exact oJ) ?_) | (refine JZ rfl 332 _ _ rfl w.heap.size _ rfl rfl 332 Z HR.o (by rw[gq];exact oJ) (by rw[hZs,gq]) (uP _) ?_))
    exact bI (v:=.agg (cJ (ft l l.length))) (results_cell_row rfl _ _ w.heap.size 332 _ (0,0) _ rfl (tM _ _ _ _ 332 (0,0) HR.o) Tryz.underlying332 rfl (by rw[gq];exact oJ)) rfl ⟨rfl,below_setRow HB.o (aD _) _⟩
theorem Uj (ao:Option Addr) (cap:Nat) (w:World) :
  Calls Tryz.prog 210 #[.slice ao 0 cap] w fun e w'=>e=.returned (.agg (cJ (fI [])))/\Below w.heap.size w w':=by
 obtain⟨Z,hZ⟩:=ex (cJ (fun _=>jn));have hz:=Mb;rw[<- hZ] at hz;have hZs:Z.size=768:=by grind [gq]
 have HZ:Hid (Z=cJ (fun _=>jn)):=hZ;clear hZ;have HR:Hid (((w.alloc (.cells Z 332)).alloc (.cells Z 332)).heap[w.heap.size]?=some (.cells Z 332 (0,0))):=bk (bB w Z 332) _;have HA:Hid (((w.alloc (.cells Z 332)).alloc (.cells Z 332)).heap[w.heap.size+1]?=some (.cells Z 332 (0,0))):=by
  grind [World.alloc]
 go_enter Tryz.func210,Tryz.ntmps210;go_wp2;refine JY 1 ?_;rw[JU];go_wp2_with (first | (refine Ds rfl 332 _ rfl (w.heap.size+1) rfl 332 _ (0,0) _ HA.o Tryz.underlying332 rfl (by grind [oJ]) ?_) | (refine JZ rfl 332 _ _ rfl w.heap.size _ rfl rfl 332 Z HR.o (by rw[hZs];exact oJ) rfl (by grind [uP,Hid.o]) ?_))
 exact bI (v:=.agg Z) (results_cell_row rfl _ _ w.heap.size 332 _ (0,0) _ rfl (tM _ _ _ _ 332 (0,0) HR.o) Tryz.underlying332 rfl (by grind [oJ])) rfl ⟨by rw[HZ.o];rfl,below_setRow (((aK _ _).alloc (aD _) _).alloc (by simp) _) (aD _) _⟩
open Go.RowKit
theorem Sy (F:Nat->dx) (k:Nat) (hk:k<256):(cJ F).extract (k*3) (k*3+3)=#[.bool (F k).m,I (F k).p,.bool (F k).z]:=by
 apply Array.ext_getElem?;intro j;have hs:=gq F;rw[Array.getElem?_extract,hs]
 match j with
 | 0=>grind [ng]
 | 1=>grind [m9]
 | 2=>grind [m8]
 | j+3=>grind
def iE (F:Nat->dx):Nat->dx
 | 0=>jn
 | k+1=>F k
def yi (a b:dx):Bool:=a.m==b.m&&(a.p==b.p&&a.z==b.z)
def B6 (G:List aY):List aY:=G.set (G.length-1) ⟨(bC G (G.length-1)).page,(bC G (G.length-1)).aQ+1,(bC G (G.length-1)).jL,(bC G (G.length-1)).zero⟩
def cW (F:Nat->dx):Nat->List aY
 | 0=>[]
 | k+1=>if (F k).m=false then cW F k else if yi (F k) (iE F k) then B6 (cW F k) else cW F k++[⟨(k:Int),1,(F k).p,(F k).z⟩]
def kE (F:Nat->dx):List aY:=cW F 256
def o8 (a:aY):List Value:=[I a.page,I a.aQ,I a.jL,.bool a.zero]
def cR:List aY->List Value
 | []=>[]
 | a::r=>o8 a++cR r
theorem y7:∀G:List aY,(cR G).length=G.length*4
 | []=>rfl
 | a::r=>by simp[cR,o8,y7 r];omega
theorem y8:∀G H:List aY,cR (G++H)=cR G++cR H
 | [],H=>rfl
 | a::r,H=>by simp[cR,y8 r H]
theorem mN:∀(G:List aY) (i j:Nat),i<G.length->j<4->(cR G)[i*4+j]?=(o8 (bC G i))[j]?
 | [],i,j,h,_=>by simp at h
 | a::r,0,j,h,hj=>by
  grind [cR,o8,bC]
 | a::r,i+1,j,h,hj=>by
  simp only[cR];rw[zj (by simp[o8];omega),show(i+1)*4+j-(o8 a).length=i*4+j from by grind [o8],mN r i j (by grind) hj];rfl
theorem Dk:∀(G:List aY) (i:Nat) (n:Int),i<G.length->cR (G.set i ⟨(bC G i).page,n,(bC G i).jL,(bC G i).zero⟩)=(cR G).set (i*4+1) (I n)
 | [],i,n,h=>by simp at h
 | a::r,0,n,h=>by rfl
 | a::r,i+1,n,h=>by
  simp only[cR,dz];rw[AV _ _ (by simp[o8];omega),show(i+1)*4+1-(o8 a).length=i*4+1 from by grind [o8]];have e:=Dk r i n (by grind)
  grind [bC]
theorem wS (G:List aY):(B6 G).length=G.length:=by simp[B6]
theorem xM:∀(G:List aY),∀v∈cR G,v.oneCell'=true
 | [],v,h=>by grind [cR]
 | a::r,v,h=>by
  simp only[cR,o8,Dt,List.nil_append,uQ] at h;rcases h with rfl | rfl | rfl | rfl | h
  · rfl
  · rfl
  · rfl
  · rfl
  · exact xM r v h
theorem sP (G H:List aY) (i:Nat) (h:i<G.length):bC (G++H) i=bC G i:=by grind [bC]
theorem wT (G:List aY) (a:aY):bC (G++[a]) G.length=a:=by simp[bC]
theorem Sz (G:List aY) (i:Nat) (a:aY) (h:i<G.length):bC (G.set i a) i=a:=by simp[bC,h]
theorem Pc (G:List aY) (i j:Nat) (a:aY) (h:j≠i):bC (G.set i a) j=bC G j:=by grind [bC]
theorem CI (F:Nat->dx):∀k,(cW F k).length<=k
 | 0=>by simp[cW]
 | k+1=>by
  have ih:=CI F k
  grind [cW,wS]
theorem G1 (F:Nat->dx):∀k,(iE F k).m=true->0<(cW F k).length
 | 0,h=>by grind [iE,jn]
 | k+1,h=>by
  have h':(F k).m=true:=h;simp only[cW,h'];rw[au (by simp)];split
  · rename_i he
    have hm:(iE F k).m=true:=by
     grind [yi]
    rw[wS];exact G1 F k hm
  · simp
theorem E4 (F:Nat->dx):∀k,∀i,i<(cW F k).length->1<=(bC (cW F k) i).aQ/\(bC (cW F k) i).aQ<=k
 | 0,i,h=>by grind [cW]
 | k+1,i,h=>by
  have ih:=E4 F k
  grind [cW,B6,Sz,Pc,sP,wT]
theorem Sr (a b:dx) (h:yi a b=true):a=b:=by
 cases a;simp_all [yi]
theorem Sq (a b:dx) (h:yi a b=false):(a.m==b.m)=false∨((a.m==b.m)=true/\(a.p==b.p)=false)∨((a.m==b.m)=true/\(a.p==b.p)=true/\(a.z==b.z)=false):=by
 grind [yi]
open Go.RowKit
theorem acP (F:Nat->dx) (k:Nat) (hk:k<256) (w:World):(Instr.index 332 (.agg (cJ F)) (I k)).run Tryz.prog w=.ok (.agg #[.bool (F k).m,I (F k).p,.bool (F k).z]) w:=by
 simp[Instr.index,JW Tryz.underlying332,go_sem]
 grind [Sy]
theorem aeQ:(Tryz.prog.info? 139).map (fun i=>(i.zero,i.size,i.bytes))=some (some (.agg #[I 0,I 0,I 0,.bool false]),4,32):=by rfl
def gD (w:World) (v:Value) (l:List aY):Prop:=∃ao cap,v=.slice ao l.length cap/\(l=[]∨∃b off,ao=some (Ad b off)/\yX w b off l)
theorem GX {w wx:World} {v:Value} {n:Nat} {xs:List Value} {C:Array Value} (hC:C.size=3) (hown:wx.ownsRow (w.heap.size+2) 139 4 v n xs) (hl:wx.heap[w.heap.size+1]?=some (.cells C 287 (0,0))) (hb:Below w.heap.size w wx) (x y z:Value) :
  (((wx.setCell (Ad (w.heap.size+1) 0) x).setCell (Ad (w.heap.size+1) 1) y).setCell (Ad (w.heap.size+1) 2) z).ownsRow (w.heap.size+2) 139 4 v n xs /\
  (((wx.setCell (Ad (w.heap.size+1) 0) x).setCell (Ad (w.heap.size+1) 1) y).setCell (Ad (w.heap.size+1) 2) z).heap[w.heap.size+1]?=some (.cells #[x,y,z] 287 (0,0)) /\
  Below w.heap.size w (((wx.setCell (Ad (w.heap.size+1) 0) x).setCell (Ad (w.heap.size+1) 1) y).setCell (Ad (w.heap.size+1) 2) z):=by
 refine⟨He (He (He hown (by simp) _) (by simp) _) (by simp) _,?_,((hb.setCell (by simp) _).setCell (by simp) _).setCell (by simp) _⟩;rw[fP (fP (fP hl 0 x) 1 y) 2 z];congr 2
 match C,hC with
 | ⟨[a,b,c]⟩,_=>rfl
def ez (lo:Nat) (w:World) (v:Value) (l:List aY):Prop:=w.ownsRow lo 139 4 v l.length (cR l)
theorem ez.nil (lo:Nat) (w:World):ez lo w Nl []:=mG _ _ _ _
theorem ez.mono {lo lo':Nat} {w:World} {v:Value} {l:List aY} (h:ez lo w v l) (hl:lo'<=lo):ez lo' w v l:=by
 refine⟨h.1,?_⟩;rcases h.2 with h2 | ⟨g,cap,cur,hv,hbg,rest⟩
 · grind
 · exact .inr ⟨g,cap,cur,hv,gu hl hbg,rest⟩
theorem ez.has {lo:Nat} {w:World} {v:Value} {l:List aY} (h:ez lo w v l):gD w v l:=by
 rcases h.2 with⟨hv,h0⟩ | ⟨g,cap,cur,hv,hbg,hg,hnc,hcm,hcs,htake⟩
 · exact⟨none,0,by grind,.inl (lj h0)⟩
 · have ho:=h;unfold ez at ho;rw[hv] at ho;refine⟨some (Ad g 0),cap,hv,.inr ⟨g,0,rfl,fun i hi=>?_⟩⟩;rw[lZ];exact⟨(ho.cellAt _ (by omega)).trans (mN _ i 0 hi (by omega)),(ho.cellAt _ (by omega)).trans (mN _ i 1 hi (by omega)),(ho.cellAt _ (by omega)).trans (mN _ i 2 hi (by omega)),(ho.cellAt _ (by omega)).trans (mN _ i 3 hi (by omega))⟩
theorem CG (F:Nat->dx) (w:World) :
  Calls Tryz.prog 211 #[.agg (cJ F)] w fun e w'=>∃v,e=.returned v/\ez w.heap.size w' v (kE F)/\Below w.heap.size w w':=by
 have Ox:=acP F;obtain⟨C,hC⟩:=ex (cJ F);have hCs:C.size=768:=by grind [gq]
 rw[<- hC] at Ox ⊢;clear hC;obtain⟨i0,hi,hz0,hz1,hz2⟩:=jy aeQ;have HX:Hid (((w.alloc (.cells C 332)).alloc (.cells #[.bool false,I 0,.bool false] 287)).heap[w.heap.size]?=some (.cells C 332 (0,0))):=bk (bB w C 332) _;have HL:Hid (((w.alloc (.cells C 332)).alloc (.cells #[.bool false,I 0,.bool false] 287)).heap[w.heap.size+1]?=some (.cells #[.bool false,I 0,.bool false] 287 (0,0))):=by
  grind [World.alloc]
 have gB:Hid (Below w.heap.size w ((w.alloc (.cells C 332)).alloc (.cells #[.bool false,I 0,.bool false] 287))):=((aK _ _).alloc (aD _) _).alloc (by simp) _;go_enter Tryz.func211,Tryz.ntmps211;go_wp2_with (first | (refine Ds rfl 332 _ rfl w.heap.size rfl 332 _ (0,0) _ HX.o Tryz.underlying332 rfl (by grind [oJ]) ?_))
 go_loopw [3,8] (fun v i wr=>∃k:Nat,k<=256/\i=I k/\wr.ownsRow (w.heap.size+2) 139 4 v (cW F k).length (cR (cW F k))/\wr.heap[w.heap.size+1]?=some (.cells #[.bool (iE F k).m,I (iE F k).p,.bool (iE F k).z] 287 (0,0))/\Below w.heap.size w wr) (fun _ i _=>256-(intOf i).toNat)
 case atStart=>exact⟨0,by omega,rfl,mG _ _ _ _,HL.o,gB.o⟩
 case round =>
  obtain⟨k,hk,rfl,hown,hl,hb⟩:=hrel;have HO:Hid (wr.ownsRow (w.heap.size+2) 139 4 u3 (cW F k).length (cR (cW F k))):=hown;have HLr:Hid (wr.heap[w.heap.size+1]?=some (.cells #[.bool (iE F k).m,I (iE F k).p,.bool (iE F k).z] 287 (0,0))):=hl;have HB:Hid (Below w.heap.size w wr):=hb;have hsz:w.heap.size+1<wr.heap.size:=aJ hl;have l0:=aq hl 0 rfl;have l1:=aq hl 1 rfl;have l2:=aq hl 2 rfl;have lf:=aO hl;clear hown hl hb;by_cases hlt:k<256
  · have hx:=fun W=>Ox k hlt W
    have Jj:(k:Int)<256:=by omega
    obtain⟨s,hs⟩:=ex (F k);obtain⟨t,ht⟩:=ex (iE F k);rw[<- hs] at hx;rw[<- ht] at l0 l1 l2;have HS:Hid (s=F k):=hs;have HT:Hid (t=iE F k):=ht;clear hs ht Ox;by_cases hm:s.m=true
    · by_cases he:yi s t=true
      · have hst:s=t:=Sr s t he;have HG:Hid (cW F (k+1)=B6 (cW F k)):=by show _=_;simp only[cW];rw[<- HS.o,<- HT.o,hm,he];rfl
        have hpos:=G1 F k (by rw[<- HT.o,<- hst];exact hm);have hlen:=CI F k;obtain⟨G,hG⟩:=ex (cW F k);have PL:=E4 F k ((cW F k).length-1) (by omega);rw[<- hG] at HO HG hpos hlen PL;clear hG;rcases HO.o.2 with⟨_,h0⟩ | ⟨g,cap,cur,hv,hbg,hg,hnc,hcm,hcs,htake⟩
        · omega
        · have C3:=HO.o;rw[hv] at C3;have p1:wr.cell? ⟨g,(G.length-1)*4+1,none⟩=some (I (bC G (G.length-1)).aQ):=by
           rw[C3.cellAt _ (by omega),mN G _ 1 (by omega) (by omega)];rfl
          have pf:=C3.frozenAt;have HOv:Hid (wr.ownsRow (w.heap.size+2) 139 4 (.slice (some (Ad g 0)) G.length cap) G.length (cR G)):=C3;have hgl:g<wr.heap.size:=aJ hg;rw[hv];clear HO C3 hv hg htake hcs he;obtain⟨pp,Fh⟩:=ex ((bC G (G.length-1)).aQ);rw[<- Fh] at p1 PL;have HP:Hid (pp=(bC G (G.length-1)).aQ):=Fh;clear Fh;subst hst;have hG2:(G.length:Int)<=256:=by omega
          go_wp2;go_roundw
          case rel =>
           have ho:=(HOv.o.stored ((G.length-1)*4+1) (I (pp+1))).1;have e:(cR G).set ((G.length-1)*4+1) (I (pp+1))=cR (B6 G):=by
            rw[HP.o];exact(Dk G (G.length-1) _ (by omega)).symm
           rw[e] at ho;have h:=GX rfl ho (mv HLr.o _ _ _ (by omega)) (HB.o.setCell (by simp;omega) _) (.bool true) (I s.p) (.bool s.z);refine⟨k+1,by omega,by go_num,?_,?_,h.2.2.alloc h.2.2.size _⟩
           · rw[HG.o,wS];exact h.1.alloc _
           · show _=some (Obj.cells #[.bool (F k).m,I (F k).p,.bool (F k).z] 287 (0,0));rw[<- HS.o,hm];exact bk h.2.1 _
          case measure=>simp[intOf];omega
      · have he':yi s t=false:=by simpa using he
        have HG:Hid (cW F (k+1)=cW F k++[⟨(k:Int),1,s.p,s.z⟩]):=by show _=_;simp only[cW];rw[<- HS.o,<- HT.o,hm,he'];rfl
        have hlen:=CI F k;obtain⟨G,hG⟩:=ex (cW F k);rw[<- hG] at HO HG hlen;clear hG he;have hrow:Hid (∀j,u3.ownBlock=some j->w.heap.size+2<=j/\j<wr.heap.size):=HO.o.lt;have ajQ:=Sq s t he';obtain⟨sm,sp,sz⟩:=s;obtain⟨tm,tp,tz⟩:=t;simp only at hm ajQ l0 l1 l2 HG;subst hm;have HN:Hid (((wr.alloc (.cells #[.bool true,I sp,.bool sz] 287)).alloc (.cells #[I (k:Int),I 1,I sp,.bool sz] 139)).heap[wr.heap.size+1]?=some (.cells #[I (k:Int),I 1,I sp,.bool sz] 139 (0,0))):=by
         have:=bB (wr.alloc (.cells #[.bool true,I sp,.bool sz] 287)) #[I (k:Int),I 1,I sp,.bool sz] 139;show _=_;simpa using this
        have ami:tm=false∨(tm=true/\(sp==tp)=false)∨(tm=true/\sp=tp/\tz=!sz):=by
         cases tm
         · exact .inl rfl
         · rcases ajQ with q | ⟨_,q⟩ | ⟨_,q1,q2⟩
           · cases q
           · exact .inr (.inl ⟨rfl,q⟩)
           · refine .inr (.inr ⟨rfl,by simpa using q1,?_⟩);cases sz <;> cases tz <;> first | rfl | cases q2
        clear he' ajQ;rcases ami with rfl | ⟨rfl,q⟩ | ⟨rfl,rfl,rfl⟩
        all_goals
         go_wp2_with (at_builtin;refine Pr _ rfl _ _ 22 rfl (w.heap.size+2) 139 i0 (.agg #[I 0,I 0,I 0,.bool false]) 4 32 Tryz.underlying22 hi hz0 hz1 hz2 rfl (by decide) _ _ _ rfl ((HO.o.alloc _).alloc _) (Ad (wr.heap.size+1) 0) 1 1 [I (k:Int),I 1,I sp,.bool sz] rfl rfl (GR HN.o) (xM [⟨(k:Int),1,sp,sz⟩]) (by decide) (by unfold maxLen;omega) (by omega) (by simp;omega) (wr.heap.size+2) (by simp) ?_)
         intro g cap w1 hown1 hgrow hat auV;have bS:=H6 (bk (bB wr #[.bool true,I sp,.bool sz] 287) (.cells #[I (k:Int),I 1,I sp,.bool sz] 139)) hgrow (fun e=>by have:=hrow.out _ e.symm;omega);have bL:=H6 (bk (bk HLr.o (.cells #[.bool true,I sp,.bool sz] 287)) (.cells #[I (k:Int),I 1,I sp,.bool sz] 139)) hgrow (fun e=>by have:=hrow.out _ e.symm;omega);have b0:=aq bS 0 rfl;have b1:=aq bS 1 rfl;have b2:=aq bS 2 rfl;have m0:=aq bL 0 rfl;have m1:=aq bL 1 rfl;have m2:=aq bL 2 rfl;have mf:=aO bL;have HO1:Hid (w1.ownsRow (w.heap.size+2) 139 4 (Value.slice (some (Ad g 0)) (G.length+1) cap) (G.length+1) (cR G++[I (k:Int),I 1,I sp,.bool sz])):=hown1;have HL1:Hid (w1.heap[w.heap.size+1]?=some (.cells #[.bool (iE F k).m,I (iE F k).p,.bool (iE F k).z] 287 (0,0))):=bL;have cH:Hid (Below w.heap.size w w1):=((HB.o.alloc HB.o.size _).alloc (by simp;omega) _).grown hgrow (by simp;omega) (fun k' e=>by have:=hrow.out _ e;omega);clear bS bL hown1 hgrow hat l0 l1 l2 lf;go_wp2;go_roundw
         case rel =>
          have h:=GX rfl HO1.o HL1.o cH.o (.bool true) (I sp) (.bool sz);refine⟨k+1,by omega,by go_num,?_,?_,h.2.2⟩
          · rw[HG.o,fM,y8];exact h.1
          · show _=some (Obj.cells #[.bool (F k).m,I (F k).p,.bool (F k).z] 287 (0,0));rw[<- HS.o];exact h.2.1
         case measure=>simp[intOf];omega
    · have hm':s.m=false:=by simpa using hm
      have HG:Hid (cW F (k+1)=cW F k):=by show _=_;simp only[cW];rw[<- HS.o,hm'];rfl
      clear hm;go_wp2;go_roundw
      case rel =>
       have h:=GX rfl HO.o HLr.o HB.o (.bool false) (I s.p) (.bool s.z);refine⟨k+1,by omega,by go_num,?_,?_,h.2.2.alloc h.2.2.size _⟩
       · rw[HG.o];exact h.1.alloc _
       · show _=some (Obj.cells #[.bool (F k).m,I (F k).p,.bool (F k).z] 287 (0,0));rw[<- HS.o,hm'];exact bk h.2.1 _
      case measure=>simp[intOf];omega
  · obtain rfl:k=256:=by omega
    go_wp2;go_ret;refine⟨_,rfl,?_,HB.o⟩;exact ez.mono (lo:=w.heap.size+2) HO.o (by omega)
end Go.Proofs.YtlgoihmkgaaemaaGreat
