import Derived.Test.YtlgoihmkgaaemaaGreatGN00
import Derived.Deep.WholeRow
import Derived.Laws.CopyOwn
set_option maxHeartbeats 20000000
set_option linter.unusedVariables false
set_option maxRecDepth 100000
set_option linter.unusedSimpArgs false
namespace Go.Proofs.YtlgoihmkgaaemaaGreat
open Go.RowKit
theorem xG {k:IntKind} {a b:Int} (h:a=b):Ending.returned (.int k a)=.returned (.int k b):=by rw[h]
theorem uF (l:List aX) (b off cap:Nat) (w:World) (hl:wQ w b off l) (hf:∀i,i<l.length->B0 (bC l i)) (hn:l.length<=140737488351232) :
  Calls Tryz.prog 117 #[.slice (some (Ad b off)) l.length cap] w fun e w'=>e=.returned (I (bk l))/\Below w.heap.size w w':=by
 by_cases hm:255<l.length
 · have e:bk l=2:=by grind [bk]
   rw[e];have hm':(255:Int)<(l.length:Int):=by omega
   go_enter Tryz.func117,Tryz.ntmps117;go_wp2;go_ret;exact⟨rfl,aK _ _⟩
 · have hm':¬(255:Int)<(l.length:Int):=by omega
   have e:bk l=if ug l then 0 else 1:=by grind [bk]
   have E:Hid (bk l=if ug l then 0 else 1):=e;clear e;go_enter Tryz.func117,Tryz.ntmps117;go_wp2;go_loopw [10] (fun i wr=>∃k:Nat,k<=l.length/\i=I k/\kN l k=true/\Below w.heap.size w wr) (fun i _=>l.length-(intOf i).toNat)
   case atStart=>exact⟨0,by omega,rfl,rfl,aK _ _⟩
   case round =>
    obtain⟨k,hk,rfl,hg,hb⟩:=hrel;have HG:Hid (kN l k=true):=hg;clear hg;by_cases hlt:k<l.length
    · obtain⟨c0,c1,c2,c3⟩:=(hl.below hb) k hlt;obtain⟨f1,f2,f3⟩:=hf k hlt;obtain⟨a,ha⟩:=ex (bC l k);rw[<- ha] at c0 c1 c2 c3 f1 f2 f3;have HA:Hid (a=bC l k):=ha;clear ha;by_cases hp:fT a.page a.aQ=true
      · by_cases hq:kr a.jG=true
        · obtain⟨W,hW⟩:=ex (wr.alloc (.cells #[I a.page,I a.aQ,I a.jG,.bool a.zero] 139));have hs:W.heap.size=wr.heap.size+1:=by rw[hW];simp
          have hbW:Hid (Below w.heap.size w W):=by show Below _ _ _;rw[hW];exact hb.alloc hb.size _
          by_cases hk0:k=0
          · have hok:Hid (nI l k=true):=by show _=true;unfold nI;rw[<- HA.o,hp,hq,hk0];rfl
            have z2:decide (0<k)=false:=by simp;omega
            clear hk0;go_wp2_with (first | (go_at_call 174;refine(fN _ _ _ f1 f2).mono ?_;rintro e w' ⟨rfl,rfl⟩) | (go_at_call 175;refine(jn _ _).mono ?_;rintro e w' ⟨rfl,rfl⟩))
            go_quiet (fail)
            go_wp2;go_roundw
            case rel=>exact⟨k+1,by omega,by go_num,R7 l k HG.o hok.out,nV (hb.alloc hb.size _) _⟩
            case measure=>simp[intOf];omega
          · have CL:=jq W;have hkc:=@fO W;have hlW:=hl.below hbW.out;have hbl:=hlW.lt k hlt;obtain⟨g0,g1,g2,g3⟩:=hlW (k-1) (by omega);obtain⟨fp1,fp2,fp3⟩:=hf (k-1) (by omega);obtain⟨p,hpd⟩:=ex (bC l (k-1));rw[<- hpd] at g0 g1 g2 g3 fp1 fp2 fp3;have Yg:=EF l k HG.o (k-1) (by omega);have hps:fT p.page p.aQ=true:=by
             unfold nI at Yg;rw[<- hpd] at Yg;simp only[eQ] at Yg;exact Yg.1.1
            have hpb:1<=p.page/\1<=p.aQ/\p.aQ<=256-p.page:=by simpa [fT] using hps
            have hok:Hid (nI l k=mq p a):=by show _=_;unfold nI;rw[<- HA.o,<- hpd,hp,hq];simp[hk0]
            have k0:∀x:dV W.heap.size W,x.world.cell? ⟨b,off+(k-1)*4,none⟩=some (I p.page):=fun x=>by rw[hkc x _ _ hbl,g0]
            have k1:∀x:dV W.heap.size W,x.world.cell? ⟨b,off+(k-1)*4+1,none⟩=some (I p.aQ):=fun x=>by rw[hkc x _ _ hbl,g1]
            have k2:∀x:dV W.heap.size W,x.world.cell? ⟨b,off+(k-1)*4+2,none⟩=some (I p.jG):=fun x=>by rw[hkc x _ _ hbl,g2]
            have k3:∀x:dV W.heap.size W,x.world.cell? ⟨b,off+(k-1)*4+3,none⟩=some (.bool p.zero):=fun x=>by rw[hkc x _ _ hbl,g3]
            have e0:∀x:dV W.heap.size W,x.world.cell? (Ad wr.heap.size 0)=some (I a.page):=fun x=>by rw[hkc x _ _ (by omega),hW];simp
            have e1:∀x:dV W.heap.size W,x.world.cell? (Ad wr.heap.size 1)=some (I a.aQ):=fun x=>by rw[hkc x _ _ (by omega),hW];simp
            have e2:∀x:dV W.heap.size W,x.world.cell? (Ad wr.heap.size 2)=some (I a.jG):=fun x=>by rw[hkc x _ _ (by omega),hW];simp
            have e3:∀x:dV W.heap.size W,x.world.cell? (Ad wr.heap.size 3)=some (.bool a.zero):=fun x=>by rw[hkc x _ _ (by omega),hW];simp
            have HW:Hid (W=wr.alloc (.cells #[I a.page,I a.aQ,I a.jG,.bool a.zero] 139)):=hW;have hk1:(1:Int)<=(k:Int):=by omega
            have hk2:0<k:=by omega
            clear hW hs hkc hlW hbl g0 g1 g2 g3 hpd Yg hps hl;by_cases hfo:mq p a=true
            · go_wp2_with (first | (go_at_call 174;refine(fN _ _ _ f1 f2).mono ?_;rintro e w' ⟨rfl,rfl⟩) | (go_at_call 175;refine(jn _ _).mono ?_;rintro e w' ⟨rfl,rfl⟩))
              rw[<- HW.o];refine dx (by kernel_rfl) (by kernel_rfl) ?_
              repeat (first | go_big_quiet_step ((go_at_call 176;exact fV (fun W=>ud p a W (by omega) (by omega)) _)) | quiet_step ((go_at_call 176;exact fV (fun W=>ud p a W (by omega) (by omega)) _)))
              refine jk ?_;intro _ hw';obtain⟨x,hw''⟩:=hw';subst hw'';go_wp2;go_roundw
              case rel=>exact⟨k+1,by omega,by go_num,R7 l k HG.o (hok.out.trans hfo),hbW.out.trans (x.keeps.mono hbW.out.size)⟩
              case measure=>simp[intOf];omega
            · have aqt:mq p a=false:=by simpa using hfo
              clear hfo;go_wp2_with (first | (go_at_call 174;refine(fN _ _ _ f1 f2).mono ?_;rintro e w' ⟨rfl,rfl⟩) | (go_at_call 175;refine(jn _ _).mono ?_;rintro e w' ⟨rfl,rfl⟩))
              rw[<- HW.o];refine dx (by kernel_rfl) (by kernel_rfl) ?_
              repeat (first | go_big_quiet_step ((go_at_call 176;exact fV (fun W=>ud p a W (by omega) (by omega)) _)) | quiet_step ((go_at_call 176;exact fV (fun W=>ud p a W (by omega) (by omega)) _)))
              refine jk ?_;intro _ hw';obtain⟨x,hw''⟩:=hw';subst hw'';go_wp2;go_ret;exact⟨xG (by rw[E.o,MU l k hlt (hok.out.trans aqt)];rfl),hbW.out.trans (x.keeps.mono hbW.out.size)⟩
        · have hq':kr a.jG=false:=by simpa using hq
          clear hq;have hbad:Hid (nI l k=false):=by show _=false;unfold nI;rw[<- HA.o,hp,hq'];rfl
          go_wp2_with (first | (go_at_call 174;refine(fN _ _ _ f1 f2).mono ?_;rintro e w' ⟨rfl,rfl⟩) | (go_at_call 175;refine(jn _ _).mono ?_;rintro e w' ⟨rfl,rfl⟩))
          go_ret;exact⟨xG (by rw[E.o,MU l k hlt hbad.out];rfl),hb.alloc hb.size _⟩
      · have hp':fT a.page a.aQ=false:=by simpa using hp
        clear hp;have hbad:Hid (nI l k=false):=by show _=false;unfold nI;rw[<- HA.o,hp'];rfl
        go_wp2_with (first | (go_at_call 174;refine(fN _ _ _ f1 f2).mono ?_;rintro e w' ⟨rfl,rfl⟩))
        go_ret;exact⟨xG (by rw[E.o,MU l k hlt hbad.out];rfl),hb.alloc hb.size _⟩
    · obtain rfl:k=l.length:=by omega
      go_wp2;go_ret;exact⟨xG (by rw[E.o,show ug l=true from HG.o];rfl),hb⟩
theorem EC (ao:Option Addr) (cap:Nat) (w:World) :
  Calls Tryz.prog 117 #[.slice ao 0 cap] w fun e w'=>e=.returned (I (bk []))/\Below w.heap.size w w':=by
 have e:bk []=0:=by decide
 rw[e];go_enter Tryz.func117,Tryz.ntmps117;go_wp2;refine G0 1 ?_;rw[GX];go_wp2;go_ret;exact⟨rfl,aK _ _⟩
open Go.RowKit
theorem TT (l:List aX) (b off cap:Nat) (w:World) (hl:wQ w b off l) (hf:∀i,i<l.length->B0 (bC l i)) (hn:l.length<=140737488351232) :
  Calls Tryz.prog 70 #[.slice (some (Ad b off)) l.length cap] w fun e w'=>e=.returned (I (bh l))/\Below w.heap.size w w':=by
 by_cases hc:bk l=0
 · have hlen:=oq l hc;have HC:Hid (bh l=kT l l.length):=by show _=_;grind [bh]
   have HK:Hid (bk l=0):=hc;go_enter Tryz.func70,Tryz.ntmps70;go_wp2_with fail
   refine(uF l b off cap _ hl hf hn).mono ?_;rintro e w1 ⟨rfl,hb1⟩;rw[hc];clear hc;go_wp2;go_loopw [3,11] (fun s i wr=>∃k:Nat,k<=l.length/\i=I k/\s=I (kT l k)/\Below w.heap.size w wr) (fun _ i _=>l.length-(intOf i).toNat)
   case atStart=>exact⟨0,by omega,rfl,rfl,hb1⟩
   case round =>
    obtain⟨k,hk,rfl,rfl,hb⟩:=hrel;have hbd:=GN l HK.o k hk;by_cases hlt:k<l.length
    · obtain⟨c0,c1,c2,c3⟩:=(hl.below hb) k hlt;have hsu:Hid (kT l (k+1)=kT l k+(bC l k).aQ):=rfl;have hbk:=iw l k (gW l HK.o k hlt);obtain⟨a,ha⟩:=ex (bC l k);rw[<- ha] at c0 c1 c2 c3 hsu hbk;clear ha;go_wp2;go_roundw
      case rel=>exact⟨k+1,by omega,by go_num,by rw[hsu.out],hb.alloc hb.size _⟩
      case measure=>simp[intOf];omega
    · obtain rfl:k=l.length:=by omega
      go_wp2;go_ret;exact⟨xG HC.o.symm,hb⟩
 · have HC:Hid (bh l=0):=by show _=_;grind [bh]
   have hc':(bk l != 0)=true:=by grind
   go_enter Tryz.func70,Tryz.ntmps70;go_wp2_with fail
   refine(uF l b off cap _ hl hf hn).mono ?_;rintro e w1 ⟨rfl,hb1⟩;go_wp2;go_ret;exact⟨xG HC.o.symm,hb1⟩
theorem XG (ao:Option Addr) (cap:Nat) (w:World) :
  Calls Tryz.prog 70 #[.slice ao 0 cap] w fun e w'=>e=.returned (I (bh []))/\Below w.heap.size w w':=by
 have e:bh []=0:=by decide
 have e2:bk []=0:=by decide
 rw[e];go_enter Tryz.func70,Tryz.ntmps70;go_wp2_with fail
 refine(EC ao cap _).mono ?_;rintro e w1 ⟨rfl,hb1⟩;rw[e2];go_wp2;refine G0 1 ?_;rw[GX];go_wp2;go_ret
 simp_all
open Go.RowKit
theorem aO {w w':World} {b N:Nat} {o:Obj} (h:w.heap[b]?=some o) (hb:Below N w w') (hlt:b<N):w'.heap[b]?=some o:=(hb.block b hlt).trans h
theorem aJ {w:World} {b:Nat} {o:Obj} (h:w.heap[b]?=some o):b<w.heap.size:=(Array.getElem?_eq_some_iff.1 h).1
theorem br {w:World} {b:Nat} {o:Obj} (h:w.heap[b]?=some o) (o':Obj):(w.alloc o').heap[b]?=some o:=(Below.heap_alloc w o' b (aJ h)).trans h
theorem au {w:World} {b:Nat} {C:Array Value} {t:TypeId} {fr:Nat×Nat} (h:w.heap[b]?=some (.cells C t fr)) (j:Nat) {v:Value} (hj:C[j]?=some v):w.cell? (Ad b j)=some v:=(UG w b j C t fr h).trans hj
theorem aR {w:World} {b:Nat} {C:Array Value} {t:TypeId} (h:w.heap[b]?=some (.cells C t (0,0))) (j:Nat):w.frozen? (Ad b j)=false:=frozen_of_row w b j C t h
theorem mo {w:World} {b:Nat} {o:Obj} (h:w.heap[b]?=some o) (g j:Nat) (v:Value) (hne:b≠g):(w.setCell (Ad g j) v).heap[b]?=some o:=(heap_setCell_other w (Ad g j) b v hne).trans h
theorem fh {w:World} {b:Nat} {C:Array Value} {t:TypeId} (h:w.heap[b]?=some (.cells C t (0,0))) (j:Nat) (v:Value):(w.setCell (Ad b j) v).heap[b]?=some (.cells (C.setIfInBounds j v) t (0,0)):=heap_setCell_same w b j C t v h
theorem bE (w:World) (C:Array Value) (t:TypeId):(w.alloc (.cells C t)).heap[w.heap.size]?=some (.cells C t (0,0)):=O4 w _
theorem GJ {w:World} {b:Nat} {C:Array Value} {t:TypeId} {fr:Nat×Nat} (h:w.heap[b]?=some (.cells C t fr)):∀j u,C.toList[j]?=some u->w.cell? (((Ad b 0):Addr).add j)=some u:=fun j u hj=>by
 grind [Addr.add_lit,au]
theorem Hr {w w':World} {b:Nat} {o:Obj} {row:Option Nat} (h:w.heap[b]?=some o) (hg:w.grownBy w' row) (hne:some b≠row):w'.heap[b]?=some o:=(hg.block b (aJ h) hne).trans h
theorem rq {w:World} {b:Nat} {a0 a1:Value} {t:TypeId} (h:w.heap[b]?=some (.cells #[a0,a1] t (0,0))):w.cell? (Ad b 0)=some a0/\w.cell? (Ad b 1)=some a1:=⟨au h 0 rfl,au h 1 rfl⟩
theorem Ez {w:World} {b:Nat} {a0 a1 a2:Value} {t:TypeId} (h:w.heap[b]?=some (.cells #[a0,a1,a2] t (0,0))):w.cell? (Ad b 0)=some a0/\w.cell? (Ad b 1)=some a1/\w.cell? (Ad b 2)=some a2:=⟨au h 0 rfl,au h 1 rfl,au h 2 rfl⟩
theorem iH {w:World} {b:Nat} {a0 a1 a2 a3 a4:Value} {t:TypeId} (h:w.heap[b]?=some (.cells #[a0,a1,a2,a3,a4] t (0,0))):w.cell? (Ad b 0)=some a0/\w.cell? (Ad b 1)=some a1/\w.cell? (Ad b 2)=some a2/\w.cell? (Ad b 3)=some a3/\w.cell? (Ad b 4)=some a4:=⟨au h 0 rfl,au h 1 rfl,au h 2 rfl,au h 3 rfl,au h 4 rfl⟩
open Go.RowKit
def ru (a:aX):Array Value:=#[I a.page,I a.aQ,I a.jG,.bool a.zero]
theorem XJ (l:List aX) (b off cap:Nat) (p:Int) (w:World) (hl:wQ w b off l) (hf:∀i,i<l.length->B0 (bC l i)) (hn:l.length<=140737488351232) :
  Calls Tryz.prog 77 #[.slice (some (Ad b off)) l.length cap,I p] w fun e w'=>e=.returned (.tuple #[.agg (ru (aY l p).1),.bool (aY l p).2])/\Below w.heap.size w w':=by
 have hbz:Below w.heap.size w (w.alloc (.cells #[I 0,I 0,I 0,.bool false] 139)):=(aK _ _).alloc (aI _) _;by_cases hc:bk l=0
 · have hlen:=oq l hc;have HC:Hid (aY l p=bY l p):=by show _=_;grind [aY]
   have HK:Hid (bk l=0):=hc;go_enter Tryz.func77,Tryz.ntmps77;go_wp2_with fail
   refine(uF l b off cap _ (hl.below hbz) hf hn).mono ?_;rintro e w1 ⟨rfl,hb1⟩;rw[hc];clear hc;go_wp2;go_loopw [14] (fun i wr=>∃k:Nat,k<=l.length/\i=I k/\(∀j,j<k->iQ (bC l j) p=false)/\Below (w.heap.size+1) (w.alloc (.cells #[I 0,I 0,I 0,.bool false] 139)) wr) (fun i _=>l.length-(intOf i).toNat)
   case atStart=>exact⟨0,by omega,rfl,fun j hj=>by omega,hb1.mono (by simp)⟩
   case round =>
    obtain⟨k,hk,rfl,hno,hb⟩:=hrel;have HN:Hid (∀j,j<k->iQ (bC l j) p=false):=hno;have wY:Hid (Below w.heap.size w wr):=hbz.trans (hb.mono (kV _));have hsz:w.heap.size+1<=wr.heap.size:=by have:=hb.size;simpa using this
    have hlr:=hl.below wY.out;have hR:wr.heap[w.heap.size]?=some (.cells #[I 0,I 0,I 0,.bool false] 139 (0,0)):=aO (bE w _ _) hb (O8 _);have HR:Hid (wr.heap[w.heap.size]?=some (.cells #[I 0,I 0,I 0,.bool false] 139 (0,0))):=hR;have HB:Hid (Below (w.heap.size+1) (w.alloc (.cells #[I 0,I 0,I 0,.bool false] 139)) wr):=hb;clear hR hb;clear hno hb1;by_cases hlt:k<l.length
    · obtain⟨c0,c1,c2,c3⟩:=hlr k hlt;have hbk:=iw l k (gW l HK.o k hlt);obtain⟨a,ha⟩:=ex (bC l k);rw[<- ha] at c0 c1 c2 c3 hbk;have HA:Hid (a=bC l k):=ha;clear ha;by_cases h1:a.page<=p
      · by_cases h2:p<a.page+a.aQ
        · have hres:Hid (aY l p=(a,true)):=by
           show _=_;rw[HC.o,tG l p k hlt HN.o (by rw[<- HA.o];simp[iQ,aX.wU,h1,h2]),<- HA.o]
          go_wp2_with fail
          refine(pT _ _ _ _ _ (by omega) (by omega)).mono ?_;rintro e w2 ⟨rfl,hb2⟩;have hA2:=aO (bE wr #[I a.page,I a.aQ,I a.jG,.bool a.zero] 139) hb2 (by simp);have hR2:=aO (br HR.o _) hb2 (by simp;omega);have s0:=au hA2 0 rfl;have s1:=au hA2 1 rfl;have s2:=au hA2 2 rfl;have s3:=au hA2 3 rfl;have t0:=au hR2 0 rfl;have t1:=au hR2 1 rfl;have t2:=au hR2 2 rfl;have t3:=au hR2 3 rfl;have u0:=aR hR2;have hbe:Hid (Below w.heap.size w w2):=(wY.out.alloc wY.out.size _).trans (hb2.mono (by simp;omega));clear hb2 hA2 hR2;go_wp2;exact bO (v:=.tuple #[.agg #[I a.page,I a.aQ,I a.jG,.bool a.zero],.bool true]) (by simp[results,Tryz.results77,go_sem,t0,t1,t2,t3]) rfl ⟨by rw[hres.out];rfl,(((hbe.out.setCell (aI _) _).setCell (aI _) _).setCell (aI _) _).setCell (aI _) _⟩
        · have MW:Hid (iQ (bC l k) p=false):=by show _=_;rw[<- HA.o];unfold iQ aX.wU;grind
          go_wp2_with fail
          refine(pT _ _ _ _ _ (by omega) (by omega)).mono ?_;rintro e w2 ⟨rfl,hb2⟩;have hbe:Hid (Below (w.heap.size+1) (w.alloc (.cells #[I 0,I 0,I 0,.bool false] 139)) w2):=(HB.o.alloc (by omega) _).trans (hb2.mono (by simp;omega));clear hb2;go_wp2;go_roundw
          case rel=>exact⟨k+1,by omega,by go_num,fun j hj=>if e:j=k then by rw[e];exact MW.out else HN.o j (by omega),hbe.out⟩
          case measure=>simp[intOf];omega
      · have MW:Hid (iQ (bC l k) p=false):=by show _=_;rw[<- HA.o];unfold iQ aX.wU;grind
        go_wp2;go_roundw
        case rel=>exact⟨k+1,by omega,by go_num,fun j hj=>if e:j=k then by rw[e];exact MW.out else HN.o j (by omega),HB.o.alloc (by omega) _⟩
        case measure=>simp[intOf];omega
    · obtain rfl:k=l.length:=by omega
      have hres:Hid (aY l p=(xI,false)):=by show _=_;rw[HC.o,uh l p HN.o]
      have t0:=au HR.o 0 rfl;have t1:=au HR.o 1 rfl;have t2:=au HR.o 2 rfl;have t3:=au HR.o 3 rfl;have u0:=aR HR.o;go_wp2;exact bO (v:=.tuple #[.agg #[I 0,I 0,I 0,.bool false],.bool false]) (by simp[results,Tryz.results77,go_sem,t0,t1,t2,t3]) rfl ⟨by rw[hres.out];rfl,(((wY.out.setCell (aI _) _).setCell (aI _) _).setCell (aI _) _).setCell (aI _) _⟩
 · have HC:Hid (aY l p=(xI,false)):=by show _=_;grind [aY]
   have hc':(bk l != 0)=true:=by grind
   go_enter Tryz.func77,Tryz.ntmps77;go_wp2_with fail
   refine(uF l b off cap _ (hl.below hbz) hf hn).mono ?_;rintro e w1 ⟨rfl,hb1⟩;have JK:=aO (bE w #[I 0,I 0,I 0,.bool false] 139) hb1 (by simp);have t0:=au JK 0 rfl;have t1:=au JK 1 rfl;have t2:=au JK 2 rfl;have t3:=au JK 3 rfl;have u0:=aR JK;clear JK;go_wp2;exact bO (v:=.tuple #[.agg #[I 0,I 0,I 0,.bool false],.bool false]) (by simp[results,Tryz.results77,go_sem,t0,t1,t2,t3]) rfl ⟨by rw[HC.o];rfl,((((hbz.trans (hb1.mono (by simp))).setCell (aI _) _).setCell (aI _) _).setCell (aI _) _).setCell (aI _) _⟩
theorem aaC (ao:Option Addr) (cap:Nat) (p:Int) (w:World) :
  Calls Tryz.prog 77 #[.slice ao 0 cap,I p] w fun e w'=>e=.returned (.tuple #[.agg (ru (aY [] p).1),.bool (aY [] p).2])/\Below w.heap.size w w':=by
 have hbz:Below w.heap.size w (w.alloc (.cells #[I 0,I 0,I 0,.bool false] 139)):=(aK _ _).alloc (aI _) _;have e2:bk []=0:=by decide
 go_enter Tryz.func77,Tryz.ntmps77;go_wp2_with fail
 refine(EC ao cap _).mono ?_;rintro e w1 ⟨rfl,hb1⟩;rw[e2];have JK:=aO (bE w #[I 0,I 0,I 0,.bool false] 139) hb1 (by simp);have t0:=au JK 0 rfl;have t1:=au JK 1 rfl;have t2:=au JK 2 rfl;have t3:=au JK 3 rfl;have u0:=aR JK;clear JK;go_wp2;refine G0 1 ?_;rw[GX];go_wp2;exact bO (v:=.tuple #[.agg #[I 0,I 0,I 0,.bool false],.bool false]) (by simp[results,Tryz.results77,go_sem,t0,t1,t2,t3]) rfl ⟨rfl,((((hbz.trans (hb1.mono (by simp))).setCell (aI _) _).setCell (aI _) _).setCell (aI _) _).setCell (aI _) _⟩
open Go.RowKit
structure dm where
 m:Bool
 p:Int
 z:Bool
def ji:dm:=⟨false,0,false⟩
def Db (s:dm):List Value:=[.bool s.m,I s.p,.bool s.z]
def ry (F:Nat->dm):Nat->List Value
 | 0=>[]
 | m+1=>ry F m++Db (F m)
def cK (F:Nat->dm):Array Value:=(ry F 256).toArray
def GM (F:Nat->dm) (n:Nat) (s:dm):Nat->dm:=fun k=>if k=n then s else F k
theorem jU (F:Nat->dm):∀m,(ry F m).length=m*3
 | 0=>rfl
 | m+1=>by simp[ry,jU F m,Db];omega
theorem gh (F:Nat->dm):(cK F).size=768:=by simp[cK,jU]
theorem N9 (F:Nat->dm) (n j:Nat) (hj:j<3):∀m,n<m->(ry F m)[n*3+j]?=(Db (F n))[j]?
 | 0,h=>by omega
 | m+1,h=>by
  simp only[ry];by_cases e:n=m
  · grind [jU]
  · rw[G9 (by grind [jU])];exact N9 F n j hj m (by omega)
theorem CI (F:Nat->dm) (n j:Nat) (hn:n<256) (hj:j<3):(cK F)[n*3+j]?=(Db (F n))[j]?:=by
 grind [cK,N9]
theorem m9 (F:Nat->dm) (n:Nat) (hn:n<256):(cK F)[n*3]?=some (.bool (F n).m):=CI F n 0 hn (by omega)
theorem m8 (F:Nat->dm) (n:Nat) (hn:n<256):(cK F)[n*3+1]?=some (I (F n).p):=CI F n 1 hn (by omega)
theorem m7 (F:Nat->dm) (n:Nat) (hn:n<256):(cK F)[n*3+2]?=some (.bool (F n).z):=CI F n 2 hn (by omega)
theorem I9 (F G:Nat->dm):∀m,(∀k,k<m->F k=G k)->ry F m=ry G m
 | 0,_=>rfl
 | m+1,h=>by simp only[ry];rw[I9 F G m (fun k hk=>h k (by omega)),h m (by omega)]
theorem N7 (F:Nat->dm) (n:Nat) (s:dm):∀m,n<m->(((ry F m).set (n*3) (.bool s.m)).set (n*3+1) (I s.p)).set (n*3+2) (.bool s.z)=ry (GM F n s) m
 | 0,h=>by omega
 | m+1,h=>by
  simp only[ry];by_cases e:n=m
  · subst e;rw[AO _ _ (by grind [jU]),AO _ _ (by grind [jU]),AO _ _ (by grind [jU]),jU,
     show n*3-n*3=0 from by omega,show n*3+1-n*3=1 from by omega,show n*3+2-n*3=2 from by omega]
    grind [I9,GM,Db]
  · rw[JS _ _ (by grind [jU]),JS _ _ (by grind [jU]),JS _ _ (by grind [jU]),N7 F n s m (by omega)]
    grind [GM]
theorem yj (F:Nat->dm) (n:Nat) (s:dm) (hn:n<256) :
  (((cK F).setIfInBounds (n*3) (.bool s.m)).setIfInBounds (n*3+1) (I s.p)).setIfInBounds (n*3+2) (.bool s.z)=cK (GM F n s):=by
 grind [cK,N7]
theorem N8 (F:Nat->dm):∀m,∀v∈ry F m,v.oneCell'=true
 | 0,v,h=>by grind [ry]
 | m+1,v,h=>by
  simp only[ry,lV] at h;rcases h with h | h
  · exact N8 F m v h
  · simp only[Db,uI,G3,or_false] at h;rcases h with rfl | rfl | rfl <;> rfl
theorem uG (F:Nat->dm):(cK F).all (·.oneCell')=true:=by
 grind [N8,cK]
def nU (F:Nat->dm) (a:aX) (t:Int):Nat->dm:=fun n=>if a.page<=(n:Int)/\(n:Int)<t then ⟨true,a.jG,a.zero⟩ else F n
def ft (l:List aX):Nat->Nat->dm
 | 0=>fun _=>ji
 | k+1=>nU (ft l k) (bC l k) (bC l k).wU
def fD (l:List aX):Nat->dm:=ft l l.length
theorem R8 (F:Nat->dm) (a:aX):nU F a a.page=F:=by
 grind [nU]
theorem TX (F:Nat->dm) (a:aX) (n:Nat) (h:a.page<=(n:Int)):GM (nU F a n) n ⟨true,a.jG,a.zero⟩=nU F a ((n:Int)+1):=by
 grind [GM,nU]
open Go.RowKit
theorem UF:(Tryz.prog.info? 332).map (fun i=>(i.zero,i.size))=some (some (.agg (cK (fun _=>ji))),768):=by kernel_rfl
theorem oD:(Tryz.prog.info? 332).map (·.size)=some 768:=(zero_of_info UF).2
theorem LX (w:World):(zeroValue 332).run Tryz.prog w=.ok (.agg (cK (fun _=>ji))) w:=(zero_of_info UF).1 w
theorem RT (l:List aX) (b off cap:Nat) (w:World) (hl:wQ w b off l) (hc:bk l=0) :
  Calls Tryz.prog 210 #[.slice (some (Ad b off)) l.length cap] w fun e w'=>e=.returned (.agg (cK (fD l)))/\Below w.heap.size w w':=by
 have hlen:=oq l hc;have HK:Hid (bk l=0):=hc;clear hc;obtain⟨Z,hZ⟩:=ex (cK (fun _=>ji));have hz:=LX;rw[<- hZ] at hz;have HZ:Hid (Z=cK (fun _=>ji)):=hZ;clear hZ;go_enter Tryz.func210,Tryz.ntmps210;go_wp2;go_loopw [9] (fun i wr=>∃k:Nat,k<=l.length/\i=I k/\wr.heap[w.heap.size]?=some (.cells Z 332 (0,0))/\wr.heap[w.heap.size+1]?=some (.cells (cK (ft l k)) 332 (0,0))/\Below w.heap.size w wr) (fun i _=>l.length-(intOf i).toNat)
 case atStart =>
  refine⟨0,by omega,rfl,br (bE w Z 332) _,?_,((aK _ _).alloc (aI _) _).alloc (by simp) _⟩;show _=some (Obj.cells (cK (fun _=>ji)) 332 (0,0))
  grind [Hid.o,World.alloc]
 case round =>
  obtain⟨k,hk,rfl,hR,hA,hb⟩:=hrel;have HR:Hid (wr.heap[w.heap.size]?=some (.cells Z 332 (0,0))):=hR;have HA:Hid (wr.heap[w.heap.size+1]?=some (.cells (cK (ft l k)) 332 (0,0))):=hA;have HB:Hid (Below w.heap.size w wr):=hb;have hsz:w.heap.size+2<=wr.heap.size:=aJ hA;by_cases hlt:k<l.length
  · obtain⟨c0,c1,c2,c3⟩:=hl.below hb k hlt;have hbk:=iw l k (gW l HK.o k hlt);obtain⟨a,ha⟩:=ex (bC l k);rw[<- ha] at c0 c1 c2 c3 hbk;have HAr:Hid (a=bC l k):=ha;clear ha hR hA hb;obtain⟨wo,hwo⟩:∃wo:World,wo=wr:=⟨_,rfl⟩;subst hwo;have hcx:(k:Int)<(l.length:Int):=by omega
    go_wp2;go_loopw [6] (fun t wi=>∃n:Nat,a.page<=(n:Int)/\(n:Int)<=a.page+a.aQ/\t=I n/\wi.heap[w.heap.size]?=some (.cells Z 332 (0,0))/\wi.heap[w.heap.size+1]?=some (.cells (cK (nU (ft l k) a n)) 332 (0,0))/\wi.heap[wo.heap.size]?=some (.cells #[I a.page,I a.aQ,I a.jG,.bool a.zero] 139 (0,0))/\Below w.heap.size w wi) (fun t _=>(a.page+a.aQ-intOf t).toNat)
    case atStart =>
     refine⟨a.page.toNat,by omega,by omega,by grind,br HR.o _,?_,bE _ _ _,HB.o.alloc HB.o.size _⟩;rw[Int.toNat_of_nonneg (by omega),R8];exact br HA.o _
    case round =>
     obtain⟨n,Sk,E3,rfl,iR,iA,iX,ib⟩:=hrel;have IR:Hid (wr.heap[w.heap.size]?=some (.cells Z 332 (0,0))):=iR;have IA:Hid (wr.heap[w.heap.size+1]?=some (.cells (cK (nU (ft l k) a n)) 332 (0,0))):=iA;have IB:Hid (Below w.heap.size w wr):=ib;have x0:=au iX 0 rfl;have x1:=au iX 1 rfl;have x2:=au iX 2 rfl;have x3:=au iX 3 rfl;have IX:Hid (wr.heap[wo.heap.size]?=some (.cells #[I a.page,I a.aQ,I a.jG,.bool a.zero] 139 (0,0))):=iX;have hxs:wo.heap.size<wr.heap.size:=aJ iX;clear iR iA iX ib;by_cases hin:(n:Int)<a.page+a.aQ
     · go_wp2_with fail
       refine(pT _ _ _ _ _ (by omega) (by omega)).mono ?_;rintro e w2 ⟨rfl,hb2⟩;have jR:=aO IR.o hb2 (by omega);have jA:=aO IA.o hb2 (by omega);have jX:=aO IX.o hb2 hxs;have y2:=au jX 2 rfl;have y3:=au jX 3 rfl;have z0:=au jA (n*3) (m9 _ n (by omega));have z1:=au jA (n*3+1) (m8 _ n (by omega));have z2:=au jA (n*3+2) (m7 _ n (by omega));have zf:=aR jA;have JR:Hid (w2.heap[w.heap.size]?=some (.cells Z 332 (0,0))):=jR;have JA:Hid (w2.heap[w.heap.size+1]?=some (.cells (cK (nU (ft l k) a n)) 332 (0,0))):=jA;have JX:Hid (w2.heap[wo.heap.size]?=some (.cells #[I a.page,I a.aQ,I a.jG,.bool a.zero] 139 (0,0))):=jX;have JB:Hid (Below w.heap.size w w2):=IB.o.trans (hb2.mono IB.o.size);clear jR jA jX hb2 x0 x1 x2 x3;have afs:(n:Int)<256:=by omega
       go_wp2;go_roundw
       case rel =>
        refine⟨n+1,by omega,by omega,by go_num,mo (mo (mo JR.o _ _ _ (by omega)) _ _ _ (by omega)) _ _ _ (by omega),?_,mo (mo (mo JX.o _ _ _ (by omega)) _ _ _ (by omega)) _ _ _ (by omega),((JB.o.setCell (by simp) _).setCell (by simp) _).setCell (by simp) _⟩;have h:=fh (fh (fh JA.o (n*3) (.bool true)) (n*3+1) (I a.jG)) (n*3+2) (.bool a.zero);rw[yj (nU (ft l k) a n) n ⟨true,a.jG,a.zero⟩ (by omega),TX _ _ _ Sk] at h;rw[show((n+1:Nat):Int)=(n:Int)+1 from by omega];exact h
       case measure=>simp[intOf];omega
     · have hend:(n:Int)=a.page+a.aQ:=by omega
       have HE:Hid ((n:Int)=a.page+a.aQ):=hend;clear hend;go_wp2_with fail
       refine(pT _ _ _ _ _ (by omega) (by omega)).mono ?_;rintro e w2 ⟨rfl,hb2⟩;have JR:Hid (w2.heap[w.heap.size]?=some (.cells Z 332 (0,0))):=aO IR.o hb2 (by omega);have JA:Hid (w2.heap[w.heap.size+1]?=some (.cells (cK (nU (ft l k) a n)) 332 (0,0))):=aO IA.o hb2 (by omega);have JB:Hid (Below w.heap.size w w2):=IB.o.trans (hb2.mono IB.o.size);clear hb2 x0 x1 x2 x3;go_wp2;go_roundw
       case rel =>
        refine⟨k+1,by omega,by go_num,JR.o,?_,JB.o⟩;have h:=JA.o;rw[HE.o] at h;show _=some (Obj.cells (cK (nU (ft l k) (bC l k) (bC l k).wU)) 332 (0,0));rw[<- HAr.o];exact h
       case measure=>simp[intOf];omega
  · obtain rfl:k=l.length:=by omega
    have hZs:Z.size=768:=by rw[HZ.o];exact gh _
    clear hR hA hb;go_wp2_with (first | (refine Dm rfl 332 _ rfl (w.heap.size+1) rfl 332 _ (0,0) _ HA.o Tryz.underlying332 rfl (by rw[gh];exact oD) ?_) | (refine JP rfl 332 _ _ rfl w.heap.size _ rfl rfl 332 Z HR.o (by rw[gh];exact oD) (by rw[hZs,gh]) (uG _) ?_))
    exact bO (v:=.agg (cK (ft l l.length))) (results_cell_row rfl _ _ w.heap.size 332 _ (0,0) _ rfl (tJ _ _ _ _ 332 (0,0) HR.o) Tryz.underlying332 rfl (by rw[gh];exact oD)) rfl ⟨rfl,below_setRow HB.o (aI _) _⟩
theorem TU (ao:Option Addr) (cap:Nat) (w:World) :
  Calls Tryz.prog 210 #[.slice ao 0 cap] w fun e w'=>e=.returned (.agg (cK (fD [])))/\Below w.heap.size w w':=by
 obtain⟨Z,hZ⟩:=ex (cK (fun _=>ji));have hz:=LX;rw[<- hZ] at hz;have hZs:Z.size=768:=by grind [gh]
 have HZ:Hid (Z=cK (fun _=>ji)):=hZ;clear hZ;have HR:Hid (((w.alloc (.cells Z 332)).alloc (.cells Z 332)).heap[w.heap.size]?=some (.cells Z 332 (0,0))):=br (bE w Z 332) _;have HA:Hid (((w.alloc (.cells Z 332)).alloc (.cells Z 332)).heap[w.heap.size+1]?=some (.cells Z 332 (0,0))):=by
  grind [World.alloc]
 go_enter Tryz.func210,Tryz.ntmps210;go_wp2;refine G0 1 ?_;rw[GX];go_wp2_with (first | (refine Dm rfl 332 _ rfl (w.heap.size+1) rfl 332 _ (0,0) _ HA.o Tryz.underlying332 rfl (by grind [oD]) ?_) | (refine JP rfl 332 _ _ rfl w.heap.size _ rfl rfl 332 Z HR.o (by rw[hZs];exact oD) rfl (by grind [uG,Hid.o]) ?_))
 exact bO (v:=.agg Z) (results_cell_row rfl _ _ w.heap.size 332 _ (0,0) _ rfl (tJ _ _ _ _ 332 (0,0) HR.o) Tryz.underlying332 rfl (by grind [oD])) rfl ⟨by rw[HZ.o];rfl,below_setRow (((aK _ _).alloc (aI _) _).alloc (by simp) _) (aI _) _⟩
open Go.RowKit
theorem Sb (F:Nat->dm) (k:Nat) (hk:k<256):(cK F).extract (k*3) (k*3+3)=#[.bool (F k).m,I (F k).p,.bool (F k).z]:=by
 apply Array.ext_getElem?;intro j;have hs:=gh F;rw[Array.getElem?_extract,hs]
 match j with
 | 0=>grind [m9]
 | 1=>grind [m8]
 | 2=>grind [m7]
 | j+3=>grind
def iD (F:Nat->dm):Nat->dm
 | 0=>ji
 | k+1=>F k
def yh (a b:dm):Bool:=a.m==b.m&&(a.p==b.p&&a.z==b.z)
def BW (G:List aX):List aX:=G.set (G.length-1) ⟨(bC G (G.length-1)).page,(bC G (G.length-1)).aQ+1,(bC G (G.length-1)).jG,(bC G (G.length-1)).zero⟩
def cW (F:Nat->dm):Nat->List aX
 | 0=>[]
 | k+1=>if (F k).m=false then cW F k else if yh (F k) (iD F k) then BW (cW F k) else cW F k++[⟨(k:Int),1,(F k).p,(F k).z⟩]
def kx (F:Nat->dm):List aX:=cW F 256
def oX (a:aX):List Value:=[I a.page,I a.aQ,I a.jG,.bool a.zero]
def cT:List aX->List Value
 | []=>[]
 | a::r=>oX a++cT r
theorem yX:∀G:List aX,(cT G).length=G.length*4
 | []=>rfl
 | a::r=>by simp[cT,oX,yX r];omega
theorem yY:∀G H:List aX,cT (G++H)=cT G++cT H
 | [],H=>rfl
 | a::r,H=>by simp[cT,yY r H]
theorem mN:∀(G:List aX) (i j:Nat),i<G.length->j<4->(cT G)[i*4+j]?=(oX (bC G i))[j]?
 | [],i,j,h,_=>by simp at h
 | a::r,0,j,h,hj=>by
  grind [cT,oX,bC]
 | a::r,i+1,j,h,hj=>by
  simp only[cT];rw[ze (by simp[oX];omega),show(i+1)*4+j-(oX a).length=i*4+j from by grind [oX],mN r i j (by grind) hj];rfl
theorem Dg:∀(G:List aX) (i:Nat) (n:Int),i<G.length->cT (G.set i ⟨(bC G i).page,n,(bC G i).jG,(bC G i).zero⟩)=(cT G).set (i*4+1) (I n)
 | [],i,n,h=>by simp at h
 | a::r,0,n,h=>by rfl
 | a::r,i+1,n,h=>by
  simp only[cT,dw];rw[AO _ _ (by simp[oX];omega),show(i+1)*4+1-(oX a).length=i*4+1 from by grind [oX]];have e:=Dg r i n (by grind)
  grind [bC]
theorem wO (G:List aX):(BW G).length=G.length:=by simp[BW]
theorem xK:∀(G:List aX),∀v∈cT G,v.oneCell'=true
 | [],v,h=>by grind [cT]
 | a::r,v,h=>by
  simp only[cT,oX,Dn,List.nil_append,uI] at h;rcases h with rfl | rfl | rfl | rfl | h
  · rfl
  · rfl
  · rfl
  · rfl
  · exact xK r v h
theorem sJ (G H:List aX) (i:Nat) (h:i<G.length):bC (G++H) i=bC G i:=by grind [bC]
theorem wP (G:List aX) (a:aX):bC (G++[a]) G.length=a:=by simp[bC]
theorem Sc (G:List aX) (i:Nat) (a:aX) (h:i<G.length):bC (G.set i a) i=a:=by simp[bC,h]
theorem OV (G:List aX) (i j:Nat) (a:aX) (h:j≠i):bC (G.set i a) j=bC G j:=by grind [bC]
theorem CG (F:Nat->dm):∀k,(cW F k).length<=k
 | 0=>by simp[cW]
 | k+1=>by
  have ih:=CG F k
  grind [cW,wO]
theorem GR (F:Nat->dm):∀k,(iD F k).m=true->0<(cW F k).length
 | 0,h=>by grind [iD,ji]
 | k+1,h=>by
  have h':(F k).m=true:=h;simp only[cW,h'];rw[aA (by simp)];split
  · rename_i he
    have hm:(iD F k).m=true:=by
     grind [yh]
    rw[wO];exact GR F k hm
  · simp
theorem EZ (F:Nat->dm):∀k,∀i,i<(cW F k).length->1<=(bC (cW F k) i).aQ/\(bC (cW F k) i).aQ<=k
 | 0,i,h=>by grind [cW]
 | k+1,i,h=>by
  have ih:=EZ F k
  grind [cW,BW,Sc,OV,sJ,wP]
theorem R4 (a b:dm) (h:yh a b=true):a=b:=by
 cases a;simp_all [yh]
theorem RZ (a b:dm) (h:yh a b=false):(a.m==b.m)=false∨((a.m==b.m)=true/\(a.p==b.p)=false)∨((a.m==b.m)=true/\(a.p==b.p)=true/\(a.z==b.z)=false):=by
 grind [yh]
open Go.RowKit
theorem acM (F:Nat->dm) (k:Nat) (hk:k<256) (w:World):(Instr.index 332 (.agg (cK F)) (I k)).run Tryz.prog w=.ok (.agg #[.bool (F k).m,I (F k).p,.bool (F k).z]) w:=by
 simp[Instr.index,JO Tryz.underlying332,go_sem]
 grind [Sb]
theorem aeT:(Tryz.prog.info? 139).map (fun i=>(i.zero,i.size,i.bytes))=some (some (.agg #[I 0,I 0,I 0,.bool false]),4,32):=by rfl
def fZ (w:World) (v:Value) (l:List aX):Prop:=∃ao cap,v=.slice ao l.length cap/\(l=[]∨∃b off,ao=some (Ad b off)/\wQ w b off l)
theorem GL {w wx:World} {v:Value} {n:Nat} {xs:List Value} {C:Array Value} (hC:C.size=3) (hown:wx.ownsRow (w.heap.size+2) 139 4 v n xs) (hl:wx.heap[w.heap.size+1]?=some (.cells C 287 (0,0))) (hb:Below w.heap.size w wx) (x y z:Value) :
  (((wx.setCell (Ad (w.heap.size+1) 0) x).setCell (Ad (w.heap.size+1) 1) y).setCell (Ad (w.heap.size+1) 2) z).ownsRow (w.heap.size+2) 139 4 v n xs /\
  (((wx.setCell (Ad (w.heap.size+1) 0) x).setCell (Ad (w.heap.size+1) 1) y).setCell (Ad (w.heap.size+1) 2) z).heap[w.heap.size+1]?=some (.cells #[x,y,z] 287 (0,0)) /\
  Below w.heap.size w (((wx.setCell (Ad (w.heap.size+1) 0) x).setCell (Ad (w.heap.size+1) 1) y).setCell (Ad (w.heap.size+1) 2) z):=by
 refine⟨G8 (G8 (G8 hown (by simp) _) (by simp) _) (by simp) _,?_,((hb.setCell (by simp) _).setCell (by simp) _).setCell (by simp) _⟩;rw[fh (fh (fh hl 0 x) 1 y) 2 z];congr 2
 match C,hC with
 | ⟨[a,b,c]⟩,_=>rfl
def eu (lo:Nat) (w:World) (v:Value) (l:List aX):Prop:=w.ownsRow lo 139 4 v l.length (cT l)
theorem eu.nil (lo:Nat) (w:World):eu lo w Nl []:=mE _ _ _ _
theorem eu.mono {lo lo':Nat} {w:World} {v:Value} {l:List aX} (h:eu lo w v l) (hl:lo'<=lo):eu lo' w v l:=by
 refine⟨h.1,?_⟩;rcases h.2 with h2 | ⟨g,cap,cur,hv,hbg,rest⟩
 · grind
 · exact .inr ⟨g,cap,cur,hv,gY hl hbg,rest⟩
theorem eu.has {lo:Nat} {w:World} {v:Value} {l:List aX} (h:eu lo w v l):fZ w v l:=by
 rcases h.2 with⟨hv,h0⟩ | ⟨g,cap,cur,hv,hbg,hg,hnc,hcm,hcs,htake⟩
 · exact⟨none,0,by grind,.inl (jY h0)⟩
 · have ho:=h;unfold eu at ho;rw[hv] at ho;refine⟨some (Ad g 0),cap,hv,.inr ⟨g,0,rfl,fun i hi=>?_⟩⟩;rw[lU];exact⟨(ho.cellAt _ (by omega)).trans (mN _ i 0 hi (by omega)),(ho.cellAt _ (by omega)).trans (mN _ i 1 hi (by omega)),(ho.cellAt _ (by omega)).trans (mN _ i 2 hi (by omega)),(ho.cellAt _ (by omega)).trans (mN _ i 3 hi (by omega))⟩
theorem CE (F:Nat->dm) (w:World) :
  Calls Tryz.prog 211 #[.agg (cK F)] w fun e w'=>∃v,e=.returned v/\eu w.heap.size w' v (kx F)/\Below w.heap.size w w':=by
 have Oe:=acM F;obtain⟨C,hC⟩:=ex (cK F);have hCs:C.size=768:=by grind [gh]
 rw[<- hC] at Oe ⊢;clear hC;obtain⟨i0,hi,hz0,hz1,hz2⟩:=ju aeT;have HX:Hid (((w.alloc (.cells C 332)).alloc (.cells #[.bool false,I 0,.bool false] 287)).heap[w.heap.size]?=some (.cells C 332 (0,0))):=br (bE w C 332) _;have HL:Hid (((w.alloc (.cells C 332)).alloc (.cells #[.bool false,I 0,.bool false] 287)).heap[w.heap.size+1]?=some (.cells #[.bool false,I 0,.bool false] 287 (0,0))):=by
  grind [World.alloc]
 have gK:Hid (Below w.heap.size w ((w.alloc (.cells C 332)).alloc (.cells #[.bool false,I 0,.bool false] 287))):=((aK _ _).alloc (aI _) _).alloc (by simp) _;go_enter Tryz.func211,Tryz.ntmps211;go_wp2_with (first | (refine Dm rfl 332 _ rfl w.heap.size rfl 332 _ (0,0) _ HX.o Tryz.underlying332 rfl (by grind [oD]) ?_))
 go_loopw [3,8] (fun v i wr=>∃k:Nat,k<=256/\i=I k/\wr.ownsRow (w.heap.size+2) 139 4 v (cW F k).length (cT (cW F k))/\wr.heap[w.heap.size+1]?=some (.cells #[.bool (iD F k).m,I (iD F k).p,.bool (iD F k).z] 287 (0,0))/\Below w.heap.size w wr) (fun _ i _=>256-(intOf i).toNat)
 case atStart=>exact⟨0,by omega,rfl,mE _ _ _ _,HL.o,gK.o⟩
 case round =>
  obtain⟨k,hk,rfl,hown,hl,hb⟩:=hrel;have HO:Hid (wr.ownsRow (w.heap.size+2) 139 4 u3 (cW F k).length (cT (cW F k))):=hown;have HLr:Hid (wr.heap[w.heap.size+1]?=some (.cells #[.bool (iD F k).m,I (iD F k).p,.bool (iD F k).z] 287 (0,0))):=hl;have HB:Hid (Below w.heap.size w wr):=hb;have hsz:w.heap.size+1<wr.heap.size:=aJ hl;have l0:=au hl 0 rfl;have l1:=au hl 1 rfl;have l2:=au hl 2 rfl;have lf:=aR hl;clear hown hl hb;by_cases hlt:k<256
  · have hx:=fun W=>Oe k hlt W
    have JI:(k:Int)<256:=by omega
    obtain⟨s,hs⟩:=ex (F k);obtain⟨t,ht⟩:=ex (iD F k);rw[<- hs] at hx;rw[<- ht] at l0 l1 l2;have HS:Hid (s=F k):=hs;have HT:Hid (t=iD F k):=ht;clear hs ht Oe;by_cases hm:s.m=true
    · by_cases he:yh s t=true
      · have hst:s=t:=R4 s t he;have HG:Hid (cW F (k+1)=BW (cW F k)):=by show _=_;simp only[cW];rw[<- HS.o,<- HT.o,hm,he];rfl
        have hpos:=GR F k (by rw[<- HT.o,<- hst];exact hm);have hlen:=CG F k;obtain⟨G,hG⟩:=ex (cW F k);have Pw:=EZ F k ((cW F k).length-1) (by omega);rw[<- hG] at HO HG hpos hlen Pw;clear hG;rcases HO.o.2 with⟨_,h0⟩ | ⟨g,cap,cur,hv,hbg,hg,hnc,hcm,hcs,htake⟩
        · omega
        · have Hx:=HO.o;rw[hv] at Hx;have p1:wr.cell? ⟨g,(G.length-1)*4+1,none⟩=some (I (bC G (G.length-1)).aQ):=by
           rw[Hx.cellAt _ (by omega),mN G _ 1 (by omega) (by omega)];rfl
          have pf:=Hx.frozenAt;have HOv:Hid (wr.ownsRow (w.heap.size+2) 139 4 (.slice (some (Ad g 0)) G.length cap) G.length (cT G)):=Hx;have hgl:g<wr.heap.size:=aJ hg;rw[hv];clear HO Hx hv hg htake hcs he;obtain⟨pp,Hb⟩:=ex ((bC G (G.length-1)).aQ);rw[<- Hb] at p1 Pw;have HP:Hid (pp=(bC G (G.length-1)).aQ):=Hb;clear Hb;subst hst;have hG2:(G.length:Int)<=256:=by omega
          go_wp2;go_roundw
          case rel =>
           have ho:=(HOv.o.stored ((G.length-1)*4+1) (I (pp+1))).1;have e:(cT G).set ((G.length-1)*4+1) (I (pp+1))=cT (BW G):=by
            rw[HP.o];exact(Dg G (G.length-1) _ (by omega)).symm
           rw[e] at ho;have h:=GL rfl ho (mo HLr.o _ _ _ (by omega)) (HB.o.setCell (by simp;omega) _) (.bool true) (I s.p) (.bool s.z);refine⟨k+1,by omega,by go_num,?_,?_,h.2.2.alloc h.2.2.size _⟩
           · rw[HG.o,wO];exact h.1.alloc _
           · show _=some (Obj.cells #[.bool (F k).m,I (F k).p,.bool (F k).z] 287 (0,0));rw[<- HS.o,hm];exact br h.2.1 _
          case measure=>simp[intOf];omega
      · have he':yh s t=false:=by simpa using he
        have HG:Hid (cW F (k+1)=cW F k++[⟨(k:Int),1,s.p,s.z⟩]):=by show _=_;simp only[cW];rw[<- HS.o,<- HT.o,hm,he'];rfl
        have hlen:=CG F k;obtain⟨G,hG⟩:=ex (cW F k);rw[<- hG] at HO HG hlen;clear hG he;have hrow:Hid (∀j,u3.ownBlock=some j->w.heap.size+2<=j/\j<wr.heap.size):=HO.o.lt;have afB:=RZ s t he';obtain⟨sm,sp,sz⟩:=s;obtain⟨tm,tp,tz⟩:=t;simp only at hm afB l0 l1 l2 HG;subst hm;have HN:Hid (((wr.alloc (.cells #[.bool true,I sp,.bool sz] 287)).alloc (.cells #[I (k:Int),I 1,I sp,.bool sz] 139)).heap[wr.heap.size+1]?=some (.cells #[I (k:Int),I 1,I sp,.bool sz] 139 (0,0))):=by
         have:=bE (wr.alloc (.cells #[.bool true,I sp,.bool sz] 287)) #[I (k:Int),I 1,I sp,.bool sz] 139;show _=_;simpa using this
        have amJ:tm=false∨(tm=true/\(sp==tp)=false)∨(tm=true/\sp=tp/\tz=!sz):=by
         cases tm
         · exact .inl rfl
         · rcases afB with q | ⟨_,q⟩ | ⟨_,q1,q2⟩
           · cases q
           · exact .inr (.inl ⟨rfl,q⟩)
           · refine .inr (.inr ⟨rfl,by simpa using q1,?_⟩);cases sz <;> cases tz <;> first | rfl | cases q2
        clear he' afB;rcases amJ with rfl | ⟨rfl,q⟩ | ⟨rfl,rfl,rfl⟩
        all_goals
         go_wp2_with (at_builtin;refine Pf _ rfl _ _ 22 rfl (w.heap.size+2) 139 i0 (.agg #[I 0,I 0,I 0,.bool false]) 4 32 Tryz.underlying22 hi hz0 hz1 hz2 rfl (by decide) _ _ _ rfl ((HO.o.alloc _).alloc _) (Ad (wr.heap.size+1) 0) 1 1 [I (k:Int),I 1,I sp,.bool sz] rfl rfl (GJ HN.o) (xK [⟨(k:Int),1,sp,sz⟩]) (by decide) (by unfold maxLen;omega) (by omega) (by simp;omega) (wr.heap.size+2) (by simp) ?_)
         intro g cap w1 hown1 hgrow hat avD;have bS:=Hr (br (bE wr #[.bool true,I sp,.bool sz] 287) (.cells #[I (k:Int),I 1,I sp,.bool sz] 139)) hgrow (fun e=>by have:=hrow.out _ e.symm;omega);have bL:=Hr (br (br HLr.o (.cells #[.bool true,I sp,.bool sz] 287)) (.cells #[I (k:Int),I 1,I sp,.bool sz] 139)) hgrow (fun e=>by have:=hrow.out _ e.symm;omega);have b0:=au bS 0 rfl;have b1:=au bS 1 rfl;have b2:=au bS 2 rfl;have m0:=au bL 0 rfl;have m1:=au bL 1 rfl;have m2:=au bL 2 rfl;have mf:=aR bL;have HO1:Hid (w1.ownsRow (w.heap.size+2) 139 4 (Value.slice (some (Ad g 0)) (G.length+1) cap) (G.length+1) (cT G++[I (k:Int),I 1,I sp,.bool sz])):=hown1;have Z8:Hid (w1.heap[w.heap.size+1]?=some (.cells #[.bool (iD F k).m,I (iD F k).p,.bool (iD F k).z] 287 (0,0))):=bL;have cN:Hid (Below w.heap.size w w1):=((HB.o.alloc HB.o.size _).alloc (by simp;omega) _).grown hgrow (by simp;omega) (fun k' e=>by have:=hrow.out _ e;omega);clear bS bL hown1 hgrow hat l0 l1 l2 lf;go_wp2;go_roundw
         case rel =>
          have h:=GL rfl HO1.o Z8.o cN.o (.bool true) (I sp) (.bool sz);refine⟨k+1,by omega,by go_num,?_,?_,h.2.2⟩
          · rw[HG.o,fK,yY];exact h.1
          · show _=some (Obj.cells #[.bool (F k).m,I (F k).p,.bool (F k).z] 287 (0,0));rw[<- HS.o];exact h.2.1
         case measure=>simp[intOf];omega
    · have hm':s.m=false:=by simpa using hm
      have HG:Hid (cW F (k+1)=cW F k):=by show _=_;simp only[cW];rw[<- HS.o,hm'];rfl
      clear hm;go_wp2;go_roundw
      case rel =>
       have h:=GL rfl HO.o HLr.o HB.o (.bool false) (I s.p) (.bool s.z);refine⟨k+1,by omega,by go_num,?_,?_,h.2.2.alloc h.2.2.size _⟩
       · rw[HG.o];exact h.1.alloc _
       · show _=some (Obj.cells #[.bool (F k).m,I (F k).p,.bool (F k).z] 287 (0,0));rw[<- HS.o,hm'];exact br h.2.1 _
      case measure=>simp[intOf];omega
  · obtain rfl:k=256:=by omega
    go_wp2;go_ret;refine⟨_,rfl,?_,HB.o⟩;exact eu.mono (lo:=w.heap.size+2) HO.o (by omega)
end Go.Proofs.YtlgoihmkgaaemaaGreat
