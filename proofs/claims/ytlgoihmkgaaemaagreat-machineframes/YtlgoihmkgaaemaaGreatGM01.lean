import Derived.Test.YtlgoihmkgaaemaaGreatGM00
import Derived.Deep.WholeRow
import Derived.Laws.CopyOwn
set_option maxHeartbeats 20000000
set_option linter.unusedVariables false
set_option maxRecDepth 100000
set_option linter.unusedSimpArgs false
namespace Go.Proofs.YtlgoihmkgaaemaaGreat
open Go.RowKit
theorem xn {k:IntKind} {a b:Int} (h:a=b):Ending.returned (.int k a)=.returned (.int k b):=by rw[h]
theorem uv (l:List aX) (b off cap:Nat) (w:World) (hl:yF w b off l) (hf:∀i,i<l.length->Br (bB l i)) (hn:l.length<=140737488351232) :
  Calls Tryz.prog 117 #[.slice (some (Ad b off)) l.length cap] w fun e w'=>e=.returned (I (bj l))/\Below w.heap.size w w':=by
 by_cases hm:255<l.length
 · have e:bj l=2:=by grind [bj]
   rw[e];have hm':(255:Int)<(l.length:Int):=by omega
   go_enter Tryz.func117,Tryz.ntmps117;go_wp2;go_ret;exact⟨rfl,aJ _ _⟩
 · have hm':¬(255:Int)<(l.length:Int):=by omega
   have e:bj l=if tV l then 0 else 1:=by grind [bj]
   have E:Hid (bj l=if tV l then 0 else 1):=e;clear e;go_enter Tryz.func117,Tryz.ntmps117;go_wp2;go_loopw [10] (fun i wr=>∃k:Nat,k<=l.length/\i=I k/\kK l k=true/\Below w.heap.size w wr) (fun i _=>l.length-(intOf i).toNat)
   case atStart=>exact⟨0,by omega,rfl,rfl,aJ _ _⟩
   case round =>
    obtain⟨k,hk,rfl,hg,hb⟩:=hrel;have HG:Hid (kK l k=true):=hg;clear hg;by_cases hlt:k<l.length
    · obtain⟨c0,c1,c2,c3⟩:=(hl.below hb) k hlt;obtain⟨f1,f2,f3⟩:=hf k hlt;obtain⟨a,ha⟩:=ex (bB l k);rw[<- ha] at c0 c1 c2 c3 f1 f2 f3;have HA:Hid (a=bB l k):=ha;clear ha;by_cases hp:fL a.page a.aO=true
      · by_cases hq:kj a.jE=true
        · obtain⟨W,hW⟩:=ex (wr.alloc (.cells #[I a.page,I a.aO,I a.jE,.bool a.zero] 139));have hs:W.heap.size=wr.heap.size+1:=by rw[hW];simp
          have hbW:Hid (Below w.heap.size w W):=by show Below _ _ _;rw[hW];exact hb.alloc hb.size _
          by_cases hk0:k=0
          · have hok:Hid (nB l k=true):=by show _=true;unfold nB;rw[<- HA.o,hp,hq,hk0];rfl
            have z2:decide (0<k)=false:=by simp;omega
            clear hk0;go_wp2_with (first | (go_at_call 174;refine(fG _ _ _ f1 f2).mono ?_;rintro e w' ⟨rfl,rfl⟩) | (go_at_call 175;refine(jg _ _).mono ?_;rintro e w' ⟨rfl,rfl⟩))
            go_quiet (fail)
            go_wp2;go_roundw
            case rel=>exact⟨k+1,by omega,by go_num,Rz l k HG.o hok.out,C4 (hb.alloc hb.size _) _⟩
            case measure=>simp[intOf];omega
          · have Cv:=jh W;have hkc:=@fH W;have hlW:=hl.below hbW.out;have hbl:=hlW.lt k hlt;obtain⟨g0,g1,g2,g3⟩:=hlW (k-1) (by omega);obtain⟨fp1,fp2,fp3⟩:=hf (k-1) (by omega);obtain⟨p,hpd⟩:=ex (bB l (k-1));rw[<- hpd] at g0 g1 g2 g3 fp1 fp2 fp3;have Xz:=Es l k HG.o (k-1) (by omega);have hps:fL p.page p.aO=true:=by
             unfold nB at Xz;rw[<- hpd] at Xz;simp only[eG] at Xz;exact Xz.1.1
            have hpb:1<=p.page/\1<=p.aO/\p.aO<=256-p.page:=by simpa [fL] using hps
            have hok:Hid (nB l k=mi p a):=by show _=_;unfold nB;rw[<- HA.o,<- hpd,hp,hq];simp[hk0]
            have k0:∀x:dM W.heap.size W,x.world.cell? ⟨b,off+(k-1)*4,none⟩=some (I p.page):=fun x=>by rw[hkc x _ _ hbl,g0]
            have k1:∀x:dM W.heap.size W,x.world.cell? ⟨b,off+(k-1)*4+1,none⟩=some (I p.aO):=fun x=>by rw[hkc x _ _ hbl,g1]
            have k2:∀x:dM W.heap.size W,x.world.cell? ⟨b,off+(k-1)*4+2,none⟩=some (I p.jE):=fun x=>by rw[hkc x _ _ hbl,g2]
            have k3:∀x:dM W.heap.size W,x.world.cell? ⟨b,off+(k-1)*4+3,none⟩=some (.bool p.zero):=fun x=>by rw[hkc x _ _ hbl,g3]
            have e0:∀x:dM W.heap.size W,x.world.cell? (Ad wr.heap.size 0)=some (I a.page):=fun x=>by rw[hkc x _ _ (by omega),hW];simp
            have e1:∀x:dM W.heap.size W,x.world.cell? (Ad wr.heap.size 1)=some (I a.aO):=fun x=>by rw[hkc x _ _ (by omega),hW];simp
            have e2:∀x:dM W.heap.size W,x.world.cell? (Ad wr.heap.size 2)=some (I a.jE):=fun x=>by rw[hkc x _ _ (by omega),hW];simp
            have e3:∀x:dM W.heap.size W,x.world.cell? (Ad wr.heap.size 3)=some (.bool a.zero):=fun x=>by rw[hkc x _ _ (by omega),hW];simp
            have HW:Hid (W=wr.alloc (.cells #[I a.page,I a.aO,I a.jE,.bool a.zero] 139)):=hW;have hk1:(1:Int)<=(k:Int):=by omega
            have hk2:0<k:=by omega
            clear hW hs hkc hlW hbl g0 g1 g2 g3 hpd Xz hps hl;by_cases hfo:mi p a=true
            · go_wp2_with (first | (go_at_call 174;refine(fG _ _ _ f1 f2).mono ?_;rintro e w' ⟨rfl,rfl⟩) | (go_at_call 175;refine(jg _ _).mono ?_;rintro e w' ⟨rfl,rfl⟩))
              rw[<- HW.o];refine di (by kernel_rfl) (by kernel_rfl) ?_
              repeat (first | go_big_quiet_step ((go_at_call 176;exact fO (fun W=>tT p a W (by omega) (by omega)) _)) | quiet_step ((go_at_call 176;exact fO (fun W=>tT p a W (by omega) (by omega)) _)))
              refine jd ?_;intro _ hw';obtain⟨x,hw''⟩:=hw';subst hw'';go_wp2;go_roundw
              case rel=>exact⟨k+1,by omega,by go_num,Rz l k HG.o (hok.out.trans hfo),hbW.out.trans (x.keeps.mono hbW.out.size)⟩
              case measure=>simp[intOf];omega
            · have aoz:mi p a=false:=by simpa using hfo
              clear hfo;go_wp2_with (first | (go_at_call 174;refine(fG _ _ _ f1 f2).mono ?_;rintro e w' ⟨rfl,rfl⟩) | (go_at_call 175;refine(jg _ _).mono ?_;rintro e w' ⟨rfl,rfl⟩))
              rw[<- HW.o];refine di (by kernel_rfl) (by kernel_rfl) ?_
              repeat (first | go_big_quiet_step ((go_at_call 176;exact fO (fun W=>tT p a W (by omega) (by omega)) _)) | quiet_step ((go_at_call 176;exact fO (fun W=>tT p a W (by omega) (by omega)) _)))
              refine jd ?_;intro _ hw';obtain⟨x,hw''⟩:=hw';subst hw'';go_wp2;go_ret;exact⟨xn (by rw[E.o,MG l k hlt (hok.out.trans aoz)];rfl),hbW.out.trans (x.keeps.mono hbW.out.size)⟩
        · have hq':kj a.jE=false:=by simpa using hq
          clear hq;have hbad:Hid (nB l k=false):=by show _=false;unfold nB;rw[<- HA.o,hp,hq'];rfl
          go_wp2_with (first | (go_at_call 174;refine(fG _ _ _ f1 f2).mono ?_;rintro e w' ⟨rfl,rfl⟩) | (go_at_call 175;refine(jg _ _).mono ?_;rintro e w' ⟨rfl,rfl⟩))
          go_ret;exact⟨xn (by rw[E.o,MG l k hlt hbad.out];rfl),hb.alloc hb.size _⟩
      · have hp':fL a.page a.aO=false:=by simpa using hp
        clear hp;have hbad:Hid (nB l k=false):=by show _=false;unfold nB;rw[<- HA.o,hp'];rfl
        go_wp2_with (first | (go_at_call 174;refine(fG _ _ _ f1 f2).mono ?_;rintro e w' ⟨rfl,rfl⟩))
        go_ret;exact⟨xn (by rw[E.o,MG l k hlt hbad.out];rfl),hb.alloc hb.size _⟩
    · obtain rfl:k=l.length:=by omega
      go_wp2;go_ret;exact⟨xn (by rw[E.o,show tV l=true from HG.o];rfl),hb⟩
theorem Eo (ao:Option Addr) (cap:Nat) (w:World) :
  Calls Tryz.prog 117 #[.slice ao 0 cap] w fun e w'=>e=.returned (I (bj []))/\Below w.heap.size w w':=by
 have e:bj []=0:=by decide
 rw[e];go_enter Tryz.func117,Tryz.ntmps117;go_wp2;refine Jz 1 ?_;rw[Jx];go_wp2;go_ret;exact⟨rfl,aJ _ _⟩
open Go.RowKit
theorem Ty (l:List aX) (b off cap:Nat) (w:World) (hl:yF w b off l) (hf:∀i,i<l.length->Br (bB l i)) (hn:l.length<=140737488351232) :
  Calls Tryz.prog 70 #[.slice (some (Ad b off)) l.length cap] w fun e w'=>e=.returned (I (bg l))/\Below w.heap.size w w':=by
 by_cases hc:bj l=0
 · have hlen:=oa l hc;have HC:Hid (bg l=kP l l.length):=by show _=_;grind [bg]
   have HK:Hid (bj l=0):=hc;go_enter Tryz.func70,Tryz.ntmps70;go_wp2_with fail
   refine(uv l b off cap _ hl hf hn).mono ?_;rintro e w1 ⟨rfl,hb1⟩;rw[hc];clear hc;go_wp2;go_loopw [3,11] (fun s i wr=>∃k:Nat,k<=l.length/\i=I k/\s=I (kP l k)/\Below w.heap.size w wr) (fun _ i _=>l.length-(intOf i).toNat)
   case atStart=>exact⟨0,by omega,rfl,rfl,hb1⟩
   case round =>
    obtain⟨k,hk,rfl,rfl,hb⟩:=hrel;have hbd:=Gz l HK.o k hk;by_cases hlt:k<l.length
    · obtain⟨c0,c1,c2,c3⟩:=(hl.below hb) k hlt;have hsu:Hid (kP l (k+1)=kP l k+(bB l k).aO):=rfl;have hbk:=il l k (gQ l HK.o k hlt);obtain⟨a,ha⟩:=ex (bB l k);rw[<- ha] at c0 c1 c2 c3 hsu hbk;clear ha;go_wp2;go_roundw
      case rel=>exact⟨k+1,by omega,by go_num,by rw[hsu.out],hb.alloc hb.size _⟩
      case measure=>simp[intOf];omega
    · obtain rfl:k=l.length:=by omega
      go_wp2;go_ret;exact⟨xn HC.o.symm,hb⟩
 · have HC:Hid (bg l=0):=by show _=_;grind [bg]
   have hc':(bj l != 0)=true:=by grind
   go_enter Tryz.func70,Tryz.ntmps70;go_wp2_with fail
   refine(uv l b off cap _ hl hf hn).mono ?_;rintro e w1 ⟨rfl,hb1⟩;go_wp2;go_ret;exact⟨xn HC.o.symm,hb1⟩
theorem Xe (ao:Option Addr) (cap:Nat) (w:World) :
  Calls Tryz.prog 70 #[.slice ao 0 cap] w fun e w'=>e=.returned (I (bg []))/\Below w.heap.size w w':=by
 have e:bg []=0:=by decide
 have e2:bj []=0:=by decide
 rw[e];go_enter Tryz.func70,Tryz.ntmps70;go_wp2_with fail
 refine(Eo ao cap _).mono ?_;rintro e w1 ⟨rfl,hb1⟩;rw[e2];go_wp2;refine Jz 1 ?_;rw[Jx];go_wp2;go_ret
 simp_all
open Go.RowKit
theorem aN {w w':World} {b N:Nat} {o:Obj} (h:w.heap[b]?=some o) (hb:Below N w w') (hlt:b<N):w'.heap[b]?=some o:=(hb.block b hlt).trans h
theorem aI {w:World} {b:Nat} {o:Obj} (h:w.heap[b]?=some o):b<w.heap.size:=(Array.getElem?_eq_some_iff.1 h).1
theorem bl {w:World} {b:Nat} {o:Obj} (h:w.heap[b]?=some o) (o':Obj):(w.alloc o').heap[b]?=some o:=(Below.heap_alloc w o' b (aI h)).trans h
theorem aq {w:World} {b:Nat} {C:Array Value} {t:TypeId} {fr:Nat×Nat} (h:w.heap[b]?=some (.cells C t fr)) (j:Nat) {v:Value} (hj:C[j]?=some v):w.cell? (Ad b j)=some v:=(Uk w b j C t fr h).trans hj
theorem aQ {w:World} {b:Nat} {C:Array Value} {t:TypeId} (h:w.heap[b]?=some (.cells C t (0,0))) (j:Nat):w.frozen? (Ad b j)=false:=frozen_of_row w b j C t h
theorem mh {w:World} {b:Nat} {o:Obj} (h:w.heap[b]?=some o) (g j:Nat) (v:Value) (hne:b≠g):(w.setCell (Ad g j) v).heap[b]?=some o:=(heap_setCell_other w (Ad g j) b v hne).trans h
theorem fF {w:World} {b:Nat} {C:Array Value} {t:TypeId} (h:w.heap[b]?=some (.cells C t (0,0))) (j:Nat) (v:Value):(w.setCell (Ad b j) v).heap[b]?=some (.cells (C.setIfInBounds j v) t (0,0)):=heap_setCell_same w b j C t v h
theorem bD (w:World) (C:Array Value) (t:TypeId):(w.alloc (.cells C t)).heap[w.heap.size]?=some (.cells C t (0,0)):=OI w _
theorem Gv {w:World} {b:Nat} {C:Array Value} {t:TypeId} {fr:Nat×Nat} (h:w.heap[b]?=some (.cells C t fr)):∀j u,C.toList[j]?=some u->w.cell? (((Ad b 0):Addr).add j)=some u:=fun j u hj=>by
 grind [Addr.add_lit,aq]
theorem Hf {w w':World} {b:Nat} {o:Obj} {row:Option Nat} (h:w.heap[b]?=some o) (hg:w.grownBy w' row) (hne:some b≠row):w'.heap[b]?=some o:=(hg.block b (aI h) hne).trans h
theorem qR {w:World} {b:Nat} {a0 a1:Value} {t:TypeId} (h:w.heap[b]?=some (.cells #[a0,a1] t (0,0))):w.cell? (Ad b 0)=some a0/\w.cell? (Ad b 1)=some a1:=⟨aq h 0 rfl,aq h 1 rfl⟩
theorem ET {w:World} {b:Nat} {a0 a1 a2:Value} {t:TypeId} (h:w.heap[b]?=some (.cells #[a0,a1,a2] t (0,0))):w.cell? (Ad b 0)=some a0/\w.cell? (Ad b 1)=some a1/\w.cell? (Ad b 2)=some a2:=⟨aq h 0 rfl,aq h 1 rfl,aq h 2 rfl⟩
theorem iI {w:World} {b:Nat} {a0 a1 a2 a3 a4:Value} {t:TypeId} (h:w.heap[b]?=some (.cells #[a0,a1,a2,a3,a4] t (0,0))):w.cell? (Ad b 0)=some a0/\w.cell? (Ad b 1)=some a1/\w.cell? (Ad b 2)=some a2/\w.cell? (Ad b 3)=some a3/\w.cell? (Ad b 4)=some a4:=⟨aq h 0 rfl,aq h 1 rfl,aq h 2 rfl,aq h 3 rfl,aq h 4 rfl⟩
open Go.RowKit
def qT (a:aX):Array Value:=#[I a.page,I a.aO,I a.jE,.bool a.zero]
theorem Xg (l:List aX) (b off cap:Nat) (p:Int) (w:World) (hl:yF w b off l) (hf:∀i,i<l.length->Br (bB l i)) (hn:l.length<=140737488351232) :
  Calls Tryz.prog 77 #[.slice (some (Ad b off)) l.length cap,I p] w fun e w'=>e=.returned (.tuple #[.agg (qT (aW l p).1),.bool (aW l p).2])/\Below w.heap.size w w':=by
 have hbz:Below w.heap.size w (w.alloc (.cells #[I 0,I 0,I 0,.bool false] 139)):=(aJ _ _).alloc (aH _) _;by_cases hc:bj l=0
 · have hlen:=oa l hc;have HC:Hid (aW l p=bV l p):=by show _=_;grind [aW]
   have HK:Hid (bj l=0):=hc;go_enter Tryz.func77,Tryz.ntmps77;go_wp2_with fail
   refine(uv l b off cap _ (hl.below hbz) hf hn).mono ?_;rintro e w1 ⟨rfl,hb1⟩;rw[hc];clear hc;go_wp2;go_loopw [14] (fun i wr=>∃k:Nat,k<=l.length/\i=I k/\(∀j,j<k->iJ (bB l j) p=false)/\Below (w.heap.size+1) (w.alloc (.cells #[I 0,I 0,I 0,.bool false] 139)) wr) (fun i _=>l.length-(intOf i).toNat)
   case atStart=>exact⟨0,by omega,rfl,fun j hj=>by omega,hb1.mono (by simp)⟩
   case round =>
    obtain⟨k,hk,rfl,hno,hb⟩:=hrel;have HN:Hid (∀j,j<k->iJ (bB l j) p=false):=hno;have wM:Hid (Below w.heap.size w wr):=hbz.trans (hb.mono (kQ _));have hsz:w.heap.size+1<=wr.heap.size:=by have:=hb.size;simpa using this
    have hlr:=hl.below wM.out;have hR:wr.heap[w.heap.size]?=some (.cells #[I 0,I 0,I 0,.bool false] 139 (0,0)):=aN (bD w _ _) hb (OO _);have HR:Hid (wr.heap[w.heap.size]?=some (.cells #[I 0,I 0,I 0,.bool false] 139 (0,0))):=hR;have HB:Hid (Below (w.heap.size+1) (w.alloc (.cells #[I 0,I 0,I 0,.bool false] 139)) wr):=hb;clear hR hb;clear hno hb1;by_cases hlt:k<l.length
    · obtain⟨c0,c1,c2,c3⟩:=hlr k hlt;have hbk:=il l k (gQ l HK.o k hlt);obtain⟨a,ha⟩:=ex (bB l k);rw[<- ha] at c0 c1 c2 c3 hbk;have HA:Hid (a=bB l k):=ha;clear ha;by_cases h1:a.page<=p
      · by_cases h2:p<a.page+a.aO
        · have hres:Hid (aW l p=(a,true)):=by
           show _=_;rw[HC.o,s8 l p k hlt HN.o (by rw[<- HA.o];simp[iJ,aX.wH,h1,h2]),<- HA.o]
          go_wp2_with fail
          refine(pL _ _ _ _ _ (by omega) (by omega)).mono ?_;rintro e w2 ⟨rfl,hb2⟩;have hA2:=aN (bD wr #[I a.page,I a.aO,I a.jE,.bool a.zero] 139) hb2 (by simp);have UJ:=aN (bl HR.o _) hb2 (by simp;omega);have s0:=aq hA2 0 rfl;have s1:=aq hA2 1 rfl;have s2:=aq hA2 2 rfl;have s3:=aq hA2 3 rfl;have t0:=aq UJ 0 rfl;have t1:=aq UJ 1 rfl;have t2:=aq UJ 2 rfl;have t3:=aq UJ 3 rfl;have u0:=aQ UJ;have hbe:Hid (Below w.heap.size w w2):=(wM.out.alloc wM.out.size _).trans (hb2.mono (by simp;omega));clear hb2 hA2 UJ;go_wp2;exact bK (v:=.tuple #[.agg #[I a.page,I a.aO,I a.jE,.bool a.zero],.bool true]) (by simp[results,Tryz.results77,go_sem,t0,t1,t2,t3]) rfl ⟨by rw[hres.out];rfl,(((hbe.out.setCell (aH _) _).setCell (aH _) _).setCell (aH _) _).setCell (aH _) _⟩
        · have MI:Hid (iJ (bB l k) p=false):=by show _=_;rw[<- HA.o];unfold iJ aX.wH;grind
          go_wp2_with fail
          refine(pL _ _ _ _ _ (by omega) (by omega)).mono ?_;rintro e w2 ⟨rfl,hb2⟩;have hbe:Hid (Below (w.heap.size+1) (w.alloc (.cells #[I 0,I 0,I 0,.bool false] 139)) w2):=(HB.o.alloc (by omega) _).trans (hb2.mono (by simp;omega));clear hb2;go_wp2;go_roundw
          case rel=>exact⟨k+1,by omega,by go_num,fun j hj=>if e:j=k then by rw[e];exact MI.out else HN.o j (by omega),hbe.out⟩
          case measure=>simp[intOf];omega
      · have MI:Hid (iJ (bB l k) p=false):=by show _=_;rw[<- HA.o];unfold iJ aX.wH;grind
        go_wp2;go_roundw
        case rel=>exact⟨k+1,by omega,by go_num,fun j hj=>if e:j=k then by rw[e];exact MI.out else HN.o j (by omega),HB.o.alloc (by omega) _⟩
        case measure=>simp[intOf];omega
    · obtain rfl:k=l.length:=by omega
      have hres:Hid (aW l p=(xp,false)):=by show _=_;rw[HC.o,tW l p HN.o]
      have t0:=aq HR.o 0 rfl;have t1:=aq HR.o 1 rfl;have t2:=aq HR.o 2 rfl;have t3:=aq HR.o 3 rfl;have u0:=aQ HR.o;go_wp2;exact bK (v:=.tuple #[.agg #[I 0,I 0,I 0,.bool false],.bool false]) (by simp[results,Tryz.results77,go_sem,t0,t1,t2,t3]) rfl ⟨by rw[hres.out];rfl,(((wM.out.setCell (aH _) _).setCell (aH _) _).setCell (aH _) _).setCell (aH _) _⟩
 · have HC:Hid (aW l p=(xp,false)):=by show _=_;grind [aW]
   have hc':(bj l != 0)=true:=by grind
   go_enter Tryz.func77,Tryz.ntmps77;go_wp2_with fail
   refine(uv l b off cap _ (hl.below hbz) hf hn).mono ?_;rintro e w1 ⟨rfl,hb1⟩;have IV:=aN (bD w #[I 0,I 0,I 0,.bool false] 139) hb1 (by simp);have t0:=aq IV 0 rfl;have t1:=aq IV 1 rfl;have t2:=aq IV 2 rfl;have t3:=aq IV 3 rfl;have u0:=aQ IV;clear IV;go_wp2;exact bK (v:=.tuple #[.agg #[I 0,I 0,I 0,.bool false],.bool false]) (by simp[results,Tryz.results77,go_sem,t0,t1,t2,t3]) rfl ⟨by rw[HC.o];rfl,((((hbz.trans (hb1.mono (by simp))).setCell (aH _) _).setCell (aH _) _).setCell (aH _) _).setCell (aH _) _⟩
theorem Z4 (ao:Option Addr) (cap:Nat) (p:Int) (w:World) :
  Calls Tryz.prog 77 #[.slice ao 0 cap,I p] w fun e w'=>e=.returned (.tuple #[.agg (qT (aW [] p).1),.bool (aW [] p).2])/\Below w.heap.size w w':=by
 have hbz:Below w.heap.size w (w.alloc (.cells #[I 0,I 0,I 0,.bool false] 139)):=(aJ _ _).alloc (aH _) _;have e2:bj []=0:=by decide
 go_enter Tryz.func77,Tryz.ntmps77;go_wp2_with fail
 refine(Eo ao cap _).mono ?_;rintro e w1 ⟨rfl,hb1⟩;rw[e2];have IV:=aN (bD w #[I 0,I 0,I 0,.bool false] 139) hb1 (by simp);have t0:=aq IV 0 rfl;have t1:=aq IV 1 rfl;have t2:=aq IV 2 rfl;have t3:=aq IV 3 rfl;have u0:=aQ IV;clear IV;go_wp2;refine Jz 1 ?_;rw[Jx];go_wp2;exact bK (v:=.tuple #[.agg #[I 0,I 0,I 0,.bool false],.bool false]) (by simp[results,Tryz.results77,go_sem,t0,t1,t2,t3]) rfl ⟨rfl,((((hbz.trans (hb1.mono (by simp))).setCell (aH _) _).setCell (aH _) _).setCell (aH _) _).setCell (aH _) _⟩
open Go.RowKit
structure dg where
 m:Bool
 p:Int
 z:Bool
def jc:dg:=⟨false,0,false⟩
def CV (s:dg):List Value:=[.bool s.m,I s.p,.bool s.z]
def qU (F:Nat->dg):Nat->List Value
 | 0=>[]
 | m+1=>qU F m++CV (F m)
def cH (F:Nat->dg):Array Value:=(qU F 256).toArray
def Gy (F:Nat->dg) (n:Nat) (s:dg):Nat->dg:=fun k=>if k=n then s else F k
theorem jP (F:Nat->dg):∀m,(qU F m).length=m*3
 | 0=>rfl
 | m+1=>by simp[qU,jP F m,CV];omega
theorem fU (F:Nat->dg):(cH F).size=768:=by simp[cH,jP]
theorem NR (F:Nat->dg) (n j:Nat) (hj:j<3):∀m,n<m->(qU F m)[n*3+j]?=(CV (F n))[j]?
 | 0,h=>by omega
 | m+1,h=>by
  simp only[qU];by_cases e:n=m
  · grind [jP]
  · rw[GN (by grind [jP])];exact NR F n j hj m (by omega)
theorem Cs (F:Nat->dg) (n j:Nat) (hn:n<256) (hj:j<3):(cH F)[n*3+j]?=(CV (F n))[j]?:=by
 grind [cH,NR]
theorem m6 (F:Nat->dg) (n:Nat) (hn:n<256):(cH F)[n*3]?=some (.bool (F n).m):=Cs F n 0 hn (by omega)
theorem mZ (F:Nat->dg) (n:Nat) (hn:n<256):(cH F)[n*3+1]?=some (I (F n).p):=Cs F n 1 hn (by omega)
theorem mY (F:Nat->dg) (n:Nat) (hn:n<256):(cH F)[n*3+2]?=some (.bool (F n).z):=Cs F n 2 hn (by omega)
theorem IL (F G:Nat->dg):∀m,(∀k,k<m->F k=G k)->qU F m=qU G m
 | 0,_=>rfl
 | m+1,h=>by simp only[qU];rw[IL F G m (fun k hk=>h k (by omega)),h m (by omega)]
theorem NP (F:Nat->dg) (n:Nat) (s:dg):∀m,n<m->(((qU F m).set (n*3) (.bool s.m)).set (n*3+1) (I s.p)).set (n*3+2) (.bool s.z)=qU (Gy F n s) m
 | 0,h=>by omega
 | m+1,h=>by
  simp only[qU];by_cases e:n=m
  · subst e;rw[Au _ _ (by grind [jP]),Au _ _ (by grind [jP]),Au _ _ (by grind [jP]),jP,
     show n*3-n*3=0 from by omega,show n*3+1-n*3=1 from by omega,show n*3+2-n*3=2 from by omega]
    grind [IL,Gy,CV]
  · rw[JG _ _ (by grind [jP]),JG _ _ (by grind [jP]),JG _ _ (by grind [jP]),NP F n s m (by omega)]
    grind [Gy]
theorem xQ (F:Nat->dg) (n:Nat) (s:dg) (hn:n<256) :
  (((cH F).setIfInBounds (n*3) (.bool s.m)).setIfInBounds (n*3+1) (I s.p)).setIfInBounds (n*3+2) (.bool s.z)=cH (Gy F n s):=by
 grind [cH,NP]
theorem NQ (F:Nat->dg):∀m,∀v∈qU F m,v.oneCell'=true
 | 0,v,h=>by grind [qU]
 | m+1,v,h=>by
  simp only[qU,lQ] at h;rcases h with h | h
  · exact NQ F m v h
  · simp only[CV,ux,GI,or_false] at h;rcases h with rfl | rfl | rfl <;> rfl
theorem uw (F:Nat->dg):(cH F).all (·.oneCell')=true:=by
 grind [NQ,cH]
def nK (F:Nat->dg) (a:aX) (t:Int):Nat->dg:=fun n=>if a.page<=(n:Int)/\(n:Int)<t then ⟨true,a.jE,a.zero⟩ else F n
def eW (l:List aX):Nat->Nat->dg
 | 0=>fun _=>jc
 | k+1=>nK (eW l k) (bB l k) (bB l k).wH
def fu (l:List aX):Nat->dg:=eW l l.length
theorem RA (F:Nat->dg) (a:aX):nK F a a.page=F:=by
 grind [nK]
theorem TC (F:Nat->dg) (a:aX) (n:Nat) (h:a.page<=(n:Int)):Gy (nK F a n) n ⟨true,a.jE,a.zero⟩=nK F a ((n:Int)+1):=by
 grind [Gy,nK]
open Go.RowKit
theorem Uj:(Tryz.prog.info? 332).map (fun i=>(i.zero,i.size))=some (some (.agg (cH (fun _=>jc))),768):=by kernel_rfl
theorem oo:(Tryz.prog.info? 332).map (·.size)=some 768:=(zero_of_info Uj).2
theorem LK (w:World):(zeroValue 332).run Tryz.prog w=.ok (.agg (cH (fun _=>jc))) w:=(zero_of_info Uj).1 w
theorem Rs (l:List aX) (b off cap:Nat) (w:World) (hl:yF w b off l) (hc:bj l=0) :
  Calls Tryz.prog 210 #[.slice (some (Ad b off)) l.length cap] w fun e w'=>e=.returned (.agg (cH (fu l)))/\Below w.heap.size w w':=by
 have hlen:=oa l hc;have HK:Hid (bj l=0):=hc;clear hc;obtain⟨Z,hZ⟩:=ex (cH (fun _=>jc));have hz:=LK;rw[<- hZ] at hz;have HZ:Hid (Z=cH (fun _=>jc)):=hZ;clear hZ;go_enter Tryz.func210,Tryz.ntmps210;go_wp2;go_loopw [9] (fun i wr=>∃k:Nat,k<=l.length/\i=I k/\wr.heap[w.heap.size]?=some (.cells Z 332 (0,0))/\wr.heap[w.heap.size+1]?=some (.cells (cH (eW l k)) 332 (0,0))/\Below w.heap.size w wr) (fun i _=>l.length-(intOf i).toNat)
 case atStart =>
  refine⟨0,by omega,rfl,bl (bD w Z 332) _,?_,((aJ _ _).alloc (aH _) _).alloc (by simp) _⟩;show _=some (Obj.cells (cH (fun _=>jc)) 332 (0,0))
  grind [Hid.o,World.alloc]
 case round =>
  obtain⟨k,hk,rfl,hR,hA,hb⟩:=hrel;have HR:Hid (wr.heap[w.heap.size]?=some (.cells Z 332 (0,0))):=hR;have HA:Hid (wr.heap[w.heap.size+1]?=some (.cells (cH (eW l k)) 332 (0,0))):=hA;have HB:Hid (Below w.heap.size w wr):=hb;have hsz:w.heap.size+2<=wr.heap.size:=aI hA;by_cases hlt:k<l.length
  · obtain⟨c0,c1,c2,c3⟩:=hl.below hb k hlt;have hbk:=il l k (gQ l HK.o k hlt);obtain⟨a,ha⟩:=ex (bB l k);rw[<- ha] at c0 c1 c2 c3 hbk;have HAr:Hid (a=bB l k):=ha;clear ha hR hA hb;obtain⟨wo,hwo⟩:∃wo:World,wo=wr:=⟨_,rfl⟩;subst hwo;have hcx:(k:Int)<(l.length:Int):=by omega
    go_wp2;go_loopw [6] (fun t wi=>∃n:Nat,a.page<=(n:Int)/\(n:Int)<=a.page+a.aO/\t=I n/\wi.heap[w.heap.size]?=some (.cells Z 332 (0,0))/\wi.heap[w.heap.size+1]?=some (.cells (cH (nK (eW l k) a n)) 332 (0,0))/\wi.heap[wo.heap.size]?=some (.cells #[I a.page,I a.aO,I a.jE,.bool a.zero] 139 (0,0))/\Below w.heap.size w wi) (fun t _=>(a.page+a.aO-intOf t).toNat)
    case atStart =>
     refine⟨a.page.toNat,by omega,by omega,by grind,bl HR.o _,?_,bD _ _ _,HB.o.alloc HB.o.size _⟩;rw[Int.toNat_of_nonneg (by omega),RA];exact bl HA.o _
    case round =>
     obtain⟨n,TG,GU,rfl,iR,iA,iX,ib⟩:=hrel;have IR:Hid (wr.heap[w.heap.size]?=some (.cells Z 332 (0,0))):=iR;have IA:Hid (wr.heap[w.heap.size+1]?=some (.cells (cH (nK (eW l k) a n)) 332 (0,0))):=iA;have IB:Hid (Below w.heap.size w wr):=ib;have x0:=aq iX 0 rfl;have x1:=aq iX 1 rfl;have x2:=aq iX 2 rfl;have x3:=aq iX 3 rfl;have IX:Hid (wr.heap[wo.heap.size]?=some (.cells #[I a.page,I a.aO,I a.jE,.bool a.zero] 139 (0,0))):=iX;have hxs:wo.heap.size<wr.heap.size:=aI iX;clear iR iA iX ib;by_cases hin:(n:Int)<a.page+a.aO
     · go_wp2_with fail
       refine(pL _ _ _ _ _ (by omega) (by omega)).mono ?_;rintro e w2 ⟨rfl,hb2⟩;have jR:=aN IR.o hb2 (by omega);have jA:=aN IA.o hb2 (by omega);have jX:=aN IX.o hb2 hxs;have y2:=aq jX 2 rfl;have y3:=aq jX 3 rfl;have z0:=aq jA (n*3) (m6 _ n (by omega));have z1:=aq jA (n*3+1) (mZ _ n (by omega));have z2:=aq jA (n*3+2) (mY _ n (by omega));have zf:=aQ jA;have JR:Hid (w2.heap[w.heap.size]?=some (.cells Z 332 (0,0))):=jR;have JA:Hid (w2.heap[w.heap.size+1]?=some (.cells (cH (nK (eW l k) a n)) 332 (0,0))):=jA;have JX:Hid (w2.heap[wo.heap.size]?=some (.cells #[I a.page,I a.aO,I a.jE,.bool a.zero] 139 (0,0))):=jX;have JB:Hid (Below w.heap.size w w2):=IB.o.trans (hb2.mono IB.o.size);clear jR jA jX hb2 x0 x1 x2 x3;have aeJ:(n:Int)<256:=by omega
       go_wp2;go_roundw
       case rel =>
        refine⟨n+1,by omega,by omega,by go_num,mh (mh (mh JR.o _ _ _ (by omega)) _ _ _ (by omega)) _ _ _ (by omega),?_,mh (mh (mh JX.o _ _ _ (by omega)) _ _ _ (by omega)) _ _ _ (by omega),((JB.o.setCell (by simp) _).setCell (by simp) _).setCell (by simp) _⟩;have h:=fF (fF (fF JA.o (n*3) (.bool true)) (n*3+1) (I a.jE)) (n*3+2) (.bool a.zero);rw[xQ (nK (eW l k) a n) n ⟨true,a.jE,a.zero⟩ (by omega),TC _ _ _ TG] at h;rw[show((n+1:Nat):Int)=(n:Int)+1 from by omega];exact h
       case measure=>simp[intOf];omega
     · have hend:(n:Int)=a.page+a.aO:=by omega
       have HE:Hid ((n:Int)=a.page+a.aO):=hend;clear hend;go_wp2_with fail
       refine(pL _ _ _ _ _ (by omega) (by omega)).mono ?_;rintro e w2 ⟨rfl,hb2⟩;have JR:Hid (w2.heap[w.heap.size]?=some (.cells Z 332 (0,0))):=aN IR.o hb2 (by omega);have JA:Hid (w2.heap[w.heap.size+1]?=some (.cells (cH (nK (eW l k) a n)) 332 (0,0))):=aN IA.o hb2 (by omega);have JB:Hid (Below w.heap.size w w2):=IB.o.trans (hb2.mono IB.o.size);clear hb2 x0 x1 x2 x3;go_wp2;go_roundw
       case rel =>
        refine⟨k+1,by omega,by go_num,JR.o,?_,JB.o⟩;have h:=JA.o;rw[HE.o] at h;show _=some (Obj.cells (cH (nK (eW l k) (bB l k) (bB l k).wH)) 332 (0,0));rw[<- HAr.o];exact h
       case measure=>simp[intOf];omega
  · obtain rfl:k=l.length:=by omega
    have hZs:Z.size=768:=by rw[HZ.o];exact fU _
    clear hR hA hb;go_wp2_with (first | (refine C7 rfl 332 _ rfl (w.heap.size+1) rfl 332 _ (0,0) _ HA.o Tryz.underlying332 rfl (by rw[fU];exact oo) ?_) | (refine JC rfl 332 _ _ rfl w.heap.size _ rfl rfl 332 Z HR.o (by rw[fU];exact oo) (by rw[hZs,fU]) (uw _) ?_))
    exact bK (v:=.agg (cH (eW l l.length))) (results_cell_row rfl _ _ w.heap.size 332 _ (0,0) _ rfl (tu _ _ _ _ 332 (0,0) HR.o) Tryz.underlying332 rfl (by rw[fU];exact oo)) rfl ⟨rfl,below_setRow HB.o (aH _) _⟩
theorem Tz (ao:Option Addr) (cap:Nat) (w:World) :
  Calls Tryz.prog 210 #[.slice ao 0 cap] w fun e w'=>e=.returned (.agg (cH (fu [])))/\Below w.heap.size w w':=by
 obtain⟨Z,hZ⟩:=ex (cH (fun _=>jc));have hz:=LK;rw[<- hZ] at hz;have hZs:Z.size=768:=by grind [fU]
 have HZ:Hid (Z=cH (fun _=>jc)):=hZ;clear hZ;have HR:Hid (((w.alloc (.cells Z 332)).alloc (.cells Z 332)).heap[w.heap.size]?=some (.cells Z 332 (0,0))):=bl (bD w Z 332) _;have HA:Hid (((w.alloc (.cells Z 332)).alloc (.cells Z 332)).heap[w.heap.size+1]?=some (.cells Z 332 (0,0))):=by
  grind [World.alloc]
 go_enter Tryz.func210,Tryz.ntmps210;go_wp2;refine Jz 1 ?_;rw[Jx];go_wp2_with (first | (refine C7 rfl 332 _ rfl (w.heap.size+1) rfl 332 _ (0,0) _ HA.o Tryz.underlying332 rfl (by grind [oo]) ?_) | (refine JC rfl 332 _ _ rfl w.heap.size _ rfl rfl 332 Z HR.o (by rw[hZs];exact oo) rfl (by grind [uw,Hid.o]) ?_))
 exact bK (v:=.agg Z) (results_cell_row rfl _ _ w.heap.size 332 _ (0,0) _ rfl (tu _ _ _ _ 332 (0,0) HR.o) Tryz.underlying332 rfl (by grind [oo])) rfl ⟨by rw[HZ.o];rfl,below_setRow (((aJ _ _).alloc (aH _) _).alloc (by simp) _) (aH _) _⟩
open Go.RowKit
theorem RI (F:Nat->dg) (k:Nat) (hk:k<256):(cH F).extract (k*3) (k*3+3)=#[.bool (F k).m,I (F k).p,.bool (F k).z]:=by
 apply Array.ext_getElem?;intro j;have hs:=fU F;rw[Array.getElem?_extract,hs]
 match j with
 | 0=>grind [m6]
 | 1=>grind [mZ]
 | 2=>grind [mY]
 | j+3=>grind
def iy (F:Nat->dg):Nat->dg
 | 0=>jc
 | k+1=>F k
def xO (a b:dg):Bool:=a.m==b.m&&(a.p==b.p&&a.z==b.z)
def Bq (G:List aX):List aX:=G.set (G.length-1) ⟨(bB G (G.length-1)).page,(bB G (G.length-1)).aO+1,(bB G (G.length-1)).jE,(bB G (G.length-1)).zero⟩
def cT (F:Nat->dg):Nat->List aX
 | 0=>[]
 | k+1=>if (F k).m=false then cT F k else if xO (F k) (iy F k) then Bq (cT F k) else cT F k++[⟨(k:Int),1,(F k).p,(F k).z⟩]
def kq (F:Nat->dg):List aX:=cT F 256
def oM (a:aX):List Value:=[I a.page,I a.aO,I a.jE,.bool a.zero]
def cO:List aX->List Value
 | []=>[]
 | a::r=>oM a++cO r
theorem yI:∀G:List aX,(cO G).length=G.length*4
 | []=>rfl
 | a::r=>by simp[cO,oM,yI r];omega
theorem yJ:∀G H:List aX,cO (G++H)=cO G++cO H
 | [],H=>rfl
 | a::r,H=>by simp[cO,yJ r H]
theorem mL:∀(G:List aX) (i j:Nat),i<G.length->j<4->(cO G)[i*4+j]?=(oM (bB G i))[j]?
 | [],i,j,h,_=>by simp at h
 | a::r,0,j,h,hj=>by
  grind [cO,oM,bB]
 | a::r,i+1,j,h,hj=>by
  simp only[cO];rw[yP (by simp[oM];omega),show(i+1)*4+j-(oM a).length=i*4+j from by grind [oM],mL r i j (by grind) hj];rfl
theorem CZ:∀(G:List aX) (i:Nat) (n:Int),i<G.length->cO (G.set i ⟨(bB G i).page,n,(bB G i).jE,(bB G i).zero⟩)=(cO G).set (i*4+1) (I n)
 | [],i,n,h=>by simp at h
 | a::r,0,n,h=>by rfl
 | a::r,i+1,n,h=>by
  simp only[cO,dh];rw[Au _ _ (by simp[oM];omega),show(i+1)*4+1-(oM a).length=i*4+1 from by grind [oM]];have e:=CZ r i n (by grind)
  grind [bB]
theorem wA (G:List aX):(Bq G).length=G.length:=by simp[Bq]
theorem xt:∀(G:List aX),∀v∈cO G,v.oneCell'=true
 | [],v,h=>by grind [cO]
 | a::r,v,h=>by
  simp only[cO,oM,C8,List.nil_append,ux] at h;rcases h with rfl | rfl | rfl | rfl | h
  · rfl
  · rfl
  · rfl
  · rfl
  · exact xt r v h
theorem rZ (G H:List aX) (i:Nat) (h:i<G.length):bB (G++H) i=bB G i:=by grind [bB]
theorem wB (G:List aX) (a:aX):bB (G++[a]) G.length=a:=by simp[bB]
theorem RJ (G:List aX) (i:Nat) (a:aX) (h:i<G.length):bB (G.set i a) i=a:=by simp[bB,h]
theorem OC (G:List aX) (i j:Nat) (a:aX) (h:j≠i):bB (G.set i a) j=bB G j:=by grind [bB]
theorem Cq (F:Nat->dg):∀k,(cT F k).length<=k
 | 0=>by simp[cT]
 | k+1=>by
  have ih:=Cq F k
  grind [cT,wA]
theorem GC (F:Nat->dg):∀k,(iy F k).m=true->0<(cT F k).length
 | 0,h=>by grind [iy,jc]
 | k+1,h=>by
  have h':(F k).m=true:=h;simp only[cT,h'];rw[au (by simp)];split
  · rename_i he
    have hm:(iy F k).m=true:=by
     grind [xO]
    rw[wA];exact GC F k hm
  · simp
theorem EJ (F:Nat->dg):∀k,∀i,i<(cT F k).length->1<=(bB (cT F k) i).aO/\(bB (cT F k) i).aO<=k
 | 0,i,h=>by grind [cT]
 | k+1,i,h=>by
  have ih:=EJ F k
  grind [cT,Bq,RJ,OC,rZ,wB]
theorem Ry (a b:dg) (h:xO a b=true):a=b:=by
 cases a;simp_all [xO]
theorem Rx (a b:dg) (h:xO a b=false):(a.m==b.m)=false∨((a.m==b.m)=true/\(a.p==b.p)=false)∨((a.m==b.m)=true/\(a.p==b.p)=true/\(a.z==b.z)=false):=by
 grind [xO]
open Go.RowKit
theorem ab8 (F:Nat->dg) (k:Nat) (hk:k<256) (w:World):(Instr.index 332 (.agg (cH F)) (I k)).run Tryz.prog w=.ok (.agg #[.bool (F k).m,I (F k).p,.bool (F k).z]) w:=by
 simp[Instr.index,Jy Tryz.underlying332,go_sem]
 grind [RI]
theorem aef:(Tryz.prog.info? 139).map (fun i=>(i.zero,i.size,i.bytes))=some (some (.agg #[I 0,I 0,I 0,.bool false]),4,32):=by rfl
def gu (w:World) (v:Value) (l:List aX):Prop:=∃ao cap,v=.slice ao l.length cap/\(l=[]∨∃b off,ao=some (Ad b off)/\yF w b off l)
theorem Gx {w wx:World} {v:Value} {n:Nat} {xs:List Value} {C:Array Value} (hC:C.size=3) (hown:wx.ownsRow (w.heap.size+2) 139 4 v n xs) (hl:wx.heap[w.heap.size+1]?=some (.cells C 287 (0,0))) (hb:Below w.heap.size w wx) (x y z:Value) :
  (((wx.setCell (Ad (w.heap.size+1) 0) x).setCell (Ad (w.heap.size+1) 1) y).setCell (Ad (w.heap.size+1) 2) z).ownsRow (w.heap.size+2) 139 4 v n xs /\
  (((wx.setCell (Ad (w.heap.size+1) 0) x).setCell (Ad (w.heap.size+1) 1) y).setCell (Ad (w.heap.size+1) 2) z).heap[w.heap.size+1]?=some (.cells #[x,y,z] 287 (0,0)) /\
  Below w.heap.size w (((wx.setCell (Ad (w.heap.size+1) 0) x).setCell (Ad (w.heap.size+1) 1) y).setCell (Ad (w.heap.size+1) 2) z):=by
 refine⟨GM (GM (GM hown (by simp) _) (by simp) _) (by simp) _,?_,((hb.setCell (by simp) _).setCell (by simp) _).setCell (by simp) _⟩;rw[fF (fF (fF hl 0 x) 1 y) 2 z];congr 2
 match C,hC with
 | ⟨[a,b,c]⟩,_=>rfl
def dV (lo:Nat) (w:World) (v:Value) (l:List aX):Prop:=w.ownsRow lo 139 4 v l.length (cO l)
theorem dV.nil (lo:Nat) (w:World):dV lo w Nl []:=mC _ _ _ _
theorem dV.mono {lo lo':Nat} {w:World} {v:Value} {l:List aX} (h:dV lo w v l) (hl:lo'<=lo):dV lo' w v l:=by
 refine⟨h.1,?_⟩;rcases h.2 with h2 | ⟨g,cap,cur,hv,hbg,rest⟩
 · grind
 · exact .inr ⟨g,cap,cur,hv,gT hl hbg,rest⟩
theorem dV.has {lo:Nat} {w:World} {v:Value} {l:List aX} (h:dV lo w v l):gu w v l:=by
 rcases h.2 with⟨hv,h0⟩ | ⟨g,cap,cur,hv,hbg,hg,hnc,hcm,hcs,htake⟩
 · exact⟨none,0,by grind,.inl (kT h0)⟩
 · have ho:=h;unfold dV at ho;rw[hv] at ho;refine⟨some (Ad g 0),cap,hv,.inr ⟨g,0,rfl,fun i hi=>?_⟩⟩;rw[lO];exact⟨(ho.cellAt _ (by omega)).trans (mL _ i 0 hi (by omega)),(ho.cellAt _ (by omega)).trans (mL _ i 1 hi (by omega)),(ho.cellAt _ (by omega)).trans (mL _ i 2 hi (by omega)),(ho.cellAt _ (by omega)).trans (mL _ i 3 hi (by omega))⟩
theorem Cn (F:Nat->dg) (w:World) :
  Calls Tryz.prog 211 #[.agg (cH F)] w fun e w'=>∃v,e=.returned v/\dV w.heap.size w' v (kq F)/\Below w.heap.size w w':=by
 have NY:=ab8 F;obtain⟨C,hC⟩:=ex (cH F);have hCs:C.size=768:=by grind [fU]
 rw[<- hC] at NY ⊢;clear hC;obtain⟨i0,hi,hz0,hz1,hz2⟩:=jm aef;have HX:Hid (((w.alloc (.cells C 332)).alloc (.cells #[.bool false,I 0,.bool false] 287)).heap[w.heap.size]?=some (.cells C 332 (0,0))):=bl (bD w C 332) _;have HL:Hid (((w.alloc (.cells C 332)).alloc (.cells #[.bool false,I 0,.bool false] 287)).heap[w.heap.size+1]?=some (.cells #[.bool false,I 0,.bool false] 287 (0,0))):=by
  grind [World.alloc]
 have gG:Hid (Below w.heap.size w ((w.alloc (.cells C 332)).alloc (.cells #[.bool false,I 0,.bool false] 287))):=((aJ _ _).alloc (aH _) _).alloc (by simp) _;go_enter Tryz.func211,Tryz.ntmps211;go_wp2_with (first | (refine C7 rfl 332 _ rfl w.heap.size rfl 332 _ (0,0) _ HX.o Tryz.underlying332 rfl (by grind [oo]) ?_))
 go_loopw [3,8] (fun v i wr=>∃k:Nat,k<=256/\i=I k/\wr.ownsRow (w.heap.size+2) 139 4 v (cT F k).length (cO (cT F k))/\wr.heap[w.heap.size+1]?=some (.cells #[.bool (iy F k).m,I (iy F k).p,.bool (iy F k).z] 287 (0,0))/\Below w.heap.size w wr) (fun _ i _=>256-(intOf i).toNat)
 case atStart=>exact⟨0,by omega,rfl,mC _ _ _ _,HL.o,gG.o⟩
 case round =>
  obtain⟨k,hk,rfl,hown,hl,hb⟩:=hrel;have HO:Hid (wr.ownsRow (w.heap.size+2) 139 4 u3 (cT F k).length (cO (cT F k))):=hown;have HLr:Hid (wr.heap[w.heap.size+1]?=some (.cells #[.bool (iy F k).m,I (iy F k).p,.bool (iy F k).z] 287 (0,0))):=hl;have HB:Hid (Below w.heap.size w wr):=hb;have hsz:w.heap.size+1<wr.heap.size:=aI hl;have l0:=aq hl 0 rfl;have l1:=aq hl 1 rfl;have l2:=aq hl 2 rfl;have lf:=aQ hl;clear hown hl hb;by_cases hlt:k<256
  · have hx:=fun W=>NY k hlt W
    have JL:(k:Int)<256:=by omega
    obtain⟨s,hs⟩:=ex (F k);obtain⟨t,ht⟩:=ex (iy F k);rw[<- hs] at hx;rw[<- ht] at l0 l1 l2;have HS:Hid (s=F k):=hs;have HT:Hid (t=iy F k):=ht;clear hs ht NY;by_cases hm:s.m=true
    · by_cases he:xO s t=true
      · have hst:s=t:=Ry s t he;have HG:Hid (cT F (k+1)=Bq (cT F k)):=by show _=_;simp only[cT];rw[<- HS.o,<- HT.o,hm,he];rfl
        have hpos:=GC F k (by rw[<- HT.o,<- hst];exact hm);have hlen:=Cq F k;obtain⟨G,hG⟩:=ex (cT F k);have Pd:=EJ F k ((cT F k).length-1) (by omega);rw[<- hG] at HO HG hpos hlen Pd;clear hG;rcases HO.o.2 with⟨_,h0⟩ | ⟨g,cap,cur,hv,hbg,hg,hnc,hcm,hcs,htake⟩
        · omega
        · have Hj:=HO.o;rw[hv] at Hj;have p1:wr.cell? ⟨g,(G.length-1)*4+1,none⟩=some (I (bB G (G.length-1)).aO):=by
           rw[Hj.cellAt _ (by omega),mL G _ 1 (by omega) (by omega)];rfl
          have pf:=Hj.frozenAt;have HOv:Hid (wr.ownsRow (w.heap.size+2) 139 4 (.slice (some (Ad g 0)) G.length cap) G.length (cO G)):=Hj;have hgl:g<wr.heap.size:=aI hg;rw[hv];clear HO Hj hv hg htake hcs he;obtain⟨pp,GR⟩:=ex ((bB G (G.length-1)).aO);rw[<- GR] at p1 Pd;have HP:Hid (pp=(bB G (G.length-1)).aO):=GR;clear GR;subst hst;have hG2:(G.length:Int)<=256:=by omega
          go_wp2;go_roundw
          case rel =>
           have ho:=(HOv.o.stored ((G.length-1)*4+1) (I (pp+1))).1;have e:(cO G).set ((G.length-1)*4+1) (I (pp+1))=cO (Bq G):=by
            rw[HP.o];exact(CZ G (G.length-1) _ (by omega)).symm
           rw[e] at ho;have h:=Gx rfl ho (mh HLr.o _ _ _ (by omega)) (HB.o.setCell (by simp;omega) _) (.bool true) (I s.p) (.bool s.z);refine⟨k+1,by omega,by go_num,?_,?_,h.2.2.alloc h.2.2.size _⟩
           · rw[HG.o,wA];exact h.1.alloc _
           · show _=some (Obj.cells #[.bool (F k).m,I (F k).p,.bool (F k).z] 287 (0,0));rw[<- HS.o,hm];exact bl h.2.1 _
          case measure=>simp[intOf];omega
      · have he':xO s t=false:=by simpa using he
        have HG:Hid (cT F (k+1)=cT F k++[⟨(k:Int),1,s.p,s.z⟩]):=by show _=_;simp only[cT];rw[<- HS.o,<- HT.o,hm,he'];rfl
        have hlen:=Cq F k;obtain⟨G,hG⟩:=ex (cT F k);rw[<- hG] at HO HG hlen;clear hG he;have hrow:Hid (∀j,u3.ownBlock=some j->w.heap.size+2<=j/\j<wr.heap.size):=HO.o.lt;have ai1:=Rx s t he';obtain⟨sm,sp,sz⟩:=s;obtain⟨tm,tp,tz⟩:=t;simp only at hm ai1 l0 l1 l2 HG;subst hm;have HN:Hid (((wr.alloc (.cells #[.bool true,I sp,.bool sz] 287)).alloc (.cells #[I (k:Int),I 1,I sp,.bool sz] 139)).heap[wr.heap.size+1]?=some (.cells #[I (k:Int),I 1,I sp,.bool sz] 139 (0,0))):=by
         have:=bD (wr.alloc (.cells #[.bool true,I sp,.bool sz] 287)) #[I (k:Int),I 1,I sp,.bool sz] 139;show _=_;simpa using this
        have ale:tm=false∨(tm=true/\(sp==tp)=false)∨(tm=true/\sp=tp/\tz=!sz):=by
         cases tm
         · exact .inl rfl
         · rcases ai1 with q | ⟨_,q⟩ | ⟨_,q1,q2⟩
           · cases q
           · exact .inr (.inl ⟨rfl,q⟩)
           · refine .inr (.inr ⟨rfl,by simpa using q1,?_⟩);cases sz <;> cases tz <;> first | rfl | cases q2
        clear he' ai1;rcases ale with rfl | ⟨rfl,q⟩ | ⟨rfl,rfl,rfl⟩
        all_goals
         go_wp2_with (at_builtin;refine OU _ rfl _ _ 22 rfl (w.heap.size+2) 139 i0 (.agg #[I 0,I 0,I 0,.bool false]) 4 32 Tryz.underlying22 hi hz0 hz1 hz2 rfl (by decide) _ _ _ rfl ((HO.o.alloc _).alloc _) (Ad (wr.heap.size+1) 0) 1 1 [I (k:Int),I 1,I sp,.bool sz] rfl rfl (Gv HN.o) (xt [⟨(k:Int),1,sp,sz⟩]) (by decide) (by unfold maxLen;omega) (by omega) (by simp;omega) (wr.heap.size+2) (by simp) ?_)
         intro g cap w1 hown1 hgrow hat auA;have bS:=Hf (bl (bD wr #[.bool true,I sp,.bool sz] 287) (.cells #[I (k:Int),I 1,I sp,.bool sz] 139)) hgrow (fun e=>by have:=hrow.out _ e.symm;omega);have bL:=Hf (bl (bl HLr.o (.cells #[.bool true,I sp,.bool sz] 287)) (.cells #[I (k:Int),I 1,I sp,.bool sz] 139)) hgrow (fun e=>by have:=hrow.out _ e.symm;omega);have b0:=aq bS 0 rfl;have b1:=aq bS 1 rfl;have b2:=aq bS 2 rfl;have m0:=aq bL 0 rfl;have m1:=aq bL 1 rfl;have m2:=aq bL 2 rfl;have mf:=aQ bL;have HO1:Hid (w1.ownsRow (w.heap.size+2) 139 4 (Value.slice (some (Ad g 0)) (G.length+1) cap) (G.length+1) (cO G++[I (k:Int),I 1,I sp,.bool sz])):=hown1;have ZB:Hid (w1.heap[w.heap.size+1]?=some (.cells #[.bool (iy F k).m,I (iy F k).p,.bool (iy F k).z] 287 (0,0))):=bL;have cM:Hid (Below w.heap.size w w1):=((HB.o.alloc HB.o.size _).alloc (by simp;omega) _).grown hgrow (by simp;omega) (fun k' e=>by have:=hrow.out _ e;omega);clear bS bL hown1 hgrow hat l0 l1 l2 lf;go_wp2;go_roundw
         case rel =>
          have h:=Gx rfl HO1.o ZB.o cM.o (.bool true) (I sp) (.bool sz);refine⟨k+1,by omega,by go_num,?_,?_,h.2.2⟩
          · rw[HG.o,fD,yJ];exact h.1
          · show _=some (Obj.cells #[.bool (F k).m,I (F k).p,.bool (F k).z] 287 (0,0));rw[<- HS.o];exact h.2.1
         case measure=>simp[intOf];omega
    · have hm':s.m=false:=by simpa using hm
      have HG:Hid (cT F (k+1)=cT F k):=by show _=_;simp only[cT];rw[<- HS.o,hm'];rfl
      clear hm;go_wp2;go_roundw
      case rel =>
       have h:=Gx rfl HO.o HLr.o HB.o (.bool false) (I s.p) (.bool s.z);refine⟨k+1,by omega,by go_num,?_,?_,h.2.2.alloc h.2.2.size _⟩
       · rw[HG.o];exact h.1.alloc _
       · show _=some (Obj.cells #[.bool (F k).m,I (F k).p,.bool (F k).z] 287 (0,0));rw[<- HS.o,hm'];exact bl h.2.1 _
      case measure=>simp[intOf];omega
  · obtain rfl:k=256:=by omega
    go_wp2;go_ret;refine⟨_,rfl,?_,HB.o⟩;exact dV.mono (lo:=w.heap.size+2) HO.o (by omega)
end Go.Proofs.YtlgoihmkgaaemaaGreat
