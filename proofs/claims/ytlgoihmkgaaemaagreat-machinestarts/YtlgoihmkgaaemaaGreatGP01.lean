import Derived.Test.YtlgoihmkgaaemaaGreatGP00
import Derived.Deep.WholeRow
import Derived.Laws.CopyOwn
set_option maxHeartbeats 20000000
set_option linter.unusedVariables false
set_option maxRecDepth 100000
set_option linter.unusedSimpArgs false
namespace Go.Proofs.YtlgoihmkgaaemaaGreat
open Go.RowKit Tryz
theorem lT {k:IntKind} {a b:Int} (h:a=b):Ending.returned (.int k a)=.returned (.int k b):=by rw[h]
variable {b:Nat} {w:World} {o:Obj} {C:Array Value} {t:TypeId} {v a0 a1 a2:Value} (l:List aU) (ao:Option Addr) (cap:Nat) (G:List aU)
theorem uL (b off cap:Nat) (w:World) (hl:ru w b off l) (hf:∀i,i<l.length->Ag (bw l i)) (hn:l.length<=140737488351232) :
  Calls prog 117 #[.slice (some (Ad b off)) l.length cap] w λe w'=>e=.returned (I (bf l))/\Below w.heap.size w w':=by
 by_cases hm:255<l.length
 . have e:bf l=2:=by grind [bf]
   rw[e];have O:(255:Int)<(l.length:Int):=by omega
   go_enter func117,ntmps117;go_wp2;go_ret;exact⟨rfl,aN _ _⟩
 have O:¬(255:Int)<(l.length:Int):=by omega
 have e:bf l=if nE l then 0 else 1:=by grind [bf]
 have E:Hid (bf l=if nE l then 0 else 1):=e;clear e;go_enter func117,ntmps117;go_wp2;go_loopw [10] (λi wr=>∃k:Nat,k<=l.length/\i=I k/\jS l k=true/\Below w.heap.size w wr) (λi _=>l.length-(intOf i).toNat)
 case atStart=>exact⟨0,ω,rfl,rfl,aN _ _⟩
 case round =>
  obtain⟨k,hk,rfl,hg,hb⟩:=hrel;have HG:Hid (jS l k=true):=hg;clear hg;by_cases hlt:k<l.length
  . obtain⟨c0,c1,c2,c3⟩:=(hl.below hb) k hlt;obtain⟨f1,f2,f3⟩:=hf k hlt;obtain⟨a,ha⟩:=ex (bw l k);rw[<- ha] at c0 c1 c2 c3 f1 f2 f3;have HA:Hid (a=bw l k):=ha;clear ha;by_cases hp:fF a.page a.aY=true
    . by_cases hq:jg a.gh=true
      . obtain⟨W,hW⟩:=ex (wr.alloc (.cells #[I a.page,I a.aY,I a.gh,.bool a.zero] 139));have hs:W.heap.size=wr.heap.size+1:=by rw[hW];simp
        have r:Hid (Below w.heap.size w W):=by show Below _ _ _;rw[hW];exact hb.alloc hb.size _
        by_cases hk0:k=0
        . have B:Hid (nD l k=true):=by show _=true;unfold nD;rw[<- HA.o,hp,hq,hk0];rfl
          have z2:decide (0<k)=false:=by simp;omega
          clear hk0;go_wp2_with (first | (go_at_call 174;refine(fU _ _ _ f1 f2).mono ?_;rintro e w' ⟨rfl,rfl⟩) | (go_at_call 175;refine(jC _ _).mono ?_;rintro e w' ⟨rfl,rfl⟩))
          go_quiet (fail)
          go_wp2;go_roundw
          case rel=>exact⟨k+1,ω,by go_num,S9 l k HG.o B.out,lJ (hb.alloc hb.size _) _⟩
          case measure=>simp[intOf];omega
        have yL:=iH W;have h:=@fG W;have J:=hl.below r.out;have A:=J.lt k hlt;obtain⟨g0,g1,g2,g3⟩:=J (k-1) ω;obtain⟨L,N,Q⟩:=hf (k-1) ω;obtain⟨p,F⟩:=ex (bw l (k-1));rw[<- F] at g0 g1 g2 g3 L N Q;have ZO:=E4 l k HG.o (k-1) ω;have K:fF p.page p.aY=true:=by
         unfold nD at ZO;rw[<- F] at ZO;simp only[cV] at ZO;exact ZO.1.1
        have Y:1<=p.page/\1<=p.aY/\p.aY<=256-p.page:=by simpa [fF] using K
        have B:Hid (nD l k=jH p a):=by show _=_;unfold nD;rw[<- HA.o,<- F,hp,hq];simp[hk0]
        have k0:∀x:cM W.heap.size W,x.world.cell? ⟨b,off+(k-1)*4,none⟩=some (I p.page):=λx=>by rw[h x _ _ A,g0]
        have k1:∀x:cM W.heap.size W,x.world.cell? ⟨b,off+(k-1)*4+1,none⟩=some (I p.aY):=λx=>by rw[h x _ _ A,g1]
        have k2:∀x:cM W.heap.size W,x.world.cell? ⟨b,off+(k-1)*4+2,none⟩=some (I p.gh):=λx=>by rw[h x _ _ A,g2]
        have k3:∀x:cM W.heap.size W,x.world.cell? ⟨b,off+(k-1)*4+3,none⟩=some (.bool p.zero):=λx=>by rw[h x _ _ A,g3]
        have e0:∀x:cM W.heap.size W,x.world.cell? (Ad wr.heap.size 0)=some (I a.page):=λx=>by rw[h x _ _ ω,hW];simp
        have e1:∀x:cM W.heap.size W,x.world.cell? (Ad wr.heap.size 1)=some (I a.aY):=λx=>by rw[h x _ _ ω,hW];simp
        have e2:∀x:cM W.heap.size W,x.world.cell? (Ad wr.heap.size 2)=some (I a.gh):=λx=>by rw[h x _ _ ω,hW];simp
        have e3:∀x:cM W.heap.size W,x.world.cell? (Ad wr.heap.size 3)=some (.bool a.zero):=λx=>by rw[h x _ _ ω,hW];simp
        have HW:Hid (W=wr.alloc (.cells #[I a.page,I a.aY,I a.gh,.bool a.zero] 139)):=hW;have X:(1:Int)<=(k:Int):=by omega
        have U:0<k:=by omega
        clear hW hs h J A g0 g1 g2 g3 F ZO K hl;by_cases hfo:jH p a=true
        . go_wp2_with (first | (go_at_call 174;refine(fU _ _ _ f1 f2).mono ?_;rintro e w' ⟨rfl,rfl⟩) | (go_at_call 175;refine(jC _ _).mono ?_;rintro e w' ⟨rfl,rfl⟩))
          rw[<- HW.o];refine cB κ κ ?_
          repeat (first | go_big_quiet_step ((go_at_call 176;exact ig (λW=>uq p a W ω ω) _)) | quiet_step ((go_at_call 176;exact ig (λW=>uq p a W ω ω) _)))
          refine fL ?_;intro _ G;obtain⟨x,q⟩:=G;subst q;go_wp2;go_roundw
          case rel=>exact⟨k+1,ω,by go_num,S9 l k HG.o (B.out.trans hfo),r.out.trans (x.keeps.mono r.out.size)⟩
          case measure=>simp[intOf];omega
        have T:jH p a=false:=by simpa using hfo
        clear hfo;go_wp2_with (first | (go_at_call 174;refine(fU _ _ _ f1 f2).mono ?_;rintro e w' ⟨rfl,rfl⟩) | (go_at_call 175;refine(jC _ _).mono ?_;rintro e w' ⟨rfl,rfl⟩));rw[<- HW.o];refine cB κ κ ?_
        repeat (first | go_big_quiet_step ((go_at_call 176;exact ig (λW=>uq p a W ω ω) _)) | quiet_step ((go_at_call 176;exact ig (λW=>uq p a W ω ω) _)))
        refine fL ?_;intro _ G;obtain⟨x,q⟩:=G;subst q;go_wp2;go_ret;exact⟨lT (by rw[E.o,NN l k hlt (B.out.trans T)];rfl),r.out.trans (x.keeps.mono r.out.size)⟩
      have M:jg a.gh=false:=by simpa using hq
      clear hq;have y:Hid (nD l k=false):=by show _=false;unfold nD;rw[<- HA.o,hp,M];rfl
      go_wp2_with (first | (go_at_call 174;refine(fU _ _ _ f1 f2).mono ?_;rintro e w' ⟨rfl,rfl⟩) | (go_at_call 175;refine(jC _ _).mono ?_;rintro e w' ⟨rfl,rfl⟩))
      go_ret;exact⟨lT (by rw[E.o,NN l k hlt y.out];rfl),hb.alloc hb.size _⟩
    have R:fF a.page a.aY=false:=by simpa using hp
    clear hp;have y:Hid (nD l k=false):=by show _=false;unfold nD;rw[<- HA.o,R];rfl
    go_wp2_with (first | (go_at_call 174;refine(fU _ _ _ f1 f2).mono ?_;rintro e w' ⟨rfl,rfl⟩))
    go_ret;exact⟨lT (by rw[E.o,NN l k hlt y.out];rfl),hb.alloc hb.size _⟩
  obtain rfl:k=l.length:=by omega
  go_wp2;go_ret;exact⟨lT (by rw[E.o,show nE l=true from HG.o];rfl),hb⟩
theorem E1 (w:World) :
  Calls prog 117 #[.slice ao 0 cap] w λe w'=>e=.returned (I (bf []))/\Below w.heap.size w w':=by
 have e:bf []=0:=by decide
 rw[e];go_enter func117,ntmps117;go_wp2;refine zE 1 ?_;rw[zz];go_wp2;go_ret;exact⟨rfl,aN _ _⟩
theorem UZ (b off cap:Nat) (w:World) (hl:ru w b off l) (hf:∀i,i<l.length->Ag (bw l i)) (hn:l.length<=140737488351232) :
  Calls prog 70 #[.slice (some (Ad b off)) l.length cap] w λe w'=>e=.returned (I (bR l))/\Below w.heap.size w w':=by
 by_cases hc:bf l=0
 . have y:=mK l hc;have HC:Hid (bR l=iy l l.length):=by show _=_;grind [bR]
   have HK:Hid (bf l=0):=hc;go_enter func70,ntmps70;go_wp2_with fail;refine(uL l b off cap _ hl hf hn).mono ?_;rintro e w1 ⟨rfl,h⟩;rw[hc];clear hc;go_wp2;go_loopw [3,11] (λs i wr=>∃k:Nat,k<=l.length/\i=I k/\s=I (iy l k)/\Below w.heap.size w wr) (λ_ i _=>l.length-(intOf i).toNat)
   case atStart=>exact⟨0,ω,rfl,rfl,h⟩
   case round =>
    obtain⟨k,hk,rfl,rfl,hb⟩:=hrel;have QN:=CG l HK.o k hk;by_cases hlt:k<l.length
    . obtain⟨c0,c1,c2,c3⟩:=(hl.below hb) k hlt;have q:Hid (iy l (k+1)=iy l k+(bw l k).aY):=rfl;have r:=gB l k (gp l HK.o k hlt);generalize bw l k=a at c0 c1 c2 c3 q r;go_wp2;go_roundw
      case rel=>exact⟨k+1,ω,by go_num,by rw[q.out],hb.alloc hb.size _⟩
      case measure=>simp[intOf];omega
    obtain rfl:k=l.length:=by omega
    go_wp2;go_ret;exact⟨lT HC.o.symm,hb⟩
 have HC:Hid (bR l=0):=by show _=_;grind [bR]
 have A:(bf l != 0)=true:=by grind
 go_enter func70,ntmps70;go_wp2_with fail;refine(uL l b off cap _ hl hf hn).mono ?_;rintro e w1 ⟨rfl,h⟩;go_wp2;go_ret;exact⟨lT HC.o.symm,h⟩
theorem Zl (w:World) :
  Calls prog 70 #[.slice ao 0 cap] w λe w'=>e=.returned (I (bR []))/\Below w.heap.size w w':=by
 have e:bR []=0:=by decide
 have e2:bf []=0:=by decide
 rw[e];go_enter func70,ntmps70;go_wp2_with fail;refine(E1 ao cap _).mono ?_;rintro e w1 ⟨rfl,b⟩;rw[e2];go_wp2;refine zE 1 ?_;rw[zz];go_wp2;go_ret
 simp_all
theorem aO {w':World} {N:Nat} (h:w.heap[b]?=some o) (hb:Below N w w') (hlt:b<N):w'.heap[b]?=some o:=(hb.block b hlt).trans h
theorem aM (h:w.heap[b]?=some o):b<w.heap.size:=(Array.getElem?_eq_some_iff.1 h).1
theorem bB (h:w.heap[b]?=some o) (o':Obj):(w.alloc o').heap[b]?=some o:=(Below.heap_alloc w o' b (aM h)).trans h
theorem aA {fr:Nat×Nat} (h:w.heap[b]?=some (.cells C t fr)) (j:Nat) (hj:C[j]?=some v):w.cell? (Ad b j)=some v:=(Wd w b j C t fr h).trans hj
theorem br (h:w.heap[b]?=some (.cells C t (0,0))) (j:Nat):w.frozen? (Ad b j)=false:=frozen_of_row w b j C t h
theorem jy (h:w.heap[b]?=some o) (g j:Nat) (v:Value) (hne:b≠g):(w.setCell (Ad g j) v).heap[b]?=some o:=(heap_setCell_other w (Ad g j) b v hne).trans h
theorem dm (h:w.heap[b]?=some (.cells C t (0,0))) (j:Nat) (v:Value):(w.setCell (Ad b j) v).heap[b]?=some (.cells (C.setIfInBounds j v) t (0,0)):=heap_setCell_same w b j C t v h
theorem bG (w:World) (C:Array Value) (t:TypeId):(w.alloc (.cells C t)).heap[w.heap.size]?=some (.cells C t (0,0)):=P6 w _
theorem EW {fr:Nat×Nat} (h:w.heap[b]?=some (.cells C t fr)):∀j u,C.toList[j]?=some u->w.cell? (((Ad b 0):Addr).add j)=some u:=λj u hj=>by
 grind [Addr.add_lit,aA]
theorem EY {w':World} {row:Option Nat} (h:w.heap[b]?=some o) (hg:w.grownBy w' row) (hne:some b≠row):w'.heap[b]?=some o:=(hg.block b (aM h) hne).trans h
theorem s8 (h:w.heap[b]?=some (.cells #[a0,a1] t (0,0))):w.cell? (Ad b 0)=some a0/\w.cell? (Ad b 1)=some a1:=⟨aA h 0 rfl,aA h 1 rfl⟩
theorem uo (h:w.heap[b]?=some (.cells #[a0,a1,a2] t (0,0))):w.cell? (Ad b 0)=some a0/\w.cell? (Ad b 1)=some a1/\w.cell? (Ad b 2)=some a2:=⟨aA h 0 rfl,aA h 1 rfl,aA h 2 rfl⟩
theorem agV {a3:Value} (h:w.heap[b]?=some (.cells #[a0,a1,a2,a3] t (0,0))):w.cell? (Ad b 0)=some a0/\w.cell? (Ad b 1)=some a1/\w.cell? (Ad b 2)=some a2/\w.cell? (Ad b 3)=some a3:=⟨aA h 0 rfl,aA h 1 rfl,aA h 2 rfl,aA h 3 rfl⟩
theorem kj {a3 a4:Value} (h:w.heap[b]?=some (.cells #[a0,a1,a2,a3,a4] t (0,0))):w.cell? (Ad b 0)=some a0/\w.cell? (Ad b 1)=some a1/\w.cell? (Ad b 2)=some a2/\w.cell? (Ad b 3)=some a3/\w.cell? (Ad b 4)=some a4:=⟨aA h 0 rfl,aA h 1 rfl,aA h 2 rfl,aA h 3 rfl,aA h 4 rfl⟩
def ou (a:aU):Array Value:=#[I a.page,I a.aY,I a.gh,.bool a.zero]
theorem Zp (b off cap:Nat) (p:Int) (w:World) (hl:ru w b off l) (hf:∀i,i<l.length->Ag (bw l i)) (hn:l.length<=140737488351232) :
  Calls prog 77 #[.slice (some (Ad b off)) l.length cap,I p] w λe w'=>e=.returned (.tuple #[.agg (ou (bc l p).1),.bool (bc l p).2])/\Below w.heap.size w w':=by
 have y:Below w.heap.size w (w.alloc (.cells #[I 0,I 0,I 0,.bool false] 139)):=(aN _ _).alloc (aJ _) _;by_cases hc:bf l=0
 . have J:=mK l hc;have HC:Hid (bc l p=bE l p):=by show _=_;grind [bc]
   have HK:Hid (bf l=0):=hc;go_enter func77,ntmps77;go_wp2_with fail;refine(uL l b off cap _ (hl.below y) hf hn).mono ?_;rintro e w1 ⟨rfl,r⟩;rw[hc];clear hc;go_wp2;go_loopw [14] (λi wr=>∃k:Nat,k<=l.length/\i=I k/\(∀j,j<k->gW (bw l j) p=false)/\Below (w.heap.size+1) (w.alloc (.cells #[I 0,I 0,I 0,.bool false] 139)) wr) (λi _=>l.length-(intOf i).toNat)
   case atStart=>exact⟨0,ω,rfl,λj hj=>ω,r.mono ξ⟩
   case round =>
    obtain⟨k,hk,rfl,B,hb⟩:=hrel;have HN:Hid (∀j,j<k->gW (bw l j) p=false):=B;have ov:Hid (Below w.heap.size w wr):=y.trans (hb.mono (iO _));have L:w.heap.size+1<=wr.heap.size:=by have:=hb.size;simpa using this
    have G:=hl.below ov.out;have hR:wr.heap[w.heap.size]?=some (.cells #[I 0,I 0,I 0,.bool false] 139 (0,0)):=aO (bG w _ _) hb (Kp _);have HR:Hid (wr.heap[w.heap.size]?=some (.cells #[I 0,I 0,I 0,.bool false] 139 (0,0))):=hR;have HB:Hid (Below (w.heap.size+1) (w.alloc (.cells #[I 0,I 0,I 0,.bool false] 139)) wr):=hb;clear hR hb;clear B r;by_cases hlt:k<l.length
    . obtain⟨c0,c1,c2,c3⟩:=G k hlt;have F:=gB l k (gp l HK.o k hlt);obtain⟨a,ha⟩:=ex (bw l k);rw[<- ha] at c0 c1 c2 c3 F;have HA:Hid (a=bw l k):=ha;clear ha;by_cases h1:a.page<=p
      . by_cases h2:p<a.page+a.aY
        . have q:Hid (bc l p=(a,true)):=by
           show _=_;rw[HC.o,rp l p k hlt HN.o (by rw[<- HA.o];simp[gW,aU.pL,h1,h2]),<- HA.o]
          go_wp2_with fail
          refine(qD _ _ _ _ _ ω ω).mono ?_;rintro e w2 ⟨rfl,h⟩;have Zx:=aO (bG wr #[I a.page,I a.aY,I a.gh,.bool a.zero] 139) h ξ;have Zw:=aO (bB HR.o _) h (by simp;omega);have s0:=aA Zx 0 rfl;have s1:=aA Zx 1 rfl;have s2:=aA Zx 2 rfl;have s3:=aA Zx 3 rfl;have t0:=aA Zw 0 rfl;have t1:=aA Zw 1 rfl;have t2:=aA Zw 2 rfl;have t3:=aA Zw 3 rfl;have u0:=br Zw;have A:Hid (Below w.heap.size w w2):=(ov.out.alloc ov.out.size _).trans (h.mono (by simp;omega));clear h Zx Zw;go_wp2;exact bW (v:=.tuple #[.agg #[I a.page,I a.aY,I a.gh,.bool a.zero],.bool true]) (by simp[results,results77,go_sem,t0,t1,t2,t3]) rfl ⟨by rw[q.out];rfl,(((A.out.setCell (aJ _) _).setCell (aJ _) _).setCell (aJ _) _).setCell (aJ _) _⟩
        have E6:Hid (gW (bw l k) p=false):=by show _=_;rw[<- HA.o];unfold gW aU.pL;grind
        go_wp2_with fail
        refine(qD _ _ _ _ _ ω ω).mono ?_;rintro e w2 ⟨rfl,h⟩;have A:Hid (Below (w.heap.size+1) (w.alloc (.cells #[I 0,I 0,I 0,.bool false] 139)) w2):=(HB.o.alloc ω _).trans (h.mono (by simp;omega));clear h;go_wp2;go_roundw
        case rel=>exact⟨k+1,ω,by go_num,λj hj=>if e:j=k then by rw[e];exact E6.out else HN.o j ω,A.out⟩
        case measure=>simp[intOf];omega
      have E6:Hid (gW (bw l k) p=false):=by show _=_;rw[<- HA.o];unfold gW aU.pL;grind
      go_wp2;go_roundw
      case rel=>exact⟨k+1,ω,by go_num,λj hj=>if e:j=k then by rw[e];exact E6.out else HN.o j ω,HB.o.alloc ω _⟩
      case measure=>simp[intOf];omega
    obtain rfl:k=l.length:=by omega
    have q:Hid (bc l p=(vB,false)):=by show _=_;rw[HC.o,rh l p HN.o]
    have t0:=aA HR.o 0 rfl;have t1:=aA HR.o 1 rfl;have t2:=aA HR.o 2 rfl;have t3:=aA HR.o 3 rfl;have u0:=br HR.o;go_wp2;exact bW (v:=.tuple #[.agg #[I 0,I 0,I 0,.bool false],.bool false]) (by simp[results,results77,go_sem,t0,t1,t2,t3]) rfl ⟨by rw[q.out];rfl,(((ov.out.setCell (aJ _) _).setCell (aJ _) _).setCell (aJ _) _).setCell (aJ _) _⟩
 have HC:Hid (bc l p=(vB,false)):=by show _=_;grind [bc]
 have K:(bf l != 0)=true:=by grind
 go_enter func77,ntmps77;go_wp2_with fail;refine(uL l b off cap _ (hl.below y) hf hn).mono ?_;rintro e w1 ⟨rfl,r⟩;have Kb:=aO (bG w #[I 0,I 0,I 0,.bool false] 139) r ξ;have t0:=aA Kb 0 rfl;have t1:=aA Kb 1 rfl;have t2:=aA Kb 2 rfl;have t3:=aA Kb 3 rfl;have u0:=br Kb;clear Kb;go_wp2;exact bW (v:=.tuple #[.agg #[I 0,I 0,I 0,.bool false],.bool false]) (by simp[results,results77,go_sem,t0,t1,t2,t3]) rfl ⟨by rw[HC.o];rfl,((((y.trans (r.mono ξ)).setCell (aJ _) _).setCell (aJ _) _).setCell (aJ _) _).setCell (aJ _) _⟩
theorem ab7 (p:Int) (w:World) :
  Calls prog 77 #[.slice ao 0 cap,I p] w λe w'=>e=.returned (.tuple #[.agg (ou (bc [] p).1),.bool (bc [] p).2])/\Below w.heap.size w w':=by
 have h:Below w.heap.size w (w.alloc (.cells #[I 0,I 0,I 0,.bool false] 139)):=(aN _ _).alloc (aJ _) _;have e2:bf []=0:=by decide
 go_enter func77,ntmps77;go_wp2_with fail;refine(E1 ao cap _).mono ?_;rintro e w1 ⟨rfl,b⟩;rw[e2];have Kb:=aO (bG w #[I 0,I 0,I 0,.bool false] 139) b ξ;have t0:=aA Kb 0 rfl;have t1:=aA Kb 1 rfl;have t2:=aA Kb 2 rfl;have t3:=aA Kb 3 rfl;have u0:=br Kb;clear Kb;go_wp2;refine zE 1 ?_;rw[zz];go_wp2;exact bW (v:=.tuple #[.agg #[I 0,I 0,I 0,.bool false],.bool false]) (by simp[results,results77,go_sem,t0,t1,t2,t3]) rfl ⟨rfl,((((h.trans (b.mono ξ)).setCell (aJ _) _).setCell (aJ _) _).setCell (aJ _) _).setCell (aJ _) _⟩
structure dg where
 m:Bool
 p:Int
 z:Bool
variable (F:Nat->dg)
def iE:dg:=⟨false,0,false⟩
def DT (s:dg):List Value:=[.bool s.m,I s.p,.bool s.z]
def rV (F:Nat->dg):Nat->List Value
 | 0=>[]
 | m+1=>rV F m++DT (F m)
def cT (F:Nat->dg):Array Value:=(rV F 256).toArray
def Dc (F:Nat->dg) (n:Nat) (s:dg):Nat->dg:=λk=>if k=n then s else F k
theorem km (F:Nat->dg):∀m,(rV F m).length=m*3
 | 0=>rfl
 | m+1=>by simp[rV,km F m,DT];omega
theorem gy:(cT F).size=768:=by simp[cT,km]
theorem OW (F:Nat->dg) (n j:Nat) (hj:j<3):∀m,n<m->(rV F m)[n*3+j]?=(DT (F n))[j]?
 | 0,h=>by omega
 | m+1,h=>by
  simp only[rV];by_cases e:n=m
  . grind [km]
  rw[Kz (by grind [km])];exact OW F n j hj m ω
theorem De (n j:Nat) (hn:n<256) (hj:j<3):(cT F)[n*3+j]?=(DT (F n))[j]?:=by
 grind [cT,OW]
theorem nT (n:Nat) (hn:n<256):(cT F)[n*3]?=some (.bool (F n).m):=De F n 0 hn ω
theorem nR (n:Nat) (hn:n<256):(cT F)[n*3+1]?=some (I (F n).p):=De F n 1 hn ω
theorem nQ (n:Nat) (hn:n<256):(cT F)[n*3+2]?=some (.bool (F n).z):=De F n 2 hn ω
theorem Jn (F G:Nat->dg):∀m,(∀k,k<m->F k=G k)->rV F m=rV G m
 | 0,_=>rfl
 | m+1,h=>by simp only[rV];rw[Jn F G m (λk hk=>h k ω),h m ω]
theorem OU (F:Nat->dg) (n:Nat) (s:dg):∀m,n<m->(((rV F m).set (n*3) (.bool s.m)).set (n*3+1) (I s.p)).set (n*3+2) (.bool s.z)=rV (Dc F n s) m
 | 0,h=>by omega
 | m+1,h=>by
  simp only[rV];by_cases e:n=m
  . subst e;rw[zJ _ _ (by grind [km]),zJ _ _ (by grind [km]),zJ _ _ (by grind [km]),km,
     show n*3-n*3=0 from by omega,show n*3+1-n*3=1 from by omega,show n*3+2-n*3=2 from by omega]
    grind [Jn,Dc,DT]
  rw[Hk _ _ (by grind [km]),Hk _ _ (by grind [km]),Hk _ _ (by grind [km]),OU F n s m ω]
  grind [Dc]
theorem yJ (n:Nat) (s:dg) (hn:n<256) :
  (((cT F).setIfInBounds (n*3) (.bool s.m)).setIfInBounds (n*3+1) (I s.p)).setIfInBounds (n*3+2) (.bool s.z)=cT (Dc F n s):=by
 grind [cT,OU]
theorem OV (F:Nat->dg):∀m,∀v∈rV F m,v.oneCell'=true
 | 0,v,h=>by grind [rV]
 | m+1,v,h=>by
  simp only[rV,mj] at h;rcases h with h | h
  . exact OV F m v h
  simp only[DT,rC,zF,Hf] at h;rcases h with rfl | rfl | rfl <;> rfl
theorem uM:(cT F).all (·.oneCell')=true:=by
 grind [OV,cT]
def js (F:Nat->dg) (a:aU) (t:Int):Nat->dg:=λn=>if a.page<=(n:Int)/\(n:Int)<t then ⟨true,a.gh,a.zero⟩ else F n
def cH (l:List aU):Nat->Nat->dg
 | 0=>λ_=>iE
 | k+1=>js (cH l k) (bw l k) (bw l k).pL
def dA (l:List aU):Nat->dg:=cH l l.length
theorem G7 (a:aU):js F a a.page=F:=by
 grind [js]
theorem Jp (a:aU) (n:Nat) (h:a.page<=(n:Int)):Dc (js F a n) n ⟨true,a.gh,a.zero⟩=js F a ((n:Int)+1):=by
 grind [Dc,js]
theorem V6:(prog.info? 332).map (λi=>(i.zero,i.size))=some (some (.agg (cT (λ_=>iE))),768):=by kernel_rfl
theorem oX:(prog.info? 332).map (·.size)=some 768:=(zero_of_info V6).2
theorem Mx (w:World):(zeroValue 332).run prog w=.ok (.agg (cT (λ_=>iE))) w:=(zero_of_info V6).1 w
theorem SQ (b off cap:Nat) (w:World) (hl:ru w b off l) (hc:bf l=0) :
  Calls prog 210 #[.slice (some (Ad b off)) l.length cap] w λe w'=>e=.returned (.agg (cT (dA l)))/\Below w.heap.size w w':=by
 have J:=mK l hc;have HK:Hid (bf l=0):=hc;clear hc;obtain⟨Z,hZ⟩:=ex (cT (λ_=>iE));have hz:=Mx;rw[<- hZ] at hz;have HZ:Hid (Z=cT (λ_=>iE)):=hZ;clear hZ;go_enter func210,ntmps210;go_wp2;go_loopw [9] (λi wr=>∃k:Nat,k<=l.length/\i=I k/\wr.heap[w.heap.size]?=some (.cells Z 332 (0,0))/\wr.heap[w.heap.size+1]?=some (.cells (cT (cH l k)) 332 (0,0))/\Below w.heap.size w wr) (λi _=>l.length-(intOf i).toNat)
 case atStart =>
  refine⟨0,ω,rfl,bB (bG w Z 332) _,?_,((aN _ _).alloc (aJ _) _).alloc ξ _⟩;show _=some (Obj.cells (cT (λ_=>iE)) 332 (0,0))
  grind [Hid.o,World.alloc]
 case round =>
  obtain⟨k,hk,rfl,hR,hA,hb⟩:=hrel;have HR:Hid (wr.heap[w.heap.size]?=some (.cells Z 332 (0,0))):=hR;have HA:Hid (wr.heap[w.heap.size+1]?=some (.cells (cT (cH l k)) 332 (0,0))):=hA;have HB:Hid (Below w.heap.size w wr):=hb;have M:w.heap.size+2<=wr.heap.size:=aM hA;by_cases hlt:k<l.length
  . obtain⟨c0,c1,c2,c3⟩:=hl.below hb k hlt;have A:=gB l k (gp l HK.o k hlt);obtain⟨a,ha⟩:=ex (bw l k);rw[<- ha] at c0 c1 c2 c3 A;have y:Hid (a=bw l k):=ha;clear ha hR hA hb;obtain⟨wo,F⟩:∃wo:World,wo=wr:=⟨_,rfl⟩;subst F;have L:(k:Int)<(l.length:Int):=by omega
    go_wp2;go_loopw [6] (λt wi=>∃n:Nat,a.page<=(n:Int)/\(n:Int)<=a.page+a.aY/\t=I n/\wi.heap[w.heap.size]?=some (.cells Z 332 (0,0))/\wi.heap[w.heap.size+1]?=some (.cells (cT (js (cH l k) a n)) 332 (0,0))/\wi.heap[wo.heap.size]?=some (.cells #[I a.page,I a.aY,I a.gh,.bool a.zero] 139 (0,0))/\Below w.heap.size w wi) (λt _=>(a.page+a.aY-intOf t).toNat)
    case atStart =>
     refine⟨a.page.toNat,ω,ω,Γ,bB HR.o _,?_,bG _ _ _,HB.o.alloc HB.o.size _⟩;rw[Wl ω,G7];exact bB HA.o _
    case round =>
     obtain⟨n,MO,Br,rfl,iR,iA,iX,ib⟩:=hrel;have IR:Hid (wr.heap[w.heap.size]?=some (.cells Z 332 (0,0))):=iR;have IA:Hid (wr.heap[w.heap.size+1]?=some (.cells (cT (js (cH l k) a n)) 332 (0,0))):=iA;have IB:Hid (Below w.heap.size w wr):=ib;have x0:=aA iX 0 rfl;have x1:=aA iX 1 rfl;have x2:=aA iX 2 rfl;have x3:=aA iX 3 rfl;have IX:Hid (wr.heap[wo.heap.size]?=some (.cells #[I a.page,I a.aY,I a.gh,.bool a.zero] 139 (0,0))):=iX;have B:wo.heap.size<wr.heap.size:=aM iX;clear iR iA iX ib;by_cases hin:(n:Int)<a.page+a.aY
     . go_wp2_with fail
       refine(qD _ _ _ _ _ ω ω).mono ?_;rintro e w2 ⟨rfl,q⟩;have jR:=aO IR.o q ω;have jA:=aO IA.o q ω;have jX:=aO IX.o q B;have y2:=aA jX 2 rfl;have y3:=aA jX 3 rfl;have z0:=aA jA (n*3) (nT _ n ω);have z1:=aA jA (n*3+1) (nR _ n ω);have z2:=aA jA (n*3+2) (nQ _ n ω);have zf:=br jA;have JR:Hid (w2.heap[w.heap.size]?=some (.cells Z 332 (0,0))):=jR;have JA:Hid (w2.heap[w.heap.size+1]?=some (.cells (cT (js (cH l k) a n)) 332 (0,0))):=jA;have JX:Hid (w2.heap[wo.heap.size]?=some (.cells #[I a.page,I a.aY,I a.gh,.bool a.zero] 139 (0,0))):=jX;have JB:Hid (Below w.heap.size w w2):=IB.o.trans (q.mono IB.o.size);clear jR jA jX q x0 x1 x2 x3;have K:(n:Int)<256:=by omega
       go_wp2;go_roundw
       case rel =>
        refine⟨n+1,ω,ω,by go_num,jy (jy (jy JR.o _ _ _ ω) _ _ _ ω) _ _ _ ω,?_,jy (jy (jy JX.o _ _ _ ω) _ _ _ ω) _ _ _ ω,((JB.o.setCell ξ _).setCell ξ _).setCell ξ _⟩;have h:=dm (dm (dm JA.o (n*3) (.bool true)) (n*3+1) (I a.gh)) (n*3+2) (.bool a.zero);rw[yJ (js (cH l k) a n) n ⟨true,a.gh,a.zero⟩ ω,Jp _ _ _ MO] at h;rw[show((n+1:Nat):Int)=(n:Int)+1 from by omega];exact h
       case measure=>simp[intOf];omega
     have r:(n:Int)=a.page+a.aY:=by omega
     have HE:Hid ((n:Int)=a.page+a.aY):=r;clear r;go_wp2_with fail;refine(qD _ _ _ _ _ ω ω).mono ?_;rintro e w2 ⟨rfl,q⟩;have JR:Hid (w2.heap[w.heap.size]?=some (.cells Z 332 (0,0))):=aO IR.o q ω;have JA:Hid (w2.heap[w.heap.size+1]?=some (.cells (cT (js (cH l k) a n)) 332 (0,0))):=aO IA.o q ω;have JB:Hid (Below w.heap.size w w2):=IB.o.trans (q.mono IB.o.size);clear q x0 x1 x2 x3;go_wp2;go_roundw
     case rel =>
      refine⟨k+1,ω,by go_num,JR.o,?_,JB.o⟩;have h:=JA.o;rw[HE.o] at h;show _=some (Obj.cells (cT (js (cH l k) (bw l k) (bw l k).pL)) 332 (0,0));rw[<- y.o];exact h
     case measure=>simp[intOf];omega
  obtain rfl:k=l.length:=by omega
  have G:Z.size=768:=by rw[HZ.o];exact gy _
  clear hR hA hb;go_wp2_with (first | (refine vZ rfl 332 _ rfl (w.heap.size+1) rfl 332 _ (0,0) _ HA.o underlying332 rfl (by rw[gy];exact oX) ?_) | (refine yc rfl 332 _ _ rfl w.heap.size _ rfl rfl 332 Z HR.o (by rw[gy];exact oX) (by rw[G,gy]) (uM _) ?_));exact bW (v:=.agg (cT (cH l l.length))) (results_cell_row rfl _ _ w.heap.size 332 _ (0,0) _ rfl (pW _ _ _ _ 332 (0,0) HR.o) underlying332 rfl (by rw[gy];exact oX)) rfl ⟨rfl,below_setRow HB.o (aJ _) _⟩
theorem U0 (w:World) :
  Calls prog 210 #[.slice ao 0 cap] w λe w'=>e=.returned (.agg (cT (dA [])))/\Below w.heap.size w w':=by
 obtain⟨Z,hZ⟩:=ex (cT (λ_=>iE));have hz:=Mx;rw[<- hZ] at hz;have b:Z.size=768:=by grind [gy]
 have HZ:Hid (Z=cT (λ_=>iE)):=hZ;clear hZ;have HR:Hid (((w.alloc (.cells Z 332)).alloc (.cells Z 332)).heap[w.heap.size]?=some (.cells Z 332 (0,0))):=bB (bG w Z 332) _;have HA:Hid (((w.alloc (.cells Z 332)).alloc (.cells Z 332)).heap[w.heap.size+1]?=some (.cells Z 332 (0,0))):=by
  grind [World.alloc]
 go_enter func210,ntmps210;go_wp2;refine zE 1 ?_;rw[zz];go_wp2_with (first | (refine vZ rfl 332 _ rfl (w.heap.size+1) rfl 332 _ (0,0) _ HA.o underlying332 rfl (by grind [oX]) ?_) | (refine yc rfl 332 _ _ rfl w.heap.size _ rfl rfl 332 Z HR.o (by rw[b];exact oX) rfl (by grind [uM,Hid.o]) ?_));exact bW (v:=.agg Z) (results_cell_row rfl _ _ w.heap.size 332 _ (0,0) _ rfl (pW _ _ _ _ 332 (0,0) HR.o) underlying332 rfl (by grind [oX])) rfl ⟨by rw[HZ.o];rfl,below_setRow (((aN _ _).alloc (aJ _) _).alloc ξ _) (aJ _) _⟩
theorem Ta (k:Nat) (hk:k<256):(cT F).extract (k*3) (k*3+3)=#[.bool (F k).m,I (F k).p,.bool (F k).z]:=by
 apply Array.ext_getElem?;intro j;have hs:=gy F;rw[Array.getElem?_extract,hs]
 match j with
 | 0=>grind [nT]
 | 1=>grind [nR]
 | 2=>grind [nQ]
 | j+3=>grind
def gV (F:Nat->dg):Nat->dg
 | 0=>iE
 | k+1=>F k
def qO (a b:dg):Bool:=a.m==b.m&&(a.p==b.p&&a.z==b.z)
def yK (G:List aU):List aU:=G.set (G.length-1) ⟨(bw G (G.length-1)).page,(bw G (G.length-1)).aY+1,(bw G (G.length-1)).gh,(bw G (G.length-1)).zero⟩
def cj (F:Nat->dg):Nat->List aU
 | 0=>[]
 | k+1=>if (F k).m=false then cj F k else if qO (F k) (gV F k) then yK (cj F k) else cj F k++[⟨(k:Int),1,(F k).p,(F k).z⟩]
def gH (F:Nat->dg):List aU:=cj F 256
def pJ (a:aU):List Value:=[I a.page,I a.aY,I a.gh,.bool a.zero]
def b9:List aU->List Value
 | []=>[]
 | a::r=>pJ a++b9 r
theorem uB:∀G:List aU,(b9 G).length=G.length*4
 | []=>rfl
 | a::r=>by simp[b9,pJ,uB r];omega
theorem uC:∀G H:List aU,b9 (G++H)=b9 G++b9 H
 | [],H=>rfl
 | a::r,H=>by simp[b9,uC r H]
theorem l7:∀(G:List aU) (i j:Nat),i<G.length->j<4->(b9 G)[i*4+j]?=(pJ (bw G i))[j]?
 | [],i,j,h,_=>by simp at h
 | a::r,0,j,h,hj=>by
  grind [b9,pJ,bw]
 | a::r,i+1,j,h,hj=>by
  simp only[b9];rw[Eb (by simp[pJ];omega),show(i+1)*4+j-(pJ a).length=i*4+j from by grind [pJ],l7 r i j Γ hj];rfl
theorem xZ:∀(G:List aU) (i:Nat) (n:Int),i<G.length->b9 (G.set i ⟨(bw G i).page,n,(bw G i).gh,(bw G i).zero⟩)=(b9 G).set (i*4+1) (I n)
 | [],i,n,h=>by simp at h
 | a::r,0,n,h=>by rfl
 | a::r,i+1,n,h=>by
  simp only[b9,ed];rw[zJ _ _ (by simp[pJ];omega),show(i+1)*4+1-(pJ a).length=i*4+1 from by grind [pJ]];have e:=xZ r i n Γ
  grind [bw]
theorem tQ:(yK G).length=G.length:=by simp[yK]
theorem rq:∀(G:List aU),∀v∈b9 G,v.oneCell'=true
 | [],v,h=>by grind [b9]
 | a::r,v,h=>by
  simp only[b9,pJ,Hi,P9,rC] at h;rcases h with rfl | rfl | rfl | rfl | h
  . rfl
  . rfl
  . rfl
  . rfl
  exact rq r v h
theorem s7 (H:List aU) (i:Nat) (h:i<G.length):bw (G++H) i=bw G i:=by grind [bw]
theorem xw (a:aU):bw (G++[a]) G.length=a:=by simp[bw]
theorem Tb (i:Nat) (a:aU) (h:i<G.length):bw (G.set i a) i=a:=by simp[bw,h]
theorem PY (i j:Nat) (a:aU) (h:j≠i):bw (G.set i a) j=bw G j:=by grind [bw]
theorem sN (F:Nat->dg):∀k,(cj F k).length<=k
 | 0=>by simp[cj]
 | k+1=>by
  have ih:=sN F k
  grind [cj,tQ]
theorem Bn (F:Nat->dg):∀k,(gV F k).m=true->0<(cj F k).length
 | 0,h=>by grind [gV,iE]
 | k+1,h=>by
  have h':(F k).m=true:=h;simp only[cj,h'];rw[aH ξ];split
  . rename_i he
    have hm:(gV F k).m=true:=by
     grind [qO]
    rw[tQ];exact Bn F k hm
  simp
theorem zt (F:Nat->dg):∀k,∀i,i<(cj F k).length->1<=(bw (cj F k) i).aY/\(bw (cj F k) i).aY<=k
 | 0,i,h=>by grind [cj]
 | k+1,i,h=>by
  have ih:=zt F k
  grind [cj,yK,Tb,PY,s7,xw]
theorem J8 (a b:dg) (h:qO a b=true):a=b:=by
 cases a;simp_all [qO]
theorem S8 (a b:dg) (h:qO a b=false):(a.m==b.m)=false\/((a.m==b.m)=true/\(a.p==b.p)=false)\/((a.m==b.m)=true/\(a.p==b.p)=true/\(a.z==b.z)=false):=by
 grind [qO]
theorem aeO (k:Nat) (hk:k<256) (w:World):(Instr.index 332 (.agg (cT F)) (I k)).run prog w=.ok (.agg #[.bool (F k).m,I (F k).p,.bool (F k).z]) w:=by
 simp[Instr.index,Kn underlying332,go_sem]
 grind [Ta]
theorem V9:(prog.info? 139).map (λi=>(i.zero,i.size,i.bytes))=some (some (.agg #[I 0,I 0,I 0,.bool false]),4,32):=by rfl
def eN (w:World) (v:Value) (l:List aU):Prop:=∃ao cap,v=.slice ao l.length cap/\(l=[]\/∃b off,ao=some (Ad b off)/\ru w b off l)
theorem G6 {wx:World} {n:Nat} {xs:List Value} (hC:C.size=3) (hown:wx.ownsRow (w.heap.size+2) 139 4 v n xs) (hl:wx.heap[w.heap.size+1]?=some (.cells C 287 (0,0))) (hb:Below w.heap.size w wx) (x y z:Value) :
  (((wx.setCell (Ad (w.heap.size+1) 0) x).setCell (Ad (w.heap.size+1) 1) y).setCell (Ad (w.heap.size+1) 2) z).ownsRow (w.heap.size+2) 139 4 v n xs /\
  (((wx.setCell (Ad (w.heap.size+1) 0) x).setCell (Ad (w.heap.size+1) 1) y).setCell (Ad (w.heap.size+1) 2) z).heap[w.heap.size+1]?=some (.cells #[x,y,z] 287 (0,0)) /\
  Below w.heap.size w (((wx.setCell (Ad (w.heap.size+1) 0) x).setCell (Ad (w.heap.size+1) 1) y).setCell (Ad (w.heap.size+1) 2) z):=by
 refine⟨Hl (Hl (Hl hown ξ _) ξ _) ξ _,?_,((hb.setCell ξ _).setCell ξ _).setCell ξ _⟩;rw[dm (dm (dm hl 0 x) 1 y) 2 z];congr 2
 match C,hC with
 | ⟨[a,b,c]⟩,_=>rfl
def eO (lo:Nat) (w:World) (v:Value) (l:List aU):Prop:=w.ownsRow lo 139 4 v l.length (b9 l)
theorem eO.nil (lo:Nat) (w:World):eO lo w Nl []:=nt _ _ _ _
theorem eO.mono {lo lo':Nat} {l:List aU} (h:eO lo w v l) (hl:lo'<=lo):eO lo' w v l:=by
 refine⟨h.1,?_⟩;rcases h.2 with h2 | ⟨g,cap,q,hv,b,rest⟩
 . grind
 exact .inr ⟨g,cap,q,hv,gj hl b,rest⟩
theorem eO.has {lo:Nat} {l:List aU} (h:eO lo w v l):eN w v l:=by
 rcases h.2 with⟨hv,h0⟩ | ⟨g,cap,y,hv,q,hg,A,r,B,b⟩
 . exact⟨none,0,Γ,.inl (mR h0)⟩
 have ho:=h;unfold eO at ho;rw[hv] at ho;refine⟨some (Ad g 0),cap,hv,.inr ⟨g,0,rfl,λi hi=>?_⟩⟩;rw[mi];exact⟨(ho.cellAt _ ω).trans (l7 _ i 0 hi ω),(ho.cellAt _ ω).trans (l7 _ i 1 hi ω),(ho.cellAt _ ω).trans (l7 _ i 2 hi ω),(ho.cellAt _ ω).trans (l7 _ i 3 hi ω)⟩
theorem C9 (w:World) :
  Calls prog 211 #[.agg (cT F)] w λe w'=>∃v,e=.returned v/\eO w.heap.size w' v (gH F)/\Below w.heap.size w w':=by
 have Pb:=aeO F;obtain⟨C,hC⟩:=ex (cT F);have a6:C.size=768:=by grind [gy]
 rw[<- hC] at Pb ⊢;clear hC;obtain⟨i0,hi,a2,a1,U⟩:=mQ V9;have HX:Hid (((w.alloc (.cells C 332)).alloc (.cells #[.bool false,I 0,.bool false] 287)).heap[w.heap.size]?=some (.cells C 332 (0,0))):=bB (bG w C 332) _;have HL:Hid (((w.alloc (.cells C 332)).alloc (.cells #[.bool false,I 0,.bool false] 287)).heap[w.heap.size+1]?=some (.cells #[.bool false,I 0,.bool false] 287 (0,0))):=by
  grind [World.alloc]
 have eB:Hid (Below w.heap.size w ((w.alloc (.cells C 332)).alloc (.cells #[.bool false,I 0,.bool false] 287))):=((aN _ _).alloc (aJ _) _).alloc ξ _;go_enter func211,ntmps211;go_wp2_with (first | (refine vZ rfl 332 _ rfl w.heap.size rfl 332 _ (0,0) _ HX.o underlying332 rfl (by grind [oX]) ?_));go_loopw [3,8] (λv i wr=>∃k:Nat,k<=256/\i=I k/\wr.ownsRow (w.heap.size+2) 139 4 v (cj F k).length (b9 (cj F k))/\wr.heap[w.heap.size+1]?=some (.cells #[.bool (gV F k).m,I (gV F k).p,.bool (gV F k).z] 287 (0,0))/\Below w.heap.size w wr) (λ_ i _=>256-(intOf i).toNat)
 case atStart=>exact⟨0,ω,rfl,nt _ _ _ _,HL.o,eB.o⟩
 case round =>
  obtain⟨k,hk,rfl,B,hl,hb⟩:=hrel;have HO:Hid (wr.ownsRow (w.heap.size+2) 139 4 u3 (cj F k).length (b9 (cj F k))):=B;have L:Hid (wr.heap[w.heap.size+1]?=some (.cells #[.bool (gV F k).m,I (gV F k).p,.bool (gV F k).z] 287 (0,0))):=hl;have HB:Hid (Below w.heap.size w wr):=hb;have a8:w.heap.size+1<wr.heap.size:=aM hl;have l0:=aA hl 0 rfl;have l1:=aA hl 1 rfl;have l2:=aA hl 2 rfl;have lf:=br hl;clear B hl hb;by_cases hlt:k<256
  . have hx:=λW=>Pb k hlt W
    have Il:(k:Int)<256:=by omega
    obtain⟨s,hs⟩:=ex (F k);obtain⟨t,ht⟩:=ex (gV F k);rw[<- hs] at hx;rw[<- ht] at l0 l1 l2;have HS:Hid (s=F k):=hs;have HT:Hid (t=gV F k):=ht;clear hs ht Pb;by_cases hm:s.m=true
    . by_cases he:qO s t=true
      . have N:s=t:=J8 s t he;have HG:Hid (cj F (k+1)=yK (cj F k)):=by show _=_;simp only[cj];rw[<- HS.o,<- HT.o,hm,he];rfl
        have O:=Bn F k (by rw[<- HT.o,<- N];exact hm);have A:=sN F k;obtain⟨G,hG⟩:=ex (cj F k);have QG:=zt F k ((cj F k).length-1) ω;rw[<- hG] at HO HG O A QG;clear hG;rcases HO.o.2 with⟨_,h0⟩ | ⟨g,cap,ab,hv,a9,hg,a7,a3,T,M⟩
        . omega
        have Kf:=HO.o;rw[hv] at Kf;have p1:wr.cell? ⟨g,(G.length-1)*4+1,none⟩=some (I (bw G (G.length-1)).aY):=by
         rw[Kf.cellAt _ ω,l7 G _ 1 ω ω];rfl
        have pf:=Kf.frozenAt;have a0:Hid (wr.ownsRow (w.heap.size+2) 139 4 (.slice (some (Ad g 0)) G.length cap) G.length (b9 G)):=Kf;have aa:g<wr.heap.size:=aM hg;rw[hv];clear HO Kf hv hg M T he;obtain⟨pp,Ib⟩:=ex ((bw G (G.length-1)).aY);rw[<- Ib] at p1 QG;have HP:Hid (pp=(bw G (G.length-1)).aY):=Ib;clear Ib;subst N;have a5:(G.length:Int)<=256:=by omega
        go_wp2;go_roundw
        case rel =>
         have ho:=(a0.o.stored ((G.length-1)*4+1) (I (pp+1))).1;have e:(b9 G).set ((G.length-1)*4+1) (I (pp+1))=b9 (yK G):=by
          rw[HP.o];exact(xZ G (G.length-1) _ ω).symm
         rw[e] at ho;have h:=G6 rfl ho (jy L.o _ _ _ ω) (HB.o.setCell (by simp;omega) _) (.bool true) (I s.p) (.bool s.z);refine⟨k+1,ω,by go_num,?_,?_,h.2.2.alloc h.2.2.size _⟩
         . rw[HG.o,tQ];exact h.1.alloc _
         show _=some (Obj.cells #[.bool (F k).m,I (F k).p,.bool (F k).z] 287 (0,0));rw[<- HS.o,hm];exact bB h.2.1 _
        case measure=>simp[intOf];omega
      have K:qO s t=false:=by simpa using he
      have HG:Hid (cj F (k+1)=cj F k++[⟨(k:Int),1,s.p,s.z⟩]):=by show _=_;simp only[cj];rw[<- HS.o,<- HT.o,hm,K];rfl
      have A:=sN F k;generalize cj F k=G at HO HG A;clear he;have y:Hid (∀j,u3.ownBlock=some j->w.heap.size+2<=j/\j<wr.heap.size):=HO.o.lt;have J:=S8 s t K;obtain⟨sm,sp,sz⟩:=s;obtain⟨tm,tp,tz⟩:=t;simp only at hm J l0 l1 l2 HG;subst hm;have HN:Hid (((wr.alloc (.cells #[.bool true,I sp,.bool sz] 287)).alloc (.cells #[I (k:Int),I 1,I sp,.bool sz] 139)).heap[wr.heap.size+1]?=some (.cells #[I (k:Int),I 1,I sp,.bool sz] 139 (0,0))):=by
       have:=bG (wr.alloc (.cells #[.bool true,I sp,.bool sz] 287)) #[I (k:Int),I 1,I sp,.bool sz] 139;show _=_;simpa using this
      have Y:tm=false\/(tm=true/\(sp==tp)=false)\/(tm=true/\sp=tp/\tz=!sz):=by
       cases tm
       . exact .inl rfl
       rcases J with q | ⟨_,q⟩ | ⟨_,q1,q2⟩
       . cases q
       . exact .inr (.inl ⟨rfl,q⟩)
       refine .inr (.inr ⟨rfl,by simpa using q1,?_⟩);cases sz <;> cases tz <;> first | rfl | cases q2
      clear K J;rcases Y with rfl | ⟨rfl,q⟩ | ⟨rfl,rfl,rfl⟩
      all_goals
       go_wp2_with (at_builtin;refine Ku _ rfl _ _ 22 rfl (w.heap.size+2) 139 i0 (.agg #[I 0,I 0,I 0,.bool false]) 4 32 underlying22 hi a2 a1 U rfl Δ _ _ _ rfl ((HO.o.alloc _).alloc _) (Ad (wr.heap.size+1) 0) 1 1 [I (k:Int),I 1,I sp,.bool sz] rfl rfl (EW HN.o) (rq [⟨(k:Int),1,sp,sz⟩]) Δ (by unfold maxLen;omega) ω (by simp;omega) (wr.heap.size+2) ξ ?_)
       intro g cap w1 r b Z a4;have bS:=EY (bB (bG wr #[.bool true,I sp,.bool sz] 287) (.cells #[I (k:Int),I 1,I sp,.bool sz] 139)) b (λe=>by have:=y.out _ e.symm;omega);have bL:=EY (bB (bB L.o (.cells #[.bool true,I sp,.bool sz] 287)) (.cells #[I (k:Int),I 1,I sp,.bool sz] 139)) b (λe=>by have:=y.out _ e.symm;omega);have b0:=aA bS 0 rfl;have b1:=aA bS 1 rfl;have b2:=aA bS 2 rfl;have m0:=aA bL 0 rfl;have m1:=aA bL 1 rfl;have m2:=aA bL 2 rfl;have mf:=br bL;have X:Hid (w1.ownsRow (w.heap.size+2) 139 4 (Value.slice (some (Ad g 0)) (G.length+1) cap) (G.length+1) (b9 G++[I (k:Int),I 1,I sp,.bool sz])):=r;have R:Hid (w1.heap[w.heap.size+1]?=some (.cells #[.bool (gV F k).m,I (gV F k).p,.bool (gV F k).z] 287 (0,0))):=bL;have dz:Hid (Below w.heap.size w w1):=((HB.o.alloc HB.o.size _).alloc (by simp;omega) _).grown b (by simp;omega) (λk' e=>by have:=y.out _ e;omega);clear bS bL r b Z l0 l1 l2 lf;go_wp2;go_roundw
       case rel =>
        have h:=G6 rfl X.o R.o dz.o (.bool true) (I sp) (.bool sz);refine⟨k+1,ω,by go_num,?_,?_,h.2.2⟩
        . rw[HG.o,gM,uC];exact h.1
        show _=some (Obj.cells #[.bool (F k).m,I (F k).p,.bool (F k).z] 287 (0,0));rw[<- HS.o];exact h.2.1
       case measure=>simp[intOf];omega
    have Q:s.m=false:=by simpa using hm
    have HG:Hid (cj F (k+1)=cj F k):=by show _=_;simp only[cj];rw[<- HS.o,Q];rfl
    clear hm;go_wp2;go_roundw
    case rel =>
     have h:=G6 rfl HO.o L.o HB.o (.bool false) (I s.p) (.bool s.z);refine⟨k+1,ω,by go_num,?_,?_,h.2.2.alloc h.2.2.size _⟩
     . rw[HG.o];exact h.1.alloc _
     show _=some (Obj.cells #[.bool (F k).m,I (F k).p,.bool (F k).z] 287 (0,0));rw[<- HS.o,Q];exact bB h.2.1 _
    case measure=>simp[intOf];omega
  obtain rfl:k=256:=by omega
  go_wp2;go_ret;refine⟨_,rfl,?_,HB.o⟩;exact eO.mono (lo:=w.heap.size+2) HO.o ω
end Go.Proofs.YtlgoihmkgaaemaaGreat
