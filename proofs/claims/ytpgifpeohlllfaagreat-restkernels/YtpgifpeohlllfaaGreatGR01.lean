import Derived.Test.YtpgifpeohlllfaaGreatGR00
import Derived.Deep.WholeRow
import Derived.Laws.CopyOwn
import Derived.Lib.Hide
import Derived.Deep.CutBlock
import Derived.Deep.DeepCutAuto
set_option maxHeartbeats 20000000
set_option linter.unusedVariables false
set_option maxRecDepth 100000
set_option linter.unusedSimpArgs false
namespace Go.Proofs.YtpgifpeohlllfaaGreat
open Go.RowKit
def jU (a:aZ):Array Value:=#[I a.page,I a.bC,I a.fI,.bool a.zero]
theorem Sn (l:List aZ) (b off cap:Nat) (p:Int) (w:World) (hl:oI w b off l) (hf:∀i,i<l.length->wa (bl l i)) (hn:l.length<=140737488351232) :
  Calls Tryz.prog 70 #[.slice (some (Ad b off)) l.length cap,I p] w fun e w'=>e=.returned (.tuple #[.agg (jU (bh l p).1),.bool (bh l p).2])/\Below w.heap.size w w':=by
 have hbz:Below w.heap.size w (w.alloc (.cells #[I 0,I 0,I 0,.bool false] 47)):=(aK _ _).alloc (aI _) _;by_cases hc:bB l=0
 · have hlen:=kO l hc;have HC:Hid (bh l p=bV l p):=by show _=_;grind [bh]
   have HK:Hid (bB l=0):=hc;go_enter Tryz.func70,Tryz.ntmps70;go_wp2_with fail
   refine(qY l b off cap _ (hl.below hbz) hf hn).mono ?_;rintro e w1 ⟨rfl,hb1⟩;rw[hc];clear hc;go_wp2;go_loopw [14] (fun i wr=>∃k:Nat,k<=l.length/\i=I k/\(∀j,j<k->fP (bl l j) p=false)/\Below (w.heap.size+1) (w.alloc (.cells #[I 0,I 0,I 0,.bool false] 47)) wr) (fun i _=>l.length-(intOf i).toNat)
   case atStart=>exact⟨0,by omega,rfl,fun j hj=>by omega,hb1.mono (by simp)⟩
   case round =>
    obtain⟨k,hk,rfl,hno,hb⟩:=hrel;have HN:Hid (∀j,j<k->fP (bl l j) p=false):=hno;have jQ:Hid (Below w.heap.size w wr):=hbz.trans (hb.mono (vh _));have hsz:w.heap.size+1<=wr.heap.size:=by have:=hb.size;simpa using this
    have hlr:=hl.below jQ.out;have hR:wr.heap[w.heap.size]?=some (.cells #[I 0,I 0,I 0,.bool false] 47 (0,0)):=aQ (bO w _ _) hb (E3 _);have HR:Hid (wr.heap[w.heap.size]?=some (.cells #[I 0,I 0,I 0,.bool false] 47 (0,0))):=hR;have HB:Hid (Below (w.heap.size+1) (w.alloc (.cells #[I 0,I 0,I 0,.bool false] 47)) wr):=hb;clear hR hb;clear hno hb1;by_cases hlt:k<l.length
    · obtain⟨c0,c1,c2,c3⟩:=hlr k hlt;have hbk:=fG l k (fw l HK.o k hlt);obtain⟨a,ha⟩:=ex (bl l k);rw[<- ha] at c0 c1 c2 c3 hbk;have HA:Hid (a=bl l k):=ha;clear ha;by_cases h1:a.page<=p
      · by_cases h2:p<a.page+a.bC
        · have hres:Hid (bh l p=(a,true)):=by
           show _=_;rw[HC.o,oG l p k hlt HN.o (by rw[<- HA.o];simp[fP,aZ.mW,h1,h2]),<- HA.o]
          go_wp2_with fail
          refine(nW _ _ _ _ _ (by omega) (by omega)).mono ?_;rintro e w2 ⟨rfl,hb2⟩;have SC:=aQ (bO wr #[I a.page,I a.bC,I a.fI,.bool a.zero] 47) hb2 (by simp);have KV:=aQ (bM HR.o _) hb2 (by simp;omega);have s0:=aB SC 0 rfl;have s1:=aB SC 1 rfl;have s2:=aB SC 2 rfl;have s3:=aB SC 3 rfl;have t0:=aB KV 0 rfl;have t1:=aB KV 1 rfl;have t2:=aB KV 2 rfl;have t3:=aB KV 3 rfl;have u0:=aO KV;have hbe:Hid (Below w.heap.size w w2):=(jQ.out.alloc jQ.out.size _).trans (hb2.mono (by simp;omega));clear hb2 SC KV;go_wp2;exact cm (v:=.tuple #[.agg #[I a.page,I a.bC,I a.fI,.bool a.zero],.bool true]) (by simp[results,Tryz.results70,go_sem,t0,t1,t2,t3]) rfl ⟨by rw[hres.out];rfl,(((hbe.out.setCell (aI _) _).setCell (aI _) _).setCell (aI _) _).setCell (aI _) _⟩
        · have Ay:Hid (fP (bl l k) p=false):=by show _=_;rw[<- HA.o];unfold fP aZ.mW;grind
          go_wp2_with fail
          refine(nW _ _ _ _ _ (by omega) (by omega)).mono ?_;rintro e w2 ⟨rfl,hb2⟩;have hbe:Hid (Below (w.heap.size+1) (w.alloc (.cells #[I 0,I 0,I 0,.bool false] 47)) w2):=(HB.o.alloc (by omega) _).trans (hb2.mono (by simp;omega));clear hb2;go_wp2;go_roundw
          case rel=>exact⟨k+1,by omega,by go_num,fun j hj=>if e:j=k then by rw[e];exact Ay.out else HN.o j (by omega),hbe.out⟩
          case measure=>simp[intOf];omega
      · have Ay:Hid (fP (bl l k) p=false):=by show _=_;rw[<- HA.o];unfold fP aZ.mW;grind
        go_wp2;go_roundw
        case rel=>exact⟨k+1,by omega,by go_num,fun j hj=>if e:j=k then by rw[e];exact Ay.out else HN.o j (by omega),HB.o.alloc (by omega) _⟩
        case measure=>simp[intOf];omega
    · obtain rfl:k=l.length:=by omega
      have hres:Hid (bh l p=(rM,false)):=by show _=_;rw[HC.o,oF l p HN.o]
      have t0:=aB HR.o 0 rfl;have t1:=aB HR.o 1 rfl;have t2:=aB HR.o 2 rfl;have t3:=aB HR.o 3 rfl;have u0:=aO HR.o;go_wp2;exact cm (v:=.tuple #[.agg #[I 0,I 0,I 0,.bool false],.bool false]) (by simp[results,Tryz.results70,go_sem,t0,t1,t2,t3]) rfl ⟨by rw[hres.out];rfl,(((jQ.out.setCell (aI _) _).setCell (aI _) _).setCell (aI _) _).setCell (aI _) _⟩
 · have HC:Hid (bh l p=(rM,false)):=by show _=_;grind [bh]
   have hc':(bB l != 0)=true:=by grind
   go_enter Tryz.func70,Tryz.ntmps70;go_wp2_with fail
   refine(qY l b off cap _ (hl.below hbz) hf hn).mono ?_;rintro e w1 ⟨rfl,hb1⟩;have Bd:=aQ (bO w #[I 0,I 0,I 0,.bool false] 47) hb1 (by simp);have t0:=aB Bd 0 rfl;have t1:=aB Bd 1 rfl;have t2:=aB Bd 2 rfl;have t3:=aB Bd 3 rfl;have u0:=aO Bd;clear Bd;go_wp2;exact cm (v:=.tuple #[.agg #[I 0,I 0,I 0,.bool false],.bool false]) (by simp[results,Tryz.results70,go_sem,t0,t1,t2,t3]) rfl ⟨by rw[HC.o];rfl,((((hbz.trans (hb1.mono (by simp))).setCell (aI _) _).setCell (aI _) _).setCell (aI _) _).setCell (aI _) _⟩
theorem U6 (ao:Option Addr) (cap:Nat) (p:Int) (w:World) :
  Calls Tryz.prog 70 #[.slice ao 0 cap,I p] w fun e w'=>e=.returned (.tuple #[.agg (jU (bh [] p).1),.bool (bh [] p).2])/\Below w.heap.size w w':=by
 have hbz:Below w.heap.size w (w.alloc (.cells #[I 0,I 0,I 0,.bool false] 47)):=(aK _ _).alloc (aI _) _;have e2:bB []=0:=by decide
 go_enter Tryz.func70,Tryz.ntmps70;go_wp2_with fail
 refine(Ap ao cap _).mono ?_;rintro e w1 ⟨rfl,hb1⟩;rw[e2];have Bd:=aQ (bO w #[I 0,I 0,I 0,.bool false] 47) hb1 (by simp);have t0:=aB Bd 0 rfl;have t1:=aB Bd 1 rfl;have t2:=aB Bd 2 rfl;have t3:=aB Bd 3 rfl;have u0:=aO Bd;clear Bd;go_wp2;refine vo 1 ?_;rw[vg];go_wp2;exact cm (v:=.tuple #[.agg #[I 0,I 0,I 0,.bool false],.bool false]) (by simp[results,Tryz.results70,go_sem,t0,t1,t2,t3]) rfl ⟨rfl,((((hbz.trans (hb1.mono (by simp))).setCell (aI _) _).setCell (aI _) _).setCell (aI _) _).setCell (aI _) _⟩
open Go.RowKit
structure di where
 m:Bool
 p:Int
 z:Bool
def gS:di:=⟨false,0,false⟩
def zl (s:di):List Value:=[.bool s.m,I s.p,.bool s.z]
def o7 (F:Nat->di):Nat->List Value
 | 0=>[]
 | m+1=>o7 F m++zl (F m)
def dC (F:Nat->di):Array Value:=(o7 F 256).toArray
def yM (F:Nat->di) (n:Nat) (s:di):Nat->di:=fun k=>if k=n then s else F k
theorem jg (F:Nat->di):∀m,(o7 F m).length=m*3
 | 0=>rfl
 | m+1=>by simp[o7,jg F m,zl];omega
theorem jh (F:Nat->di):(dC F).size=768:=by simp[dC,jg]
theorem Jr (F:Nat->di) (n j:Nat) (hj:j<3):∀m,n<m->(o7 F m)[n*3+j]?=(zl (F n))[j]?
 | 0,h=>by omega
 | m+1,h=>by
  simp only[o7];by_cases e:n=m
  · grind [jg]
  · rw[KD (by grind [jg])];exact Jr F n j hj m (by omega)
theorem yP (F:Nat->di) (n j:Nat) (hn:n<256) (hj:j<3):(dC F)[n*3+j]?=(zl (F n))[j]?:=by
 grind [dC,Jr]
theorem s8 (F:Nat->di) (n:Nat) (hn:n<256):(dC F)[n*3]?=some (.bool (F n).m):=yP F n 0 hn (by omega)
theorem s7 (F:Nat->di) (n:Nat) (hn:n<256):(dC F)[n*3+1]?=some (I (F n).p):=yP F n 1 hn (by omega)
theorem s6 (F:Nat->di) (n:Nat) (hn:n<256):(dC F)[n*3+2]?=some (.bool (F n).z):=yP F n 2 hn (by omega)
theorem D6 (F G:Nat->di):∀m,(∀k,k<m->F k=G k)->o7 F m=o7 G m
 | 0,_=>rfl
 | m+1,h=>by simp only[o7];rw[D6 F G m (fun k hk=>h k (by omega)),h m (by omega)]
theorem Jp (F:Nat->di) (n:Nat) (s:di):∀m,n<m->(((o7 F m).set (n*3) (.bool s.m)).set (n*3+1) (I s.p)).set (n*3+2) (.bool s.z)=o7 (yM F n s) m
 | 0,h=>by omega
 | m+1,h=>by
  simp only[o7];by_cases e:n=m
  · subst e;rw[vv _ _ (by grind [jg]),vv _ _ (by grind [jg]),vv _ _ (by grind [jg]),jg,
     show n*3-n*3=0 from by omega,show n*3+1-n*3=1 from by omega,show n*3+2-n*3=2 from by omega]
    grind [D6,yM,zl]
  · rw[E6 _ _ (by grind [jg]),E6 _ _ (by grind [jg]),E6 _ _ (by grind [jg]),Jp F n s m (by omega)]
    grind [yM]
theorem Eb (F:Nat->di) (n:Nat) (s:di) (hn:n<256) :
  (((dC F).setIfInBounds (n*3) (.bool s.m)).setIfInBounds (n*3+1) (I s.p)).setIfInBounds (n*3+2) (.bool s.z)=dC (yM F n s):=by
 grind [dC,Jp]
theorem Jq (F:Nat->di):∀m,∀v∈o7 F m,v.oneCell'=true
 | 0,v,h=>by grind [o7]
 | m+1,v,h=>by
  simp only[o7,kq] at h;rcases h with h | h
  · exact Jq F m v h
  · simp only[zl,xB,Kk,or_false] at h;rcases h with rfl | rfl | rfl <;> rfl
theorem yO (F:Nat->di):(dC F).all (·.oneCell')=true:=by
 grind [Jq,dC]
def iq (F:Nat->di) (a:aZ) (t:Int):Nat->di:=fun n=>if a.page<=(n:Int)/\(n:Int)<t then ⟨true,a.fI,a.zero⟩ else F n
def b9 (l:List aZ):Nat->Nat->di
 | 0=>fun _=>gS
 | k+1=>iq (b9 l k) (bl l k) (bl l k).mW
def eK (l:List aZ):Nat->di:=b9 l l.length
theorem CN (F:Nat->di) (a:aZ):iq F a a.page=F:=by
 grind [iq]
theorem D9 (F:Nat->di) (a:aZ) (n:Nat) (h:a.page<=(n:Int)):yM (iq F a n) n ⟨true,a.fI,a.zero⟩=iq F a ((n:Int)+1):=by
 grind [yM,iq]
open Go.RowKit
theorem PI:(Tryz.prog.info? 215).map (fun i=>(i.zero,i.size))=some (some (.agg (dC (fun _=>gS))),768):=by kernel_rfl
theorem qC:(Tryz.prog.info? 215).map (·.size)=some 768:=(zero_of_info PI).2
theorem Sg (w:World):(zeroValue 215).run Tryz.prog w=.ok (.agg (dC (fun _=>gS))) w:=(zero_of_info PI).1 w
theorem MF (l:List aZ) (b off cap:Nat) (w:World) (hl:oI w b off l) (hc:bB l=0) :
  Calls Tryz.prog 156 #[.slice (some (Ad b off)) l.length cap] w fun e w'=>e=.returned (.agg (dC (eK l)))/\Below w.heap.size w w':=by
 have hlen:=kO l hc;have HK:Hid (bB l=0):=hc;clear hc;obtain⟨Z,hZ⟩:=ex (dC (fun _=>gS));have hz:=Sg;rw[<- hZ] at hz;have HZ:Hid (Z=dC (fun _=>gS)):=hZ;clear hZ;go_enter Tryz.func156,Tryz.ntmps156;go_wp2;go_loopw [9] (fun i wr=>∃k:Nat,k<=l.length/\i=I k/\wr.heap[w.heap.size]?=some (.cells Z 215 (0,0))/\wr.heap[w.heap.size+1]?=some (.cells (dC (b9 l k)) 215 (0,0))/\Below w.heap.size w wr) (fun i _=>l.length-(intOf i).toNat)
 case atStart =>
  refine⟨0,by omega,rfl,bM (bO w Z 215) _,?_,((aK _ _).alloc (aI _) _).alloc (by simp) _⟩;show _=some (Obj.cells (dC (fun _=>gS)) 215 (0,0))
  grind [Hid.o,World.alloc]
 case round =>
  obtain⟨k,hk,rfl,hR,hA,hb⟩:=hrel;have HR:Hid (wr.heap[w.heap.size]?=some (.cells Z 215 (0,0))):=hR;have HA:Hid (wr.heap[w.heap.size+1]?=some (.cells (dC (b9 l k)) 215 (0,0))):=hA;have HB:Hid (Below w.heap.size w wr):=hb;have hsz:w.heap.size+2<=wr.heap.size:=aT hA;by_cases hlt:k<l.length
  · obtain⟨c0,c1,c2,c3⟩:=hl.below hb k hlt;have hbk:=fG l k (fw l HK.o k hlt);obtain⟨a,ha⟩:=ex (bl l k);rw[<- ha] at c0 c1 c2 c3 hbk;have HAr:Hid (a=bl l k):=ha;clear ha hR hA hb;obtain⟨wo,hwo⟩:∃wo:World,wo=wr:=⟨_,rfl⟩;subst hwo;have hcx:(k:Int)<(l.length:Int):=by omega
    go_wp2;go_loopw [6] (fun t wi=>∃n:Nat,a.page<=(n:Int)/\(n:Int)<=a.page+a.bC/\t=I n/\wi.heap[w.heap.size]?=some (.cells Z 215 (0,0))/\wi.heap[w.heap.size+1]?=some (.cells (dC (iq (b9 l k) a n)) 215 (0,0))/\wi.heap[wo.heap.size]?=some (.cells #[I a.page,I a.bC,I a.fI,.bool a.zero] 47 (0,0))/\Below w.heap.size w wi) (fun t _=>(a.page+a.bC-intOf t).toNat)
    case atStart =>
     refine⟨a.page.toNat,by omega,by omega,by grind,bM HR.o _,?_,bO _ _ _,HB.o.alloc HB.o.size _⟩;rw[PW (by omega),CN];exact bM HA.o _
    case round =>
     obtain⟨n,hn1,Fg,rfl,iR,iA,iX,ib⟩:=hrel;have IR:Hid (wr.heap[w.heap.size]?=some (.cells Z 215 (0,0))):=iR;have IA:Hid (wr.heap[w.heap.size+1]?=some (.cells (dC (iq (b9 l k) a n)) 215 (0,0))):=iA;have IB:Hid (Below w.heap.size w wr):=ib;have x0:=aB iX 0 rfl;have x1:=aB iX 1 rfl;have x2:=aB iX 2 rfl;have x3:=aB iX 3 rfl;have IX:Hid (wr.heap[wo.heap.size]?=some (.cells #[I a.page,I a.bC,I a.fI,.bool a.zero] 47 (0,0))):=iX;have hxs:wo.heap.size<wr.heap.size:=aT iX;clear iR iA iX ib;by_cases hin:(n:Int)<a.page+a.bC
     · go_wp2_with fail
       refine(nW _ _ _ _ _ (by omega) (by omega)).mono ?_;rintro e w2 ⟨rfl,hb2⟩;have jR:=aQ IR.o hb2 (by omega);have jA:=aQ IA.o hb2 (by omega);have jX:=aQ IX.o hb2 hxs;have y2:=aB jX 2 rfl;have y3:=aB jX 3 rfl;have z0:=aB jA (n*3) (s8 _ n (by omega));have z1:=aB jA (n*3+1) (s7 _ n (by omega));have z2:=aB jA (n*3+2) (s6 _ n (by omega));have zf:=aO jA;have JR:Hid (w2.heap[w.heap.size]?=some (.cells Z 215 (0,0))):=jR;have JA:Hid (w2.heap[w.heap.size+1]?=some (.cells (dC (iq (b9 l k) a n)) 215 (0,0))):=jA;have JX:Hid (w2.heap[wo.heap.size]?=some (.cells #[I a.page,I a.bC,I a.fI,.bool a.zero] 47 (0,0))):=jX;have JB:Hid (Below w.heap.size w w2):=IB.o.trans (hb2.mono IB.o.size);clear jR jA jX hb2 x0 x1 x2 x3;have adO:(n:Int)<256:=by omega
       go_wp2;go_roundw
       case rel =>
        refine⟨n+1,by omega,by omega,by go_num,iM (iM (iM JR.o _ _ _ (by omega)) _ _ _ (by omega)) _ _ _ (by omega),?_,iM (iM (iM JX.o _ _ _ (by omega)) _ _ _ (by omega)) _ _ _ (by omega),((JB.o.setCell (by simp) _).setCell (by simp) _).setCell (by simp) _⟩;have h:=dD (dD (dD JA.o (n*3) (.bool true)) (n*3+1) (I a.fI)) (n*3+2) (.bool a.zero);rw[Eb (iq (b9 l k) a n) n ⟨true,a.fI,a.zero⟩ (by omega),D9 _ _ _ hn1] at h;rw[show((n+1:Nat):Int)=(n:Int)+1 from by omega];exact h
       case measure=>simp[intOf];omega
     · have hend:(n:Int)=a.page+a.bC:=by omega
       have HE:Hid ((n:Int)=a.page+a.bC):=hend;clear hend;go_wp2_with fail
       refine(nW _ _ _ _ _ (by omega) (by omega)).mono ?_;rintro e w2 ⟨rfl,hb2⟩;have JR:Hid (w2.heap[w.heap.size]?=some (.cells Z 215 (0,0))):=aQ IR.o hb2 (by omega);have JA:Hid (w2.heap[w.heap.size+1]?=some (.cells (dC (iq (b9 l k) a n)) 215 (0,0))):=aQ IA.o hb2 (by omega);have JB:Hid (Below w.heap.size w w2):=IB.o.trans (hb2.mono IB.o.size);clear hb2 x0 x1 x2 x3;go_wp2;go_roundw
       case rel =>
        refine⟨k+1,by omega,by go_num,JR.o,?_,JB.o⟩;have h:=JA.o;rw[HE.o] at h;show _=some (Obj.cells (dC (iq (b9 l k) (bl l k) (bl l k).mW)) 215 (0,0));rw[<- HAr.o];exact h
       case measure=>simp[intOf];omega
  · obtain rfl:k=l.length:=by omega
    have hZs:Z.size=768:=by rw[HZ.o];exact jh _
    clear hR hA hb;go_wp2_with (first | (refine vq rfl 215 _ rfl (w.heap.size+1) rfl 215 _ (0,0) _ HA.o Tryz.underlying215 rfl (by rw[jh];exact qC) ?_) | (refine xD rfl 215 _ _ rfl w.heap.size _ rfl rfl 215 Z HR.o (by rw[jh];exact qC) (by rw[hZs,jh]) (yO _) ?_))
    exact cm (v:=.agg (dC (b9 l l.length))) (results_cell_row rfl _ _ w.heap.size 215 _ (0,0) _ rfl (oP _ _ _ _ 215 (0,0) HR.o) Tryz.underlying215 rfl (by rw[jh];exact qC)) rfl ⟨rfl,below_setRow HB.o (aI _) _⟩
theorem Ox (ao:Option Addr) (cap:Nat) (w:World) :
  Calls Tryz.prog 156 #[.slice ao 0 cap] w fun e w'=>e=.returned (.agg (dC (eK [])))/\Below w.heap.size w w':=by
 obtain⟨Z,hZ⟩:=ex (dC (fun _=>gS));have hz:=Sg;rw[<- hZ] at hz;have hZs:Z.size=768:=by grind [jh]
 have HZ:Hid (Z=dC (fun _=>gS)):=hZ;clear hZ;have HR:Hid (((w.alloc (.cells Z 215)).alloc (.cells Z 215)).heap[w.heap.size]?=some (.cells Z 215 (0,0))):=bM (bO w Z 215) _;have HA:Hid (((w.alloc (.cells Z 215)).alloc (.cells Z 215)).heap[w.heap.size+1]?=some (.cells Z 215 (0,0))):=by
  grind [World.alloc]
 go_enter Tryz.func156,Tryz.ntmps156;go_wp2;refine vo 1 ?_;rw[vg];go_wp2_with (first | (refine vq rfl 215 _ rfl (w.heap.size+1) rfl 215 _ (0,0) _ HA.o Tryz.underlying215 rfl (by grind [qC]) ?_) | (refine xD rfl 215 _ _ rfl w.heap.size _ rfl rfl 215 Z HR.o (by rw[hZs];exact qC) rfl (by grind [yO,Hid.o]) ?_))
 exact cm (v:=.agg Z) (results_cell_row rfl _ _ w.heap.size 215 _ (0,0) _ rfl (oP _ _ _ _ 215 (0,0) HR.o) Tryz.underlying215 rfl (by grind [qC])) rfl ⟨by rw[HZ.o];rfl,below_setRow (((aK _ _).alloc (aI _) _).alloc (by simp) _) (aI _) _⟩
open Go.RowKit
theorem MT (F:Nat->di) (k:Nat) (hk:k<256):(dC F).extract (k*3) (k*3+3)=#[.bool (F k).m,I (F k).p,.bool (F k).z]:=by
 apply Array.ext_getElem?;intro j;have hs:=jh F;rw[Array.getElem?_extract,hs]
 match j with
 | 0=>grind [s8]
 | 1=>grind [s7]
 | 2=>grind [s6]
 | j+3=>grind
def fO (F:Nat->di):Nat->di
 | 0=>gS
 | k+1=>F k
def oh (a b:di):Bool:=a.m==b.m&&(a.p==b.p&&a.z==b.z)
def uB (G:List aZ):List aZ:=G.set (G.length-1) ⟨(bl G (G.length-1)).page,(bl G (G.length-1)).bC+1,(bl G (G.length-1)).fI,(bl G (G.length-1)).zero⟩
def bY (F:Nat->di):Nat->List aZ
 | 0=>[]
 | k+1=>if (F k).m=false then bY F k else if oh (F k) (fO F k) then uB (bY F k) else bY F k++[⟨(k:Int),1,(F k).p,(F k).z⟩]
def gw (F:Nat->di):List aZ:=bY F 256
def mU (a:aZ):List Value:=[I a.page,I a.bC,I a.fI,.bool a.zero]
def bZ:List aZ->List Value
 | []=>[]
 | a::r=>mU a++bZ r
theorem qI:∀G:List aZ,(bZ G).length=G.length*4
 | []=>rfl
 | a::r=>by simp[bZ,mU,qI r];omega
theorem qJ:∀G H:List aZ,bZ (G++H)=bZ G++bZ H
 | [],H=>rfl
 | a::r,H=>by simp[bZ,qJ r H]
theorem kg:∀(G:List aZ) (i j:Nat),i<G.length->j<4->(bZ G)[i*4+j]?=(mU (bl G i))[j]?
 | [],i,j,h,_=>by simp at h
 | a::r,0,j,h,hj=>by
  grind [bZ,mU,bl]
 | a::r,i+1,j,h,hj=>by
  simp only[bZ];rw[E8 (by simp[mU];omega),show(i+1)*4+j-(mU a).length=i*4+j from by grind [mU],kg r i j (by grind) hj];rfl
theorem tW:∀(G:List aZ) (i:Nat) (n:Int),i<G.length->bZ (G.set i ⟨(bl G i).page,n,(bl G i).fI,(bl G i).zero⟩)=(bZ G).set (i*4+1) (I n)
 | [],i,n,h=>by simp at h
 | a::r,0,n,h=>by rfl
 | a::r,i+1,n,h=>by
  simp only[bZ,bH];rw[vv _ _ (by simp[mU];omega),show(i+1)*4+1-(mU a).length=i*4+1 from by grind [mU]];have e:=tW r i n (by grind)
  grind [bl]
theorem p8 (G:List aZ):(uB G).length=G.length:=by simp[uB]
theorem oH:∀(G:List aZ),∀v∈bZ G,v.oneCell'=true
 | [],v,h=>by grind [bZ]
 | a::r,v,h=>by
  simp only[bZ,mU,Kj,CW,xB] at h;rcases h with rfl | rfl | rfl | rfl | h
  · rfl
  · rfl
  · rfl
  · rfl
  · exact oH r v h
theorem pM (G H:List aZ) (i:Nat) (h:i<G.length):bl (G++H) i=bl G i:=by grind [bl]
theorem tj (G:List aZ) (a:aZ):bl (G++[a]) G.length=a:=by simp[bl]
theorem MU (G:List aZ) (i:Nat) (a:aZ) (h:i<G.length):bl (G.set i a) i=a:=by simp[bl,h]
theorem J8 (G:List aZ) (i j:Nat) (a:aZ) (h:j≠i):bl (G.set i a) j=bl G j:=by grind [bl]
theorem pD (F:Nat->di):∀k,(bY F k).length<=k
 | 0=>by simp[bY]
 | k+1=>by
  have ih:=pD F k
  grind [bY,p8]
theorem xw (F:Nat->di):∀k,(fO F k).m=true->0<(bY F k).length
 | 0,h=>by grind [fO,gS]
 | k+1,h=>by
  have h':(F k).m=true:=h;simp only[bY,h'];rw[bf (by simp)];split
  · rename_i he
    have hm:(fO F k).m=true:=by
     grind [oh]
    rw[p8];exact xw F k hm
  · simp
theorem uX (F:Nat->di):∀k,∀i,i<(bY F k).length->1<=(bl (bY F k) i).bC/\(bl (bY F k) i).bC<=k
 | 0,i,h=>by grind [bY]
 | k+1,i,h=>by
  have ih:=uX F k
  grind [bY,uB,MU,J8,pM,tj]
theorem EO (a b:di) (h:oh a b=true):a=b:=by
 cases a;simp_all [oh]
theorem MO (a b:di) (h:oh a b=false):(a.m==b.m)=false∨((a.m==b.m)=true/\(a.p==b.p)=false)∨((a.m==b.m)=true/\(a.p==b.p)=true/\(a.z==b.z)=false):=by
 grind [oh]
open Go.RowKit
theorem XL (F:Nat->di) (k:Nat) (hk:k<256) (w:World):(Instr.index 215 (.agg (dC F)) (I k)).run Tryz.prog w=.ok (.agg #[.bool (F k).m,I (F k).p,.bool (F k).z]) w:=by
 simp[Instr.index,E1 Tryz.underlying215,go_sem]
 grind [MT]
theorem PL:(Tryz.prog.info? 47).map (fun i=>(i.zero,i.size,i.bytes))=some (some (.agg #[I 0,I 0,I 0,.bool false]),4,32):=by rfl
def fu (w:World) (v:Value) (l:List aZ):Prop:=∃ao cap,v=.slice ao l.length cap/\(l=[]∨∃b off,ao=some (Ad b off)/\oI w b off l)
theorem CM {w wx:World} {v:Value} {n:Nat} {xs:List Value} {C:Array Value} (hC:C.size=3) (hown:wx.ownsRow (w.heap.size+2) 47 4 v n xs) (hl:wx.heap[w.heap.size+1]?=some (.cells C 173 (0,0))) (hb:Below w.heap.size w wx) (x y z:Value) :
  (((wx.setCell (Ad (w.heap.size+1) 0) x).setCell (Ad (w.heap.size+1) 1) y).setCell (Ad (w.heap.size+1) 2) z).ownsRow (w.heap.size+2) 47 4 v n xs /\
  (((wx.setCell (Ad (w.heap.size+1) 0) x).setCell (Ad (w.heap.size+1) 1) y).setCell (Ad (w.heap.size+1) 2) z).heap[w.heap.size+1]?=some (.cells #[x,y,z] 173 (0,0)) /\
  Below w.heap.size w (((wx.setCell (Ad (w.heap.size+1) 0) x).setCell (Ad (w.heap.size+1) 1) y).setCell (Ad (w.heap.size+1) 2) z):=by
 refine⟨CY (CY (CY hown (by simp) _) (by simp) _) (by simp) _,?_,((hb.setCell (by simp) _).setCell (by simp) _).setCell (by simp) _⟩;rw[dD (dD (dD hl 0 x) 1 y) 2 z];congr 2
 match C,hC with
 | ⟨[a,b,c]⟩,_=>rfl
def gQ (lo:Nat) (w:World) (v:Value) (l:List aZ):Prop:=w.ownsRow lo 47 4 v l.length (bZ l)
theorem gQ.nil (lo:Nat) (w:World):gQ lo w Nl []:=jz _ _ _ _
theorem gQ.mono {lo lo':Nat} {w:World} {v:Value} {l:List aZ} (h:gQ lo w v l) (hl:lo'<=lo):gQ lo' w v l:=by
 refine⟨h.1,?_⟩;rcases h.2 with h2 | ⟨g,cap,cur,hv,hbg,rest⟩
 · grind
 · exact .inr ⟨g,cap,cur,hv,gy hl hbg,rest⟩
theorem gQ.has {lo:Nat} {w:World} {v:Value} {l:List aZ} (h:gQ lo w v l):fu w v l:=by
 rcases h.2 with⟨hv,h0⟩ | ⟨g,cap,cur,hv,hbg,hg,hnc,hcm,hcs,htake⟩
 · exact⟨none,0,by grind,.inl (iT h0)⟩
 · have ho:=h;unfold gQ at ho;rw[hv] at ho;refine⟨some (Ad g 0),cap,hv,.inr ⟨g,0,rfl,fun i hi=>?_⟩⟩;rw[gM];exact⟨(ho.cellAt _ (by omega)).trans (kg _ i 0 hi (by omega)),(ho.cellAt _ (by omega)).trans (kg _ i 1 hi (by omega)),(ho.cellAt _ (by omega)).trans (kg _ i 2 hi (by omega)),(ho.cellAt _ (by omega)).trans (kg _ i 3 hi (by omega))⟩
theorem OC (F:Nat->di) (w:World) :
  Calls Tryz.prog 157 #[.agg (dC F)] w fun e w'=>∃v,e=.returned v/\gQ w.heap.size w' v (gw F)/\Below w.heap.size w w':=by
 have JE:=XL F;obtain⟨C,hC⟩:=ex (dC F);have hCs:C.size=768:=by grind [jh]
 rw[<- hC] at JE ⊢;clear hC;obtain⟨i0,hi,hz0,hz1,hz2⟩:=gm PL;have HX:Hid (((w.alloc (.cells C 215)).alloc (.cells #[.bool false,I 0,.bool false] 173)).heap[w.heap.size]?=some (.cells C 215 (0,0))):=bM (bO w C 215) _;have HL:Hid (((w.alloc (.cells C 215)).alloc (.cells #[.bool false,I 0,.bool false] 173)).heap[w.heap.size+1]?=some (.cells #[.bool false,I 0,.bool false] 173 (0,0))):=by
  grind [World.alloc]
 have eU:Hid (Below w.heap.size w ((w.alloc (.cells C 215)).alloc (.cells #[.bool false,I 0,.bool false] 173))):=((aK _ _).alloc (aI _) _).alloc (by simp) _;go_enter Tryz.func157,Tryz.ntmps157;go_wp2_with (first | (refine vq rfl 215 _ rfl w.heap.size rfl 215 _ (0,0) _ HX.o Tryz.underlying215 rfl (by grind [qC]) ?_))
 go_loopw [3,8] (fun v i wr=>∃k:Nat,k<=256/\i=I k/\wr.ownsRow (w.heap.size+2) 47 4 v (bY F k).length (bZ (bY F k))/\wr.heap[w.heap.size+1]?=some (.cells #[.bool (fO F k).m,I (fO F k).p,.bool (fO F k).z] 173 (0,0))/\Below w.heap.size w wr) (fun _ i _=>256-(intOf i).toNat)
 case atStart=>exact⟨0,by omega,rfl,jz _ _ _ _,HL.o,eU.o⟩
 case round =>
  obtain⟨k,hk,rfl,hown,hl,hb⟩:=hrel;have HO:Hid (wr.ownsRow (w.heap.size+2) 47 4 u3 (bY F k).length (bZ (bY F k))):=hown;have HLr:Hid (wr.heap[w.heap.size+1]?=some (.cells #[.bool (fO F k).m,I (fO F k).p,.bool (fO F k).z] 173 (0,0))):=hl;have HB:Hid (Below w.heap.size w wr):=hb;have hsz:w.heap.size+1<wr.heap.size:=aT hl;have l0:=aB hl 0 rfl;have l1:=aB hl 1 rfl;have l2:=aB hl 2 rfl;have lf:=aO hl;clear hown hl hb;by_cases hlt:k<256
  · have hx:=fun W=>JE k hlt W
    have JC:(k:Int)<256:=by omega
    obtain⟨s,hs⟩:=ex (F k);obtain⟨t,ht⟩:=ex (fO F k);rw[<- hs] at hx;rw[<- ht] at l0 l1 l2;have HS:Hid (s=F k):=hs;have HT:Hid (t=fO F k):=ht;clear hs ht JE;by_cases hm:s.m=true
    · by_cases he:oh s t=true
      · have hst:s=t:=EO s t he;have HG:Hid (bY F (k+1)=uB (bY F k)):=by show _=_;simp only[bY];rw[<- HS.o,<- HT.o,hm,he];rfl
        have hpos:=xw F k (by rw[<- HT.o,<- hst];exact hm);have hlen:=pD F k;obtain⟨G,hG⟩:=ex (bY F k);have Vf:=uX F k ((bY F k).length-1) (by omega);rw[<- hG] at HO HG hpos hlen Vf;clear hG;rcases HO.o.2 with⟨_,h0⟩ | ⟨g,cap,cur,hv,hbg,hg,hnc,hcm,hcs,htake⟩
        · omega
        · have AZ:=HO.o;rw[hv] at AZ;have p1:wr.cell? ⟨g,(G.length-1)*4+1,none⟩=some (I (bl G (G.length-1)).bC):=by
           rw[AZ.cellAt _ (by omega),kg G _ 1 (by omega) (by omega)];rfl
          have pf:=AZ.frozenAt;have HOv:Hid (wr.ownsRow (w.heap.size+2) 47 4 (.slice (some (Ad g 0)) G.length cap) G.length (bZ G)):=AZ;have hgl:g<wr.heap.size:=aT hg;rw[hv];clear HO AZ hv hg htake hcs he;obtain⟨pp,Jz⟩:=ex ((bl G (G.length-1)).bC);rw[<- Jz] at p1 Vf;have HP:Hid (pp=(bl G (G.length-1)).bC):=Jz;clear Jz;subst hst;have hG2:(G.length:Int)<=256:=by omega
          go_wp2;go_roundw
          case rel =>
           have ho:=(HOv.o.stored ((G.length-1)*4+1) (I (pp+1))).1;have e:(bZ G).set ((G.length-1)*4+1) (I (pp+1))=bZ (uB G):=by
            rw[HP.o];exact(tW G (G.length-1) _ (by omega)).symm
           rw[e] at ho;have h:=CM rfl ho (iM HLr.o _ _ _ (by omega)) (HB.o.setCell (by simp;omega) _) (.bool true) (I s.p) (.bool s.z);refine⟨k+1,by omega,by go_num,?_,?_,h.2.2.alloc h.2.2.size _⟩
           · rw[HG.o,p8];exact h.1.alloc _
           · show _=some (Obj.cells #[.bool (F k).m,I (F k).p,.bool (F k).z] 173 (0,0));rw[<- HS.o,hm];exact bM h.2.1 _
          case measure=>simp[intOf];omega
      · have he':oh s t=false:=by simpa using he
        have HG:Hid (bY F (k+1)=bY F k++[⟨(k:Int),1,s.p,s.z⟩]):=by show _=_;simp only[bY];rw[<- HS.o,<- HT.o,hm,he'];rfl
        have hlen:=pD F k;obtain⟨G,hG⟩:=ex (bY F k);rw[<- hG] at HO HG hlen;clear hG he;have hrow:Hid (∀j,u3.ownBlock=some j->w.heap.size+2<=j/\j<wr.heap.size):=HO.o.lt;have aaw:=MO s t he';obtain⟨sm,sp,sz⟩:=s;obtain⟨tm,tp,tz⟩:=t;simp only at hm aaw l0 l1 l2 HG;subst hm;have HN:Hid (((wr.alloc (.cells #[.bool true,I sp,.bool sz] 173)).alloc (.cells #[I (k:Int),I 1,I sp,.bool sz] 47)).heap[wr.heap.size+1]?=some (.cells #[I (k:Int),I 1,I sp,.bool sz] 47 (0,0))):=by
         have:=bO (wr.alloc (.cells #[.bool true,I sp,.bool sz] 173)) #[I (k:Int),I 1,I sp,.bool sz] 47;show _=_;simpa using this
        have ahI:tm=false∨(tm=true/\(sp==tp)=false)∨(tm=true/\sp=tp/\tz=!sz):=by
         cases tm
         · exact .inl rfl
         · rcases aaw with q | ⟨_,q⟩ | ⟨_,q1,q2⟩
           · cases q
           · exact .inr (.inl ⟨rfl,q⟩)
           · refine .inr (.inr ⟨rfl,by simpa using q1,?_⟩);cases sz <;> cases tz <;> first | rfl | cases q2
        clear he' aaw;rcases ahI with rfl | ⟨rfl,q⟩ | ⟨rfl,rfl,rfl⟩
        all_goals
         go_wp2_with (at_builtin;refine E4 _ rfl _ _ 28 rfl (w.heap.size+2) 47 i0 (.agg #[I 0,I 0,I 0,.bool false]) 4 32 Tryz.underlying28 hi hz0 hz1 hz2 rfl (by decide) _ _ _ rfl ((HO.o.alloc _).alloc _) (Ad (wr.heap.size+1) 0) 1 1 [I (k:Int),I 1,I sp,.bool sz] rfl rfl (tT HN.o) (oH [⟨(k:Int),1,sp,sz⟩]) (by decide) (by unfold maxLen;omega) (by omega) (by simp;omega) (wr.heap.size+2) (by simp) ?_)
         intro g cap w1 hown1 hgrow hat alH;have bS:=G7 (bM (bO wr #[.bool true,I sp,.bool sz] 173) (.cells #[I (k:Int),I 1,I sp,.bool sz] 47)) hgrow (fun e=>by have:=hrow.out _ e.symm;omega);have bL:=G7 (bM (bM HLr.o (.cells #[.bool true,I sp,.bool sz] 173)) (.cells #[I (k:Int),I 1,I sp,.bool sz] 47)) hgrow (fun e=>by have:=hrow.out _ e.symm;omega);have b0:=aB bS 0 rfl;have b1:=aB bS 1 rfl;have b2:=aB bS 2 rfl;have m0:=aB bL 0 rfl;have m1:=aB bL 1 rfl;have m2:=aB bL 2 rfl;have mf:=aO bL;have HO1:Hid (w1.ownsRow (w.heap.size+2) 47 4 (Value.slice (some (Ad g 0)) (G.length+1) cap) (G.length+1) (bZ G++[I (k:Int),I 1,I sp,.bool sz])):=hown1;have Xq:Hid (w1.heap[w.heap.size+1]?=some (.cells #[.bool (fO F k).m,I (fO F k).p,.bool (fO F k).z] 173 (0,0))):=bL;have dz:Hid (Below w.heap.size w w1):=((HB.o.alloc HB.o.size _).alloc (by simp;omega) _).grown hgrow (by simp;omega) (fun k' e=>by have:=hrow.out _ e;omega);clear bS bL hown1 hgrow hat l0 l1 l2 lf;go_wp2;go_roundw
         case rel =>
          have h:=CM rfl HO1.o Xq.o dz.o (.bool true) (I sp) (.bool sz);refine⟨k+1,by omega,by go_num,?_,?_,h.2.2⟩
          · rw[HG.o,fk,qJ];exact h.1
          · show _=some (Obj.cells #[.bool (F k).m,I (F k).p,.bool (F k).z] 173 (0,0));rw[<- HS.o];exact h.2.1
         case measure=>simp[intOf];omega
    · have hm':s.m=false:=by simpa using hm
      have HG:Hid (bY F (k+1)=bY F k):=by show _=_;simp only[bY];rw[<- HS.o,hm'];rfl
      clear hm;go_wp2;go_roundw
      case rel =>
       have h:=CM rfl HO.o HLr.o HB.o (.bool false) (I s.p) (.bool s.z);refine⟨k+1,by omega,by go_num,?_,?_,h.2.2.alloc h.2.2.size _⟩
       · rw[HG.o];exact h.1.alloc _
       · show _=some (Obj.cells #[.bool (F k).m,I (F k).p,.bool (F k).z] 173 (0,0));rw[<- HS.o,hm'];exact bM h.2.1 _
      case measure=>simp[intOf];omega
  · obtain rfl:k=256:=by omega
    go_wp2;go_ret;refine⟨_,rfl,?_,HB.o⟩;exact gQ.mono (lo:=w.heap.size+2) HO.o (by omega)
open Go.RowKit
def fh (q:Int) (s:di):di×Int:=if s.m then (s,5) else (⟨true,q,true⟩,0)
def U8 (s:di):Value:=.agg #[.bool s.m,I s.p,.bool s.z]
theorem U4 (s:di) (q:Int) (P:Nat) (w:World) (hP:w.cell? (Ad P 0)=some (I q)) :
  Calls Tryz.prog 122 #[.agg #[.bool s.m,I s.p,.bool s.z],.pointer (some (Ad P 0))] w fun e w'=>e=.returned (.tuple #[U8 (fh q s).1,I (fh q s).2])/\Below w.heap.size w w':=by
 have hPl:P<w.heap.size:=oc w _ hP;obtain⟨m,p,z⟩:=s;cases m
 · go_enter Tryz.func122,Tryz.ntmps122;go_wp2;exact cm (v:=.tuple #[.agg #[.bool true,I q,.bool true],I 0]) (by simp[results,Tryz.results122,go_sem]) rfl ⟨rfl,((aK _ _).alloc (aI _) _).alloc (by simp) _⟩
 · go_enter Tryz.func122,Tryz.ntmps122;go_wp2;exact cm (v:=.tuple #[.agg #[.bool true,I p,.bool z],I 5]) (by simp[results,Tryz.results122,go_sem]) rfl ⟨rfl,((aK _ _).alloc (aI _) _).alloc (by simp) _⟩
theorem fu.below {w w':World} {v:Value} {l:List aZ} (h:fu w v l) (hb:Below w.heap.size w w'):fu w' v l:=by
 obtain⟨ao,cap,rfl,h⟩:=h;rcases h with rfl | ⟨b,off,rfl,hl⟩
 · exact⟨ao,cap,rfl,.inl rfl⟩
 · exact⟨_,cap,rfl,.inr ⟨b,off,rfl,hl.below hb⟩⟩
def fU (l:List aZ):Prop:=(∀i,i<l.length->wa (bl l i))/\l.length<=140737488351232
theorem qE (l:List aZ) (v:Value) (w:World) (h:fu w v l) (hf:fU l) :
  Calls Tryz.prog 98 #[v] w fun e w'=>e=.returned (I (bB l))/\Below w.heap.size w w':=by
 obtain⟨ao,cap,rfl,h⟩:=h;rcases h with rfl | ⟨b,off,rfl,hl⟩
 · exact Ap ao cap w
 · exact qY l b off cap w hl hf.1 hf.2
theorem Ao (l:List aZ) (v:Value) (w:World) (h:fu w v l) (hf:fU l) :
  Calls Tryz.prog 54 #[v] w fun e w'=>e=.returned (I (dU l))/\Below w.heap.size w w':=by
 obtain⟨ao,cap,rfl,h⟩:=h;rcases h with rfl | ⟨b,off,rfl,hl⟩
 · exact Si ao cap w
 · exact Ow l b off cap w hl hf.1 hf.2
theorem uN (l:List aZ) (v:Value) (p:Int) (w:World) (h:fu w v l) (hf:fU l) :
  Calls Tryz.prog 70 #[v,I p] w fun e w'=>e=.returned (.tuple #[.agg (jU (bh l p).1),.bool (bh l p).2])/\Below w.heap.size w w':=by
 obtain⟨ao,cap,rfl,h⟩:=h;rcases h with rfl | ⟨b,off,rfl,hl⟩
 · exact U6 ao cap p w
 · exact Sn l b off cap p w hl hf.1 hf.2
theorem Oy (l:List aZ) (v:Value) (w:World) (h:fu w v l) (hc:bB l=0) :
  Calls Tryz.prog 156 #[v] w fun e w'=>e=.returned (.agg (dC (eK l)))/\Below w.heap.size w w':=by
 obtain⟨ao,cap,rfl,h⟩:=h;rcases h with rfl | ⟨b,off,rfl,hl⟩
 · exact Ox ao cap w
 · exact MF l b off cap w hl hc
open Go.RowKit
theorem ai {p:Prop} (h:p):Hid p:=h
theorem cd {w w1 w2:World} (h1:Below w.heap.size w w1) (h2:Below w1.heap.size w1 w2):Below w.heap.size w w2:=h1.trans (h2.mono h1.size)
def qB (way:Int):Int:=if way=1 then 1 else if way=2 then 2 else 0
theorem GZ (way:Int) (w:World):Calls Tryz.prog 140 #[I way] w fun e w'=>e=.returned (I (qB way))/\w=w':=by
 unfold qB;by_cases h1:way=1
 · subst h1;go_enter Tryz.func140,Tryz.ntmps140;go_wp2;go_ret
   simp_all
 · rw[bf h1];have h1i:(way==1)=false:=by grind
   by_cases h2:way=2
   · subst h2;go_enter Tryz.func140,Tryz.ntmps140;go_wp2;go_ret
     simp_all
   · rw[bf h2];have h2i:(way==2)=false:=by grind
     clear h1 h2;go_enter Tryz.func140,Tryz.ntmps140;go_wp2;go_ret
     simp_all
theorem DY (p way:Int) (h0:0<=p) (h3:p<=3):(bits BinOp.and IntKind.i64 p (qB way)==qB way)=!(l8 p way):=by
 have hp:p=0∨p=1∨p=2∨p=3:=by omega
 unfold qB l8;by_cases h1:way=1
 · subst h1;rcases hp with rfl | rfl | rfl | rfl <;> decide
 · by_cases h2:way=2
   · subst h2;rcases hp with rfl | rfl | rfl | rfl <;> decide
   · rw[bf h1,bf h2];simp only[h1,h2,false_and,or_self,decide_false,EZ];rcases hp with rfl | rfl | rfl | rfl <;> decide
end Go.Proofs.YtpgifpeohlllfaaGreat
