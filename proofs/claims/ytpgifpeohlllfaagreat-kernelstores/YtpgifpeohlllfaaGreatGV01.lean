import Derived.Test.YtpgifpeohlllfaaGreatGV00
import Derived.Deep.WholeRow
import Derived.Laws.CopyOwn
import Derived.Lib.Hide
import Derived.Deep.CutBlock
import Derived.Deep.DeepCutAuto
set_option maxHeartbeats 20000000
set_option linter.unusedVariables false
set_option maxRecDepth 100000
set_option linter.unusedSimpArgs false
namespace Go.Proofs.YtpgifpeohlllfaaGreat
namespace Go.Proofs.YtpgifpeohlllfaaGreat
open Go.RowKit
def kY (a:bc):Array Value:=#[I a.page,I a.aR,I a.fV,.bool a.zero]
theorem Wx (l:List bc) (b off cap:Nat) (p:Int) (w:World) (hl:qc w b off l) (hf:∀i,i<l.length->yr (bB l i)) (hn:l.length<=140737488351232) :
  Calls Tryz.prog 70 #[.slice (some (Ad b off)) l.length cap,I p] w fun e w'=>e=.returned (.tuple #[.agg (kY (aV l p).1),.bool (aV l p).2])/\Below w.heap.size w w':=by
 have hbz:Below w.heap.size w (w.alloc (.cells #[I 0,I 0,I 0,.bool false] 47)):=(aK _ _).alloc (aM _) _;by_cases hc:br l=0
 · have hlen:=kg l hc;have HC:Hid (aV l p=bT l p):=by show _=_;grind [aV]
   have HK:Hid (br l=0):=hc;go_enter Tryz.func70,Tryz.ntmps70;go_wp2_with fail
   refine(tB l b off cap _ (hl.below hbz) hf hn).mono ?_;rintro e w1 ⟨rfl,hb1⟩;rw[hc];clear hc;go_wp2;go_loopw [14] (fun i wr=>∃k:Nat,k<=l.length/\i=I k/\(∀j,j<k->gU (bB l j) p=false)/\Below (w.heap.size+1) (w.alloc (.cells #[I 0,I 0,I 0,.bool false] 47)) wr) (fun i _=>l.length-(intOf i).toNat)
   case atStart=>exact⟨0,by omega,rfl,fun j hj=>by omega,hb1.mono (by simp)⟩
   case round =>
    obtain⟨k,hk,rfl,hno,hb⟩:=hrel;have HN:Hid (∀j,j<k->gU (bB l j) p=false):=hno;have iF:Hid (Below w.heap.size w wr):=hbz.trans (hb.mono (xL _));have hsz:w.heap.size+1<=wr.heap.size:=by have:=hb.size;simpa using this
    have hlr:=hl.below iF.out;have hR:wr.heap[w.heap.size]?=some (.cells #[I 0,I 0,I 0,.bool false] 47 (0,0)):=aQ (bG w _ _) hb (Fs _);have HR:Hid (wr.heap[w.heap.size]?=some (.cells #[I 0,I 0,I 0,.bool false] 47 (0,0))):=hR;have HB:Hid (Below (w.heap.size+1) (w.alloc (.cells #[I 0,I 0,I 0,.bool false] 47)) wr):=hb;clear hR hb;clear hno hb1;by_cases hlt:k<l.length
    · obtain⟨c0,c1,c2,c3⟩:=hlr k hlt;have hbk:=gH l k (gm l HK.o k hlt);obtain⟨a,ha⟩:=ex (bB l k);rw[<- ha] at c0 c1 c2 c3 hbk;have HA:Hid (a=bB l k):=ha;clear ha;by_cases h1:a.page<=p
      · by_cases h2:p<a.page+a.aR
        · have hres:Hid (aV l p=(a,true)):=by
           show _=_;rw[HC.o,p9 l p k hlt HN.o (by rw[<- HA.o];simp[gU,bc.oV,h1,h2]),<- HA.o]
          go_wp2_with fail
          refine(pF _ _ _ _ _ (by omega) (by omega)).mono ?_;rintro e w2 ⟨rfl,hb2⟩;have WI:=aQ (bG wr #[I a.page,I a.aR,I a.fV,.bool a.zero] 47) hb2 (by simp);have OC:=aQ (bE HR.o _) hb2 (by simp;omega);have s0:=aB WI 0 rfl;have s1:=aB WI 1 rfl;have s2:=aB WI 2 rfl;have s3:=aB WI 3 rfl;have t0:=aB OC 0 rfl;have t1:=aB OC 1 rfl;have t2:=aB OC 2 rfl;have t3:=aB OC 3 rfl;have u0:=aJ OC;have hbe:Hid (Below w.heap.size w w2):=(iF.out.alloc iF.out.size _).trans (hb2.mono (by simp;omega));clear hb2 WI OC;go_wp2;exact bR (v:=.tuple #[.agg #[I a.page,I a.aR,I a.fV,.bool a.zero],.bool true]) (by simp[results,Tryz.results70,go_sem,t0,t1,t2,t3]) rfl ⟨by rw[hres.out];rfl,(((hbe.out.setCell (aM _) _).setCell (aM _) _).setCell (aM _) _).setCell (aM _) _⟩
        · have Dp:Hid (gU (bB l k) p=false):=by show _=_;rw[<- HA.o];unfold gU bc.oV;grind
          go_wp2_with fail
          refine(pF _ _ _ _ _ (by omega) (by omega)).mono ?_;rintro e w2 ⟨rfl,hb2⟩;have hbe:Hid (Below (w.heap.size+1) (w.alloc (.cells #[I 0,I 0,I 0,.bool false] 47)) w2):=(HB.o.alloc (by omega) _).trans (hb2.mono (by simp;omega));clear hb2;go_wp2;go_roundw
          case rel=>exact⟨k+1,by omega,by go_num,fun j hj=>if e:j=k then by rw[e];exact Dp.out else HN.o j (by omega),hbe.out⟩
          case measure=>simp[intOf];omega
      · have Dp:Hid (gU (bB l k) p=false):=by show _=_;rw[<- HA.o];unfold gU bc.oV;grind
        go_wp2;go_roundw
        case rel=>exact⟨k+1,by omega,by go_num,fun j hj=>if e:j=k then by rw[e];exact Dp.out else HN.o j (by omega),HB.o.alloc (by omega) _⟩
        case measure=>simp[intOf];omega
    · obtain rfl:k=l.length:=by omega
      have hres:Hid (aV l p=(tZ,false)):=by show _=_;rw[HC.o,p8 l p HN.o]
      have t0:=aB HR.o 0 rfl;have t1:=aB HR.o 1 rfl;have t2:=aB HR.o 2 rfl;have t3:=aB HR.o 3 rfl;have u0:=aJ HR.o;go_wp2;exact bR (v:=.tuple #[.agg #[I 0,I 0,I 0,.bool false],.bool false]) (by simp[results,Tryz.results70,go_sem,t0,t1,t2,t3]) rfl ⟨by rw[hres.out];rfl,(((iF.out.setCell (aM _) _).setCell (aM _) _).setCell (aM _) _).setCell (aM _) _⟩
 · have HC:Hid (aV l p=(tZ,false)):=by show _=_;grind [aV]
   have hc':(br l != 0)=true:=by grind
   go_enter Tryz.func70,Tryz.ntmps70;go_wp2_with fail
   refine(tB l b off cap _ (hl.below hbz) hf hn).mono ?_;rintro e w1 ⟨rfl,hb1⟩;have DR:=aQ (bG w #[I 0,I 0,I 0,.bool false] 47) hb1 (by simp);have t0:=aB DR 0 rfl;have t1:=aB DR 1 rfl;have t2:=aB DR 2 rfl;have t3:=aB DR 3 rfl;have u0:=aJ DR;clear DR;go_wp2;exact bR (v:=.tuple #[.agg #[I 0,I 0,I 0,.bool false],.bool false]) (by simp[results,Tryz.results70,go_sem,t0,t1,t2,t3]) rfl ⟨by rw[HC.o];rfl,((((hbz.trans (hb1.mono (by simp))).setCell (aM _) _).setCell (aM _) _).setCell (aM _) _).setCell (aM _) _⟩
theorem Zj (ao:Option Addr) (cap:Nat) (p:Int) (w:World) :
  Calls Tryz.prog 70 #[.slice ao 0 cap,I p] w fun e w'=>e=.returned (.tuple #[.agg (kY (aV [] p).1),.bool (aV [] p).2])/\Below w.heap.size w w':=by
 have hbz:Below w.heap.size w (w.alloc (.cells #[I 0,I 0,I 0,.bool false] 47)):=(aK _ _).alloc (aM _) _;have e2:br []=0:=by decide
 go_enter Tryz.func70,Tryz.ntmps70;go_wp2_with fail
 refine(Dk ao cap _).mono ?_;rintro e w1 ⟨rfl,hb1⟩;rw[e2];have DR:=aQ (bG w #[I 0,I 0,I 0,.bool false] 47) hb1 (by simp);have t0:=aB DR 0 rfl;have t1:=aB DR 1 rfl;have t2:=aB DR 2 rfl;have t3:=aB DR 3 rfl;have u0:=aJ DR;clear DR;go_wp2;refine xO 1 ?_;rw[xK];go_wp2;exact bR (v:=.tuple #[.agg #[I 0,I 0,I 0,.bool false],.bool false]) (by simp[results,Tryz.results70,go_sem,t0,t1,t2,t3]) rfl ⟨rfl,((((hbz.trans (hb1.mono (by simp))).setCell (aM _) _).setCell (aM _) _).setCell (aM _) _).setCell (aM _) _⟩
structure dH where
 m:Bool
 p:Int
 z:Bool
def gS:dH:=⟨false,0,false⟩
def B0 (s:dH):List Value:=[.bool s.m,I s.p,.bool s.z]
def qC (F:Nat->dH):Nat->List Value
 | 0=>[]
 | m+1=>qC F m++B0 (F m)
def dg (F:Nat->dH):Array Value:=(qC F 256).toArray
def Be (F:Nat->dH) (n:Nat) (s:dH):Nat->dH:=fun k=>if k=n then s else F k
theorem j6 (F:Nat->dH):∀m,(qC F m).length=m*3
 | 0=>rfl
 | m+1=>by simp[qC,j6 F m,B0];omega
theorem gB (F:Nat->dH):(dg F).size=768:=by simp[dg,j6]
theorem MM (F:Nat->dH) (n j:Nat) (hj:j<3):∀m,n<m->(qC F m)[n*3+j]?=(B0 (F n))[j]?
 | 0,h=>by omega
 | m+1,h=>by
  simp only[qC];by_cases e:n=m
  · grind [j6]
  · rw[Ua (by grind [j6])];exact MM F n j hj m (by omega)
theorem Bg (F:Nat->dH) (n j:Nat) (hn:n<256) (hj:j<3):(dg F)[n*3+j]?=(B0 (F n))[j]?:=by
 grind [dg,MM]
theorem m9 (F:Nat->dH) (n:Nat) (hn:n<256):(dg F)[n*3]?=some (.bool (F n).m):=Bg F n 0 hn (by omega)
theorem m8 (F:Nat->dH) (n:Nat) (hn:n<256):(dg F)[n*3+1]?=some (I (F n).p):=Bg F n 1 hn (by omega)
theorem m7 (F:Nat->dH) (n:Nat) (hn:n<256):(dg F)[n*3+2]?=some (.bool (F n).z):=Bg F n 2 hn (by omega)
theorem GQ (F G:Nat->dH):∀m,(∀k,k<m->F k=G k)->qC F m=qC G m
 | 0,_=>rfl
 | m+1,h=>by simp only[qC];rw[GQ F G m (fun k hk=>h k (by omega)),h m (by omega)]
theorem MK (F:Nat->dH) (n:Nat) (s:dH):∀m,n<m->(((qC F m).set (n*3) (.bool s.m)).set (n*3+1) (I s.p)).set (n*3+2) (.bool s.z)=qC (Be F n s) m
 | 0,h=>by omega
 | m+1,h=>by
  simp only[qC];by_cases e:n=m
  · subst e;rw[zO _ _ (by grind [j6]),zO _ _ (by grind [j6]),zO _ _ (by grind [j6]),j6,
     show n*3-n*3=0 from by omega,show n*3+1-n*3=1 from by omega,show n*3+2-n*3=2 from by omega]
    grind [GQ,Be,B0]
  · rw[Iu _ _ (by grind [j6]),Iu _ _ (by grind [j6]),Iu _ _ (by grind [j6]),MK F n s m (by omega)]
    grind [Be]
theorem wO (F:Nat->dH) (n:Nat) (s:dH) (hn:n<256) :
  (((dg F).setIfInBounds (n*3) (.bool s.m)).setIfInBounds (n*3+1) (I s.p)).setIfInBounds (n*3+2) (.bool s.z)=dg (Be F n s):=by
 grind [dg,MK]
theorem ML (F:Nat->dH):∀m,∀v∈qC F m,v.oneCell'=true
 | 0,v,h=>by grind [qC]
 | m+1,v,h=>by
  simp only[qC,lT] at h;rcases h with h | h
  · exact ML F m v h
  · simp only[B0,zJ,NM,or_false] at h;rcases h with rfl | rfl | rfl <;> rfl
theorem tD (F:Nat->dH):(dg F).all (·.oneCell')=true:=by
 grind [ML,dg]
def js (F:Nat->dH) (a:bc) (t:Int):Nat->dH:=fun n=>if a.page<=(n:Int)/\(n:Int)<t then ⟨true,a.fV,a.zero⟩ else F n
def cN (l:List bc):Nat->Nat->dH
 | 0=>fun _=>gS
 | k+1=>js (cN l k) (bB l k) (bB l k).oV
def cu (l:List bc):Nat->dH:=cN l l.length
theorem Fg (F:Nat->dH) (a:bc):js F a a.page=F:=by
 grind [js]
theorem GU (F:Nat->dH) (a:bc) (n:Nat) (h:a.page<=(n:Int)):Be (js F a n) n ⟨true,a.fV,a.zero⟩=js F a ((n:Int)+1):=by
 grind [Be,js]
theorem TP:(Tryz.prog.info? 215).map (fun i=>(i.zero,i.size))=some (some (.agg (dg (fun _=>gS))),768):=by kernel_rfl
theorem oh:(Tryz.prog.info? 215).map (·.size)=some 768:=(zero_of_info TP).2
theorem Ka (w:World):(zeroValue 215).run Tryz.prog w=.ok (.agg (dg (fun _=>gS))) w:=(zero_of_info TP).1 w
theorem Qv (l:List bc) (b off cap:Nat) (w:World) (hl:qc w b off l) (hc:br l=0) :
  Calls Tryz.prog 156 #[.slice (some (Ad b off)) l.length cap] w fun e w'=>e=.returned (.agg (dg (cu l)))/\Below w.heap.size w w':=by
 have hlen:=kg l hc;have HK:Hid (br l=0):=hc;clear hc;obtain⟨Z,hZ⟩:=ex (dg (fun _=>gS));have hz:=Ka;rw[<- hZ] at hz;have HZ:Hid (Z=dg (fun _=>gS)):=hZ;clear hZ;go_enter Tryz.func156,Tryz.ntmps156;go_wp2;go_loopw [9] (fun i wr=>∃k:Nat,k<=l.length/\i=I k/\wr.heap[w.heap.size]?=some (.cells Z 215 (0,0))/\wr.heap[w.heap.size+1]?=some (.cells (dg (cN l k)) 215 (0,0))/\Below w.heap.size w wr) (fun i _=>l.length-(intOf i).toNat)
 case atStart =>
  refine⟨0,by omega,rfl,bE (bG w Z 215) _,?_,((aK _ _).alloc (aM _) _).alloc (by simp) _⟩;show _=some (Obj.cells (dg (fun _=>gS)) 215 (0,0))
  grind [Hid.o,World.alloc]
 case round =>
  obtain⟨k,hk,rfl,hR,hA,hb⟩:=hrel;have HR:Hid (wr.heap[w.heap.size]?=some (.cells Z 215 (0,0))):=hR;have HA:Hid (wr.heap[w.heap.size+1]?=some (.cells (dg (cN l k)) 215 (0,0))):=hA;have HB:Hid (Below w.heap.size w wr):=hb;have hsz:w.heap.size+2<=wr.heap.size:=aO hA;by_cases hlt:k<l.length
  · obtain⟨c0,c1,c2,c3⟩:=hl.below hb k hlt;have hbk:=gH l k (gm l HK.o k hlt);obtain⟨a,ha⟩:=ex (bB l k);rw[<- ha] at c0 c1 c2 c3 hbk;have HAr:Hid (a=bB l k):=ha;clear ha hR hA hb;obtain⟨wo,hwo⟩:∃wo:World,wo=wr:=⟨_,rfl⟩;subst hwo;have hcx:(k:Int)<(l.length:Int):=by omega
    go_wp2;go_loopw [6] (fun t wi=>∃n:Nat,a.page<=(n:Int)/\(n:Int)<=a.page+a.aR/\t=I n/\wi.heap[w.heap.size]?=some (.cells Z 215 (0,0))/\wi.heap[w.heap.size+1]?=some (.cells (dg (js (cN l k) a n)) 215 (0,0))/\wi.heap[wo.heap.size]?=some (.cells #[I a.page,I a.aR,I a.fV,.bool a.zero] 47 (0,0))/\Below w.heap.size w wi) (fun t _=>(a.page+a.aR-intOf t).toNat)
    case atStart =>
     refine⟨a.page.toNat,by omega,by omega,by grind,bE HR.o _,?_,bG _ _ _,HB.o.alloc HB.o.size _⟩;rw[T5 (by omega),Fg];exact bE HA.o _
    case round =>
     obtain⟨n,SJ,zR,rfl,iR,iA,iX,ib⟩:=hrel;have IR:Hid (wr.heap[w.heap.size]?=some (.cells Z 215 (0,0))):=iR;have IA:Hid (wr.heap[w.heap.size+1]?=some (.cells (dg (js (cN l k) a n)) 215 (0,0))):=iA;have IB:Hid (Below w.heap.size w wr):=ib;have x0:=aB iX 0 rfl;have x1:=aB iX 1 rfl;have x2:=aB iX 2 rfl;have x3:=aB iX 3 rfl;have IX:Hid (wr.heap[wo.heap.size]?=some (.cells #[I a.page,I a.aR,I a.fV,.bool a.zero] 47 (0,0))):=iX;have hxs:wo.heap.size<wr.heap.size:=aO iX;clear iR iA iX ib;by_cases hin:(n:Int)<a.page+a.aR
     · go_wp2_with fail
       refine(pF _ _ _ _ _ (by omega) (by omega)).mono ?_;rintro e w2 ⟨rfl,hb2⟩;have jR:=aQ IR.o hb2 (by omega);have jA:=aQ IA.o hb2 (by omega);have jX:=aQ IX.o hb2 hxs;have y2:=aB jX 2 rfl;have y3:=aB jX 3 rfl;have z0:=aB jA (n*3) (m9 _ n (by omega));have z1:=aB jA (n*3+1) (m8 _ n (by omega));have z2:=aB jA (n*3+2) (m7 _ n (by omega));have zf:=aJ jA;have JR:Hid (w2.heap[w.heap.size]?=some (.cells Z 215 (0,0))):=jR;have JA:Hid (w2.heap[w.heap.size+1]?=some (.cells (dg (js (cN l k) a n)) 215 (0,0))):=jA;have JX:Hid (w2.heap[wo.heap.size]?=some (.cells #[I a.page,I a.aR,I a.fV,.bool a.zero] 47 (0,0))):=jX;have JB:Hid (Below w.heap.size w w2):=IB.o.trans (hb2.mono IB.o.size);clear jR jA jX hb2 x0 x1 x2 x3;have Oq:(n:Int)<256:=by omega
       go_wp2;go_roundw
       case rel =>
        refine⟨n+1,by omega,by omega,by go_num,jT (jT (jT JR.o _ _ _ (by omega)) _ _ _ (by omega)) _ _ _ (by omega),?_,jT (jT (jT JX.o _ _ _ (by omega)) _ _ _ (by omega)) _ _ _ (by omega),((JB.o.setCell (by simp) _).setCell (by simp) _).setCell (by simp) _⟩;have h:=dG (dG (dG JA.o (n*3) (.bool true)) (n*3+1) (I a.fV)) (n*3+2) (.bool a.zero);rw[wO (js (cN l k) a n) n ⟨true,a.fV,a.zero⟩ (by omega),GU _ _ _ SJ] at h;rw[show((n+1:Nat):Int)=(n:Int)+1 from by omega];exact h
       case measure=>simp[intOf];omega
     · have hend:(n:Int)=a.page+a.aR:=by omega
       have HE:Hid ((n:Int)=a.page+a.aR):=hend;clear hend;go_wp2_with fail
       refine(pF _ _ _ _ _ (by omega) (by omega)).mono ?_;rintro e w2 ⟨rfl,hb2⟩;have JR:Hid (w2.heap[w.heap.size]?=some (.cells Z 215 (0,0))):=aQ IR.o hb2 (by omega);have JA:Hid (w2.heap[w.heap.size+1]?=some (.cells (dg (js (cN l k) a n)) 215 (0,0))):=aQ IA.o hb2 (by omega);have JB:Hid (Below w.heap.size w w2):=IB.o.trans (hb2.mono IB.o.size);clear hb2 x0 x1 x2 x3;go_wp2;go_roundw
       case rel =>
        refine⟨k+1,by omega,by go_num,JR.o,?_,JB.o⟩;have h:=JA.o;rw[HE.o] at h;show _=some (Obj.cells (dg (js (cN l k) (bB l k) (bB l k).oV)) 215 (0,0));rw[<- HAr.o];exact h
       case measure=>simp[intOf];omega
  · obtain rfl:k=l.length:=by omega
    have hZs:Z.size=768:=by rw[HZ.o];exact gB _
    clear hR hA hb;go_wp2_with (first | (refine ra rfl 215 _ rfl (w.heap.size+1) rfl 215 _ (0,0) _ HA.o Tryz.underlying215 rfl (by rw[gB];exact oh) ?_) | (refine rW rfl 215 _ _ rfl w.heap.size _ rfl rfl 215 Z HR.o (by rw[gB];exact oh) (by rw[hZs,gB]) (tD _) ?_))
    exact bR (v:=.agg (dg (cN l l.length))) (results_cell_row rfl _ _ w.heap.size 215 _ (0,0) _ rfl (ng _ _ _ _ 215 (0,0) HR.o) Tryz.underlying215 rfl (by rw[gB];exact oh)) rfl ⟨rfl,below_setRow HB.o (aM _) _⟩
theorem Sy (ao:Option Addr) (cap:Nat) (w:World) :
  Calls Tryz.prog 156 #[.slice ao 0 cap] w fun e w'=>e=.returned (.agg (dg (cu [])))/\Below w.heap.size w w':=by
 obtain⟨Z,hZ⟩:=ex (dg (fun _=>gS));have hz:=Ka;rw[<- hZ] at hz;have hZs:Z.size=768:=by grind [gB]
 have HZ:Hid (Z=dg (fun _=>gS)):=hZ;clear hZ;have HR:Hid (((w.alloc (.cells Z 215)).alloc (.cells Z 215)).heap[w.heap.size]?=some (.cells Z 215 (0,0))):=bE (bG w Z 215) _;have HA:Hid (((w.alloc (.cells Z 215)).alloc (.cells Z 215)).heap[w.heap.size+1]?=some (.cells Z 215 (0,0))):=by
  grind [World.alloc]
 go_enter Tryz.func156,Tryz.ntmps156;go_wp2;refine xO 1 ?_;rw[xK];go_wp2_with (first | (refine ra rfl 215 _ rfl (w.heap.size+1) rfl 215 _ (0,0) _ HA.o Tryz.underlying215 rfl (by grind [oh]) ?_) | (refine rW rfl 215 _ _ rfl w.heap.size _ rfl rfl 215 Z HR.o (by rw[hZs];exact oh) rfl (by grind [tD,Hid.o]) ?_))
 exact bR (v:=.agg Z) (results_cell_row rfl _ _ w.heap.size 215 _ (0,0) _ rfl (ng _ _ _ _ 215 (0,0) HR.o) Tryz.underlying215 rfl (by grind [oh])) rfl ⟨by rw[HZ.o];rfl,below_setRow (((aK _ _).alloc (aM _) _).alloc (by simp) _) (aM _) _⟩
theorem QF (F:Nat->dH) (k:Nat) (hk:k<256):(dg F).extract (k*3) (k*3+3)=#[.bool (F k).m,I (F k).p,.bool (F k).z]:=by
 apply Array.ext_getElem?;intro j;have hs:=gB F;rw[Array.getElem?_extract,hs]
 match j with
 | 0=>grind [m9]
 | 1=>grind [m8]
 | 2=>grind [m7]
 | j+3=>grind
def gT (F:Nat->dH):Nat->dH
 | 0=>gS
 | k+1=>F k
def pM (a b:dH):Bool:=a.m==b.m&&(a.p==b.p&&a.z==b.z)
def wQ (G:List bc):List bc:=G.set (G.length-1) ⟨(bB G (G.length-1)).page,(bB G (G.length-1)).aR+1,(bB G (G.length-1)).fV,(bB G (G.length-1)).zero⟩
def b9 (F:Nat->dH):Nat->List bc
 | 0=>[]
 | k+1=>if (F k).m=false then b9 F k else if pM (F k) (gT F k) then wQ (b9 F k) else b9 F k++[⟨(k:Int),1,(F k).p,(F k).z⟩]
def fB (F:Nat->dH):List bc:=b9 F 256
def oQ (a:bc):List Value:=[I a.page,I a.aR,I a.fV,.bool a.zero]
def cj:List bc->List Value
 | []=>[]
 | a::r=>oQ a++cj r
theorem sV:∀G:List bc,(cj G).length=G.length*4
 | []=>rfl
 | a::r=>by simp[cj,oQ,sV r];omega
theorem sW:∀G H:List bc,cj (G++H)=cj G++cj H
 | [],H=>rfl
 | a::r,H=>by simp[cj,sW r H]
theorem lG:∀(G:List bc) (i j:Nat),i<G.length->j<4->(cj G)[i*4+j]?=(oQ (bB G i))[j]?
 | [],i,j,h,_=>by simp at h
 | a::r,0,j,h,hj=>by
  grind [cj,oQ,bB]
 | a::r,i+1,j,h,hj=>by
  simp only[cj];rw[Ix (by simp[oQ];omega),show(i+1)*4+j-(oQ a).length=i*4+j from by grind [oQ],lG r i j (by grind) hj];rfl
theorem vX:∀(G:List bc) (i:Nat) (n:Int),i<G.length->cj (G.set i ⟨(bB G i).page,n,(bB G i).fV,(bB G i).zero⟩)=(cj G).set (i*4+1) (I n)
 | [],i,n,h=>by simp at h
 | a::r,0,n,h=>by rfl
 | a::r,i+1,n,h=>by
  simp only[cj,bU];rw[zO _ _ (by simp[oQ];omega),show(i+1)*4+1-(oQ a).length=i*4+1 from by grind [oQ]];have e:=vX r i n (by grind)
  grind [bB]
theorem rT (G:List bc):(wQ G).length=G.length:=by simp[wQ]
theorem qa:∀(G:List bc),∀v∈cj G,v.oneCell'=true
 | [],v,h=>by grind [cj]
 | a::r,v,h=>by
  simp only[cj,oQ,NK,Fq,zJ] at h;rcases h with rfl | rfl | rfl | rfl | h
  · rfl
  · rfl
  · rfl
  · rfl
  · exact qa r v h
theorem rA (G H:List bc) (i:Nat) (h:i<G.length):bB (G++H) i=bB G i:=by grind [bB]
theorem ve (G:List bc) (a:bc):bB (G++[a]) G.length=a:=by simp[bB]
theorem QG (G:List bc) (i:Nat) (a:bc) (h:i<G.length):bB (G.set i a) i=a:=by simp[bB,h]
theorem NB (G:List bc) (i j:Nat) (a:bc) (h:j≠i):bB (G.set i a) j=bB G j:=by grind [bB]
theorem qX (F:Nat->dH):∀k,(b9 F k).length<=k
 | 0=>by simp[b9]
 | k+1=>by
  have ih:=qX F k
  grind [b9,rT]
theorem zn (F:Nat->dH):∀k,(gT F k).m=true->0<(b9 F k).length
 | 0,h=>by grind [gT,gS]
 | k+1,h=>by
  have h':(F k).m=true:=h;simp only[b9,h'];rw[bl (by simp)];split
  · rename_i he
    have hm:(gT F k).m=true:=by
     grind [pM]
    rw[rT];exact zn F k hm
  · simp
theorem xH (F:Nat->dH):∀k,∀i,i<(b9 F k).length->1<=(bB (b9 F k) i).aR/\(bB (b9 F k) i).aR<=k
 | 0,i,h=>by grind [b9]
 | k+1,i,h=>by
  have ih:=xH F k
  grind [b9,wQ,QG,NB,rA,ve]
theorem Hw (a b:dH) (h:pM a b=true):a=b:=by
 cases a;simp_all [pM]
theorem QD (a b:dH) (h:pM a b=false):(a.m==b.m)=false∨((a.m==b.m)=true/\(a.p==b.p)=false)∨((a.m==b.m)=true/\(a.p==b.p)=true/\(a.z==b.z)=false):=by
 grind [pM]
theorem abK (F:Nat->dH) (k:Nat) (hk:k<256) (w:World):(Instr.index 215 (.agg (dg F)) (I k)).run Tryz.prog w=.ok (.agg #[.bool (F k).m,I (F k).p,.bool (F k).z]) w:=by
 simp[Instr.index,Ik Tryz.underlying215,go_sem]
 grind [QF]
theorem TR:(Tryz.prog.info? 47).map (fun i=>(i.zero,i.size,i.bytes))=some (some (.agg #[I 0,I 0,I 0,.bool false]),4,32):=by rfl
def eU (w:World) (v:Value) (l:List bc):Prop:=∃ao cap,v=.slice ao l.length cap/\(l=[]∨∃b off,ao=some (Ad b off)/\qc w b off l)
theorem Ff {w wx:World} {v:Value} {n:Nat} {xs:List Value} {C:Array Value} (hC:C.size=3) (hown:wx.ownsRow (w.heap.size+2) 47 4 v n xs) (hl:wx.heap[w.heap.size+1]?=some (.cells C 173 (0,0))) (hb:Below w.heap.size w wx) (x y z:Value) :
  (((wx.setCell (Ad (w.heap.size+1) 0) x).setCell (Ad (w.heap.size+1) 1) y).setCell (Ad (w.heap.size+1) 2) z).ownsRow (w.heap.size+2) 47 4 v n xs /\
  (((wx.setCell (Ad (w.heap.size+1) 0) x).setCell (Ad (w.heap.size+1) 1) y).setCell (Ad (w.heap.size+1) 2) z).heap[w.heap.size+1]?=some (.cells #[x,y,z] 173 (0,0)) /\
  Below w.heap.size w (((wx.setCell (Ad (w.heap.size+1) 0) x).setCell (Ad (w.heap.size+1) 1) y).setCell (Ad (w.heap.size+1) 2) z):=by
 refine⟨Fu (Fu (Fu hown (by simp) _) (by simp) _) (by simp) _,?_,((hb.setCell (by simp) _).setCell (by simp) _).setCell (by simp) _⟩;rw[dG (dG (dG hl 0 x) 1 y) 2 z];congr 2
 match C,hC with
 | ⟨[a,b,c]⟩,_=>rfl
def dC (lo:Nat) (w:World) (v:Value) (l:List bc):Prop:=w.ownsRow lo 47 4 v l.length (cj l)
theorem dC.nil (lo:Nat) (w:World):dC lo w Nl []:=km _ _ _ _
theorem dC.mono {lo lo':Nat} {w:World} {v:Value} {l:List bc} (h:dC lo w v l) (hl:lo'<=lo):dC lo' w v l:=by
 refine⟨h.1,?_⟩;rcases h.2 with h2 | ⟨g,cap,cur,hv,hbg,rest⟩
 · grind
 · exact .inr ⟨g,cap,cur,hv,gJ hl hbg,rest⟩
theorem dC.has {lo:Nat} {w:World} {v:Value} {l:List bc} (h:dC lo w v l):eU w v l:=by
 rcases h.2 with⟨hv,h0⟩ | ⟨g,cap,cur,hv,hbg,hg,hnc,hcm,hcs,htake⟩
 · exact⟨none,0,by grind,.inl (jS h0)⟩
 · have ho:=h;unfold dC at ho;rw[hv] at ho;refine⟨some (Ad g 0),cap,hv,.inr ⟨g,0,rfl,fun i hi=>?_⟩⟩;rw[iI];exact⟨(ho.cellAt _ (by omega)).trans (lG _ i 0 hi (by omega)),(ho.cellAt _ (by omega)).trans (lG _ i 1 hi (by omega)),(ho.cellAt _ (by omega)).trans (lG _ i 2 hi (by omega)),(ho.cellAt _ (by omega)).trans (lG _ i 3 hi (by omega))⟩
theorem Bc (F:Nat->dH) (w:World) :
  Calls Tryz.prog 157 #[.agg (dg F)] w fun e w'=>∃v,e=.returned v/\dC w.heap.size w' v (fB F)/\Below w.heap.size w w':=by
 have MV:=abK F;obtain⟨C,hC⟩:=ex (dg F);have Xo:C.size=768:=by grind [gB]
 rw[<- hC] at MV ⊢;clear hC;obtain⟨i0,hi,hz0,hz1,hz2⟩:=iq TR;have HX:Hid (((w.alloc (.cells C 215)).alloc (.cells #[.bool false,I 0,.bool false] 173)).heap[w.heap.size]?=some (.cells C 215 (0,0))):=bE (bG w C 215) _;have HL:Hid (((w.alloc (.cells C 215)).alloc (.cells #[.bool false,I 0,.bool false] 173)).heap[w.heap.size+1]?=some (.cells #[.bool false,I 0,.bool false] 173 (0,0))):=by
  grind [World.alloc]
 have eO:Hid (Below w.heap.size w ((w.alloc (.cells C 215)).alloc (.cells #[.bool false,I 0,.bool false] 173))):=((aK _ _).alloc (aM _) _).alloc (by simp) _;go_enter Tryz.func157,Tryz.ntmps157;go_wp2_with (first | (refine ra rfl 215 _ rfl w.heap.size rfl 215 _ (0,0) _ HX.o Tryz.underlying215 rfl (by grind [oh]) ?_))
 go_loopw [3,8] (fun v i wr=>∃k:Nat,k<=256/\i=I k/\wr.ownsRow (w.heap.size+2) 47 4 v (b9 F k).length (cj (b9 F k))/\wr.heap[w.heap.size+1]?=some (.cells #[.bool (gT F k).m,I (gT F k).p,.bool (gT F k).z] 173 (0,0))/\Below w.heap.size w wr) (fun _ i _=>256-(intOf i).toNat)
 case atStart=>exact⟨0,by omega,rfl,km _ _ _ _,HL.o,eO.o⟩
 case round =>
  obtain⟨k,hk,rfl,hown,hl,hb⟩:=hrel;have HO:Hid (wr.ownsRow (w.heap.size+2) 47 4 u3 (b9 F k).length (cj (b9 F k))):=hown;have HLr:Hid (wr.heap[w.heap.size+1]?=some (.cells #[.bool (gT F k).m,I (gT F k).p,.bool (gT F k).z] 173 (0,0))):=hl;have HB:Hid (Below w.heap.size w wr):=hb;have hsz:w.heap.size+1<wr.heap.size:=aO hl;have l0:=aB hl 0 rfl;have l1:=aB hl 1 rfl;have l2:=aB hl 2 rfl;have lf:=aJ hl;clear hown hl hb;by_cases hlt:k<256
  · have hx:=fun W=>MV k hlt W
    have MU:(k:Int)<256:=by omega
    obtain⟨s,hs⟩:=ex (F k);obtain⟨t,ht⟩:=ex (gT F k);rw[<- hs] at hx;rw[<- ht] at l0 l1 l2;have HS:Hid (s=F k):=hs;have HT:Hid (t=gT F k):=ht;clear hs ht MV;by_cases hm:s.m=true
    · by_cases he:pM s t=true
      · have hst:s=t:=Hw s t he;have HG:Hid (b9 F (k+1)=wQ (b9 F k)):=by show _=_;simp only[b9];rw[<- HS.o,<- HT.o,hm,he];rfl
        have hpos:=zn F k (by rw[<- HT.o,<- hst];exact hm);have hlen:=qX F k;obtain⟨G,hG⟩:=ex (b9 F k);have wS:=xH F k ((b9 F k).length-1) (by omega);rw[<- hG] at HO HG hpos hlen wS;clear hG;rcases HO.o.2 with⟨_,h0⟩ | ⟨g,cap,cur,hv,hbg,hg,hnc,hcm,hcs,htake⟩
        · omega
        · have za:=HO.o;rw[hv] at za;have p1:wr.cell? ⟨g,(G.length-1)*4+1,none⟩=some (I (bB G (G.length-1)).aR):=by
           rw[za.cellAt _ (by omega),lG G _ 1 (by omega) (by omega)];rfl
          have pf:=za.frozenAt;have HOv:Hid (wr.ownsRow (w.heap.size+2) 47 4 (.slice (some (Ad g 0)) G.length cap) G.length (cj G)):=za;have hgl:g<wr.heap.size:=aO hg;rw[hv];clear HO za hv hg htake hcs he;obtain⟨pp,xw⟩:=ex ((bB G (G.length-1)).aR);rw[<- xw] at p1 wS;have HP:Hid (pp=(bB G (G.length-1)).aR):=xw;clear xw;subst hst;have hG2:(G.length:Int)<=256:=by omega
          go_wp2;go_roundw
          case rel =>
           have ho:=(HOv.o.stored ((G.length-1)*4+1) (I (pp+1))).1;have e:(cj G).set ((G.length-1)*4+1) (I (pp+1))=cj (wQ G):=by
            rw[HP.o];exact(vX G (G.length-1) _ (by omega)).symm
           rw[e] at ho;have h:=Ff rfl ho (jT HLr.o _ _ _ (by omega)) (HB.o.setCell (by simp;omega) _) (.bool true) (I s.p) (.bool s.z);refine⟨k+1,by omega,by go_num,?_,?_,h.2.2.alloc h.2.2.size _⟩
           · rw[HG.o,rT];exact h.1.alloc _
           · show _=some (Obj.cells #[.bool (F k).m,I (F k).p,.bool (F k).z] 173 (0,0));rw[<- HS.o,hm];exact bE h.2.1 _
          case measure=>simp[intOf];omega
      · have he':pM s t=false:=by simpa using he
        have HG:Hid (b9 F (k+1)=b9 F k++[⟨(k:Int),1,s.p,s.z⟩]):=by show _=_;simp only[b9];rw[<- HS.o,<- HT.o,hm,he'];rfl
        have hlen:=qX F k;obtain⟨G,hG⟩:=ex (b9 F k);rw[<- hG] at HO HG hlen;clear hG he;have hrow:Hid (∀j,u3.ownBlock=some j->w.heap.size+2<=j/\j<wr.heap.size):=HO.o.lt;have aer:=QD s t he';obtain⟨sm,sp,sz⟩:=s;obtain⟨tm,tp,tz⟩:=t;simp only at hm aer l0 l1 l2 HG;subst hm;have HN:Hid (((wr.alloc (.cells #[.bool true,I sp,.bool sz] 173)).alloc (.cells #[I (k:Int),I 1,I sp,.bool sz] 47)).heap[wr.heap.size+1]?=some (.cells #[I (k:Int),I 1,I sp,.bool sz] 47 (0,0))):=by
         have:=bG (wr.alloc (.cells #[.bool true,I sp,.bool sz] 173)) #[I (k:Int),I 1,I sp,.bool sz] 47;show _=_;simpa using this
        have alU:tm=false∨(tm=true/\(sp==tp)=false)∨(tm=true/\sp=tp/\tz=!sz):=by
         cases tm
         · exact .inl rfl
         · rcases aer with q | ⟨_,q⟩ | ⟨_,q1,q2⟩
           · cases q
           · exact .inr (.inl ⟨rfl,q⟩)
           · refine .inr (.inr ⟨rfl,by simpa using q1,?_⟩);cases sz <;> cases tz <;> first | rfl | cases q2
        clear he' aer;rcases alU with rfl | ⟨rfl,q⟩ | ⟨rfl,rfl,rfl⟩
        all_goals
         go_wp2_with (at_builtin;refine Iq _ rfl _ _ 28 rfl (w.heap.size+2) 47 i0 (.agg #[I 0,I 0,I 0,.bool false]) 4 32 Tryz.underlying28 hi hz0 hz1 hz2 rfl (by decide) _ _ _ rfl ((HO.o.alloc _).alloc _) (Ad (wr.heap.size+1) 0) 1 1 [I (k:Int),I 1,I sp,.bool sz] rfl rfl (vU HN.o) (qa [⟨(k:Int),1,sp,sz⟩]) (by decide) (by unfold maxLen;omega) (by omega) (by simp;omega) (wr.heap.size+2) (by simp) ?_)
         intro g cap w1 hown1 hgrow hat apu;have bS:=J9 (bE (bG wr #[.bool true,I sp,.bool sz] 173) (.cells #[I (k:Int),I 1,I sp,.bool sz] 47)) hgrow (fun e=>by have:=hrow.out _ e.symm;omega);have bL:=J9 (bE (bE HLr.o (.cells #[.bool true,I sp,.bool sz] 173)) (.cells #[I (k:Int),I 1,I sp,.bool sz] 47)) hgrow (fun e=>by have:=hrow.out _ e.symm;omega);have b0:=aB bS 0 rfl;have b1:=aB bS 1 rfl;have b2:=aB bS 2 rfl;have m0:=aB bL 0 rfl;have m1:=aB bL 1 rfl;have m2:=aB bL 2 rfl;have mf:=aJ bL;have Si:Hid (w1.ownsRow (w.heap.size+2) 47 4 (Value.slice (some (Ad g 0)) (G.length+1) cap) (G.length+1) (cj G++[I (k:Int),I 1,I sp,.bool sz])):=hown1;have Qn:Hid (w1.heap[w.heap.size+1]?=some (.cells #[.bool (gT F k).m,I (gT F k).p,.bool (gT F k).z] 173 (0,0))):=bL;have cT:Hid (Below w.heap.size w w1):=((HB.o.alloc HB.o.size _).alloc (by simp;omega) _).grown hgrow (by simp;omega) (fun k' e=>by have:=hrow.out _ e;omega);clear bS bL hown1 hgrow hat l0 l1 l2 lf;go_wp2;go_roundw
         case rel =>
          have h:=Ff rfl Si.o Qn.o cT.o (.bool true) (I sp) (.bool sz);refine⟨k+1,by omega,by go_num,?_,?_,h.2.2⟩
          · rw[HG.o,gh,sW];exact h.1
          · show _=some (Obj.cells #[.bool (F k).m,I (F k).p,.bool (F k).z] 173 (0,0));rw[<- HS.o];exact h.2.1
         case measure=>simp[intOf];omega
    · have hm':s.m=false:=by simpa using hm
      have HG:Hid (b9 F (k+1)=b9 F k):=by show _=_;simp only[b9];rw[<- HS.o,hm'];rfl
      clear hm;go_wp2;go_roundw
      case rel =>
       have h:=Ff rfl HO.o HLr.o HB.o (.bool false) (I s.p) (.bool s.z);refine⟨k+1,by omega,by go_num,?_,?_,h.2.2.alloc h.2.2.size _⟩
       · rw[HG.o];exact h.1.alloc _
       · show _=some (Obj.cells #[.bool (F k).m,I (F k).p,.bool (F k).z] 173 (0,0));rw[<- HS.o,hm'];exact bE h.2.1 _
      case measure=>simp[intOf];omega
  · obtain rfl:k=256:=by omega
    go_wp2;go_ret;refine⟨_,rfl,?_,HB.o⟩;exact dC.mono (lo:=w.heap.size+2) HO.o (by omega)
def cW (q:Int) (s:dH):dH×Int:=if s.m then (s,5) else (⟨true,q,true⟩,0)
def cH (s:dH):dH×Int:=(gS,0)
def bO (q:Int) (s:dH):dH×Int:=if s.m then (⟨s.m,q,s.z⟩,0) else (s,6)
def BW (s:dH):Value:=.agg #[.bool s.m,I s.p,.bool s.z]
theorem Zi (s:dH) (q:Int) (P:Nat) (w:World) (hP:w.cell? (Ad P 0)=some (I q)) :
  Calls Tryz.prog 122 #[.agg #[.bool s.m,I s.p,.bool s.z],.pointer (some (Ad P 0))] w fun e w'=>e=.returned (.tuple #[BW (cW q s).1,I (cW q s).2])/\Below w.heap.size w w':=by
 have hPl:P<w.heap.size:=nQ w _ hP;obtain⟨m,p,z⟩:=s;cases m
 · go_enter Tryz.func122,Tryz.ntmps122;go_wp2;exact bR (v:=.tuple #[.agg #[.bool true,I q,.bool true],I 0]) (by simp[results,Tryz.results122,go_sem]) rfl ⟨rfl,((aK _ _).alloc (aM _) _).alloc (by simp) _⟩
 · go_enter Tryz.func122,Tryz.ntmps122;go_wp2;exact bR (v:=.tuple #[.agg #[.bool true,I p,.bool z],I 5]) (by simp[results,Tryz.results122,go_sem]) rfl ⟨rfl,((aK _ _).alloc (aM _) _).alloc (by simp) _⟩
theorem Sv (s:dH) (w:World) :
  Calls Tryz.prog 123 #[.agg #[.bool s.m,I s.p,.bool s.z]] w fun e w'=>e=.returned (.tuple #[BW (cH s).1,I (cH s).2])/\Below w.heap.size w w':=by
 go_enter Tryz.func123,Tryz.ntmps123;go_wp2;exact bR (v:=.tuple #[.agg #[.bool false,I 0,.bool false],I 0]) (by simp[results,Tryz.results123,go_sem]) rfl ⟨rfl,((aK _ _).alloc (aM _) _).alloc (by simp) _⟩
theorem Nv (s:dH) (q:Int) (P:Nat) (w:World) (hP:w.cell? (Ad P 0)=some (I q)) :
  Calls Tryz.prog 124 #[.agg #[.bool s.m,I s.p,.bool s.z],.pointer (some (Ad P 0))] w fun e w'=>e=.returned (.tuple #[BW (bO q s).1,I (bO q s).2])/\Below w.heap.size w w':=by
 have hPl:P<w.heap.size:=nQ w _ hP;obtain⟨m,p,z⟩:=s;cases m
 · go_enter Tryz.func124,Tryz.ntmps124;go_wp2;exact bR (v:=.tuple #[.agg #[.bool false,I p,.bool z],I 6]) (by simp[results,Tryz.results124,go_sem]) rfl ⟨rfl,((aK _ _).alloc (aM _) _).alloc (by simp) _⟩
 · go_enter Tryz.func124,Tryz.ntmps124;go_wp2;exact bR (v:=.tuple #[.agg #[.bool true,I q,.bool z],I 0]) (by simp[results,Tryz.results124,go_sem]) rfl ⟨rfl,((aK _ _).alloc (aM _) _).alloc (by simp) _⟩
theorem eU.below {w w':World} {v:Value} {l:List bc} (h:eU w v l) (hb:Below w.heap.size w w'):eU w' v l:=by
 obtain⟨ao,cap,rfl,h⟩:=h;rcases h with rfl | ⟨b,off,rfl,hl⟩
 · exact⟨ao,cap,rfl,.inl rfl⟩
 · exact⟨_,cap,rfl,.inr ⟨b,off,rfl,hl.below hb⟩⟩
def ed (l:List bc):Prop:=(∀i,i<l.length->yr (bB l i))/\l.length<=140737488351232
theorem jM (l:List bc) (v:Value) (w:World) (h:eU w v l) (hf:ed l) :
  Calls Tryz.prog 98 #[v] w fun e w'=>e=.returned (I (br l))/\Below w.heap.size w w':=by
 obtain⟨ao,cap,rfl,h⟩:=h;rcases h with rfl | ⟨b,off,rfl,hl⟩
 · exact Dk ao cap w
 · exact tB l b off cap w hl hf.1 hf.2
theorem uY (l:List bc) (v:Value) (w:World) (h:eU w v l) (hf:ed l) :
  Calls Tryz.prog 54 #[v] w fun e w'=>e=.returned (I (cI l))/\Below w.heap.size w w':=by
 obtain⟨ao,cap,rfl,h⟩:=h;rcases h with rfl | ⟨b,off,rfl,hl⟩
 · exact Ws ao cap w
 · exact Sw l b off cap w hl hf.1 hf.2
theorem uo (l:List bc) (v:Value) (p:Int) (w:World) (h:eU w v l) (hf:ed l) :
  Calls Tryz.prog 70 #[v,I p] w fun e w'=>e=.returned (.tuple #[.agg (kY (aV l p).1),.bool (aV l p).2])/\Below w.heap.size w w':=by
 obtain⟨ao,cap,rfl,h⟩:=h;rcases h with rfl | ⟨b,off,rfl,hl⟩
 · exact Zj ao cap p w
 · exact Wx l b off cap p w hl hf.1 hf.2
theorem Bb (l:List bc) (v:Value) (w:World) (h:eU w v l) (hc:br l=0) :
  Calls Tryz.prog 156 #[v] w fun e w'=>e=.returned (.agg (dg (cu l)))/\Below w.heap.size w w':=by
 obtain⟨ao,cap,rfl,h⟩:=h;rcases h with rfl | ⟨b,off,rfl,hl⟩
 · exact Sy ao cap w
 · exact Qv l b off cap w hl hc
theorem ai {p:Prop} (h:p):Hid p:=h
theorem bZ {w w1 w2:World} (h1:Below w.heap.size w w1) (h2:Below w1.heap.size w1 w2):Below w.heap.size w w2:=h1.trans (h2.mono h1.size)
def sI (way:Int):Int:=if way=1 then 1 else if way=2 then 2 else 0
theorem J3 (way:Int) (w:World):Calls Tryz.prog 140 #[I way] w fun e w'=>e=.returned (I (sI way))/\w=w':=by
 unfold sI;by_cases h1:way=1
 · subst h1;go_enter Tryz.func140,Tryz.ntmps140;go_wp2;go_ret
   simp_all
 · rw[bl h1];have h1i:(way==1)=false:=by grind
   by_cases h2:way=2
   · subst h2;go_enter Tryz.func140,Tryz.ntmps140;go_wp2;go_ret
     simp_all
   · rw[bl h2];have h2i:(way==2)=false:=by grind
     clear h1 h2;go_enter Tryz.func140,Tryz.ntmps140;go_wp2;go_ret
     simp_all
theorem GL (p way:Int) (h0:0<=p) (h3:p<=3):(bits BinOp.and IntKind.i64 p (sI way)==sI way)=!(iz p way):=by
 have hp:p=0∨p=1∨p=2∨p=3:=by omega
 unfold sI iz;by_cases h1:way=1
 · subst h1;rcases hp with rfl | rfl | rfl | rfl <;> decide
 · by_cases h2:way=2
   · subst h2;rcases hp with rfl | rfl | rfl | rfl <;> decide
   · rw[bl h1,bl h2];simp only[h1,h2,false_and,or_self,decide_false,Ij];rcases hp with rfl | rfl | rfl | rfl <;> decide
end Go.Proofs.YtpgifpeohlllfaaGreat
end Go.Proofs.YtpgifpeohlllfaaGreat
