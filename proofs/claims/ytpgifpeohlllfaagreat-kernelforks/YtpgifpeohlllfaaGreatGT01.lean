import Derived.Test.YtpgifpeohlllfaaGreatGT00
import Derived.Deep.WholeRow
import Derived.Laws.CopyOwn
import Derived.Lib.Hide
import Derived.Deep.CutBlock
import Derived.Deep.DeepCutAuto
set_option maxHeartbeats 20000000
set_option linter.unusedVariables false
set_option maxRecDepth 100000
set_option linter.unusedSimpArgs false
namespace Go.Proofs.YtpgifpeohlllfaaGreat
namespace AW
open Go.RowKit
def cellsOf (a:AM.Ar):Array Value:=#[I a.page,I a.aJ,I a.bV,.bool a.zero]
theorem Me (l:List AM.Ar) (b off cap:Nat) (p:Int) (w:World) (hl:AM.Cs w b off l) (hf:∀i,i<l.length->AM.Fits (AM.at_ l i)) (hn:l.length<=140737488351232) :
  Calls Tryz.prog 70 #[.slice (some (Ad b off)) l.length cap,I p] w fun e w'=>e=.returned (.tuple #[.agg (cellsOf (AM.aR l p).1),.bool (AM.aR l p).2])/\Below w.heap.size w w':=by
 have hbz:Below w.heap.size w (w.alloc (.cells #[I 0,I 0,I 0,.bool false] 47)):=(Below.refl _ _).alloc (Nat.le_refl _) _;by_cases hc:AM.aW l=0
 · have hlen:=AM.gP l hc;have HC:Hid (AM.aR l p=AM.aU l p):=by show _=_;simp[AM.aR,hc]
   have HK:Hid (AM.aW l=0):=hc;go_enter Tryz.func70,Tryz.ntmps70;go_wp2_with fail
   refine(mR l b off cap _ (hl.below hbz) hf hn).mono ?_;rintro e w1 ⟨rfl,hb1⟩;rw[hc];clear hc;go_wp2;go_loopw [14] (fun i wr=>∃k:Nat,k<=l.length/\i=I k/\(∀j,j<k->AM.hit (AM.at_ l j) p=false)/\Below (w.heap.size+1) (w.alloc (.cells #[I 0,I 0,I 0,.bool false] 47)) wr) (fun i _=>l.length-(intOf i).toNat)
   case atStart=>exact⟨0,by omega,rfl,fun j hj=>by omega,hb1.mono (by simp)⟩
   case round =>
    obtain⟨k,hk,rfl,hno,hb⟩:=hrel;have HN:Hid (∀j,j<k->AM.hit (AM.at_ l j) p=false):=hno;have ek:Hid (Below w.heap.size w wr):=hbz.trans (hb.mono (Nat.le_succ _));have hsz:w.heap.size+1<=wr.heap.size:=by have:=hb.size;simpa using this
    have hlr:=hl.below ek.out;have hR:wr.heap[w.heap.size]?=some (.cells #[I 0,I 0,I 0,.bool false] 47 (0,0)):=B.below (B.new w _ _) hb (Nat.lt_succ_self _);have HR:Hid (wr.heap[w.heap.size]?=some (.cells #[I 0,I 0,I 0,.bool false] 47 (0,0))):=hR;have HB:Hid (Below (w.heap.size+1) (w.alloc (.cells #[I 0,I 0,I 0,.bool false] 47)) wr):=hb;clear hR hb;clear hno hb1;by_cases hlt:k<l.length
    · obtain⟨c0,c1,c2,c3⟩:=hlr k hlt;have hbk:=AM.dg l k (AM.cW l HK.o k hlt);obtain⟨a,ha⟩:=ex (AM.at_ l k);rw[<- ha] at c0 c1 c2 c3 hbk;have HA:Hid (a=AM.at_ l k):=ha;clear ha;by_cases h1:a.page<=p
      · by_cases h2:p<a.page+a.aJ
        · have hres:Hid (AM.aR l p=(a,true)):=by
           show _=_;rw[HC.o,AM.jL l p k hlt HN.o (by rw[<- HA.o];simp[AM.hit,AM.Ar.eG,h1,h2]),<- HA.o]
          go_wp2_with fail
          refine(jC _ _ _ _ _ (by omega) (by omega)).mono ?_;rintro e w2 ⟨rfl,hb2⟩;have DN:=B.below (B.new wr #[I a.page,I a.aJ,I a.bV,.bool a.zero] 47) hb2 (by simp);have Df:=B.below (B.alloc HR.o _) hb2 (by simp;omega);have s0:=B.cell DN 0 rfl;have s1:=B.cell DN 1 rfl;have s2:=B.cell DN 2 rfl;have s3:=B.cell DN 3 rfl;have t0:=B.cell Df 0 rfl;have t1:=B.cell Df 1 rfl;have t2:=B.cell Df 2 rfl;have t3:=B.cell Df 3 rfl;have u0:=B.free Df;have PA:Hid (Below w.heap.size w w2):=(ek.out.alloc ek.out.size _).trans (hb2.mono (by simp;omega));have E2:wr.heap.size+1<=w2.heap.size:=by have:=hb2.size;simpa using this
          clear hb2 DN Df;go_wp2;exact bodyPost_ret (v:=.tuple #[.agg #[I a.page,I a.aJ,I a.bV,.bool a.zero],.bool true]) (by simp[results,Tryz.results70,go_sem,t0,t1,t2,t3]) rfl ⟨by rw[hres.out];rfl,(((PA.out.setCell (Nat.le_refl _) _).setCell (Nat.le_refl _) _).setCell (Nat.le_refl _) _).setCell (Nat.le_refl _) _⟩
        · have pD:Hid (AM.hit (AM.at_ l k) p=false):=by show _=_;rw[<- HA.o];unfold AM.hit AM.Ar.eG;exact decide_eq_false (by omega)
          go_wp2_with fail
          refine(jC _ _ _ _ _ (by omega) (by omega)).mono ?_;rintro e w2 ⟨rfl,hb2⟩;have PA:Hid (Below (w.heap.size+1) (w.alloc (.cells #[I 0,I 0,I 0,.bool false] 47)) w2):=(HB.o.alloc (by omega) _).trans (hb2.mono (by simp;omega));clear hb2;go_wp2;go_roundw
          case rel=>exact⟨k+1,by omega,by go_num,fun j hj=>if e:j=k then by rw[e];exact pD.out else HN.o j (by omega),PA.out⟩
          case measure=>simp[intOf];omega
      · have pD:Hid (AM.hit (AM.at_ l k) p=false):=by show _=_;rw[<- HA.o];unfold AM.hit AM.Ar.eG;exact decide_eq_false (by omega)
        have d1:decide (a.page<=p)=false:=by simp;omega
        go_wp2;go_roundw
        case rel=>exact⟨k+1,by omega,by go_num,fun j hj=>if e:j=k then by rw[e];exact pD.out else HN.o j (by omega),HB.o.alloc (by omega) _⟩
        case measure=>simp[intOf];omega
    · obtain rfl:k=l.length:=by omega
      have hres:Hid (AM.aR l p=(AM.nil,false)):=by show _=_;rw[HC.o,AM.jo l p HN.o]
      have t0:=B.cell HR.o 0 rfl;have t1:=B.cell HR.o 1 rfl;have t2:=B.cell HR.o 2 rfl;have t3:=B.cell HR.o 3 rfl;have u0:=B.free HR.o;go_wp2;exact bodyPost_ret (v:=.tuple #[.agg #[I 0,I 0,I 0,.bool false],.bool false]) (by simp[results,Tryz.results70,go_sem,t0,t1,t2,t3]) rfl ⟨by rw[hres.out];rfl,(((ek.out.setCell (Nat.le_refl _) _).setCell (Nat.le_refl _) _).setCell (Nat.le_refl _) _).setCell (Nat.le_refl _) _⟩
 · have HC:Hid (AM.aR l p=(AM.nil,false)):=by show _=_;simp[AM.aR,hc]
   have hc':(AM.aW l != 0)=true:=by simpa using hc
   go_enter Tryz.func70,Tryz.ntmps70;go_wp2_with fail
   refine(mR l b off cap _ (hl.below hbz) hf hn).mono ?_;rintro e w1 ⟨rfl,hb1⟩;have uy:=B.below (B.new w #[I 0,I 0,I 0,.bool false] 47) hb1 (by simp);have t0:=B.cell uy 0 rfl;have t1:=B.cell uy 1 rfl;have t2:=B.cell uy 2 rfl;have t3:=B.cell uy 3 rfl;have u0:=B.free uy;clear uy;go_wp2;exact bodyPost_ret (v:=.tuple #[.agg #[I 0,I 0,I 0,.bool false],.bool false]) (by simp[results,Tryz.results70,go_sem,t0,t1,t2,t3]) rfl ⟨by rw[HC.o];rfl,((((hbz.trans (hb1.mono (by simp))).setCell (Nat.le_refl _) _).setCell (Nat.le_refl _) _).setCell (Nat.le_refl _) _).setCell (Nat.le_refl _) _⟩
theorem zt (ao:Option Addr) (cap:Nat) (p:Int) (w:World) :
  Calls Tryz.prog 70 #[.slice ao 0 cap,I p] w fun e w'=>e=.returned (.tuple #[.agg (cellsOf (AM.aR [] p).1),.bool (AM.aR [] p).2])/\Below w.heap.size w w':=by
 have hbz:Below w.heap.size w (w.alloc (.cells #[I 0,I 0,I 0,.bool false] 47)):=(Below.refl _ _).alloc (Nat.le_refl _) _;have e2:AM.aW []=0:=by decide
 go_enter Tryz.func70,Tryz.ntmps70;go_wp2_with fail
 refine(ve ao cap _).mono ?_;rintro e w1 ⟨rfl,hb1⟩;rw[e2];have uy:=B.below (B.new w #[I 0,I 0,I 0,.bool false] 47) hb1 (by simp);have t0:=B.cell uy 0 rfl;have t1:=B.cell uy 1 rfl;have t2:=B.cell uy 2 rfl;have t3:=B.cell uy 3 rfl;have u0:=B.free uy;clear uy;go_wp2;refine wp_loop_rounds 1 ?_;rw[rounds_succ];go_wp2;exact bodyPost_ret (v:=.tuple #[.agg #[I 0,I 0,I 0,.bool false],.bool false]) (by simp[results,Tryz.results70,go_sem,t0,t1,t2,t3]) rfl ⟨rfl,((((hbz.trans (hb1.mono (by simp))).setCell (Nat.le_refl _) _).setCell (Nat.le_refl _) _).setCell (Nat.le_refl _) _).setCell (Nat.le_refl _) _⟩
end AW
namespace AM
open Go.RowKit
structure St where
 m:Bool
 p:Int
 z:Bool
def off:St:=⟨false,0,false⟩
def three (s:St):List Value:=[.bool s.m,I s.p,.bool s.z]
def rows (F:Nat->St):Nat->List Value
 | 0=>[]
 | m+1=>rows F m++three (F m)
def cU (F:Nat->St):Array Value:=(rows F 256).toArray
def upd (F:Nat->St) (n:Nat) (s:St):Nat->St:=fun k=>if k=n then s else F k
theorem bK (F:Nat->St):∀m,(rows F m).length=m*3
 | 0=>rfl
 | m+1=>by simp[rows,bK F m,three];omega
theorem eX (F:Nat->St):(cU F).size=768:=by simp[cU,bK]
theorem ou (F:Nat->St) (n j:Nat) (hj:j<3):∀m,n<m->(rows F m)[n*3+j]?=(three (F n))[j]?
 | 0,h=>by omega
 | m+1,h=>by
  simp only[rows];by_cases e:n=m
  · subst e;rw[List.getElem?_append_right (by rw[bK];omega),bK,show n*3+j-n*3=j from by omega]
  · rw[List.getElem?_append_left (by rw[bK];omega)];exact ou F n j hj m (by omega)
theorem sQ (F:Nat->St) (n j:Nat) (hn:n<256) (hj:j<3):(cU F)[n*3+j]?=(three (F n))[j]?:=by
 unfold cU;rw[List.getElem?_toArray];exact ou F n j hj 256 hn
theorem nT (F:Nat->St) (n:Nat) (hn:n<256):(cU F)[n*3]?=some (.bool (F n).m):=sQ F n 0 hn (by omega)
theorem nR (F:Nat->St) (n:Nat) (hn:n<256):(cU F)[n*3+1]?=some (I (F n).p):=sQ F n 1 hn (by omega)
theorem nQ (F:Nat->St) (n:Nat) (hn:n<256):(cU F)[n*3+2]?=some (.bool (F n).z):=sQ F n 2 hn (by omega)
theorem yq (F G:Nat->St):∀m,(∀k,k<m->F k=G k)->rows F m=rows G m
 | 0,_=>rfl
 | m+1,h=>by simp only[rows];rw[yq F G m (fun k hk=>h k (by omega)),h m (by omega)]
theorem fE (F:Nat->St) (n:Nat) (s:St):∀m,n<m->(((rows F m).set (n*3) (.bool s.m)).set (n*3+1) (I s.p)).set (n*3+2) (.bool s.z)=rows (upd F n s) m
 | 0,h=>by omega
 | m+1,h=>by
  simp only[rows];by_cases e:n=m
  · subst e;rw[List.set_append_right _ _ (by rw[bK];omega),List.set_append_right _ _ (by rw[bK];omega),List.set_append_right _ _ (by rw[bK];omega),bK,
     show n*3-n*3=0 from by omega,show n*3+1-n*3=1 from by omega,show n*3+2-n*3=2 from by omega]
    rw[yq (upd F n s) F n (fun k hk=>by simp[upd];omega)];simp[three,upd]
  · rw[List.set_append_left _ _ (by rw[bK];omega),List.set_append_left _ _ (by rw[List.length_set,bK];omega),List.set_append_left _ _ (by rw[List.length_set,List.length_set,bK];omega),fE F n s m (by omega)];congr 2;simp[upd];intro h';exact absurd h'.symm e
theorem zP (F:Nat->St) (n:Nat) (s:St) (hn:n<256) :
  (((cU F).setIfInBounds (n*3) (.bool s.m)).setIfInBounds (n*3+1) (I s.p)).setIfInBounds (n*3+2) (.bool s.z)=cU (upd F n s):=by
 unfold cU;rw[<- fE F n s 256 hn];simp only[List.setIfInBounds_toArray]
theorem Er (F:Nat->St):∀m,∀v∈rows F m,v.oneCell'=true
 | 0,v,h=>by simp[rows] at h
 | m+1,v,h=>by
  simp only[rows,List.mem_append] at h;rcases h with h | h
  · exact Er F m v h
  · simp only[three,List.mem_cons,List.not_mem_nil,or_false] at h;rcases h with rfl | rfl | rfl <;> rfl
theorem sP (F:Nat->St):(cU F).all (·.oneCell')=true:=by
 rw[Array.all_eq_true_iff_forall_mem];intro v hv;exact Er F 256 v (by simpa [cU] using hv)
def gM (F:Nat->St) (a:Ar) (t:Int):Nat->St:=fun n=>if a.page<=(n:Int)/\(n:Int)<t then ⟨true,a.bV,a.zero⟩ else F n
def bG (l:List Ar):Nat->Nat->St
 | 0=>fun _=>off
 | k+1=>gM (bG l k) (at_ l k) (at_ l k).eG
def cR (l:List Ar):Nat->St:=bG l l.length
theorem vW (F:Nat->St) (a:Ar):gM F a a.page=F:=by
 funext n;simp only[gM];rw[if_neg (by omega)]
theorem yX (F:Nat->St) (a:Ar) (n:Nat) (h:a.page<=(n:Int)):upd (gM F a n) n ⟨true,a.bV,a.zero⟩=gM F a ((n:Int)+1):=by
 funext k;simp only[upd,gM];by_cases e:k=n
 · subst e;rw[if_pos rfl,if_pos ⟨h,by omega⟩]
 · rw[if_neg e];by_cases c:a.page<=(k:Int)/\(k:Int)<n
   · rw[if_pos c,if_pos ⟨c.1,by omega⟩]
   · rw[if_neg c,if_neg (by omega)]
end AM
namespace AW
open Go.RowKit
theorem Np:(Tryz.prog.info? 215).map (fun i=>(i.zero,i.size))=some (some (.agg (AM.cU (fun _=>AM.off))),768):=by kernel_rfl
theorem oP:(Tryz.prog.info? 215).map (·.size)=some 768:=(zero_of_info Np).2
theorem VP (w:World):(zeroValue 215).run Tryz.prog w=.ok (.agg (AM.cU (fun _=>AM.off))) w:=(zero_of_info Np).1 w
theorem Eg (l:List AM.Ar) (b off cap:Nat) (w:World) (hl:AM.Cs w b off l) (hc:AM.aW l=0) :
  Calls Tryz.prog 156 #[.slice (some (Ad b off)) l.length cap] w fun e w'=>e=.returned (.agg (AM.cU (AM.cR l)))/\Below w.heap.size w w':=by
 have hlen:=AM.gP l hc;have HK:Hid (AM.aW l=0):=hc;clear hc;obtain⟨Z,hZ⟩:=ex (AM.cU (fun _=>AM.off));have hz:=VP;rw[<- hZ] at hz;have HZ:Hid (Z=AM.cU (fun _=>AM.off)):=hZ;clear hZ;go_enter Tryz.func156,Tryz.ntmps156;go_wp2;go_loopw [9] (fun i wr=>∃k:Nat,k<=l.length/\i=I k/\wr.heap[w.heap.size]?=some (.cells Z 215 (0,0))/\wr.heap[w.heap.size+1]?=some (.cells (AM.cU (AM.bG l k)) 215 (0,0))/\Below w.heap.size w wr) (fun i _=>l.length-(intOf i).toNat)
 case atStart =>
  refine⟨0,by omega,rfl,B.alloc (B.new w Z 215) _,?_,((Below.refl _ _).alloc (Nat.le_refl _) _).alloc (by simp) _⟩;show _=some (Obj.cells (AM.cU (fun _=>AM.off)) 215 (0,0));rw[<- HZ.o];have:=B.new (w.alloc (.cells Z 215)) Z 215;simpa using this
 case round =>
  obtain⟨k,hk,rfl,hR,hA,hb⟩:=hrel;have HR:Hid (wr.heap[w.heap.size]?=some (.cells Z 215 (0,0))):=hR;have HA:Hid (wr.heap[w.heap.size+1]?=some (.cells (AM.cU (AM.bG l k)) 215 (0,0))):=hA;have HB:Hid (Below w.heap.size w wr):=hb;have hsz:w.heap.size+2<=wr.heap.size:=B.isLt hA;by_cases hlt:k<l.length
  · obtain⟨c0,c1,c2,c3⟩:=hl.below hb k hlt;have hbk:=AM.dg l k (AM.cW l HK.o k hlt);obtain⟨a,ha⟩:=ex (AM.at_ l k);rw[<- ha] at c0 c1 c2 c3 hbk;have HAr:Hid (a=AM.at_ l k):=ha;clear ha hR hA hb;obtain⟨wo,hwo⟩:∃wo:World,wo=wr:=⟨_,rfl⟩;subst hwo;have Z0:(k:Int)<(l.length:Int):=by omega
    go_wp2;go_loopw [6] (fun t wi=>∃n:Nat,a.page<=(n:Int)/\(n:Int)<=a.page+a.aJ/\t=I n/\wi.heap[w.heap.size]?=some (.cells Z 215 (0,0))/\wi.heap[w.heap.size+1]?=some (.cells (AM.cU (AM.gM (AM.bG l k) a n)) 215 (0,0))/\wi.heap[wo.heap.size]?=some (.cells #[I a.page,I a.aJ,I a.bV,.bool a.zero] 47 (0,0))/\Below w.heap.size w wi) (fun t _=>(a.page+a.aJ-intOf t).toNat)
    case atStart =>
     refine⟨a.page.toNat,by omega,by omega,by rw[Int.toNat_of_nonneg (by omega)],B.alloc HR.o _,?_,B.new _ _ _,HB.o.alloc HB.o.size _⟩;rw[Int.toNat_of_nonneg (by omega),AM.vW];exact B.alloc HA.o _
    case round =>
     obtain⟨n,Pj,rI,rfl,iR,iA,iX,ib⟩:=hrel;have IR:Hid (wr.heap[w.heap.size]?=some (.cells Z 215 (0,0))):=iR;have IA:Hid (wr.heap[w.heap.size+1]?=some (.cells (AM.cU (AM.gM (AM.bG l k) a n)) 215 (0,0))):=iA;have IB:Hid (Below w.heap.size w wr):=ib;have x0:=B.cell iX 0 rfl;have x1:=B.cell iX 1 rfl;have x2:=B.cell iX 2 rfl;have x3:=B.cell iX 3 rfl;have IX:Hid (wr.heap[wo.heap.size]?=some (.cells #[I a.page,I a.aJ,I a.bV,.bool a.zero] 47 (0,0))):=iX;have hxs:wo.heap.size<wr.heap.size:=B.isLt iX;clear iR iA iX ib;by_cases hin:(n:Int)<a.page+a.aJ
     · go_wp2_with fail
       refine(jC _ _ _ _ _ (by omega) (by omega)).mono ?_;rintro e w2 ⟨rfl,hb2⟩;have jR:=B.below IR.o hb2 (by omega);have jA:=B.below IA.o hb2 (by omega);have jX:=B.below IX.o hb2 hxs;have y0:=B.cell jX 0 rfl;have y1:=B.cell jX 1 rfl;have y2:=B.cell jX 2 rfl;have y3:=B.cell jX 3 rfl;have z0:=B.cell jA (n*3) (AM.nT _ n (by omega));have z1:=B.cell jA (n*3+1) (AM.nR _ n (by omega));have z2:=B.cell jA (n*3+2) (AM.nQ _ n (by omega));have zf:=B.free jA;have JR:Hid (w2.heap[w.heap.size]?=some (.cells Z 215 (0,0))):=jR;have JA:Hid (w2.heap[w.heap.size+1]?=some (.cells (AM.cU (AM.gM (AM.bG l k) a n)) 215 (0,0))):=jA;have JX:Hid (w2.heap[wo.heap.size]?=some (.cells #[I a.page,I a.aJ,I a.bV,.bool a.zero] 47 (0,0))):=jX;have JB:Hid (Below w.heap.size w w2):=IB.o.trans (hb2.mono IB.o.size);clear jR jA jX hb2 x0 x1 x2 x3;have Ve:(n:Int)<256:=by omega
       go_wp2;go_roundw
       case rel =>
        refine⟨n+1,by omega,by omega,by go_num,B.other (B.other (B.other JR.o _ _ _ (by omega)) _ _ _ (by omega)) _ _ _ (by omega),?_,B.other (B.other (B.other JX.o _ _ _ (by omega)) _ _ _ (by omega)) _ _ _ (by omega),((JB.o.setCell (by simp) _).setCell (by simp) _).setCell (by simp) _⟩;have h:=B.set (B.set (B.set JA.o (n*3) (.bool true)) (n*3+1) (I a.bV)) (n*3+2) (.bool a.zero);rw[AM.zP (AM.gM (AM.bG l k) a n) n ⟨true,a.bV,a.zero⟩ (by omega),AM.yX _ _ _ Pj] at h;rw[show((n+1:Nat):Int)=(n:Int)+1 from by omega];exact h
       case measure=>simp[intOf];omega
     · have hend:(n:Int)=a.page+a.aJ:=by omega
       have HE:Hid ((n:Int)=a.page+a.aJ):=hend;clear hend;go_wp2_with fail
       refine(jC _ _ _ _ _ (by omega) (by omega)).mono ?_;rintro e w2 ⟨rfl,hb2⟩;have JR:Hid (w2.heap[w.heap.size]?=some (.cells Z 215 (0,0))):=B.below IR.o hb2 (by omega);have JA:Hid (w2.heap[w.heap.size+1]?=some (.cells (AM.cU (AM.gM (AM.bG l k) a n)) 215 (0,0))):=B.below IA.o hb2 (by omega);have JB:Hid (Below w.heap.size w w2):=IB.o.trans (hb2.mono IB.o.size);clear hb2 x0 x1 x2 x3;go_wp2;go_roundw
       case rel =>
        refine⟨k+1,by omega,by go_num,JR.o,?_,JB.o⟩;have h:=JA.o;rw[HE.o] at h;show _=some (Obj.cells (AM.cU (AM.gM (AM.bG l k) (AM.at_ l k) (AM.at_ l k).eG)) 215 (0,0));rw[<- HAr.o];exact h
       case measure=>simp[intOf];omega
  · obtain rfl:k=l.length:=by omega
    have DM:Z.size=768:=by rw[HZ.o];exact AM.eX _
    clear hR hA hb;go_wp2_with (first | (refine wpList_load_row rfl 215 _ rfl (w.heap.size+1) rfl 215 _ (0,0) _ HA.o Tryz.underlying215 rfl (by rw[AM.eX];exact oP) ?_) | (refine wpList_store_row rfl 215 _ _ rfl w.heap.size _ rfl rfl 215 Z HR.o (by rw[AM.eX];exact oP) (by rw[DM,AM.eX]) (AM.sP _) ?_))
    exact bodyPost_ret (v:=.agg (AM.cU (AM.bG l l.length))) (results_cell_row rfl _ _ w.heap.size 215 _ (0,0) _ rfl (setRow_heap _ _ _ _ 215 (0,0) HR.o) Tryz.underlying215 rfl (by rw[AM.eX];exact oP)) rfl ⟨rfl,below_setRow HB.o (Nat.le_refl _) _⟩
theorem GH (ao:Option Addr) (cap:Nat) (w:World) :
  Calls Tryz.prog 156 #[.slice ao 0 cap] w fun e w'=>e=.returned (.agg (AM.cU (AM.cR [])))/\Below w.heap.size w w':=by
 obtain⟨Z,hZ⟩:=ex (AM.cU (fun _=>AM.off));have hz:=VP;rw[<- hZ] at hz;have DM:Z.size=768:=by rw[hZ];exact AM.eX _
 have HZ:Hid (Z=AM.cU (fun _=>AM.off)):=hZ;clear hZ;have HR:Hid (((w.alloc (.cells Z 215)).alloc (.cells Z 215)).heap[w.heap.size]?=some (.cells Z 215 (0,0))):=B.alloc (B.new w Z 215) _;have HA:Hid (((w.alloc (.cells Z 215)).alloc (.cells Z 215)).heap[w.heap.size+1]?=some (.cells Z 215 (0,0))):=by
  have:=B.new (w.alloc (.cells Z 215)) Z 215;show _=_;simpa using this
 go_enter Tryz.func156,Tryz.ntmps156;go_wp2;refine wp_loop_rounds 1 ?_;rw[rounds_succ];go_wp2_with (first | (refine wpList_load_row rfl 215 _ rfl (w.heap.size+1) rfl 215 _ (0,0) _ HA.o Tryz.underlying215 rfl (by rw[DM];exact oP) ?_) | (refine wpList_store_row rfl 215 _ _ rfl w.heap.size _ rfl rfl 215 Z HR.o (by rw[DM];exact oP) rfl (by rw[HZ.o];exact AM.sP _) ?_))
 exact bodyPost_ret (v:=.agg Z) (results_cell_row rfl _ _ w.heap.size 215 _ (0,0) _ rfl (setRow_heap _ _ _ _ 215 (0,0) HR.o) Tryz.underlying215 rfl (by rw[DM];exact oP)) rfl ⟨by rw[HZ.o];rfl,below_setRow (((Below.refl _ _).alloc (Nat.le_refl _) _).alloc (by simp) _) (Nat.le_refl _) _⟩
end AW
namespace AM
open Go.RowKit
theorem Fz (F:Nat->St) (k:Nat) (hk:k<256):(cU F).extract (k*3) (k*3+3)=#[.bool (F k).m,I (F k).p,.bool (F k).z]:=by
 apply Array.ext_getElem?;intro j;have hs:=eX F;rw[Array.getElem?_extract,hs]
 match j with
 | 0=>rw[if_pos (by omega)];exact nT F k hk
 | 1=>rw[if_pos (by omega)];exact nR F k hk
 | 2=>rw[if_pos (by omega)];exact nQ F k hk
 | j+3=>rw[if_neg (by omega)];simp
def eK (F:Nat->St):Nat->St
 | 0=>off
 | k+1=>F k
def ra (a b:St):Bool:=a.m==b.m&&(a.p==b.p&&a.z==b.z)
def zT (G:List Ar):List Ar:=G.set (G.length-1) ⟨(at_ G (G.length-1)).page,(at_ G (G.length-1)).aJ+1,(at_ G (G.length-1)).bV,(at_ G (G.length-1)).zero⟩
def bh (F:Nat->St):Nat->List Ar
 | 0=>[]
 | k+1=>if (F k).m=false then bh F k else if ra (F k) (eK F k) then zT (bh F k) else bh F k++[⟨(k:Int),1,(F k).p,(F k).z⟩]
def eO (F:Nat->St):List Ar:=bh F 256
def four (a:Ar):List Value:=[I a.page,I a.aJ,I a.bV,.bool a.zero]
def bk:List Ar->List Value
 | []=>[]
 | a::r=>four a++bk r
theorem kU:∀G:List Ar,(bk G).length=G.length*4
 | []=>rfl
 | a::r=>by simp[bk,four,kU r];omega
theorem kV:∀G H:List Ar,bk (G++H)=bk G++bk H
 | [],H=>rfl
 | a::r,H=>by simp[bk,kV r H]
theorem fC:∀(G:List Ar) (i j:Nat),i<G.length->j<4->(bk G)[i*4+j]?=(four (at_ G i))[j]?
 | [],i,j,h,_=>by simp at h
 | a::r,0,j,h,hj=>by
  simp only[bk];rw[List.getElem?_append_left (by simp[four];omega)];simp[at_]
 | a::r,i+1,j,h,hj=>by
  simp only[bk];rw[List.getElem?_append_right (by simp[four];omega),show(i+1)*4+j-(four a).length=i*4+j from by simp[four];omega,fC r i j (by simpa using h) hj];simp[at_]
theorem gX:∀(G:List Ar) (i:Nat) (n:Int),i<G.length->bk (G.set i ⟨(at_ G i).page,n,(at_ G i).bV,(at_ G i).zero⟩)=(bk G).set (i*4+1) (I n)
 | [],i,n,h=>by simp at h
 | a::r,0,n,h=>by simp[bk,four,at_]
 | a::r,i+1,n,h=>by
  simp only[bk,List.set_cons_succ];rw[List.set_append_right _ _ (by simp[four];omega),show(i+1)*4+1-(four a).length=i*4+1 from by simp[four];omega];have e:=gX r i n (by simpa using h);rw[<- e];simp[at_]
theorem jO (G:List Ar):(zT G).length=G.length:=by simp[zT]
theorem jt:∀(G:List Ar),∀v∈bk G,v.oneCell'=true
 | [],v,h=>by simp[bk] at h
 | a::r,v,h=>by
  simp only[bk,four,List.cons_append,List.nil_append,List.mem_cons] at h;rcases h with rfl | rfl | rfl | rfl | h
  · rfl
  · rfl
  · rfl
  · rfl
  · exact jt r v h
theorem iK (G H:List Ar) (i:Nat) (h:i<G.length):at_ (G++H) i=at_ G i:=by simp[at_,List.getElem?_append_left h]
theorem mY (G:List Ar) (a:Ar):at_ (G++[a]) G.length=a:=by simp[at_]
theorem FI (G:List Ar) (i:Nat) (a:Ar) (h:i<G.length):at_ (G.set i a) i=a:=by simp[at_,h]
theorem Dt (G:List Ar) (i j:Nat) (a:Ar) (h:j≠i):at_ (G.set i a) j=at_ G j:=by simp[at_,List.getElem?_set_ne (Ne.symm h)]
theorem kN (F:Nat->St):∀k,(bh F k).length<=k
 | 0=>by simp[bh]
 | k+1=>by
  have ih:=kN F k;simp only[bh];split
  · omega
  · split
    · rw[jO];omega
    · simp;omega
theorem ql (F:Nat->St):∀k,(eK F k).m=true->0<(bh F k).length
 | 0,h=>by simp[eK,off] at h
 | k+1,h=>by
  have h':(F k).m=true:=h;simp only[bh,h'];rw[if_neg (by simp)];split
  · rename_i he
    have hm:(eK F k).m=true:=by
     simp only[ra,Bool.and_eq_true,beq_iff_eq] at he;rw[<- he.1];exact h'
    rw[jO];exact ql F k hm
  · simp
theorem o7 (F:Nat->St):∀k,∀i,i<(bh F k).length->1<=(at_ (bh F k) i).aJ/\(at_ (bh F k) i).aJ<=k
 | 0,i,h=>by simp[bh] at h
 | k+1,i,h=>by
  have ih:=o7 F k;simp only[bh] at h ⊢;split
  · rename_i hm
    rw[if_pos hm] at h;have:=ih i h;omega
  · rename_i hm
    rw[if_neg hm] at h;split
    · rename_i he
      rw[if_pos he,jO] at h;by_cases e:i=(bh F k).length-1
      · rw[e,zT,FI _ _ _ (by omega)];have:=ih ((bh F k).length-1) (by omega);simp only;omega
      · rw[zT,Dt _ _ _ _ e];have:=ih i h;omega
    · rename_i he
      rw[if_neg he] at h;by_cases e:i<(bh F k).length
      · rw[iK _ _ _ e];have:=ih i e;omega
      · obtain rfl:i=(bh F k).length:=by simp at h;omega
        rw[mY];simp only;omega
theorem CE (a b:St) (h:ra a b=true):a=b:=by
 cases a;cases b;simp only[ra,Bool.and_eq_true,beq_iff_eq] at h;obtain⟨h1,h2,h3⟩:=h;subst h1;subst h2;subst h3;rfl
theorem Jj (a b:St) (h:ra a b=false):(a.m==b.m)=false∨((a.m==b.m)=true/\(a.p==b.p)=false)∨((a.m==b.m)=true/\(a.p==b.p)=true/\(a.z==b.z)=false):=by
 unfold ra at h;cases h1:(a.m==b.m)
 · exact .inl rfl
 · cases h2:(a.p==b.p)
   · exact .inr (.inl ⟨rfl,rfl⟩)
   · cases h3:(a.z==b.z)
     · exact .inr (.inr ⟨rfl,rfl,rfl⟩)
     · rw[h1,h2,h3] at h;simp at h
end AM
namespace AW
open Go.RowKit
theorem Tn (F:Nat->AM.St) (k:Nat) (hk:k<256) (w:World):(Instr.index 215 (.agg (AM.cU F)) (I k)).run Tryz.prog w=.ok (.agg #[.bool (F k).m,I (F k).p,.bool (F k).z]) w:=by
 have h1:(k:Int)<256:=by omega
 simp[Instr.index,run_underlying Tryz.underlying215,go_sem];rw[if_pos hk,AM.Fz F k hk]
theorem OZ:(Tryz.prog.info? 47).map (fun i=>(i.zero,i.size,i.bytes))=some (some (.agg #[I 0,I 0,I 0,.bool false]),4,32):=by kernel_rfl
def Has (w:World) (v:Value) (l:List AM.Ar):Prop:=∃ao cap,v=.slice ao l.length cap/\(l=[]∨∃b off,ao=some (Ad b off)/\AM.Cs w b off l)
theorem zx {w wx:World} {v:Value} {n:Nat} {xs:List Value} {C:Array Value} (hC:C.size=3) (hown:wx.ownsRow (w.heap.size+2) 47 4 v n xs) (hl:wx.heap[w.heap.size+1]?=some (.cells C 173 (0,0))) (hb:Below w.heap.size w wx) (x y z:Value) :
  (((wx.setCell (Ad (w.heap.size+1) 0) x).setCell (Ad (w.heap.size+1) 1) y).setCell (Ad (w.heap.size+1) 2) z).ownsRow (w.heap.size+2) 47 4 v n xs /\
  (((wx.setCell (Ad (w.heap.size+1) 0) x).setCell (Ad (w.heap.size+1) 1) y).setCell (Ad (w.heap.size+1) 2) z).heap[w.heap.size+1]?=some (.cells #[x,y,z] 173 (0,0)) /\
  Below w.heap.size w (((wx.setCell (Ad (w.heap.size+1) 0) x).setCell (Ad (w.heap.size+1) 1) y).setCell (Ad (w.heap.size+1) 2) z):=by
 refine⟨ownsRow_setCell_below (ownsRow_setCell_below (ownsRow_setCell_below hown (by simp) _) (by simp) _) (by simp) _,?_,((hb.setCell (by simp) _).setCell (by simp) _).setCell (by simp) _⟩;rw[B.set (B.set (B.set hl 0 x) 1 y) 2 z];congr 2
 match C,hC with
 | ⟨[a,b,c]⟩,_=>rfl
def Own (lo:Nat) (w:World) (v:Value) (l:List AM.Ar):Prop:=w.ownsRow lo 47 4 v l.length (AM.bk l)
theorem Own.nil (lo:Nat) (w:World):Own lo w Nl []:=World.ownsRow_nil _ _ _ _
theorem Own.mono {lo lo':Nat} {w:World} {v:Value} {l:List AM.Ar} (h:Own lo w v l) (hl:lo'<=lo):Own lo' w v l:=by
 refine⟨h.1,?_⟩;rcases h.2 with h2 | ⟨g,cap,cur,hv,hbg,rest⟩
 · exact .inl h2
 · exact .inr ⟨g,cap,cur,hv,Nat.le_trans hl hbg,rest⟩
theorem Own.has {lo:Nat} {w:World} {v:Value} {l:List AM.Ar} (h:Own lo w v l):Has w v l:=by
 rcases h.2 with⟨hv,h0⟩ | ⟨g,cap,cur,hv,hbg,hg,hnc,hcm,hcs,htake⟩
 · exact⟨none,0,by rw[hv,h0],.inl (List.eq_nil_of_length_eq_zero h0)⟩
 · have ho:=h;unfold Own at ho;rw[hv] at ho;refine⟨some (Ad g 0),cap,hv,.inr ⟨g,0,rfl,fun i hi=>?_⟩⟩;rw[Nat.zero_add];exact⟨(ho.cellAt _ (by omega)).trans (AM.fC _ i 0 hi (by omega)),(ho.cellAt _ (by omega)).trans (AM.fC _ i 1 hi (by omega)),(ho.cellAt _ (by omega)).trans (AM.fC _ i 2 hi (by omega)),(ho.cellAt _ (by omega)).trans (AM.fC _ i 3 hi (by omega))⟩
theorem Ie (F:Nat->AM.St) (w:World) :
  Calls Tryz.prog 157 #[.agg (AM.cU F)] w fun e w'=>∃v,e=.returned v/\Own w.heap.size w' v (AM.eO F)/\Below w.heap.size w w':=by
 have xx:=Tn F;obtain⟨C,hC⟩:=ex (AM.cU F);have PS:C.size=768:=by rw[hC];exact AM.eX _
 rw[<- hC] at xx ⊢;clear hC;obtain⟨i0,hi,hz0,hz1,hz2⟩:=info_parts OZ;have HX:Hid (((w.alloc (.cells C 215)).alloc (.cells #[.bool false,I 0,.bool false] 173)).heap[w.heap.size]?=some (.cells C 215 (0,0))):=B.alloc (B.new w C 215) _;have HL:Hid (((w.alloc (.cells C 215)).alloc (.cells #[.bool false,I 0,.bool false] 173)).heap[w.heap.size+1]?=some (.cells #[.bool false,I 0,.bool false] 173 (0,0))):=by
  have:=B.new (w.alloc (.cells C 215)) #[.bool false,I 0,.bool false] 173;show _=_;simpa using this
 have bR:Hid (Below w.heap.size w ((w.alloc (.cells C 215)).alloc (.cells #[.bool false,I 0,.bool false] 173))):=((Below.refl _ _).alloc (Nat.le_refl _) _).alloc (by simp) _;go_enter Tryz.func157,Tryz.ntmps157;go_wp2_with (first | (refine wpList_load_row rfl 215 _ rfl w.heap.size rfl 215 _ (0,0) _ HX.o Tryz.underlying215 rfl (by rw[PS];exact oP) ?_))
 go_loopw [3,8] (fun v i wr=>∃k:Nat,k<=256/\i=I k/\wr.ownsRow (w.heap.size+2) 47 4 v (AM.bh F k).length (AM.bk (AM.bh F k))/\wr.heap[w.heap.size+1]?=some (.cells #[.bool (AM.eK F k).m,I (AM.eK F k).p,.bool (AM.eK F k).z] 173 (0,0))/\Below w.heap.size w wr) (fun _ i _=>256-(intOf i).toNat)
 case atStart=>exact⟨0,by omega,rfl,World.ownsRow_nil _ _ _ _,HL.o,bR.o⟩
 case round =>
  obtain⟨k,hk,rfl,hown,hl,hb⟩:=hrel;have HO:Hid (wr.ownsRow (w.heap.size+2) 47 4 u3 (AM.bh F k).length (AM.bk (AM.bh F k))):=hown;have HLr:Hid (wr.heap[w.heap.size+1]?=some (.cells #[.bool (AM.eK F k).m,I (AM.eK F k).p,.bool (AM.eK F k).z] 173 (0,0))):=hl;have HB:Hid (Below w.heap.size w wr):=hb;have hsz:w.heap.size+1<wr.heap.size:=B.isLt hl;have l0:=B.cell hl 0 rfl;have l1:=B.cell hl 1 rfl;have l2:=B.cell hl 2 rfl;have lf:=B.free hl;clear hown hl hb;by_cases hlt:k<256
  · have hx:=fun W=>xx k hlt W
    have wj:(k:Int)<256:=by omega
    obtain⟨s,hs⟩:=ex (F k);obtain⟨t,ht⟩:=ex (AM.eK F k);rw[<- hs] at hx;rw[<- ht] at l0 l1 l2;have HS:Hid (s=F k):=hs;have HT:Hid (t=AM.eK F k):=ht;clear hs ht xx;by_cases hm:s.m=true
    · by_cases he:AM.ra s t=true
      · have hst:s=t:=AM.CE s t he;have HG:Hid (AM.bh F (k+1)=AM.zT (AM.bh F k)):=by show _=_;simp only[AM.bh];rw[<- HS.o,<- HT.o,hm,he];rfl
        have hpos:=AM.ql F k (by rw[<- HT.o,<- hst];exact hm);have hlen:=AM.kN F k;obtain⟨G,hG⟩:=ex (AM.bh F k);have Gh:=AM.o7 F k ((AM.bh F k).length-1) (by omega);rw[<- hG] at HO HG hpos hlen Gh;clear hG;rcases HO.o.2 with⟨_,h0⟩ | ⟨g,cap,cur,hv,hbg,hg,hnc,hcm,hcs,htake⟩
        · omega
        · have oh:=HO.o;rw[hv] at oh;have p1:wr.cell? ⟨g,(G.length-1)*4+1,none⟩=some (I (AM.at_ G (G.length-1)).aJ):=by
           rw[oh.cellAt _ (by omega),AM.fC G _ 1 (by omega) (by omega)];rfl
          have pf:=oh.frozenAt;have HOv:Hid (wr.ownsRow (w.heap.size+2) 47 4 (.slice (some (Ad g 0)) G.length cap) G.length (AM.bk G)):=oh;have Hv:Hid (u3=.slice (some (Ad g 0)) G.length cap):=hv;have hgl:g<wr.heap.size:=B.isLt hg;rw[hv];clear HO oh hv hg htake hcs he;obtain⟨pp,xw⟩:=ex ((AM.at_ G (G.length-1)).aJ);rw[<- xw] at p1 Gh;have HP:Hid (pp=(AM.at_ G (G.length-1)).aJ):=xw;clear xw;subst hst;have hG1:(1:Int)<=(G.length:Int):=by omega
          have hG2:(G.length:Int)<=256:=by omega
          go_wp2;go_roundw
          case rel =>
           have ho:=(HOv.o.stored ((G.length-1)*4+1) (I (pp+1))).1;have e:(AM.bk G).set ((G.length-1)*4+1) (I (pp+1))=AM.bk (AM.zT G):=by
            rw[HP.o];exact(AM.gX G (G.length-1) _ (by omega)).symm
           rw[e] at ho;have h:=zx rfl ho (B.other HLr.o _ _ _ (by omega)) (HB.o.setCell (by simp;omega) _) (.bool true) (I s.p) (.bool s.z);refine⟨k+1,by omega,by go_num,?_,?_,h.2.2.alloc h.2.2.size _⟩
           · rw[HG.o,AM.jO];exact h.1.alloc _
           · show _=some (Obj.cells #[.bool (F k).m,I (F k).p,.bool (F k).z] 173 (0,0));rw[<- HS.o,hm];exact B.alloc h.2.1 _
          case measure=>simp[intOf];omega
      · have he':AM.ra s t=false:=by simpa using he
        have HG:Hid (AM.bh F (k+1)=AM.bh F k++[⟨(k:Int),1,s.p,s.z⟩]):=by show _=_;simp only[AM.bh];rw[<- HS.o,<- HT.o,hm,he'];rfl
        have hlen:=AM.kN F k;obtain⟨G,hG⟩:=ex (AM.bh F k);rw[<- hG] at HO HG hlen;clear hG he;have hrow:Hid (∀j,u3.ownBlock=some j->w.heap.size+2<=j/\j<wr.heap.size):=HO.o.lt;have Px:=AM.Jj s t he';obtain⟨sm,sp,sz⟩:=s;obtain⟨tm,tp,tz⟩:=t;simp only at hm Px l0 l1 l2 HG;subst hm;have HN:Hid (((wr.alloc (.cells #[.bool true,I sp,.bool sz] 173)).alloc (.cells #[I (k:Int),I 1,I sp,.bool sz] 47)).heap[wr.heap.size+1]?=some (.cells #[I (k:Int),I 1,I sp,.bool sz] 47 (0,0))):=by
         have:=B.new (wr.alloc (.cells #[.bool true,I sp,.bool sz] 173)) #[I (k:Int),I 1,I sp,.bool sz] 47;show _=_;simpa using this
        have Z4:tm=false∨(tm=true/\(sp==tp)=false)∨(tm=true/\sp=tp/\tz=!sz):=by
         cases tm
         · exact .inl rfl
         · rcases Px with q | ⟨_,q⟩ | ⟨_,q1,q2⟩
           · cases q
           · exact .inr (.inl ⟨rfl,q⟩)
           · refine .inr (.inr ⟨rfl,by simpa using q1,?_⟩);cases sz <;> cases tz <;> first | rfl | cases q2
        clear he' Px;rcases Z4 with rfl | ⟨rfl,q⟩ | ⟨rfl,rfl,rfl⟩
        all_goals
         go_wp2_with (at_builtin;refine wpList_append_lies _ rfl _ _ 28 rfl (w.heap.size+2) 47 i0 (.agg #[I 0,I 0,I 0,.bool false]) 4 32 Tryz.underlying28 hi hz0 hz1 hz2 rfl (by decide) _ _ _ rfl ((HO.o.alloc _).alloc _) (Ad (wr.heap.size+1) 0) 1 1 [I (k:Int),I 1,I sp,.bool sz] rfl rfl (B.news HN.o) (AM.jt [⟨(k:Int),1,sp,sz⟩]) (by decide) (by unfold maxLen;omega) (by omega) (by simp;omega) (wr.heap.size+2) (by simp) ?_)
         intro g cap w1 hown1 hgrow hat adR;have bS:=B.grown (B.alloc (B.new wr #[.bool true,I sp,.bool sz] 173) (.cells #[I (k:Int),I 1,I sp,.bool sz] 47)) hgrow (fun e=>by have:=hrow.out _ e.symm;omega);have bL:=B.grown (B.alloc (B.alloc HLr.o (.cells #[.bool true,I sp,.bool sz] 173)) (.cells #[I (k:Int),I 1,I sp,.bool sz] 47)) hgrow (fun e=>by have:=hrow.out _ e.symm;omega);have b0:=B.cell bS 0 rfl;have b1:=B.cell bS 1 rfl;have b2:=B.cell bS 2 rfl;have m0:=B.cell bL 0 rfl;have m1:=B.cell bL 1 rfl;have m2:=B.cell bL 2 rfl;have mf:=B.free bL;have MF:Hid (w1.ownsRow (w.heap.size+2) 47 4 (Value.slice (some (Ad g 0)) (G.length+1) cap) (G.length+1) (AM.bk G++[I (k:Int),I 1,I sp,.bool sz])):=hown1;have QK:Hid (w1.heap[w.heap.size+1]?=some (.cells #[.bool (AM.eK F k).m,I (AM.eK F k).p,.bool (AM.eK F k).z] 173 (0,0))):=bL;have bE:Hid (Below w.heap.size w w1):=((HB.o.alloc HB.o.size _).alloc (by have:=HB.o.size;simp;omega) _).grown hgrow (by have:=HB.o.size;simp;omega) (fun k' e=>by have:=hrow.out _ e;omega);clear bS bL hown1 hgrow hat l0 l1 l2 lf;go_wp2;go_roundw
         case rel =>
          have h:=zx rfl MF.o QK.o bE.o (.bool true) (I sp) (.bool sz);refine⟨k+1,by omega,by go_num,?_,?_,h.2.2⟩
          · rw[HG.o,List.length_append,AM.kV];exact h.1
          · show _=some (Obj.cells #[.bool (F k).m,I (F k).p,.bool (F k).z] 173 (0,0));rw[<- HS.o];exact h.2.1
         case measure=>simp[intOf];omega
    · have hm':s.m=false:=by simpa using hm
      have HG:Hid (AM.bh F (k+1)=AM.bh F k):=by show _=_;simp only[AM.bh];rw[<- HS.o,hm'];rfl
      clear hm;go_wp2;go_roundw
      case rel =>
       have h:=zx rfl HO.o HLr.o HB.o (.bool false) (I s.p) (.bool s.z);refine⟨k+1,by omega,by go_num,?_,?_,h.2.2.alloc h.2.2.size _⟩
       · rw[HG.o];exact h.1.alloc _
       · show _=some (Obj.cells #[.bool (F k).m,I (F k).p,.bool (F k).z] 173 (0,0));rw[<- HS.o,hm'];exact B.alloc h.2.1 _
      case measure=>simp[intOf];omega
  · obtain rfl:k=256:=by omega
    go_wp2;go_ret;refine⟨_,rfl,?_,HB.o⟩;exact Own.mono (lo:=w.heap.size+2) HO.o (by omega)
def dI (q:Int) (s:AM.St):AM.St×Int:=if s.m then (s,5) else (⟨true,q,true⟩,0)
def Vy (s:AM.St):Value:=.agg #[.bool s.m,I s.p,.bool s.z]
theorem Ow (s:AM.St) (q:Int) (P:Nat) (w:World) (hP:w.cell? (Ad P 0)=some (I q)) :
  Calls Tryz.prog 122 #[.agg #[.bool s.m,I s.p,.bool s.z],.pointer (some (Ad P 0))] w fun e w'=>e=.returned (.tuple #[Vy (dI q s).1,I (dI q s).2])/\Below w.heap.size w w':=by
 have hPl:P<w.heap.size:=World.block_lt_of_cell? w _ hP;obtain⟨m,p,z⟩:=s;cases m
 · go_enter Tryz.func122,Tryz.ntmps122;go_wp2;exact bodyPost_ret (v:=.tuple #[.agg #[.bool true,I q,.bool true],I 0]) (by simp[results,Tryz.results122,go_sem]) rfl ⟨rfl,((Below.refl _ _).alloc (Nat.le_refl _) _).alloc (by simp) _⟩
 · go_enter Tryz.func122,Tryz.ntmps122;go_wp2;exact bodyPost_ret (v:=.tuple #[.agg #[.bool true,I p,.bool z],I 5]) (by simp[results,Tryz.results122,go_sem]) rfl ⟨rfl,((Below.refl _ _).alloc (Nat.le_refl _) _).alloc (by simp) _⟩
theorem Has.below {w w':World} {v:Value} {l:List AM.Ar} (h:Has w v l) (hb:Below w.heap.size w w'):Has w' v l:=by
 obtain⟨ao,cap,rfl,h⟩:=h;rcases h with rfl | ⟨b,off,rfl,hl⟩
 · exact⟨ao,cap,rfl,.inl rfl⟩
 · exact⟨_,cap,rfl,.inr ⟨b,off,rfl,hl.below hb⟩⟩
def ft (l:List AM.Ar):Prop:=(∀i,i<l.length->AM.Fits (AM.at_ l i))/\l.length<=140737488351232
theorem gV (l:List AM.Ar) (v:Value) (w:World) (h:Has w v l) (hf:ft l) :
  Calls Tryz.prog 98 #[v] w fun e w'=>e=.returned (I (AM.aW l))/\Below w.heap.size w w':=by
 obtain⟨ao,cap,rfl,h⟩:=h;rcases h with rfl | ⟨b,off,rfl,hl⟩
 · exact ve ao cap w
 · exact mR l b off cap w hl hf.1 hf.2
theorem uD (l:List AM.Ar) (v:Value) (w:World) (h:Has w v l) (hf:ft l) :
  Calls Tryz.prog 54 #[v] w fun e w'=>e=.returned (I (AM.b7 l))/\Below w.heap.size w w':=by
 obtain⟨ao,cap,rfl,h⟩:=h;rcases h with rfl | ⟨b,off,rfl,hl⟩
 · exact Ku ao cap w
 · exact Gx l b off cap w hl hf.1 hf.2
theorem qm (l:List AM.Ar) (v:Value) (p:Int) (w:World) (h:Has w v l) (hf:ft l) :
  Calls Tryz.prog 70 #[v,I p] w fun e w'=>e=.returned (.tuple #[.agg (cellsOf (AM.aR l p).1),.bool (AM.aR l p).2])/\Below w.heap.size w w':=by
 obtain⟨ao,cap,rfl,h⟩:=h;rcases h with rfl | ⟨b,off,rfl,hl⟩
 · exact zt ao cap p w
 · exact Me l b off cap p w hl hf.1 hf.2
theorem GI (l:List AM.Ar) (v:Value) (w:World) (h:Has w v l) (hc:AM.aW l=0) :
  Calls Tryz.prog 156 #[v] w fun e w'=>e=.returned (.agg (AM.cU (AM.cR l)))/\Below w.heap.size w w':=by
 obtain⟨ao,cap,rfl,h⟩:=h;rcases h with rfl | ⟨b,off,rfl,hl⟩
 · exact GH ao cap w
 · exact Eg l b off cap w hl hc
end AW
namespace FW
open Go.RowKit
theorem ai {p:Prop} (h:p):Hid p:=h
theorem aD {w w1 w2:World} (h1:Below w.heap.size w w1) (h2:Below w1.heap.size w1 w2):Below w.heap.size w w2:=h1.trans (h2.mono h1.size)
def oW (way:Int):Int:=if way=1 then 1 else if way=2 then 2 else 0
theorem Bk (way:Int) (w:World):Calls Tryz.prog 140 #[I way] w fun e w'=>e=.returned (I (oW way))/\w=w':=by
 unfold oW;by_cases h1:way=1
 · subst h1;go_enter Tryz.func140,Tryz.ntmps140;go_wp2;go_ret;exact⟨rfl,rfl⟩
 · rw[if_neg h1];have h1i:(way==1)=false:=by rw[beq_eq_false_iff_ne];exact h1
   by_cases h2:way=2
   · subst h2;go_enter Tryz.func140,Tryz.ntmps140;go_wp2;go_ret;exact⟨rfl,rfl⟩
   · rw[if_neg h2];have h2i:(way==2)=false:=by rw[beq_eq_false_iff_ne];exact h2
     clear h1 h2;go_enter Tryz.func140,Tryz.ntmps140;go_wp2;go_ret;exact⟨rfl,rfl⟩
theorem yA (p way:Int) (h0:0<=p) (h3:p<=3):(bits BinOp.and IntKind.i64 p (oW way)==oW way)=!(FM.iQ p way):=by
 have hp:p=0∨p=1∨p=2∨p=3:=by omega
 unfold oW FM.iQ;by_cases h1:way=1
 · subst h1;rcases hp with rfl | rfl | rfl | rfl <;> decide
 · by_cases h2:way=2
   · subst h2;rcases hp with rfl | rfl | rfl | rfl <;> decide
   · rw[if_neg h1,if_neg h2];simp only[h1,h2,false_and,or_self,decide_false,Bool.not_false];rcases hp with rfl | rfl | rfl | rfl <;> decide
end FW
end Go.Proofs.YtpgifpeohlllfaaGreat
