import Derived.Test.YtlgoihmkgaaemaaGreatGQ03
import Derived.Deep.WholeRow
set_option maxHeartbeats 20000000
set_option linter.unusedVariables false
set_option maxRecDepth 100000
set_option linter.unusedSimpArgs false
namespace Go.Proofs.YtlgoihmkgaaemaaGreat
open Go.RowKit Tryz
theorem aaB:(prog.info? 332).map (λi=>(i.zero,i.size))=some (some (.agg (dU (λ_=>iL))),768):=by kernel_rfl
theorem wH:(prog.info? 332).map (·.size)=some 768:=(zero_of_info aaB).2
theorem ads (w:World):(zeroValue 332).run prog w=.ok (.agg (dU (λ_=>iL))) w:=(zero_of_info aaB).1 w
variable {v:Value} (l:List aX) (hs:List bC)
theorem Xj (b off cap:Nat) (w:World) (hl:Ae w b off l) (hc:bj l=0) :
  Calls prog 210 #[.slice (some (Ad b off)) l.length cap] w λe w'=>e=.returned (.agg (dU (iK l)))/\Below w.heap.size w w':=by
 have K:=jF l hc;have HK:Hid (bj l=0):=hc;clear hc;obtain⟨Z,hZ⟩:=ex (dU (λ_=>iL));have hz:=ads;rw[<- hZ] at hz;have HZ:Hid (Z=dU (λ_=>iL)):=hZ;clear hZ;go_enter func210,ntmps210;go_wp2;go_loopw [9] (λi wr=>∃k:Nat,k<=l.length/\i=I k/\wr.heap[w.heap.size]?=some (.cells Z 332 (0,0))/\wr.heap[w.heap.size+1]?=some (.cells (dU (fH l k)) 332 (0,0))/\Below w.heap.size w wr) (λi _=>l.length-(intOf i).toNat)
 case atStart =>
  refine⟨0,ω,rfl,bu (bH w Z 332) _,?_,((aN _ _).alloc (aK _) _).alloc ξ _⟩;show _=some (Obj.cells (dU (λ_=>iL)) 332 (0,0))
  grind [Hid.o,World.alloc]
 case round =>
  obtain⟨k,hk,rfl,hR,hA,hb⟩:=hrel;have HR:Hid (wr.heap[w.heap.size]?=some (.cells Z 332 (0,0))):=hR;have HA:Hid (wr.heap[w.heap.size+1]?=some (.cells (dU (fH l k)) 332 (0,0))):=hA;have HB:Hid (Below w.heap.size w wr):=hb;have M:w.heap.size+2<=wr.heap.size:=aQ hA;by_cases hlt:k<l.length
  . obtain⟨c0,c1,c2,c3⟩:=hl.below hb k hlt;have A:=ig l k (gP l HK.o k hlt);obtain⟨a,ha⟩:=ex (bw l k);rw[<- ha] at c0 c1 c2 c3 A;have G:Hid (a=bw l k):=ha;clear ha hR hA hb;obtain⟨wo,J⟩:∃wo:World,wo=wr:=⟨_,rfl⟩;subst J;have N:(k:Int)<(l.length:Int):=by omega
    go_wp2;go_loopw [6] (λt wi=>∃n:Nat,a.page<=(n:Int)/\(n:Int)<=a.page+a.aD/\t=I n/\wi.heap[w.heap.size]?=some (.cells Z 332 (0,0))/\wi.heap[w.heap.size+1]?=some (.cells (dU (jV (fH l k) a n)) 332 (0,0))/\wi.heap[wo.heap.size]?=some (.cells #[I a.page,I a.aD,I a.jP,.bool a.zero] 139 (0,0))/\Below w.heap.size w wi) (λt _=>(a.page+a.aD-intOf t).toNat)
    case atStart =>
     refine⟨a.page.toNat,ω,ω,Γ,bu HR.o _,?_,bH _ _ _,HB.o.alloc HB.o.size _⟩;rw[Int.toNat_of_nonneg ω,Xq];exact bu HA.o _
    case round =>
     obtain⟨n,UJ,KI,rfl,iR,iA,iX,ib⟩:=hrel;have IR:Hid (wr.heap[w.heap.size]?=some (.cells Z 332 (0,0))):=iR;have IA:Hid (wr.heap[w.heap.size+1]?=some (.cells (dU (jV (fH l k) a n)) 332 (0,0))):=iA;have IB:Hid (Below w.heap.size w wr):=ib;have x0:=aA iX 0 rfl;have x1:=aA iX 1 rfl;have x2:=aA iX 2 rfl;have x3:=aA iX 3 rfl;have IX:Hid (wr.heap[wo.heap.size]?=some (.cells #[I a.page,I a.aD,I a.jP,.bool a.zero] 139 (0,0))):=iX;have B:wo.heap.size<wr.heap.size:=aQ iX;clear iR iA iX ib;by_cases hin:(n:Int)<a.page+a.aD
     . go_wp2_with fail
       refine(sG _ _ _ _ _ ω ω).mono ?_;rintro e w2 ⟨rfl,q⟩;have jR:=aU IR.o q ω;have jA:=aU IA.o q ω;have jX:=aU IX.o q B;have y2:=aA jX 2 rfl;have y3:=aA jX 3 rfl;have z0:=aA jA (n*3) (zw _ n ω);have z1:=aA jA (n*3+1) (zu _ n ω);have z2:=aA jA (n*3+2) (zt _ n ω);have zf:=bG jA;have JR:Hid (w2.heap[w.heap.size]?=some (.cells Z 332 (0,0))):=jR;have JA:Hid (w2.heap[w.heap.size+1]?=some (.cells (dU (jV (fH l k) a n)) 332 (0,0))):=jA;have JX:Hid (w2.heap[wo.heap.size]?=some (.cells #[I a.page,I a.aD,I a.jP,.bool a.zero] 139 (0,0))):=jX;have JB:Hid (Below w.heap.size w w2):=IB.o.trans (q.mono IB.o.size);clear jR jA jX q x0 x1 x2 x3;have L:(n:Int)<256:=by omega
       go_wp2;go_roundw
       case rel =>
        refine⟨n+1,ω,ω,by go_num,nt (nt (nt JR.o _ _ _ ω) _ _ _ ω) _ _ _ ω,?_,nt (nt (nt JX.o _ _ _ ω) _ _ _ ω) _ _ _ ω,((JB.o.setCell ξ _).setCell ξ _).setCell ξ _⟩;have h:=gH (gH (gH JA.o (n*3) (.bool true)) (n*3+1) (I a.jP)) (n*3+2) (.bool a.zero);rw[My (jV (fH l k) a n) n ⟨true,a.jP,a.zero⟩ ω,ZI _ _ _ UJ] at h;rw[show((n+1:Nat):Int)=(n:Int)+1 from by omega];exact h
       case measure=>simp[intOf];omega
     have y:(n:Int)=a.page+a.aD:=by omega
     have HE:Hid ((n:Int)=a.page+a.aD):=y;clear y;go_wp2_with fail;refine(sG _ _ _ _ _ ω ω).mono ?_;rintro e w2 ⟨rfl,q⟩;have JR:Hid (w2.heap[w.heap.size]?=some (.cells Z 332 (0,0))):=aU IR.o q ω;have JA:Hid (w2.heap[w.heap.size+1]?=some (.cells (dU (jV (fH l k) a n)) 332 (0,0))):=aU IA.o q ω;have JB:Hid (Below w.heap.size w w2):=IB.o.trans (q.mono IB.o.size);clear q x0 x1 x2 x3;go_wp2;go_roundw
     case rel =>
      refine⟨k+1,ω,by go_num,JR.o,?_,JB.o⟩;have h:=JA.o;rw[HE.o] at h;show _=some (Obj.cells (dU (jV (fH l k) (bw l k) (bw l k).zC)) 332 (0,0));rw[<- G.o];exact h
     case measure=>simp[intOf];omega
  obtain rfl:k=l.length:=by omega
  have F:Z.size=768:=by rw[HZ.o];exact lj _
  clear hR hA hb;go_wp2_with (first | (refine NK rfl 332 _ rfl (w.heap.size+1) rfl 332 _ (0,0) _ HA.o underlying332 rfl (by rw[lj];exact wH) ?_) | (refine aaJ rfl 332 _ _ rfl w.heap.size _ rfl rfl 332 Z HR.o (by rw[lj];exact wH) (by rw[F,lj]) (Fj _) ?_));exact b9 (v:=.agg (dU (fH l l.length))) (results_cell_row rfl _ _ w.heap.size 332 _ (0,0) _ rfl (xo _ _ _ _ 332 (0,0) HR.o) underlying332 rfl (by rw[lj];exact wH)) rfl ⟨rfl,below_setRow HB.o (aK _) _⟩
theorem ZE (ao:Option Addr) (cap:Nat) (w:World) :
  Calls prog 210 #[.slice ao 0 cap] w λe w'=>e=.returned (.agg (dU (iK [])))/\Below w.heap.size w w':=by
 obtain⟨Z,hZ⟩:=ex (dU (λ_=>iL));have hz:=ads;rw[<- hZ] at hz;have b:Z.size=768:=by grind [lj]
 have HZ:Hid (Z=dU (λ_=>iL)):=hZ;clear hZ;have HR:Hid (((w.alloc (.cells Z 332)).alloc (.cells Z 332)).heap[w.heap.size]?=some (.cells Z 332 (0,0))):=bu (bH w Z 332) _;have HA:Hid (((w.alloc (.cells Z 332)).alloc (.cells Z 332)).heap[w.heap.size+1]?=some (.cells Z 332 (0,0))):=by
  grind [World.alloc]
 go_enter func210,ntmps210;go_wp2;refine NH 1 ?_;rw[Nv];go_wp2_with (first | (refine NK rfl 332 _ rfl (w.heap.size+1) rfl 332 _ (0,0) _ HA.o underlying332 rfl (by grind [wH]) ?_) | (refine aaJ rfl 332 _ _ rfl w.heap.size _ rfl rfl 332 Z HR.o (by rw[b];exact wH) rfl (by grind [Fj,Hid.o]) ?_));exact b9 (v:=.agg Z) (results_cell_row rfl _ _ w.heap.size 332 _ (0,0) _ rfl (xo _ _ _ _ 332 (0,0) HR.o) underlying332 rfl (by grind [wH])) rfl ⟨by rw[HZ.o];rfl,below_setRow (((aN _ _).alloc (aK _) _).alloc ξ _) (aK _) _⟩
open Go.RowKit
theorem aiW (F:Nat->cX) (k:Nat) (hk:k<256) (w:World):(Instr.index 332 (.agg (dU F)) (I k)).run prog w=.ok (.agg #[.bool (F k).m,I (F k).p,.bool (F k).z]) w:=by
 simp[Instr.index,NG underlying332,go_sem]
 grind [Xt]
theorem alv:(prog.info? 139).map (λi=>(i.zero,i.size,i.bytes))=some (some (.agg #[I 0,I 0,I 0,.bool false]),4,32):=by rfl
def gD (w:World) (v:Value) (l:List aX):Prop:=∃ao cap,v=.slice ao l.length cap/\(l=[]\/∃b off,ao=some (Ad b off)/\Ae w b off l)
theorem Kn {w wx:World} {n:Nat} {xs:List Value} {C:Array Value} (hC:C.size=3) (hown:wx.ownsRow (w.heap.size+2) 139 4 v n xs) (hl:wx.heap[w.heap.size+1]?=some (.cells C 287 (0,0))) (hb:Below w.heap.size w wx) (x y z:Value) :
  (((wx.setCell (Ad (w.heap.size+1) 0) x).setCell (Ad (w.heap.size+1) 1) y).setCell (Ad (w.heap.size+1) 2) z).ownsRow (w.heap.size+2) 139 4 v n xs /\
  (((wx.setCell (Ad (w.heap.size+1) 0) x).setCell (Ad (w.heap.size+1) 1) y).setCell (Ad (w.heap.size+1) 2) z).heap[w.heap.size+1]?=some (.cells #[x,y,z] 287 (0,0)) /\
  Below w.heap.size w (((wx.setCell (Ad (w.heap.size+1) 0) x).setCell (Ad (w.heap.size+1) 1) y).setCell (Ad (w.heap.size+1) 2) z):=by
 refine⟨KF (KF (KF hown ξ _) ξ _) ξ _,?_,((hb.setCell ξ _).setCell ξ _).setCell ξ _⟩;rw[gH (gH (gH hl 0 x) 1 y) 2 z];congr 2
 match C,hC with
 | ⟨[a,b,c]⟩,_=>rfl
def eB (lo:Nat) (w:World) (v:Value) (l:List aX):Prop:=w.ownsRow lo 139 4 v l.length (cW l)
theorem eB.nil (lo:Nat) (w:World):eB lo w Nl []:=pT _ _ _ _
theorem eB.mono {lo lo':Nat} {w:World} {l:List aX} (h:eB lo w v l) (hl:lo'<=lo):eB lo' w v l:=by
 refine⟨h.1,?_⟩;rcases h.2 with h2 | ⟨g,cap,b,hv,q,rest⟩
 . grind
 exact .inr ⟨g,cap,b,hv,eJ hl q,rest⟩
theorem eB.has {lo:Nat} {w:World} {l:List aX} (h:eB lo w v l):gD w v l:=by
 rcases h.2 with⟨hv,h0⟩ | ⟨g,cap,y,hv,B,hg,F,A,q,b⟩
 . exact⟨none,0,Γ,.inl (o9 h0)⟩
 have ho:=h;unfold eB at ho;rw[hv] at ho;refine⟨some (Ad g 0),cap,hv,.inr ⟨g,0,rfl,λi hi=>?_⟩⟩;rw[nj];exact⟨(ho.cellAt _ ω).trans (oG _ i 0 hi ω),(ho.cellAt _ ω).trans (oG _ i 1 hi ω),(ho.cellAt _ ω).trans (oG _ i 2 hi ω),(ho.cellAt _ ω).trans (oG _ i 3 hi ω)⟩
theorem ZG (F:Nat->cX) (w:World) :
  Calls prog 211 #[.agg (dU F)] w λe w'=>∃v,e=.returned v/\eB w.heap.size w' v (ic F)/\Below w.heap.size w w':=by
 have M:=aiW F;obtain⟨C,hC⟩:=ex (dU F);have a5:C.size=768:=by grind [lj]
 rw[<- hC] at M ⊢;clear hC;obtain⟨i0,hi,a3,Z,Y⟩:=kI alv;have HX:Hid (((w.alloc (.cells C 332)).alloc (.cells #[.bool false,I 0,.bool false] 287)).heap[w.heap.size]?=some (.cells C 332 (0,0))):=bu (bH w C 332) _;have HL:Hid (((w.alloc (.cells C 332)).alloc (.cells #[.bool false,I 0,.bool false] 287)).heap[w.heap.size+1]?=some (.cells #[.bool false,I 0,.bool false] 287 (0,0))):=by
  grind [World.alloc]
 have fU:Hid (Below w.heap.size w ((w.alloc (.cells C 332)).alloc (.cells #[.bool false,I 0,.bool false] 287))):=((aN _ _).alloc (aK _) _).alloc ξ _;go_enter func211,ntmps211;go_wp2_with (first | (refine NK rfl 332 _ rfl w.heap.size rfl 332 _ (0,0) _ HX.o underlying332 rfl (by grind [wH]) ?_));go_loopw [3,8] (λv i wr=>∃k:Nat,k<=256/\i=I k/\wr.ownsRow (w.heap.size+2) 139 4 v (cT F k).length (cW (cT F k))/\wr.heap[w.heap.size+1]?=some (.cells #[.bool (ik F k).m,I (ik F k).p,.bool (ik F k).z] 287 (0,0))/\Below w.heap.size w wr) (λ_ i _=>256-(intOf i).toNat)
 case atStart=>exact⟨0,ω,rfl,pT _ _ _ _,HL.o,fU.o⟩
 case round =>
  obtain⟨k,hk,rfl,J,hl,hb⟩:=hrel;have HO:Hid (wr.ownsRow (w.heap.size+2) 139 4 u3 (cT F k).length (cW (cT F k))):=J;have L:Hid (wr.heap[w.heap.size+1]?=some (.cells #[.bool (ik F k).m,I (ik F k).p,.bool (ik F k).z] 287 (0,0))):=hl;have HB:Hid (Below w.heap.size w wr):=hb;have a7:w.heap.size+1<wr.heap.size:=aQ hl;have l0:=aA hl 0 rfl;have l1:=aA hl 1 rfl;have l2:=aA hl 2 rfl;have lf:=bG hl;clear J hl hb;by_cases hlt:k<256
  . have hx:=λW=>M k hlt W
    have C2:(k:Int)<256:=by omega
    obtain⟨s,hs⟩:=ex (F k);obtain⟨t,ht⟩:=ex (ik F k);rw[<- hs] at hx;rw[<- ht] at l0 l1 l2;have HS:Hid (s=F k):=hs;have HT:Hid (t=ik F k):=ht;clear hs ht M;by_cases hm:s.m=true
    . by_cases he:sM s t=true
      . have T:s=t:=Xo s t he;have HG:Hid (cT F (k+1)=zy (cT F k)):=by show _=_;simp only[cT];rw[<- HS.o,<- HT.o,hm,he];rfl
        have R:=Kq F k (by rw[<- HT.o,<- T];exact hm);have B:=Fi F k;obtain⟨G,hG⟩:=ex (cT F k);have Gt:=ID F k ((cT F k).length-1) ω;rw[<- hG] at HO HG R B Gt;clear hG;rcases HO.o.2 with⟨_,h0⟩ | ⟨g,cap,a8,hv,ac,hg,ad,aa,a0,O⟩
        . omega
        have K6:=HO.o;rw[hv] at K6;have p1:wr.cell? ⟨g,(G.length-1)*4+1,none⟩=some (I (bw G (G.length-1)).aD):=by
         rw[K6.cellAt _ ω,oG G _ 1 ω ω];rfl
        have pf:=K6.frozenAt;have a4:Hid (wr.ownsRow (w.heap.size+2) 139 4 (.slice (some (Ad g 0)) G.length cap) G.length (cW G)):=K6;have a9:g<wr.heap.size:=aQ hg;rw[hv];clear HO K6 hv hg O a0 he;obtain⟨pp,Rj⟩:=ex ((bw G (G.length-1)).aD);rw[<- Rj] at p1 Gt;have HP:Hid (pp=(bw G (G.length-1)).aD):=Rj;clear Rj;subst T;have a6:(G.length:Int)<=256:=by omega
        go_wp2;go_roundw
        case rel =>
         have ho:=(a4.o.stored ((G.length-1)*4+1) (I (pp+1))).1;have e:(cW G).set ((G.length-1)*4+1) (I (pp+1))=cW (zy G):=by
          rw[HP.o];exact(Gg G (G.length-1) _ ω).symm
         rw[e] at ho;have h:=Kn rfl ho (nt L.o _ _ _ ω) (HB.o.setCell (by simp;omega) _) (.bool true) (I s.p) (.bool s.z);refine⟨k+1,ω,by go_num,?_,?_,h.2.2.alloc h.2.2.size _⟩
         . rw[HG.o,zx];exact h.1.alloc _
         show _=some (Obj.cells #[.bool (F k).m,I (F k).p,.bool (F k).z] 287 (0,0));rw[<- HS.o,hm];exact bu h.2.1 _
        case measure=>simp[intOf];omega
      have K:sM s t=false:=by simpa using he
      have HG:Hid (cT F (k+1)=cT F k++[⟨(k:Int),1,s.p,s.z⟩]):=by show _=_;simp only[cT];rw[<- HS.o,<- HT.o,hm,K];rfl
      have B:=Fi F k;generalize cT F k=G at HO HG B;clear he;have y:Hid (∀j,u3.ownBlock=some j->w.heap.size+2<=j/\j<wr.heap.size):=HO.o.lt;have N:=Xn s t K;obtain⟨sm,sp,sz⟩:=s;obtain⟨tm,tp,tz⟩:=t;simp only at hm N l0 l1 l2 HG;subst hm;have HN:Hid (((wr.alloc (.cells #[.bool true,I sp,.bool sz] 287)).alloc (.cells #[I (k:Int),I 1,I sp,.bool sz] 139)).heap[wr.heap.size+1]?=some (.cells #[I (k:Int),I 1,I sp,.bool sz] 139 (0,0))):=by
       have:=bH (wr.alloc (.cells #[.bool true,I sp,.bool sz] 287)) #[I (k:Int),I 1,I sp,.bool sz] 139;show _=_;simpa using this
      have a2:tm=false\/(tm=true/\(sp==tp)=false)\/(tm=true/\sp=tp/\tz=!sz):=by
       cases tm
       . exact .inl rfl
       rcases N with q | ⟨_,q⟩ | ⟨_,q1,q2⟩
       . cases q
       . exact .inr (.inl ⟨rfl,q⟩)
       refine .inr (.inr ⟨rfl,by simpa using q1,?_⟩);cases sz <;> cases tz <;> first | rfl | cases q2
      clear K N;rcases a2 with rfl | ⟨rfl,q⟩ | ⟨rfl,rfl,rfl⟩
      all_goals
       go_wp2_with (at_builtin;refine Kz _ rfl _ _ 22 rfl (w.heap.size+2) 139 i0 (.agg #[I 0,I 0,I 0,.bool false]) 4 32 underlying22 hi a3 Z Y rfl Δ _ _ _ rfl ((HO.o.alloc _).alloc _) (Ad (wr.heap.size+1) 0) 1 1 [I (k:Int),I 1,I sp,.bool sz] rfl rfl (xY HN.o) (wO [⟨(k:Int),1,sp,sz⟩]) Δ (by unfold maxLen;omega) ω (by simp;omega) (wr.heap.size+2) ξ ?_)
       intro g cap w1 A b X ab;have bS:=AK (bu (bH wr #[.bool true,I sp,.bool sz] 287) (.cells #[I (k:Int),I 1,I sp,.bool sz] 139)) b (λe=>by have:=y.out _ e.symm;omega);have bL:=AK (bu (bu L.o (.cells #[.bool true,I sp,.bool sz] 287)) (.cells #[I (k:Int),I 1,I sp,.bool sz] 139)) b (λe=>by have:=y.out _ e.symm;omega);have b0:=aA bS 0 rfl;have b1:=aA bS 1 rfl;have b2:=aA bS 2 rfl;have m0:=aA bL 0 rfl;have m1:=aA bL 1 rfl;have m2:=aA bL 2 rfl;have mf:=bG bL;have a1:Hid (w1.ownsRow (w.heap.size+2) 139 4 (Value.slice (some (Ad g 0)) (G.length+1) cap) (G.length+1) (cW G++[I (k:Int),I 1,I sp,.bool sz])):=A;have U:Hid (w1.heap[w.heap.size+1]?=some (.cells #[.bool (ik F k).m,I (ik F k).p,.bool (ik F k).z] 287 (0,0))):=bL;have cD:Hid (Below w.heap.size w w1):=((HB.o.alloc HB.o.size _).alloc (by simp;omega) _).grown b (by simp;omega) (λk' e=>by have:=y.out _ e;omega);clear bS bL A b X l0 l1 l2 lf;go_wp2;go_roundw
       case rel =>
        have h:=Kn rfl a1.o U.o cD.o (.bool true) (I sp) (.bool sz);refine⟨k+1,ω,by go_num,?_,?_,h.2.2⟩
        . rw[HG.o,ft,Ce];exact h.1
        show _=some (Obj.cells #[.bool (F k).m,I (F k).p,.bool (F k).z] 287 (0,0));rw[<- HS.o];exact h.2.1
       case measure=>simp[intOf];omega
    have Q:s.m=false:=by simpa using hm
    have HG:Hid (cT F (k+1)=cT F k):=by show _=_;simp only[cT];rw[<- HS.o,Q];rfl
    clear hm;go_wp2;go_roundw
    case rel =>
     have h:=Kn rfl HO.o L.o HB.o (.bool false) (I s.p) (.bool s.z);refine⟨k+1,ω,by go_num,?_,?_,h.2.2.alloc h.2.2.size _⟩
     . rw[HG.o];exact h.1.alloc _
     show _=some (Obj.cells #[.bool (F k).m,I (F k).p,.bool (F k).z] 287 (0,0));rw[<- HS.o,Q];exact bu h.2.1 _
    case measure=>simp[intOf];omega
  obtain rfl:k=256:=by omega
  go_wp2;go_ret;refine⟨_,rfl,?_,HB.o⟩;exact eB.mono (lo:=w.heap.size+2) HO.o ω
def qW (q:Int) (s:cX):cX×Int:=if s.m then (s,5) else (⟨true,q,true⟩,0)
def dm (s:cX):cX×Int:=(iL,0)
def mK (q:Int) (s:cX):cX×Int:=if s.m then (⟨s.m,q,s.z⟩,0) else (s,6)
def Qd (s:cX):Value:=.agg #[.bool s.m,I s.p,.bool s.z]
theorem agr (s:cX) (q:Int) (P:Nat) (w:World) (hP:w.cell? (Ad P 0)=some (I q)) :
  Calls prog 173 #[.agg #[.bool s.m,I s.p,.bool s.z],.pointer (some (Ad P 0))] w λe w'=>e=.returned (.tuple #[Qd (qW q s).1,I (qW q s).2])/\Below w.heap.size w w':=by
 have b:P<w.heap.size:=jL w _ hP;obtain⟨m,p,z⟩:=s;cases m
 . go_enter func173,ntmps173;go_wp2;exact b9 (v:=.tuple #[.agg #[.bool true,I q,.bool true],I 0]) (by simp[results,results173,go_sem]) rfl ⟨rfl,((aN _ _).alloc (aK _) _).alloc ξ _⟩
 go_enter func173,ntmps173;go_wp2;exact b9 (v:=.tuple #[.agg #[.bool true,I p,.bool z],I 5]) (by simp[results,results173,go_sem]) rfl ⟨rfl,((aN _ _).alloc (aK _) _).alloc ξ _⟩
theorem ZB (s:cX) (w:World) :
  Calls prog 287 #[.agg #[.bool s.m,I s.p,.bool s.z]] w λe w'=>e=.returned (.tuple #[Qd (dm s).1,I (dm s).2])/\Below w.heap.size w w':=by
 go_enter func287,ntmps287;go_wp2;exact b9 (v:=.tuple #[.agg #[.bool false,I 0,.bool false],I 0]) (by simp[results,results287,go_sem]) rfl ⟨rfl,((aN _ _).alloc (aK _) _).alloc ξ _⟩
theorem TF (s:cX) (q:Int) (P:Nat) (w:World) (hP:w.cell? (Ad P 0)=some (I q)) :
  Calls prog 286 #[.agg #[.bool s.m,I s.p,.bool s.z],.pointer (some (Ad P 0))] w λe w'=>e=.returned (.tuple #[Qd (mK q s).1,I (mK q s).2])/\Below w.heap.size w w':=by
 have b:P<w.heap.size:=jL w _ hP;obtain⟨m,p,z⟩:=s;cases m
 . go_enter func286,ntmps286;go_wp2;exact b9 (v:=.tuple #[.agg #[.bool false,I p,.bool z],I 6]) (by simp[results,results286,go_sem]) rfl ⟨rfl,((aN _ _).alloc (aK _) _).alloc ξ _⟩
 go_enter func286,ntmps286;go_wp2;exact b9 (v:=.tuple #[.agg #[.bool true,I q,.bool z],I 0]) (by simp[results,results286,go_sem]) rfl ⟨rfl,((aN _ _).alloc (aK _) _).alloc ξ _⟩
theorem gD.below {w w':World} {l:List aX} (h:gD w v l) (hb:Below w.heap.size w w'):gD w' v l:=by
 obtain⟨ao,cap,rfl,h⟩:=h;rcases h with rfl | ⟨b,off,rfl,hl⟩
 . exact⟨ao,cap,rfl,.inl rfl⟩
 exact⟨_,cap,rfl,.inr ⟨b,off,rfl,hl.below hb⟩⟩
def dQ (l:List aX):Prop:=(∀i,i<l.length->EJ (bw l i))/\l.length<=140737488351232
theorem CR (v:Value) (w:World) (h:gD w v l) (hf:dQ l) :
  Calls prog 117 #[v] w λe w'=>e=.returned (I (bj l))/\Below w.heap.size w w':=by
 obtain⟨ao,cap,rfl,h⟩:=h;rcases h with rfl | ⟨b,off,rfl,hl⟩
 . exact Ia ao cap w
 exact xm l b off cap w hl hf.1 hf.2
theorem rW (v:Value) (w:World) (h:gD w v l) (hf:dQ l) :
  Calls prog 70 #[v] w λe w'=>e=.returned (I (bf l))/\Below w.heap.size w w':=by
 obtain⟨ao,cap,rfl,h⟩:=h;rcases h with rfl | ⟨b,off,rfl,hl⟩
 . exact adt ao cap w
 exact ZC l b off cap w hl hf.1 hf.2
theorem yq (v:Value) (p:Int) (w:World) (h:gD w v l) (hf:dQ l) :
  Calls prog 77 #[v,I p] w λe w'=>e=.returned (.tuple #[.agg (pI (aV l p).1),.bool (aV l p).2])/\Below w.heap.size w w':=by
 obtain⟨ao,cap,rfl,h⟩:=h;rcases h with rfl | ⟨b,off,rfl,hl⟩
 . exact agt ao cap p w
 exact adv l b off cap p w hl hf.1 hf.2
theorem ZF (v:Value) (w:World) (h:gD w v l) (hc:bj l=0) :
  Calls prog 210 #[v] w λe w'=>e=.returned (.agg (dU (iK l)))/\Below w.heap.size w w':=by
 obtain⟨ao,cap,rfl,h⟩:=h;rcases h with rfl | ⟨b,off,rfl,hl⟩
 . exact ZE ao cap w
 exact Xj l b off cap w hl hc
theorem Vo (ao:Option Addr) (cap:Nat) (w:World) :
  Calls prog 118 #[.slice ao 0 cap] w λe w'=>e=.returned (.bool (mW []))/\Below w.heap.size w w':=by
 go_enter func118,ntmps118;go_wp2;refine NH 1 ?_;rw[Nv];go_wp2;go_ret;exact⟨rfl,aN _ _⟩
theorem Td (b off cap:Nat) (w:World) (hl:Ae w b off l) (hn:l.length<=140737488351232) :
  Calls prog 118 #[.slice (some (Ad b off)) l.length cap] w λe w'=>e=.returned (.bool (mW l))/\Below w.heap.size w w':=by
 go_enter func118,ntmps118;go_wp2;go_loopw [7] (λi wr=>∃k:Nat,k<=l.length/\i=I k/\ql l k=false/\Below w.heap.size w wr) (λi _=>l.length-(intOf i).toNat)
 case atStart=>exact⟨0,ω,rfl,rfl,aN _ _⟩
 case round =>
  obtain⟨k,hk,rfl,hz,hb⟩:=hrel;have HZ:=aq hz;have wQ:=aq hb;clear hz;by_cases hlt:k<l.length
  . obtain⟨c0,c1,c2,c3⟩:=(hl.below hb) k hlt;obtain⟨a,ha⟩:=ex (bw l k);rw[<- ha] at c0 c1 c2 c3;have HA:=aq ha;clear ha hb;by_cases hzr:a.zero=true
    . have HX:Hid (mW l=true):=ahp l k hlt (by grind [Hid.o]);go_wp2;go_ret;exact⟨kO (by rw[HX.o]),wQ.o.alloc wQ.o.size _⟩
    have q:a.zero=false:=by grind
    clear hzr;have HX:Hid (ql l (k+1)=false):=by
     grind [ql,Hid.o]
    go_wp2
    grind [intOf,Hid.o,Below.alloc,Below.size]
  obtain rfl:k=l.length:=by omega
  go_wp2;go_ret;exact⟨kO HZ.o.symm,wQ.o⟩
theorem Vp (v:Value) (w:World) (h:gD w v l) (hf:dQ l) :
  Calls prog 118 #[v] w λe w'=>e=.returned (.bool (mW l))/\Below w.heap.size w w':=by
 obtain⟨ao,cap,rfl,h⟩:=h;rcases h with rfl | ⟨b,off,rfl,hl⟩
 . exact Vo ao cap w
 exact Td l b off cap w hl hf.2
theorem MK (ao:Option Addr) (cap:Nat) (w:World) (h:kq w ao hs) (hf:uh hs) :
  Calls prog 120 #[.slice ao hs.length cap] w λe w'=>e=.returned (.bool (tM hs))/\Below w.heap.size w w':=by
 have HF:=aq hf;have HH:=aq h;have hn:hs.length<=140737488351232:=hf.1;clear h hf;go_enter func120,ntmps120;go_wp2;go_loopw [7] (λi wr=>∃k:Nat,k<=hs.length/\i=I k/\mU hs k=true/\Below w.heap.size w wr) (λi _=>hs.length-(intOf i).toNat)
 case atStart=>exact⟨0,ω,rfl,rfl,aN _ _⟩
 case round =>
  obtain⟨k,hk,rfl,hz,hb⟩:=hrel;have HZ:=aq hz;have wQ:=aq hb;clear hz;by_cases hlt:k<hs.length
  . obtain⟨b,off,y,A,di⟩:=(HH.o.below hb) ω;subst y;obtain⟨c0,c1,c2,c3⟩:=di k hlt;have Qf:=HF.o.2 k hlt;have HE:Hid (mU hs (k+1)=cY (bk hs k)):=by
     grind [mU,Hid.o]
    have q:Hid (cY (bk hs k)=false->tM hs=false):=λe=>Yc hs k hlt e
    generalize bk hs k=s at c0 c1 c2 c3 Qf HE q;clear di hb;have iQ:=aq (wQ.o.alloc wQ.o.size (.cells #[I s.page,.string s.data,.slice s.ao s.dR.length s.cap] 145));have HC:Hid (∀W,Below wr.heap.size wr W->Calls prog 122 #[.agg #[I s.page,.string s.data,.slice s.ao s.dR.length s.cap]] W λe w'=>e=.returned (.bool (cY s))/\Below W.heap.size W w'):=λW hb=>Ed s W (c3.below hb) Qf
    clear c3 Qf;cases e:cY s with
    | true =>
     rw[e] at HC HE;clear e;go_wp2_with (go_at_call 122;refine(HC.o _ ((aN _ _).alloc (aK _) _)).mono ?_;rintro e w1 ⟨rfl,hb⟩;have iQ:=aq (iQ.o.trans (hb.mono iQ.o.size));clear hb);go_roundw
     case rel=>exact⟨k+1,ω,by go_num,HE.o,iQ.o⟩
     case measure=>simp[intOf];omega
    | false =>
     have HX:=aq (q.o e);rw[e] at HC;clear e q HE;go_wp2_with (go_at_call 122;refine(HC.o _ ((aN _ _).alloc (aK _) _)).mono ?_;rintro e w1 ⟨rfl,hb⟩;have iQ:=aq (iQ.o.trans (hb.mono iQ.o.size));clear hb);go_ret;exact⟨kO (by rw[HX.o]),iQ.o⟩
  obtain rfl:k=hs.length:=by omega
  go_wp2;go_ret;exact⟨kO HZ.o.symm,wQ.o⟩
theorem Rv {a a':Option Addr} {n n' m m':Nat} (h1:a=a') (h2:n=n') (h3:m=m'):Value.slice a n m=.slice a' n' m':=by grind
theorem Vk (en:Int) (va:Value) (ao:Option Addr) (cap:Nat) (w:World) (ha:gD w va l) (hc:bj l=0) (h:kq w ao hs) (hn:hs.length<=140737488351232) (hcap:hs.length<=cap) :
  Calls prog 119 #[.agg #[va,.slice ao hs.length cap,I en]] w λe w'=>e=.returned (.bool (jD l hs))/\Below w.heap.size w w':=by
 obtain⟨b,off,K⟩:∃b off,0<hs.length->ao=some (Ad b off)/\b<w.heap.size/\OG w b off hs:=by
  by_cases h0:0<hs.length
  . obtain⟨b,off,h1,h2,h3⟩:=h h0
    grind
  simp_all
 have N:=aq K;have HC:=aq hc;have Q:=jF l hc;obtain⟨aa,ca,rfl,O⟩:=ha;have QW:Hid (0<l.length->∃b off,aa=some (Ad b off)/\Ae w b off l):=λg=>by
  grind
 clear K hc h O;have HB:=aq ((aN w.heap.size w).alloc (aK _) (.cells #[.slice aa l.length ca,.slice ao hs.length cap,I en] 25));go_enter func119,ntmps119;go_wp2;go_loopw [12,3] (λix v wr=>∃(i c:Nat) (Fl:Option Addr),i<=l.length/\ix=I i/\v=.slice Fl (hs.length-c) (cap-c)/\c<=hs.length/\(c<hs.length->Fl=some (Ad b (off+c*3)))/\(hs.take c).map (·.page)=fK l i/\Below w.heap.size w wr) (λix _ _=>l.length-(intOf ix).toNat)
 case atStart=>exact⟨0,0,ao,ω,rfl,rfl,ω,λg=>by grind [Hid.o],rfl,HB.o⟩
 case round =>
  obtain⟨i,c,Fl,hi,rfl,rfl,G,A,B,hb⟩:=hrel;have F:=aq A;have q:=aq B;have wQ:=aq hb;clear A B;by_cases hlt:i<l.length
  . obtain⟨ba,T,y,hl⟩:=QW.o ω;subst y;obtain⟨c0,c1,c2,c3⟩:=(hl.below hb) i hlt;have L:=ig l i (gP l HC.o i hlt);have Ir:Hid (∀n,n<(bw l i).aD.toNat->∃t,lW l=(fK l i++ml (bw l i) n)++((bw l i).page+(n:Int))::t):=λn hn=>Vv l i hlt n hn
    have zB:Hid (fK l (i+1)=fK l i++ml (bw l i) (bw l i).aD.toNat):=rfl;obtain⟨a,y⟩:=ex (bw l i);rw[<- y] at c0 c1 c2 c3 L Ir zB;clear y hb;obtain⟨P,hP⟩:∃P:Nat,a.aD=(P:Int):=⟨a.aD.toNat,ω⟩;rw[hP] at c1 L Ir zB;rw[jW] at Ir zB;have iQ:=aq (wQ.o.alloc wQ.o.size (.cells #[I a.page,I (P:Int),I a.jP,.bool a.zero] 139));have BA:=aq (bH wr #[I a.page,I (P:Int),I a.jP,.bool a.zero] 139);go_wp2;go_loopw [18,3] (λnx v wi=>∃(n c:Nat) (Fl:Option Addr),n<=P/\nx=I n/\v=.slice Fl (hs.length-c) (cap-c)/\c<=hs.length/\(c<hs.length->Fl=some (Ad b (off+c*3)))/\(hs.take c).map (·.page)=fK l i++ml a n/\Below w.heap.size w wi/\wi.heap[wr.heap.size]?=some (.cells #[I a.page,I (P:Int),I a.jP,.bool a.zero] 139 (0,0))) (λnx _ _=>P-(intOf nx).toNat)
    case atStart=>exact⟨0,c,Fl,ω,rfl,rfl,G,F.o,by rw[q.o];simp[ml],iQ.o,BA.o⟩
    case round =>
     obtain⟨n,c,Fl,R,rfl,rfl,G,A,B,hb,J⟩:=hrel;have F:=aq A;have q:=aq B;have Tw:=aq hb;have M:=aq J;have x0:=aA J 0 rfl;clear A B J;by_cases hlp:n<P
     . obtain⟨t,ht⟩:=Ir.o n hlp;have HT:=aq ht;clear ht;by_cases hce:c=hs.length
       . have HX:Hid (jD l hs=false):=Yh (by have h:=q.o;rw[hce] at h;exact h) HT.o;have hz:hs.length-c=0:=by omega
         rw[hz];clear hz hce;go_wp2
         go_quiet (fail)
         go_wp2;go_ret;exact⟨kO HX.o.symm,xq Tw.o _⟩
       have S8:c<hs.length:=by omega
       have Y:(((hs.length-c:Nat):Int)==0)=false:=by simp;omega
       have W:0<hs.length-c:=by omega
       obtain⟨-,g2,g3⟩:=N.o ω;obtain⟨d0,d1,d2,d3⟩:=(ajv (hb.mono (NA rfl)) g2 g3) c S8;have y:=F.o S8;subst y;have U:(1:Int)<=((hs.length-c:Nat):Int):=by omega
       by_cases Gt:(bk hs c).page=a.page+(n:Int)
       . have HX:Hid ((hs.take (c+1)).map (·.page)=fK l i++ml a (n+1)):=by
          show _=_;rw[FC hs c S8,q.o,Gt,yI,uH]
         rw[Gt] at d0;clear Gt d1 d2 d3 hb hce;by_cases hc1:cap-c=1
         . go_wp2
           go_quiet (fail)
           go_wp2;go_roundw
           case rel=>exact⟨n+1,c+1,_,ω,by go_num,Rv rfl ω ω,ω,λg=>ω,HX.o,xq Tw.o _,M.o⟩
           case measure=>simp[intOf];omega
         go_wp2
         go_quiet (fail)
         go_wp2;go_roundw
         case rel=>exact⟨n+1,c+1,_,ω,by go_num,Rv rfl ω ω,ω,λg=>by simp[uG,Cg],HX.o,xq Tw.o _,M.o⟩
         case measure=>simp[intOf];omega
       have HX:Hid (jD l hs=false):=Yi S8 q.o HT.o Gt;have X:((bk hs c).page==a.page+(n:Int))=false:=by simpa using Gt
       clear Gt d1 d2 d3 hb hce;go_wp2
       go_quiet (fail)
       go_wp2;go_ret;exact⟨kO HX.o.symm,xq Tw.o _⟩
     obtain rfl:n=P:=by omega
     go_wp2;go_roundw
     case rel=>exact⟨i+1,c,Fl,ω,by go_num,rfl,G,F.o,by rw[zB.o];exact q.o,Tw.o⟩
     case measure=>simp[intOf];omega
  obtain rfl:i=l.length:=by omega
  have HX:=aq (abA G q.o);go_wp2;go_ret;refine⟨kO ?_,wQ.o⟩;rw[HX.o];rw[TU];simp;omega
theorem Oc (va vs:Value) (en:Int) (w:World) (ha:gD w va l) (hf:dQ l) (hc:bj l=0) (he:cH en) (Ie:∃ao n c,va=.slice ao n c) (hvs:∃ao n c,vs=.slice ao n c) :
  Calls prog 121 #[.agg #[va,vs,I en]] w λe w'=>e=.returned (.bool (Ct l en))/\Below w.heap.size w w':=by
 have Y5:Hid (aV l (en.tdiv 16)=b6 l (en.tdiv 16)):=by show _=_;grind [aV]
 have Fp:=aq (Yg l hc (en.tdiv 16));have HE:Hid (Ct l en=((b6 l (en.tdiv 16)).2&&(decide (2<=(b6 l (en.tdiv 16)).1.jP)&&decide (en.tmod 8=0)))):=rfl;have WH:Hid (∀W,Below w.heap.size w W->Calls prog 77 #[va,I (en.tdiv 16)] W λe w'=>e=.returned (.tuple #[.agg (pI (b6 l (en.tdiv 16)).1),.bool (b6 l (en.tdiv 16)).2])/\Below W.heap.size W w'):=λW hb=>by
  have h:=yq l va (en.tdiv 16) W (ha.below hb) hf;rw[Y5.o] at h;exact h
 generalize b6 l (en.tdiv 16)=r at Fp HE WH;clear Y5 ha hf hc;obtain⟨⟨pg,pn,pr,zr⟩,ok⟩:=r;simp only[pI] at WH Fp HE;obtain⟨aa,na,ca,rfl⟩:=Ie;obtain⟨ao,no,co,rfl⟩:=hvs;unfold cH at he;have HB:=aq ((aN w.heap.size w).alloc (aK _) (.cells #[.slice aa na ca,.slice ao no co,I en] 25));have BX:=aq (bH w #[.slice aa na ca,.slice ao no co,I en] 25);rw[HE.o];cases ok with
 | false =>
  go_enter func121,ntmps121;go_wp2_with (go_at_call 77;refine(WH.o _ HB.o).mono ?_;rintro e w1 ⟨rfl,hb⟩;have HB:=aq (HB.o.trans (hb.mono HB.o.size));clear hb);go_ret;exact⟨rfl,HB.o.alloc HB.o.size _⟩
 | true =>
  have b:=Yd (Fp.o rfl);have b0:bits BinOp.and IntKind.i64 0 2=0:=by decide
  have b1:bits BinOp.and IntKind.i64 1 2=0:=by decide
  have b2:bits BinOp.and IntKind.i64 2 2=2:=by decide
  have b3:bits BinOp.and IntKind.i64 3 2=2:=by decide
  clear Fp;by_cases h8:en.tmod 8=0
  . rcases b with rfl | rfl | rfl | rfl
    all_goals
     go_enter func121,ntmps121;go_wp2_with (go_at_call 77;refine(WH.o _ HB.o).mono ?_;rintro e w1 ⟨rfl,hb⟩;have HB:=aq (HB.o.trans (hb.mono HB.o.size));have BX:=aq (aU BX.o hb (aQ BX.o));have Ul:=aQ BX.o;have x2:=aA BX.o 2 rfl;clear hb);go_ret;exact⟨kO (by simp[h8]),HB.o.alloc HB.o.size _⟩
  have q:(en.tmod 8==0)=false:=by grind
  rcases b with rfl | rfl | rfl | rfl
  all_goals
   go_enter func121,ntmps121;go_wp2_with (go_at_call 77;refine(WH.o _ HB.o).mono ?_;rintro e w1 ⟨rfl,hb⟩;have HB:=aq (HB.o.trans (hb.mono HB.o.size));have BX:=aq (aU BX.o hb (aQ BX.o));have Ul:=aQ BX.o;have x2:=aA BX.o 2 rfl;clear hb);go_ret;exact⟨kO (by simp[h8]),HB.o.alloc HB.o.size _⟩
theorem Vg {w:World} {l:List aX} (h:gD w v l):∃ao n c,v=.slice ao n c:=by
 obtain⟨ao,cap,h,_⟩:=h
 grind
theorem Oe (en:Int) (va:Value) (ao:Option Addr) (cap:Nat) (w:World) (ha:gD w va l) (hf:dQ l) (h:kq w ao hs) (Lp:uh hs) (hcap:hs.length<=cap) (he:cH en) :
  Calls prog 69 #[.agg #[va,.slice ao hs.length cap,I en]] w λe w'=>e=.returned (I (gU l hs en))/\Below w.heap.size w w':=by
 have ym:Hid (∀W,Below w.heap.size w W->Calls prog 117 #[va] W λe w'=>e=.returned (I (bj l))/\Below W.heap.size W w'):=λW hb=>CR l va W (ha.below hb) hf
 have HZ:Hid (∀W,Below w.heap.size w W->Calls prog 118 #[va] W λe w'=>e=.returned (.bool (mW l))/\Below W.heap.size W w'):=λW hb=>Vp l va W (ha.below hb) hf
 have b:Hid (bj l=0->∀W,Below w.heap.size w W->Calls prog 119 #[.agg #[va,.slice ao hs.length cap,I en]] W λe w'=>e=.returned (.bool (jD l hs))/\Below W.heap.size W w'):=λhc W hb=>Vk l hs en va ao cap W (ha.below hb) hc (h.below hb) Lp.1 hcap
 have y:Hid (∀W,Below w.heap.size w W->Calls prog 120 #[.slice ao hs.length cap] W λe w'=>e=.returned (.bool (tM hs))/\Below W.heap.size W w'):=λW hb=>MK hs ao cap W (h.below hb) Lp
 have B6:Hid (bj l=0->∀W,Below w.heap.size w W->Calls prog 121 #[.agg #[va,.slice ao hs.length cap,I en]] W λe w'=>e=.returned (.bool (Ct l en))/\Below W.heap.size W w'):=λhc W hb=>Oc l va _ en W (ha.below hb) hf hc he (Vg ha) ⟨_,_,_,rfl⟩
 have HR:Hid (gU l hs en=if bj l=0 then (if !mW l&&(jD l hs&&(tM hs&&Ct l en)) then 0 else 1) else bj l):=rfl;obtain⟨aa,na,ca,rfl⟩:=Vg ha;clear ha hf h Lp hcap he;generalize hs.length=N at b y B6 ⊢;generalize mW l=z at HZ HR;generalize jD l hs=q at b HR;generalize tM hs=s at y HR;generalize Ct l en=r at B6 HR;generalize bj l=C at ym b B6 HR;rw[HR.o];clear HR;have HB:=aq ((aN w.heap.size w).alloc (aK _) (.cells #[.slice aa na ca,.slice ao N cap,I en] 25));have BX:=aq (bH w #[.slice aa na ca,.slice ao N cap,I en] 25);by_cases hc:C=0
 . subst hc;have A:=aq (b.o rfl);have B:=aq (B6.o rfl);clear b B6;rw[aC rfl];cases z <;> cases q <;> cases s <;> cases r
   all_goals
    go_enter func69,ntmps69;go_wp2_with (first
     | (go_at_call 117;refine(ym.o _ HB.o).mono ?_;rintro e w1 ⟨rfl,hb⟩;have HB:=aq (HB.o.trans (hb.mono HB.o.size));have BX:=aq (aU BX.o hb (aQ BX.o));have x0:=aA BX.o 0 rfl;clear hb)
     | (go_at_call 118;refine(HZ.o _ HB.o).mono ?_;rintro e w1 ⟨rfl,hb⟩;have HB:=aq (HB.o.trans (hb.mono HB.o.size));have BX:=aq (aU BX.o hb (aQ BX.o));have x0:=aA BX.o 0 rfl;have x1:=aA BX.o 1 rfl;have x2:=aA BX.o 2 rfl;clear hb)
     | (go_at_call 119;refine(A.o _ HB.o).mono ?_;rintro e w1 ⟨rfl,hb⟩;have HB:=aq (HB.o.trans (hb.mono HB.o.size));have BX:=aq (aU BX.o hb (aQ BX.o));have x1:=aA BX.o 1 rfl;clear hb)
     | (go_at_call 120;refine(y.o _ HB.o).mono ?_;rintro e w1 ⟨rfl,hb⟩;have HB:=aq (HB.o.trans (hb.mono HB.o.size));have BX:=aq (aU BX.o hb (aQ BX.o));have x0:=aA BX.o 0 rfl;have x1:=aA BX.o 1 rfl;have x2:=aA BX.o 2 rfl;clear hb)
     | (go_at_call 121;refine(B.o _ HB.o).mono ?_;rintro e w1 ⟨rfl,hb⟩;have HB:=aq (HB.o.trans (hb.mono HB.o.size));clear hb))
    go_ret;exact⟨rfl,HB.o⟩
 have F:(C==0)=false:=by grind
 rw[aB hc];go_enter func69,ntmps69;go_wp2_with (go_at_call 117;refine(ym.o _ HB.o).mono ?_;rintro e w1 ⟨rfl,hb⟩;have HB:=aq (HB.o.trans (hb.mono HB.o.size));clear hb);go_ret;exact⟨rfl,HB.o⟩
theorem Vm (o:fw) (w:World) (h:l9 w o.a o.i) (hc:gQ o.i=0) (h0:0<=o.base) (h1:o.base<=100000) :
  Calls prog 65 #[.agg (iB o)] w λe w'=>e=.returned (I (kK o))/\Below w.heap.size w w':=by
 have hl:=yJ hc;have hn:=pX hc;have HS:=h.fA;obtain⟨⟨nm,ns,gs,ys,rs,en⟩,⟨an,cn,ag,cg,ay,cy,ar,cr⟩,ba⟩:=o;simp only[iB];simp only at HS hn h0 h1;obtain⟨b,off,y,A,di⟩:=HS ω;subst y;have E:Hid (kK ⟨⟨nm,ns,gs,ys,rs,en⟩,⟨an,cn,some (Ad b off),cg,ay,cy,ar,cr⟩,ba⟩=ba+(cQ gs (gs.length-1)).page+(cQ gs (gs.length-1)).aD):=rfl;have q:0<=(cQ gs (gs.length-1)).page/\1<=(cQ gs (gs.length-1)).aD/\(cQ gs (gs.length-1)).page+(cQ gs (gs.length-1)).aD<=255:=hl;obtain⟨c0,c1,c2,c3,c4⟩:=di (gs.length-1) ω;rw[E.o];generalize cQ gs (gs.length-1)=s at c0 c1 c2 c3 c4 q ⊢;clear hl di HS h E;generalize gs.length=G at c0 c1 c2 c3 c4 hn ⊢;clear hc;have HB:=aq ((aN w.heap.size w).alloc (aK _) (.cells #[.string nm,.slice an ns.length cn,.slice (some (Ad b off)) G cg,.slice ay ys.length cy,.slice ar rs.length cr,I en,I ba] 131));go_enter func65,ntmps65;go_wp2;go_ret;exact⟨rfl,HB.o.alloc HB.o.size _⟩
theorem yC (o:fw) (Li:Int) (w:World) (h0:0<=o.base) (h1:o.base<=100000) (h2:0<=Li) (h3:Li<=100000) :
  Calls prog 68 #[.agg (iB o),I Li] w λe w'=>e=.returned (I (ow o Li))/\Below w.heap.size w w':=by
 obtain⟨⟨nm,ns,gs,ys,rs,en⟩,⟨an,cn,ag,cg,ay,cy,ar,cr⟩,ba⟩:=o;simp only[iB,ow];simp only at h0 h1;go_enter func68,ntmps68;go_wp2;go_ret;exact⟨rfl,(aN _ _).alloc (aK _) _⟩
theorem aec (s:pV) (w:World) :
  Calls prog 116 #[.agg #[I s.page,I s.aD,.string s.data,.bool s.wr,.bool s.ex]] w λe w'=>e=.returned (I (sP s))/\Below w.heap.size w w':=by
 obtain⟨pg,pn,dt,wr,ex⟩:=s;have b1:bits BinOp.or IntKind.i64 0 1=1:=by decide
 have b2:bits BinOp.or IntKind.i64 0 2=2:=by decide
 have b3:bits BinOp.or IntKind.i64 1 2=3:=by decide
 cases wr <;> cases ex
 all_goals
  go_enter func116,ntmps116;go_wp2;go_ret;simp[sP,aN,sI]
theorem ZQ (s t:ByteArray):(s.toList==t.toList)=decide (s=t):=by
 rw[TU];simp only[Gi,fX];constructor
 . intro e;rw[Lib.toList_data,Lib.toList_data] at e;cases s
   simp_all
 grind
theorem Vj (o:fw) (P:Nat) (s:ByteArray) (w:World) (hP:w.cell? (Ad P 0)=some (.string s)) (hn:bD o.i.name.size) (hs:bD s.size) :
  Calls prog 111 #[.agg (iB o),.pointer (some (Ad P 0))] w λe w'=>e=.returned (.bool (decide (o.i.name=s)))/\Below w.heap.size w w':=by
 have b:P<w.heap.size:=jL w _ hP;obtain⟨⟨nm,ns,gs,ys,rs,en⟩,⟨an,cn,ag,cg,ay,cy,ar,cr⟩,ba⟩:=o;simp only[iB];go_enter func111,ntmps111;go_wp2;go_ret;simp[ZQ,aN,sI]
theorem aoD:(prog.info? 9).map (λi=>(i.zero,i.size,i.bytes))=some (some (.string ⟨#[]⟩),1,16):=by rfl
def UX (l:List ByteArray):List Value:=l.map Value.string
theorem ag5 (l:List ByteArray) (i:Nat) (h:i<l.length):(UX l)[i]?=some (.string (iy l i)):=by
 grind [UX,iy]
theorem akd {w:World} {base:Nat} {l:List ByteArray} (h:w.ownsRow base 9 1 v l.length (UX l)):∃ao cap,v=.slice ao l.length cap/\dG Gy w ao l:=by
 rcases h.2 with⟨hv,h0⟩ | ⟨g,cap,y,hv,B,hg,F,A,q,b⟩
 . exact⟨none,0,Γ,λhl=>ω⟩
 subst hv;refine⟨some (Ad g 0),cap,rfl,λhl=>⟨g,0,rfl,aQ hg,λi hi=>?_⟩⟩;rw[nj];exact(h.cellAt _ ω).trans (ag5 l i hi)
theorem aba (ys:List IH) (k:Nat) (h:k<ys.length):((ys.map (·.name)).take (k+1))=(ys.map (·.name)).take k++[(nu ys k).name]:=by
 grind [List.take_add_one,nu]
theorem UW (ys:List IH) (ao:Option Addr) (cap:Nat) (w:World) (h:dG EL w ao ys) (hn:ys.length<=12) :
  Calls prog 163 #[.slice ao ys.length cap] w λe w'=>(∃Fl cap',e=.returned (.slice Fl (ys.map (·.name)).length cap')/\dG Gy w' Fl (ys.map (·.name)))/\Below w.heap.size w w':=by
 have H:=aq h;clear h;obtain⟨i0,hi,J,G,O⟩:=kI aoD;go_enter func163,ntmps163;go_wp2;go_loopw [3,8] (λv i wr=>∃k:Nat,k<=ys.length/\i=I k/\wr.ownsRow w.heap.size 9 1 v k (UX ((ys.map (·.name)).take k))/\Below w.heap.size w wr) (λ_ i _=>ys.length-(intOf i).toNat)
 case atStart=>exact⟨0,ω,rfl,pT _ _ _ _,aN _ _⟩
 case round =>
  obtain⟨k,hk,rfl,B,hb⟩:=hrel;have HO:=aq B;have HB:=aq hb;clear B;by_cases hlt:k<ys.length
  . obtain⟨b,off,K,N,hl⟩:=H.o ω;subst K;have Xv:(k:Int)<(ys.length:Int):=by omega
    obtain⟨c0,c1⟩:=Qy hb N hl k hlt;have HT:=aq (aba ys k hlt);generalize nu ys k=y at c0 c1 HT;clear hb hl;obtain⟨x,xp⟩:=y;simp only at c0 c1 HT;have F:Hid (∀j,u3.ownBlock=some j->w.heap.size<=j/\j<wr.heap.size):=HO.o.lt;have HN:Hid (((wr.alloc (.cells #[.string x,I xp] 315)).alloc (.cells #[.string x] 9)).heap[wr.heap.size+1]?=some (.cells #[.string x] 9 (0,0))):=by
     have:=bH (wr.alloc (.cells #[.string x,I xp] 315)) #[.string x] 9;rw[show(wr.alloc (.cells #[.string x,I xp] 315)).heap.size=wr.heap.size+1 by simp] at this;exact this
    go_wp2_with (at_builtin;refine Kz _ rfl _ _ 51 rfl w.heap.size 9 i0 (.string ⟨#[]⟩) 1 16 underlying51 hi J G O rfl Δ _ _ _ rfl ((HO.o.alloc _).alloc _) (Ad (wr.heap.size+1) 0) 1 1 [.string x] rfl rfl (xY HN.o) (by intro u hu;simp at hu;subst hu;rfl) Δ (by unfold maxLen;omega) ω (by have:=HB.o.size;simp;omega) (wr.heap.size+2) ξ ?_)
    intro g cap w1 q A L Q;have M:=aq q;have cD:Hid (Below w.heap.size w w1):=((HB.o.alloc HB.o.size _).alloc (by have:=HB.o.size;simp;omega) _).grown A (by have:=HB.o.size;simp;omega) (λk' e=>by have:=F.out _ e;omega);clear q A L
    go_wp2;go_roundw
    case rel =>
     refine⟨k+1,ω,by go_num,?_,cD.o⟩;rw[HT.o];unfold UX;rw[tF];exact M.o
    case measure=>simp[intOf];omega
  obtain rfl:k=ys.length:=by omega
  clear hb;go_wp2;go_ret;have e:(ys.map (·.name)).take ys.length=ys.map (·.name):=by grind [List.take_of_length_le]
  have ho:=HO.o;rw[e] at ho;rw[show ys.length=(ys.map (·.name)).length by simp] at ho;obtain⟨Fl,cap',hv,hh⟩:=akd ho;exact⟨⟨Fl,cap',by rw[<- hv];rfl,hh⟩,HB.o⟩
end Go.Proofs.YtlgoihmkgaaemaaGreat
