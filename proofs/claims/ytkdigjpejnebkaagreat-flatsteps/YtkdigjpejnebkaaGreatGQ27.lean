import Derived.Test.YtkdigjpejnebkaaGreatGQ00
import Derived.Test.YtkdigjpejnebkaaGreatGQ04
import Derived.Test.YtkdigjpejnebkaaGreatGQ26
import Derived.Test.YtkdigjpejnebkaaGreatGQ01
set_option maxHeartbeats 20000000
set_option linter.unusedVariables false
set_option maxRecDepth 100000
set_option linter.unusedSimpArgs false
namespace Go.Proofs.YtkdigjpejnebkaaGreat
namespace AW
open Go.RowKit
theorem UW (l m:List AM.Ar) (hl:l.length=m.length) (h:∀i,i<l.length->AM.at_ l i=AM.at_ m i):l=m:=by
 apply List.ext_getElem?
 intro i
 by_cases hi:i<l.length
 · have:=h i hi
   simp only[AM.at_,List.getD_eq_getElem?_getD] at this
   rw[List.getElem?_eq_getElem hi,List.getElem?_eq_getElem (by omega)] at this ⊢
   simp at this
   rw[this]
 · rw[List.getElem?_eq_none (by omega),List.getElem?_eq_none (by omega)]
theorem JP (l m:List AM.Ar) (b off cap b2 l9 cap2:Nat) (w:World) (hl:AM.zt w b off l) (hm:AM.zt w b2 l9 m) (hlen:l.length=m.length) (hn:l.length<=140737488351232) :
  Calls Tryz.prog 35 #[.slice (some (Ad b off)) l.length cap,.slice (some (Ad b2 l9)) m.length cap2] w fun e w'=>∃r:Bool,e=.returned (.bool r)/\(r=true↔l=m)/\Below w.heap.size w w':=by
 rw[<- hlen]
 have hle:Hid (l.length=m.length):=hlen
 clear hlen
 go_enter Tryz.func35,Tryz.ntmps35
 go_wp2
 go_loopw [5] (fun i wr=>∃k:Nat,k<=l.length/\i=I k/\(∀j,j<k->AM.at_ l j=AM.at_ m j)/\Below w.heap.size w wr) (fun i _=>l.length-(intOf i).toNat)
 case atStart=>exact⟨0,by omega,rfl,fun j hj=>by omega,Below.refl _ _⟩
 case round =>
  obtain⟨k,hk,rfl,hj,hb⟩:=hrel
  have HJ:Hid (∀j,j<k->AM.at_ l j=AM.at_ m j):=hj
  have HB:Hid (Below w.heap.size w wr):=hb
  by_cases hlt:k<l.length
  · obtain⟨c0,c1,c2,c3⟩:=hl.below hb k hlt
    obtain⟨e0,e1,e2,e3⟩:=hm.below hb k (by rw[<- hle.out];exact hlt)
    obtain⟨a,ha⟩:=ex (AM.at_ l k)
    obtain⟨d,hd⟩:=ex (AM.at_ m k)
    rw[<- ha] at c0 c1 c2 c3
    rw[<- hd] at e0 e1 e2 e3
    have HA:Hid (a=AM.at_ l k):=ha
    have HD:Hid (d=AM.at_ m k):=hd
    clear ha hd hj hb
    have jc:(k:Int)<(l.length:Int):=by omega
    obtain⟨p1,n1,q1,z1⟩:=a
    obtain⟨p2,n2,q2,z2⟩:=d
    simp only at c0 c1 c2 c3 e0 e1 e2 e3
    have M9:(p1==p2)=false∨(p1=p2/\(n1==n2)=false)∨(p1=p2/\n1=n2/\(q1==q2)=false)∨(p1=p2/\n1=n2/\q1=q2/\z2=!z1)∨(p1=p2/\n1=n2/\q1=q2/\z1=z2):=by
     by_cases h1:p1=p2
     · by_cases h2:n1=n2
       · by_cases h3:q1=q2
         · by_cases h4:z1=z2
           · exact .inr (.inr (.inr (.inr ⟨h1,h2,h3,h4⟩)))
           · exact .inr (.inr (.inr (.inl ⟨h1,h2,h3,by cases z1 <;> cases z2 <;> simp_all⟩)))
         · exact .inr (.inr (.inl ⟨h1,h2,by simp[h3]⟩))
       · exact .inr (.inl ⟨h1,by simp[h2]⟩)
     · exact .inl (by simp[h1])
    have UC:∀h:¬((⟨p1,n1,q1,z1⟩:AM.Ar)=⟨p2,n2,q2,z2⟩),l≠m:=fun h e=>h (by rw[HA.o,HD.o,e])
    have adO:=UC
    have Sr:Hid (¬((⟨p1,n1,q1,z1⟩:AM.Ar)=⟨p2,n2,q2,z2⟩)->l≠m):=UC
    clear UC adO
    rcases M9 with h1 | ⟨h1,h2⟩ | ⟨h1,h2,h3⟩ | ⟨h1,h2,h3,h4⟩ | ⟨h1,h2,h3,h4⟩
    · have hne:Hid (l≠m):=Sr.o (fun e=>by have:=congrArg AM.Ar.page e;simp at this;simp[this] at h1)
      clear Sr HA HD
      go_wp2
      go_quiet (fail)
      go_wp2
      go_ret
      exact⟨false,rfl,⟨fun h=>(by cases h),fun h=>absurd h hne.out⟩,below_drewN HB.o _⟩
    · have hne:Hid (l≠m):=Sr.o (fun e=>by have:=congrArg AM.Ar.aj e;simp at this;simp[this] at h2)
      clear Sr HA HD
      subst h1
      go_wp2
      go_quiet (fail)
      go_wp2
      go_ret
      exact⟨false,rfl,⟨fun h=>(by cases h),fun h=>absurd h hne.out⟩,below_drewN HB.o _⟩
    · have hne:Hid (l≠m):=Sr.o (fun e=>by have:=congrArg AM.Ar.bE e;simp at this;simp[this] at h3)
      clear Sr HA HD
      subst h1;subst h2
      go_wp2
      go_quiet (fail)
      go_wp2
      go_ret
      exact⟨false,rfl,⟨fun h=>(by cases h),fun h=>absurd h hne.out⟩,below_drewN HB.o _⟩
    · have hne:Hid (l≠m):=Sr.o (fun e=>by have:=congrArg AM.Ar.zero e;simp at this;rw[h4] at this;cases z1 <;> simp at this)
      clear Sr HA HD
      subst h1;subst h2;subst h3;subst h4
      go_wp2
      go_quiet (fail)
      go_wp2
      go_ret
      exact⟨false,rfl,⟨fun h=>(by cases h),fun h=>absurd h hne.out⟩,below_drewN HB.o _⟩
    · have heq:Hid (AM.at_ l k=AM.at_ m k):=by show _=_;rw[<- HA.o,<- HD.o,h1,h2,h3,h4]
      clear Sr HA HD
      subst h1;subst h2;subst h3;subst h4
      go_wp2
      go_quiet (fail)
      go_wp2
      go_roundw
      case rel=>exact⟨k+1,by omega,by go_num,fun j hj=>if e:j=k then by rw[e];exact heq.out else HJ.o j (by omega),below_drewN HB.o _⟩
      case measure=>simp[intOf];omega
  · obtain rfl:k=l.length:=by omega
    go_wp2
    go_ret
    exact⟨true,rfl,⟨fun _=>UW l m hle.out HJ.o,fun _=>rfl⟩,HB.o⟩
theorem L9 (n m:Nat) (ao bo:Option Addr) (c d:Nat) (w:World) (h:n≠m) (hn:n<=140737488351232) (hm:m<=140737488351232) :
  Calls Tryz.prog 35 #[.slice ao n c,.slice bo m d] w fun e w'=>e=.returned (.bool false)/\w=w':=by
 have h':((n:Int) != (m:Int))=true:=by simp;omega
 go_enter Tryz.func35,Tryz.ntmps35
 go_wp2
 go_ret
 exact⟨rfl,rfl⟩
theorem CR (ao bo:Option Addr) (c d:Nat) (w:World) :
  Calls Tryz.prog 35 #[.slice ao 0 c,.slice bo 0 d] w fun e w'=>e=.returned (.bool true)/\w=w':=by
 go_enter Tryz.func35,Tryz.ntmps35
 go_wp2
 refine wp_loop_rounds 1 ?_
 rw[rounds_succ]
 go_wp2
 go_ret
 exact⟨rfl,rfl⟩
theorem CS (l m:List AM.Ar) (v u:Value) (w:World) (hl:Has w v l) (hm:Has w u m) (hn:l.length<=140737488351232) (l6:m.length<=140737488351232) :
  Calls Tryz.prog 35 #[v,u] w fun e w'=>∃r:Bool,e=.returned (.bool r)/\(r=true↔l=m)/\Below w.heap.size w w':=by
 obtain⟨ao,cap,rfl,h⟩:=hl
 obtain⟨bo,cap2,rfl,h2⟩:=hm
 by_cases hlen:l.length=m.length
 · rcases h with rfl | ⟨b,off,rfl,hl⟩
   · have hm0:m=[]:=List.eq_nil_of_length_eq_zero hlen.symm
     subst hm0
     exact(CR ao bo cap cap2 w).mono fun e w' ⟨he,hw⟩=>⟨true,he,by simp,by rw[<- hw];exact Below.refl _ _⟩
   · rcases h2 with rfl | ⟨b2,l9,rfl,hm⟩
     · have hl0:l=[]:=List.eq_nil_of_length_eq_zero hlen
       subst hl0
       exact(CR _ bo cap cap2 w).mono fun e w' ⟨he,hw⟩=>⟨true,he,by simp,by rw[<- hw];exact Below.refl _ _⟩
     · exact JP l m b off cap b2 l9 cap2 w hl hm hlen hn
 · exact(L9 l.length m.length ao bo cap cap2 w hlen hn l6).mono fun e w' ⟨he,hw⟩=>⟨false,he,⟨fun h=>(by cases h),fun h=>absurd (congrArg List.length h) hlen⟩,by rw[<- hw];exact Below.refl _ _⟩
theorem Fy (l:List AM.Ar) (b off cap:Nat) (w:World) (hl:AM.zt w b off l) (hc:AM.aD l=0) :
  Calls Tryz.prog 28 #[.slice (some (Ad b off)) l.length cap] w fun e w'=>e=.returned (I (AM.sumTo l l.length))/\Below w.heap.size w w':=by
 have hlen:=AM.dR l hc
 have HK:Hid (AM.aD l=0):=hc
 clear hc
 go_enter Tryz.func28,Tryz.ntmps28
 go_wp2
 go_loopw [3,4] (fun s i wr=>∃k:Nat,k<=l.length/\i=I k/\s=I (AM.sumTo l k)/\Below w.heap.size w wr) (fun _ i _=>l.length-(intOf i).toNat)
 case atStart=>exact⟨0,by omega,rfl,rfl,Below.refl _ _⟩
 case round =>
  obtain⟨k,hk,rfl,rfl,hb⟩:=hrel
  have qJ:=AM.sw l HK.o k hk
  by_cases hlt:k<l.length
  · obtain⟨c0,c1,c2,c3⟩:=(hl.below hb) k hlt
    have hsu:Hid (AM.sumTo l (k+1)=AM.sumTo l k+(AM.at_ l k).aj):=rfl
    have hbk:=AM.dA l k (AM.dB l HK.o k hlt)
    obtain⟨a,ha⟩:=ex (AM.at_ l k)
    rw[<- ha] at c0 c1 c2 c3 hsu hbk
    clear ha
    go_wp2
    go_roundw
    case rel=>exact⟨k+1,by omega,by go_num,by rw[hsu.out],hb⟩
    case measure=>simp[intOf];omega
  · obtain rfl:k=l.length:=by omega
    go_wp2
    go_ret
    exact⟨rfl,hb⟩
theorem JY (ao:Option Addr) (cap:Nat) (w:World) :
  Calls Tryz.prog 28 #[.slice ao 0 cap] w fun e w'=>e=.returned (I 0)/\Below w.heap.size w w':=by
 go_enter Tryz.func28,Tryz.ntmps28
 go_wp2
 refine wp_loop_rounds 1 ?_
 rw[rounds_succ]
 go_wp2
 go_ret
 exact⟨rfl,Below.refl _ _⟩
theorem JZ (l:List AM.Ar) (v:Value) (w:World) (h:Has w v l) (hc:AM.aD l=0) :
  Calls Tryz.prog 28 #[v] w fun e w'=>e=.returned (I (AM.br l))/\Below w.heap.size w w':=by
 have e:AM.br l=AM.sumTo l l.length:=by simp[AM.br,hc]
 rw[e]
 obtain⟨ao,cap,rfl,h⟩:=h
 rcases h with rfl | ⟨b,off,rfl,hl⟩
 · exact JY ao cap w
 · exact Fy l b off cap w hl hc
theorem Eg (l:List AM.Ar) (b off cap:Nat) (p:Int) (w:World) (hl:AM.zt w b off l) (hc:AM.aD l=0) :
  Calls Tryz.prog 42 #[.slice (some (Ad b off)) l.length cap,I p] w fun e w'=>e=.returned (.tuple #[.agg (cellsOf (AM.aW l p).1),.bool (AM.aW l p).2])/\Below w.heap.size w w':=by
 have hbz:Below w.heap.size w (w.alloc (.cells #[I 0,I 0,I 0,.bool false] 59)):=(Below.refl _ _).alloc (Nat.le_refl _) _
 have hlen:=AM.dR l hc
 have HC:Hid (AM.aW l p=AM.aP l p):=by show _=_;simp[AM.aW,hc]
 have HK:Hid (AM.aD l=0):=hc
 clear hc
 go_enter Tryz.func42,Tryz.ntmps42
 go_wp2
 go_loopw [6] (fun i wr=>∃k:Nat,k<=l.length/\i=I k/\(∀j,j<k->AM.hit (AM.at_ l j) p=false)/\Below (w.heap.size+1) (w.alloc (.cells #[I 0,I 0,I 0,.bool false] 59)) wr) (fun i _=>l.length-(intOf i).toNat)
 case atStart=>exact⟨0,by omega,rfl,fun j hj=>by omega,Below.refl _ _⟩
 case round =>
  obtain⟨k,hk,rfl,hno,hb⟩:=hrel
  have HN:Hid (∀j,j<k->AM.hit (AM.at_ l j) p=false):=hno
  have EH:Hid (Below w.heap.size w wr):=hbz.trans (hb.mono (Nat.le_succ _))
  have hsz:w.heap.size+1<=wr.heap.size:=by have:=hb.size;simpa using this
  have hlr:=hl.below EH.out
  have hR:wr.heap[w.heap.size]?=some (.cells #[I 0,I 0,I 0,.bool false] 59 (0,0)):=B.below (B.new w _ _) hb (Nat.lt_succ_self _)
  have HB:Hid (Below (w.heap.size+1) (w.alloc (.cells #[I 0,I 0,I 0,.bool false] 59)) wr):=hb
  have t0:=B.cell hR 0 rfl
  have t1:=B.cell hR 1 rfl
  have t2:=B.cell hR 2 rfl
  have t3:=B.cell hR 3 rfl
  have u0:=B.free hR
  clear hno hR hb
  by_cases hlt:k<l.length
  · obtain⟨c0,c1,c2,c3⟩:=hlr k hlt
    have hbk:=AM.dA l k (AM.dB l HK.o k hlt)
    obtain⟨a,ha⟩:=ex (AM.at_ l k)
    rw[<- ha] at c0 c1 c2 c3 hbk
    have HA:Hid (a=AM.at_ l k):=ha
    clear ha
    have jc:(k:Int)<(l.length:Int):=by omega
    by_cases h1:a.page<=p
    · by_cases h2:p<a.page+a.aj
      · have hres:Hid (AM.aW l p=(a,true)):=by
         show _=_
         rw[HC.o,AM.mF l p k hlt HN.o (by rw[<- HA.o];simp[AM.hit,AM.Ar.eB,h1,h2]),<- HA.o]
        go_wp2
        go_quiet (fail)
        go_wp2
        have qJ:=below_drewN EH.out nq
        exact bodyPost_ret (v:=.tuple #[.agg #[I a.page,I a.aj,I a.bE,.bool a.zero],.bool true]) (by simp[results,Tryz.results42,go_sem,t0,t1,t2,t3]) rfl ⟨by rw[hres.out];rfl,(((qJ.setCell (Nat.le_refl _) _).setCell (Nat.le_refl _) _).setCell (Nat.le_refl _) _).setCell (Nat.le_refl _) _⟩
      · have oD:Hid (AM.hit (AM.at_ l k) p=false):=by show _=_;rw[<- HA.o];unfold AM.hit AM.Ar.eB;exact decide_eq_false (by omega)
        have d2:decide (p<a.page+a.aj)=false:=decide_eq_false h2
        go_wp2
        go_quiet (fail)
        go_wp2
        go_roundw
        case rel=>exact⟨k+1,by omega,by go_num,fun j hj=>if e:j=k then by rw[e];exact oD.out else HN.o j (by omega),below_drewN HB.o _⟩
        case measure=>simp[intOf];omega
    · have oD:Hid (AM.hit (AM.at_ l k) p=false):=by show _=_;rw[<- HA.o];unfold AM.hit AM.Ar.eB;exact decide_eq_false (by omega)
      have d1:decide (a.page<=p)=false:=decide_eq_false h1
      go_wp2
      go_quiet (fail)
      go_wp2
      go_roundw
      case rel=>exact⟨k+1,by omega,by go_num,fun j hj=>if e:j=k then by rw[e];exact oD.out else HN.o j (by omega),below_drewN HB.o _⟩
      case measure=>simp[intOf];omega
  · obtain rfl:k=l.length:=by omega
    have hres:Hid (AM.aW l p=(AM.nil,false)):=by show _=_;rw[HC.o,AM.jS l p HN.o]
    go_wp2
    exact bodyPost_ret (v:=.tuple #[.agg #[I 0,I 0,I 0,.bool false],.bool false]) (by simp[results,Tryz.results42,go_sem,t0,t1,t2,t3]) rfl ⟨by rw[hres.out];rfl,(((EH.out.setCell (Nat.le_refl _) _).setCell (Nat.le_refl _) _).setCell (Nat.le_refl _) _).setCell (Nat.le_refl _) _⟩
theorem G7 (ao:Option Addr) (cap:Nat) (p:Int) (w:World) :
  Calls Tryz.prog 42 #[.slice ao 0 cap,I p] w fun e w'=>e=.returned (.tuple #[.agg (cellsOf (AM.aW [] p).1),.bool (AM.aW [] p).2])/\Below w.heap.size w w':=by
 have hbz:Below w.heap.size w (w.alloc (.cells #[I 0,I 0,I 0,.bool false] 59)):=(Below.refl _ _).alloc (Nat.le_refl _) _
 go_enter Tryz.func42,Tryz.ntmps42
 go_wp2
 refine wp_loop_rounds 1 ?_
 rw[rounds_succ]
 go_wp2
 exact bodyPost_ret (v:=.tuple #[.agg #[I 0,I 0,I 0,.bool false],.bool false]) (by simp[results,Tryz.results42,go_sem]) rfl ⟨rfl,hbz⟩
theorem rP (l:List AM.Ar) (v:Value) (p:Int) (w:World) (h:Has w v l) (hc:AM.aD l=0) :
  Calls Tryz.prog 42 #[v,I p] w fun e w'=>e=.returned (.tuple #[.agg (cellsOf (AM.aW l p).1),.bool (AM.aW l p).2])/\Below w.heap.size w w':=by
 obtain⟨ao,cap,rfl,h⟩:=h
 rcases h with rfl | ⟨b,off,rfl,hl⟩
 · exact G7 ao cap p w
 · exact Eg l b off cap p w hl hc
def uF (n a b:Int):Bool:=decide (a<=n/\n<=b)
theorem nT (n a b:Int):uF n a b=true↔a<=n/\n<=b:=⟨fun h=>of_decide_eq_true h,fun h=>decide_eq_true h⟩
theorem jh (n a b:Int) (w:World):Calls Tryz.prog 27 #[I n,I a,I b] w fun e w'=>e=.returned (.bool (uF n a b))/\w=w':=iF n a b w
theorem rF (a:AM.Ar):(AM.bW a.page a.aj&&AM.dM a.bE)=true↔uF a.page 1 255=true/\uF a.aj 1 255=true/\a.page+a.aj-1<=255/\uF a.bE 0 3=true:=by
 rw[Bool.and_eq_true,AM.dv,ni,nT,nT,nT]
 omega
theorem GQ (l:List AM.Ar) (hn:¬255<l.length) (h:AM.eX l l.length=false):AM.aD l=1:=by
 unfold AM.aD
 rw[if_neg hn,if_neg]
 intro hg
 have:=(AM.lA l l.length hg).1
 rw[this] at h;cases h
theorem GN (l:List AM.Ar) (hn:¬255<l.length) (h:AM.fV l l.length=false):AM.aD l=1:=by
 unfold AM.aD
 rw[if_neg hn,if_neg]
 intro hg
 have:=(AM.lA l l.length hg).2
 rw[this] at h;cases h
theorem xX (l:List AM.Ar) (hn:¬255<l.length) (h:AM.eX l l.length=true):AM.aD l=0↔AM.cT (AM.aZ l)=l:=by
 constructor
 · exact AM.zg l
 · intro e
   have:=AM.ji _ (AM.Af l h)
   rw[e] at this
   exact this
theorem NY (l:List AM.Ar) (hn:¬255<l.length) (h:AM.aD l≠0):AM.aD l=1:=by
 unfold AM.aD at h ⊢
 rw[if_neg hn] at h ⊢
 split
 · rename_i hg
   rw[if_pos hg] at h
   exact absurd rfl h
 · rfl
theorem KP (ao:Option Addr) (cap:Nat) (w:World) :
  Calls Tryz.prog 76 #[.slice ao 0 cap] w fun e w'=>∃C,e=.returned (.tuple #[.agg C,.bool (AM.fV [] 0)])/\Jo [] C/\Below w.heap.size w w':=by
 obtain⟨Z,hZ⟩:=ex (AM.eF (fun _=>0))
 have hz:=Jp
 rw[<- hZ] at hz
 have HZ:Hid (Z=AM.eF (fun _=>0)):=hZ
 have tM:Z.size=256:=by rw[hZ];exact AM.gI _
 have hZo:Z.all (·.oneCell')=true:=by rw[hZ];exact AM.rN _
 have HZO:Hid (Z.all (·.oneCell')=true):=hZo
 clear hZ hZo
 have HR:Hid (((w.alloc (.cells Z 140)).alloc (.cells Z 140)).heap[w.heap.size]?=some (.cells Z 140 (0,0))):=B.alloc (B.new w Z 140) _
 have HA:Hid (((w.alloc (.cells Z 140)).alloc (.cells Z 140)).heap[w.heap.size+1]?=some (.cells Z 140 (0,0))):=by
  have:=B.new (w.alloc (.cells Z 140)) Z 140
  show _=_
  simpa using this
 have HB:Hid (Below w.heap.size w ((w.alloc (.cells Z 140)).alloc (.cells Z 140))):=((Below.refl _ _).alloc (Nat.le_refl _) _).alloc (by simp) _
 go_enter Tryz.func76,Tryz.ntmps76
 go_wp2
 refine wp_loop_rounds 1 ?_
 rw[rounds_succ]
 go_wp2_with (first | (refine wpList_load_row rfl 140 _ rfl (w.heap.size+1) rfl 140 Z (0,0) _ HA.o Tryz.underlying140 rfl (by rw[tM];exact fU) ?_) | (refine wpList_store_row rfl 140 _ _ rfl w.heap.size Z rfl rfl 140 Z HR.o (by rw[tM];exact fU) rfl HZO.o ?_))
 have hfin:=setRow_heap _ _ _ Z 140 (0,0) HR.o
 have XY:=run_loadVar_row (P:=Tryz.prog) _ _ 140 140 Z (0,0) _ hfin Tryz.underlying140 rfl (by rw[tM];exact fU)
 refine bodyPost_ret (v:=.tuple #[.agg Z,.bool true]) ?_ rfl ⟨Z,rfl,⟨tM,HZO.o,fun _=>HZ.o⟩,below_setRow HB.o (Nat.le_refl _) _⟩
 rw[results_cell_tmp rfl]
 simp[asAddr,Result.andThen,XY]
theorem mG (l:List AM.Ar) (v:Value) (w:World) (h:Has w v l) (he:AM.eX l l.length=true) (hn:l.length<=255) :
  Calls Tryz.prog 76 #[v] w fun e w'=>∃C,e=.returned (.tuple #[.agg C,.bool (AM.fV l l.length)])/\Jo l C/\Below w.heap.size w w':=by
 obtain⟨ao,cap,rfl,h⟩:=h
 rcases h with rfl | ⟨b,off,rfl,hl⟩
 · exact KP ao cap w
 · exact B6 l b off cap w hl he hn
theorem yP (l:List AM.Ar) (v:Value) (w:World) (h:Has w v l) (he:AM.eX l l.length=true) (hn:¬255<l.length) (ao:Option Addr) (cap:Nat) (hv:v=.slice ao l.length cap)
  (S0:∀i,i<l.length->∃b off,ao=some (Ad b off)/\AM.zt w b off l) :
  Calls Tryz.prog 41 #[.slice ao l.length cap] w fun e w'=>e=.returned (I (AM.aD l))/\Below w.heap.size w w':=by
 have HH:Hid (Has w (.slice ao l.length cap) l):=by show Has _ _ _;rw[<- hv];exact h
 have HE:Hid (AM.eX l l.length=true):=he
 have HL:Hid (∀i,i<l.length->∃b off,ao=some (Ad b off)/\AM.zt w b off l):=S0
 have Zp:Hid (¬255<l.length):=hn
 have hn':¬(255:Int)<(l.length:Int):=by omega
 obtain⟨Z,hZ⟩:=ex (AM.eF (fun _=>0))
 have hz:=Jp
 rw[<- hZ] at hz
 have tM:Z.size=256:=by rw[hZ];exact AM.gI _
 clear h he hv S0 hZ
 go_enter Tryz.func41,Tryz.ntmps41
 go_wp2
 go_loopw [3] (fun i wr=>∃k:Nat,k<=l.length/\i=I k/\Below w.heap.size w wr) (fun i _=>l.length-(intOf i).toNat)
 case atStart=>exact⟨0,by omega,rfl,Below.refl _ _⟩
 case round =>
  obtain⟨k,hk,rfl,hb⟩:=hrel
  have HB:Hid (Below w.heap.size w wr):=hb
  by_cases hlt:k<l.length
  · obtain⟨b,off,hao,hl⟩:=HL.o k hlt
    obtain⟨c0,c1,c2,c3⟩:=hl.below hb k hlt
    have hw:=AM.vY l _ HE.o k hlt
    have hw2:=(rF (AM.at_ l k)).1 (by rw[hw.1,hw.2];rfl)
    have hbk:=(AM.dv _ _).1 hw.1
    obtain⟨a,ha⟩:=ex (AM.at_ l k)
    rw[<- ha] at c0 c1 c2 c3 hw2 hbk
    clear ha hb hl hw
    subst hao
    obtain⟨d1,d2,d3,d4⟩:=hw2
    have Wa:¬255<a.page+a.aj-1:=by omega
    have jc:(k:Int)<(l.length:Int):=by omega
    go_wp2_with (first | (go_at_call 27;refine(jh _ _ _ _).mono ?_;rintro e w' ⟨rfl,rfl⟩))
    go_roundw
    case rel=>exact⟨k+1,by omega,by go_num,HB.o.alloc HB.o.size _⟩
    case measure=>simp[intOf];omega
  · obtain rfl:k=l.length:=by omega
    clear hb
    go_wp2_with fail
    refine(mG l (.slice ao l.length cap) _ (HH.o.below HB.o) HE.o (by omega)).mono ?_
    rintro e w2 ⟨C,rfl,hC,hb2⟩
    have qR:Hid (Jo l C):=hC
    have uQ:C.size=256:=hC.1
    have Nr:C.all (·.oneCell')=true:=hC.2.1
    have PG:Hid (C.all (·.oneCell')=true):=Nr
    have bY:Hid (Below w.heap.size w w2):=HB.o.trans (hb2.mono HB.o.size)
    clear hC Nr hb2
    have l6:Hid ((w2.alloc (.cells Z 140)).heap[w2.heap.size]?=some (.cells Z 140 (0,0))):=B.new w2 Z 140
    have Jm:Hid (((w2.alloc (.cells Z 140)).setRow w2.heap.size C).heap[w2.heap.size]?=some (.cells C 140 (0,0))):=setRow_heap _ _ _ _ 140 (0,0) l6.out
    have fK:Hid (Below w.heap.size w ((w2.alloc (.cells Z 140)).setRow w2.heap.size C)):=below_setRow (bY.o.alloc bY.o.size _) bY.o.size _
    by_cases hr:AM.fV l l.length=true
    · have Pp:Hid (C=bd (AM.aZ l)):=qR.o.2.2 hr
      go_wp2_with (first | (refine wpList_store_row rfl 140 _ _ rfl w2.heap.size C rfl rfl 140 Z l6.out (by rw[uQ];exact fU) (by rw[tM,uQ]) PG.o ?_) | (refine wpList_load_row rfl 140 _ rfl w2.heap.size rfl 140 C (0,0) _ Jm.o Tryz.underlying140 rfl (by rw[uQ];exact fU) ?_))
      refine wp_load_row 140 _ rfl w2.heap.size rfl 140 C (0,0) _ Jm.o Tryz.underlying140 rfl (by rw[uQ];exact fU) ?_
      go_wp2_with fail
      have hcall:=pN (AM.aZ l) (AM.Af l HE.o) ((w2.alloc (.cells Z 140)).setRow w2.heap.size C)
      rw[show AM.eF (fun n=>AM.enc (AM.aZ l n))=C from Pp.out.symm] at hcall
      refine hcall.mono ?_
      clear hcall
      rintro e w3 ⟨v3,rfl,h3,hb4⟩
      have lZ:Hid (Below w.heap.size w w3):=fK.o.trans (hb4.mono fK.o.size)
      have HG3:Hid (Has w3 v3 (AM.cT (AM.aZ l))):=h3
      clear hb4 h3
      go_wp2_with fail
      refine(CS (AM.cT (AM.aZ l)) l v3 (.slice ao l.length cap) _ HG3.o (HH.o.below lZ.o) (by have:=AM.jF (AM.aZ l) 256;unfold AM.cT;omega) (by have:=Zp.o;omega)).mono ?_
      rintro e w4 ⟨r,rfl,hr2,kV⟩
      have gK:Hid (Below w.heap.size w w4):=lZ.o.trans (kV.mono lZ.o.size)
      have mg:Hid (r=true↔AM.cT (AM.aZ l)=l):=hr2
      clear kV hr2
      cases r
      · have hres:Hid (AM.aD l=1):=NY l Zp.o (fun e=>by have:=mg.o.2 ((xX l Zp.o HE.o).1 e);cases this)
        go_wp2
        go_ret
        exact⟨cV hres.out.symm,gK.o⟩
      · have hres:Hid (AM.aD l=0):=(xX l Zp.o HE.o).2 (mg.o.1 rfl)
        go_wp2
        go_ret
        exact⟨cV hres.out.symm,gK.o⟩
    · have hr':AM.fV l l.length=false:=by simpa using hr
      have hres:Hid (AM.aD l=1):=GN l Zp.o hr'
      go_wp2_with (refine wpList_store_row rfl 140 _ _ rfl w2.heap.size C rfl rfl 140 Z l6.out (by rw[uQ];exact fU) (by rw[tM,uQ]) PG.o ?_)
      go_ret
      exact⟨cV hres.out.symm,fK.o⟩
theorem A0 (l:List AM.Ar) (b off cap:Nat) (w:World) (hl:AM.zt w b off l) (hf:∀i,i<l.length->AM.Fits (AM.at_ l i)) (he:AM.eX l l.length=false) (hn:¬255<l.length) :
  Calls Tryz.prog 41 #[.slice (some (Ad b off)) l.length cap] w fun e w'=>e=.returned (I (AM.aD l))/\Below w.heap.size w w':=by
 have hres:Hid (AM.aD l=1):=GQ l hn he
 have HE:Hid (AM.eX l l.length=false):=he
 have hn':¬(255:Int)<(l.length:Int):=by omega
 clear he
 go_enter Tryz.func41,Tryz.ntmps41
 go_wp2
 go_loopw [3] (fun i wr=>∃k:Nat,k<=l.length/\i=I k/\AM.eX l k=true/\Below w.heap.size w wr) (fun i _=>l.length-(intOf i).toNat)
 case atStart=>exact⟨0,by omega,rfl,rfl,Below.refl _ _⟩
 case round =>
  obtain⟨k,hk,rfl,V3,hb⟩:=hrel
  have HB:Hid (Below w.heap.size w wr):=hb
  have HEK:Hid (AM.eX l k=true):=V3
  clear V3
  by_cases hlt:k<l.length
  · obtain⟨c0,c1,c2,c3⟩:=hl.below hb k hlt
    obtain⟨f1,f2,f3⟩:=hf k hlt
    have hw:=rF (AM.at_ l k)
    obtain⟨a,ha⟩:=ex (AM.at_ l k)
    rw[<- ha] at c0 c1 c2 c3 f1 f2 f3 hw
    have HW:Hid ((AM.bW a.page a.aj&&AM.dM a.bE)=true↔uF a.page 1 255=true/\uF a.aj 1 255=true/\a.page+a.aj-1<=255/\uF a.bE 0 3=true):=hw
    have HA:Hid (a=AM.at_ l k):=ha
    clear ha hb hw
    have jc:(k:Int)<(l.length:Int):=by omega
    by_cases d1:uF a.page 1 255=true
    · have b1:=(nT _ _ _).1 d1
      by_cases d2:uF a.aj 1 255=true
      · have b2:=(nT _ _ _).1 d2
        by_cases d3:a.page+a.aj-1<=255
        · have Wa:¬255<a.page+a.aj-1:=by omega
          by_cases d4:uF a.bE 0 3=true
          · have hok:Hid (AM.eX l (k+1)=true):=by show _=_;simp only[AM.eX,HEK.o,Bool.true_and];rw[<- HA.o];exact HW.o.2 ⟨d1,d2,d3,d4⟩
            go_wp2_with (first | (go_at_call 27;refine(jh _ _ _ _).mono ?_;rintro e w' ⟨rfl,rfl⟩))
            go_roundw
            case rel=>exact⟨k+1,by omega,by go_num,hok.out,HB.o.alloc HB.o.size _⟩
            case measure=>simp[intOf];omega
          · have d4':uF a.bE 0 3=false:=by simpa using d4
            clear d4
            go_wp2_with (first | (go_at_call 27;refine(jh _ _ _ _).mono ?_;rintro e w' ⟨rfl,rfl⟩))
            go_ret
            exact⟨cV hres.out.symm,HB.o.alloc HB.o.size _⟩
        · have Wa:255<a.page+a.aj-1:=by omega
          go_wp2_with (first | (go_at_call 27;refine(jh _ _ _ _).mono ?_;rintro e w' ⟨rfl,rfl⟩))
          go_ret
          exact⟨cV hres.out.symm,HB.o.alloc HB.o.size _⟩
      · have d2':uF a.aj 1 255=false:=by simpa using d2
        clear d2
        go_wp2_with (first | (go_at_call 27;refine(jh _ _ _ _).mono ?_;rintro e w' ⟨rfl,rfl⟩))
        go_ret
        exact⟨cV hres.out.symm,HB.o.alloc HB.o.size _⟩
    · have d1':uF a.page 1 255=false:=by simpa using d1
      clear d1
      go_wp2_with (first | (go_at_call 27;refine(jh _ _ _ _).mono ?_;rintro e w' ⟨rfl,rfl⟩))
      go_ret
      exact⟨cV hres.out.symm,HB.o.alloc HB.o.size _⟩
  · exfalso
    obtain rfl:k=l.length:=by omega
    have:=HEK.o
    rw[HE.o] at this
    cases this
theorem yQ (n:Nat) (ao:Option Addr) (cap:Nat) (w:World) (hn:255<n) (hm:n<=140737488351232) :
  Calls Tryz.prog 41 #[.slice ao n cap] w fun e w'=>e=.returned (I 2)/\Below w.heap.size w w':=by
 have hn':(255:Int)<(n:Int):=by omega
 go_enter Tryz.func41,Tryz.ntmps41
 go_wp2
 go_ret
 exact⟨rfl,Below.refl _ _⟩
theorem fW (l:List AM.Ar) (v:Value) (w:World) (h:Has w v l) (hf:dC l) :
  Calls Tryz.prog 41 #[v] w fun e w'=>e=.returned (I (AM.aD l))/\Below w.heap.size w w':=by
 have h':=h
 obtain⟨ao,cap,rfl,hh⟩:=h
 by_cases hn:255<l.length
 · have e:AM.aD l=2:=by simp[AM.aD,hn]
   rw[e]
   exact yQ l.length ao cap w hn hf.2
 · by_cases he:AM.eX l l.length=true
   · refine yP l _ w h' he hn ao cap rfl (fun i hi=>?_)
     rcases hh with e | ⟨b,off,hao,hl⟩
     · rw[e] at hi;simp at hi
     · exact⟨b,off,hao,hl⟩
   · have he':AM.eX l l.length=false:=by simpa using he
     rcases hh with e | ⟨b,off,hao,hl⟩
     · subst e;simp[AM.eX] at he'
     · subst hao
       exact A0 l b off cap w hl hf.1 he' hn
def fM (l:List AM.Ar) (page aj q:Int):Int:=if AM.aD l=0 then (if AM.bW page aj&&AM.dM q then 0 else 3) else AM.aD l
theorem m6 (l:List AM.Ar) (v:Value) (page aj q:Int) (w:World) (h:Has w v l) (hf:dC l) (hp:dD page) (hn:dD aj) :
  Calls Tryz.prog 112 #[v,I page,I aj,I q] w fun e w'=>e=.returned (I (fM l page aj q))/\Below w.heap.size w w':=by
 by_cases hc:AM.aD l=0
 · have HW:Hid ((AM.bW page aj&&AM.dM q)=true↔uF page 1 255=true/\uF aj 1 255=true/\page+aj-1<=255/\uF q 0 3=true):=rF ⟨page,aj,q,false⟩
   have HS:Hid (fM l page aj q=if AM.bW page aj&&AM.dM q then 0 else 3):=by show _=_;unfold fM;rw[if_pos hc]
   have hno:Hid (¬(uF page 1 255=true/\uF aj 1 255=true/\page+aj-1<=255/\uF q 0 3=true)->fM l page aj q=3):=fun hx=>by
    rw[HS.o,if_neg];exact fun hy=>hx (HW.o.1 hy)
   by_cases d1:uF page 1 255=true
   · have b1:=(nT _ _ _).1 d1
     by_cases d2:uF aj 1 255=true
     · have b2:=(nT _ _ _).1 d2
       by_cases d3:page+aj-1<=255
       · have Wa:¬255<page+aj-1:=by omega
         by_cases d4:uF q 0 3=true
         · have hres:Hid (fM l page aj q=0):=by show _=_;rw[HS.o,if_pos];exact HW.o.2 ⟨d1,d2,d3,d4⟩
           go_enter Tryz.func112,Tryz.ntmps112
           go_wp2_with fail
           refine(fW l v _ h hf).mono ?_
           rintro e w1 ⟨rfl,hb1⟩
           rw[hc]
           clear hc
           go_wp2_with (first | (go_at_call 27;refine(jh _ _ _ _).mono ?_;rintro e w' ⟨rfl,rfl⟩))
           go_ret
           exact⟨cV hres.out.symm,hb1⟩
         · have d4':uF q 0 3=false:=by simpa using d4
           have hres:Hid (fM l page aj q=3):=hno.out (fun hx=>d4 hx.2.2.2)
           clear d4
           go_enter Tryz.func112,Tryz.ntmps112
           go_wp2_with fail
           refine(fW l v _ h hf).mono ?_
           rintro e w1 ⟨rfl,hb1⟩
           rw[hc]
           clear hc
           go_wp2_with (first | (go_at_call 27;refine(jh _ _ _ _).mono ?_;rintro e w' ⟨rfl,rfl⟩))
           go_ret
           exact⟨cV hres.out.symm,hb1⟩
       · have Wa:255<page+aj-1:=by omega
         have hres:Hid (fM l page aj q=3):=hno.out (fun hx=>d3 hx.2.2.1)
         go_enter Tryz.func112,Tryz.ntmps112
         go_wp2_with fail
         refine(fW l v _ h hf).mono ?_
         rintro e w1 ⟨rfl,hb1⟩
         rw[hc]
         clear hc
         go_wp2_with (first | (go_at_call 27;refine(jh _ _ _ _).mono ?_;rintro e w' ⟨rfl,rfl⟩))
         go_ret
         exact⟨cV hres.out.symm,hb1⟩
     · have d2':uF aj 1 255=false:=by simpa using d2
       have hres:Hid (fM l page aj q=3):=hno.out (fun hx=>d2 hx.2.1)
       clear d2
       go_enter Tryz.func112,Tryz.ntmps112
       go_wp2_with fail
       refine(fW l v _ h hf).mono ?_
       rintro e w1 ⟨rfl,hb1⟩
       rw[hc]
       clear hc
       go_wp2_with (first | (go_at_call 27;refine(jh _ _ _ _).mono ?_;rintro e w' ⟨rfl,rfl⟩))
       go_ret
       exact⟨cV hres.out.symm,hb1⟩
   · have d1':uF page 1 255=false:=by simpa using d1
     have hres:Hid (fM l page aj q=3):=hno.out (fun hx=>d1 hx.1)
     clear d1
     go_enter Tryz.func112,Tryz.ntmps112
     go_wp2_with fail
     refine(fW l v _ h hf).mono ?_
     rintro e w1 ⟨rfl,hb1⟩
     rw[hc]
     clear hc
     go_wp2_with (first | (go_at_call 27;refine(jh _ _ _ _).mono ?_;rintro e w' ⟨rfl,rfl⟩))
     go_ret
     exact⟨cV hres.out.symm,hb1⟩
 · have hres:Hid (fM l page aj q=AM.aD l):=by show _=_;unfold fM;rw[if_neg hc]
   have hc':(AM.aD l != 0)=true:=by simpa using hc
   go_enter Tryz.func112,Tryz.ntmps112
   go_wp2_with fail
   refine(fW l v _ h hf).mono ?_
   rintro e w1 ⟨rfl,hb1⟩
   go_wp2
   go_ret
   exact⟨cV hres.out.symm,hb1⟩
end AW
namespace AW
open Go.RowKit
open FW (ai)
theorem Qr (l:List AM.Ar) (v:Value) (page aj q:Int) (w:World) (h:Has w v l) (hf:dC l) (hp:dD page) (hn:dD aj) :
  Calls Tryz.prog 83 #[v,I page,I aj,I q] w fun e w'=>∃r,e=.returned (.tuple #[r,I (dF l page aj q).2])/\Own w.heap.size w' r (dF l page aj q).1/\Below w.heap.size w w':=by
 by_cases hs:fM l page aj q=0
 · have hall:AM.aD l=0/\AM.bW page aj=true/\AM.dM q=true:=by
    unfold fM at hs
    by_cases hc:AM.aD l=0
    · rw[if_pos hc] at hs
      by_cases hx:(AM.bW page aj&&AM.dM q)=true
      · rw[Bool.and_eq_true] at hx
        exact⟨hc,hx.1,hx.2⟩
      · rw[if_neg hx] at hs;cases hs
    · rw[if_neg hc] at hs;exact absurd hs hc
   obtain⟨hc,jl,uJ⟩:=hall
   have HT:Hid (dF l page aj q=if AM.b6 (AM.aZ l) (bF q) page.toNat aj.toNat=0 then (AM.cT (AM.turned (AM.aZ l) (bF q) page (page+aj)),0) else ([],AM.b6 (AM.aZ l) (bF q) page.toNat aj.toNat)):=by
    show _=_;simp[dF,AM.cH,hc,jl,uJ]
   have hpb:=(AM.dv page aj).1 jl
   have VU:=(ni q).1 uJ
   have hfin:Hid (∀t,AM.mW (AM.turned (AM.aZ l) (bF q) page t)):=fun t=>DR l page t q hc (by omega) VU
   have vW:Hid (AM.mW (AM.aZ l)):=AM.gG l hc
   have kL:=AM.lA l l.length (AM.ij l hc)
   have hlen:=AM.dR l hc
   have SP:=ai (fun W hW=>m6 l v page aj q W hW hf hp hn)
   rw[hs] at SP
   have BO:=ai (fun W hW=>mG l v W hW kL.1 hlen)
   rw[kL.2] at BO
   have HR:=ai kL.2
   obtain⟨Z,hZ⟩:=ex (AM.eF (fun _=>0))
   have hz:=Jp
   rw[<- hZ] at hz
   have tM:Z.size=256:=by rw[hZ];exact AM.gI _
   clear hZ hs hc jl uJ kL hlen
   go_enter Tryz.func83,Tryz.ntmps83
   go_wp2_with fail
   refine(SP.o _ h).mono ?_
   rintro e w1 ⟨rfl,hb1⟩
   go_wp2_with fail
   refine(BO.o _ (h.below hb1)).mono ?_
   rintro e w2 ⟨C,rfl,YI,hb2⟩
   have bY:Hid (Below w.heap.size w w2):=hb1.trans (hb2.mono hb1.size)
   obtain⟨F,hF⟩:=ex (AM.aZ l)
   obtain⟨uQ,Nr,Pp⟩:=YI
   have hC:=Pp HR.o
   rw[<- hF] at HT hfin vW hC
   have vh:=ai hC
   have ZC:=ai Nr
   clear hb1 hb2 hF hC Pp Nr SP BO HR
   have l6:Hid ((w2.alloc (.cells Z 140)).heap[w2.heap.size]?=some (.cells Z 140 (0,0))):=B.new w2 Z 140
   go_wp2_with (refine wpList_store_row rfl 140 _ _ rfl w2.heap.size C rfl rfl 140 Z l6.out (by rw[uQ];exact fU) (by rw[tM,uQ]) ZC.o ?_)
   have Jm:Hid (((w2.alloc (.cells Z 140)).setRow w2.heap.size C).heap[w2.heap.size]?=some (.cells C 140 (0,0))):=setRow_heap _ _ _ _ 140 (0,0) l6.out
   have fK:Hid (Below w.heap.size w ((w2.alloc (.cells Z 140)).setRow w2.heap.size C)):=below_setRow (bY.o.alloc bY.o.size _) bY.o.size _
   have nU:=bY.o.size
   go_loopw [13] (fun t wr=>∃n:Nat,page<=(n:Int)/\(n:Int)<=page+aj/\t=I n/\(∀k:Nat,page.toNat<=k->k<n->((bF q) (F k)).2=0)/\wr.heap[w2.heap.size]?=some (.cells (bd (AM.turned F (bF q) page n)) 140 (0,0))/\Below w.heap.size w wr) (fun t _=>(page+aj-intOf t).toNat)
   case atStart =>
    refine⟨page.toNat,by omega,by omega,by rw[Int.toNat_of_nonneg (by omega)],fun k h1 h2=>by omega,?_,fK.o⟩
    rw[Int.toNat_of_nonneg (by omega),AM.gL,<- vh.o]
    exact Jm.o
   case round =>
    obtain⟨n,rZ,Pj,rfl,hno,hA,hb⟩:=hrel
    have HN:Hid (∀k:Nat,page.toNat<=k->k<n->((bF q) (F k)).2=0):=hno
    have HA:Hid (wr.heap[w2.heap.size]?=some (.cells (bd (AM.turned F (bF q) page n)) 140 (0,0))):=hA
    have HB:Hid (Below w.heap.size w wr):=hb
    have QT:w2.heap.size<wr.heap.size:=B.isLt hA
    by_cases hin:(n:Int)<page+aj
    · have z0:=B.cell hA n (AM.lR _ n (by omega))
      have zf:=B.free hA
      rw[AM.lh] at z0
      have xD:(n:Int)<256:=by omega
      clear hno hA hb
      have QJ:=vW.out.bE n
      obtain⟨s,hs⟩:=ex (F n)
      rw[<- hs] at z0 QJ
      have HS:Hid (s=F n):=hs
      clear hs
      have hstep:Hid (∀x:AM.St,((bF q) s).1=x->(bd (AM.turned F (bF q) page n)).setIfInBounds n (I (AM.enc x))=bd (AM.turned F (bF q) page ((n:Int)+1))):=fun x hx=>by
       unfold bd
       rw[AM.nZ _ n _ (by omega),AM.sk (AM.turned F (bF q) page n) n x,<- AM.iO F (bF q) page n rZ,<- HS.o,hx]
      by_cases hm:s.m=true
      · have hx:(AM.enc s==0)=false:=by
         simp
         intro hh
         have:=(AM.pI s QJ.1).1 hh
         rw[hm] at this;cases this
        have ht:Hid (dF l page aj q=([],5)):=by
         have mO:AM.b6 F (bF q) page.toNat aj.toNat=5:=by
          have e5:((bF q) (F n)).2=5:=by rw[<- HS.o];simp[bF,hm]
          rw[AM.jG F (bF q) _ _ n (by omega) (by omega) HN.o (by rw[e5];decide),e5]
         show _=_
         rw[HT.o,mO,if_neg (by decide)]
        go_wp2
        go_ret2
        exact⟨Nl,by rw[ht.out];rfl,by rw[ht.out];exact Own.nil _ _,HB.o⟩
      · have hm':s.m=false:=by simpa using hm
        have hx:AM.enc s=0:=(AM.pI s QJ.1).2 hm'
        rw[hx] at z0
        clear hx
        go_wp2_with (first | (go_at_call 106;refine(xn _ _ _ VU).mono ?_;rintro e w' ⟨rfl,rfl⟩))
        go_roundw
        case rel =>
         have kG:=B.set HA.o n (I (AM.mark q true))
         rw[show(AM.mark q true)=AM.enc ⟨true,q,true⟩ from by simp[AM.enc],hstep.out ⟨true,q,true⟩ (by simp[bF,hm'])] at kG
         refine⟨n+1,by omega,by omega,by go_num,fun k h1 h2=>if e:k=n then by rw[e,<- HS.o];simp[bF,hm'] else HN.o k h1 (by omega),?_,HB.o.setCell (by simp;omega) _⟩
         rw[show((n+1:Nat):Int)=(n:Int)+1 from by omega]
         exact kG
        case measure=>simp[intOf];omega
    · have hend:Hid ((n:Int)=page+aj):=by show _=_;omega
      have ht:Hid (dF l page aj q=(AM.cT (AM.turned F (bF q) page n),0)):=by
       have mO:AM.b6 F (bF q) page.toNat aj.toNat=0:=AM.fY F (bF q) _ _ (fun k h1 h2=>HN.o k h1 (by have:=hend.out;omega))
       show _=_
       rw[HT.o,mO,if_pos rfl,hend.out]
      clear hno hA hb
      go_wp2_with (refine wpList_load_row rfl 140 _ rfl w2.heap.size rfl 140 _ (0,0) _ HA.o Tryz.underlying140 rfl (by rw[tF];exact fU) ?_)
      refine(mI _ (hfin.out n) _).mono ?_
      rintro e w4 ⟨r,rfl,hr,hb4⟩
      go_wp2
      go_ret2
      exact⟨r,by rw[ht.out];rfl,by rw[ht.out];exact hr.mono HB.o.size,HB.o.trans (hb4.mono HB.o.size)⟩
 · have HT:Hid (dF l page aj q=([],fM l page aj q)):=by
    show _=_
    unfold dF AM.cH fM at *
    by_cases hc:AM.aD l=0
    · rw[if_pos hc] at hs
      rw[if_pos hc,if_pos hc]
      by_cases hx:(AM.bW page aj&&AM.dM q)=true
      · rw[if_pos hx] at hs;exact absurd rfl hs
      · rw[if_neg hx,if_neg hx]
    · rw[if_neg hc,if_neg hc]
   have SP:=ai (fun W hW=>m6 l v page aj q W hW hf hp hn)
   obtain⟨c,hcc⟩:=ex (fM l page aj q)
   rw[<- hcc] at SP hs HT
   clear hcc
   have hs':(c==0)=false:=by simpa using hs
   go_enter Tryz.func83,Tryz.ntmps83
   go_wp2_with fail
   refine(SP.o _ h).mono ?_
   rintro e w1 ⟨rfl,hb1⟩
   go_wp2
   go_ret2
   exact⟨Nl,by rw[HT.o];rfl,by rw[HT.o];exact Own.nil _ _,hb1⟩
theorem Jv (l:List AM.Ar) (v:Value) (page aj:Int) (w:World) (h:Has w v l) (hf:dC l) (hp:dD page) (hn:dD aj) :
  Calls Tryz.prog 85 #[v,I page,I aj] w fun e w'=>∃r,e=.returned (.tuple #[r,I (bP l page aj).2])/\Own w.heap.size w' r (bP l page aj).1/\Below w.heap.size w w':=by
 by_cases hs:fM l page aj 0=0
 · have hall:AM.aD l=0/\AM.bW page aj=true/\AM.dM 0=true:=by
    unfold fM at hs
    by_cases hc:AM.aD l=0
    · rw[if_pos hc] at hs
      by_cases hx:(AM.bW page aj&&AM.dM 0)=true
      · rw[Bool.and_eq_true] at hx
        exact⟨hc,hx.1,hx.2⟩
      · rw[if_neg hx] at hs;cases hs
    · rw[if_neg hc] at hs;exact absurd hs hc
   obtain⟨hc,jl,uJ⟩:=hall
   have HT:Hid (bP l page aj=if AM.b6 (AM.aZ l) aL page.toNat aj.toNat=0 then (AM.cT (AM.turned (AM.aZ l) aL page (page+aj)),0) else ([],AM.b6 (AM.aZ l) aL page.toNat aj.toNat)):=by
    show _=_;simp[bP,AM.cH,hc,jl,uJ]
   have hpb:=(AM.dv page aj).1 jl
   have VU:=(ni 0).1 uJ
   have hfin:Hid (∀t,AM.mW (AM.turned (AM.aZ l) aL page t)):=fun t=>xM l page t hc (by omega)
   have vW:Hid (AM.mW (AM.aZ l)):=AM.gG l hc
   have kL:=AM.lA l l.length (AM.ij l hc)
   have hlen:=AM.dR l hc
   have SP:=ai (fun W hW=>m6 l v page aj 0 W hW hf hp hn)
   rw[hs] at SP
   have BO:=ai (fun W hW=>mG l v W hW kL.1 hlen)
   rw[kL.2] at BO
   have HR:=ai kL.2
   obtain⟨Z,hZ⟩:=ex (AM.eF (fun _=>0))
   have hz:=Jp
   rw[<- hZ] at hz
   have tM:Z.size=256:=by rw[hZ];exact AM.gI _
   clear hZ hs hc jl uJ kL hlen
   go_enter Tryz.func85,Tryz.ntmps85
   go_wp2_with fail
   refine(SP.o _ h).mono ?_
   rintro e w1 ⟨rfl,hb1⟩
   go_wp2_with fail
   refine(BO.o _ (h.below hb1)).mono ?_
   rintro e w2 ⟨C,rfl,YI,hb2⟩
   have bY:Hid (Below w.heap.size w w2):=hb1.trans (hb2.mono hb1.size)
   obtain⟨F,hF⟩:=ex (AM.aZ l)
   obtain⟨uQ,Nr,Pp⟩:=YI
   have hC:=Pp HR.o
   rw[<- hF] at HT hfin vW hC
   have vh:=ai hC
   have ZC:=ai Nr
   clear hb1 hb2 hF hC Pp Nr SP BO HR
   have l6:Hid ((w2.alloc (.cells Z 140)).heap[w2.heap.size]?=some (.cells Z 140 (0,0))):=B.new w2 Z 140
   go_wp2_with (refine wpList_store_row rfl 140 _ _ rfl w2.heap.size C rfl rfl 140 Z l6.out (by rw[uQ];exact fU) (by rw[tM,uQ]) ZC.o ?_)
   have Jm:Hid (((w2.alloc (.cells Z 140)).setRow w2.heap.size C).heap[w2.heap.size]?=some (.cells C 140 (0,0))):=setRow_heap _ _ _ _ 140 (0,0) l6.out
   have fK:Hid (Below w.heap.size w ((w2.alloc (.cells Z 140)).setRow w2.heap.size C)):=below_setRow (bY.o.alloc bY.o.size _) bY.o.size _
   have nU:=bY.o.size
   go_loopw [11] (fun t wr=>∃n:Nat,page<=(n:Int)/\(n:Int)<=page+aj/\t=I n/\(∀k:Nat,page.toNat<=k->k<n->(aL (F k)).2=0)/\wr.heap[w2.heap.size]?=some (.cells (bd (AM.turned F aL page n)) 140 (0,0))/\Below w.heap.size w wr) (fun t _=>(page+aj-intOf t).toNat)
   case atStart =>
    refine⟨page.toNat,by omega,by omega,by rw[Int.toNat_of_nonneg (by omega)],fun k h1 h2=>by omega,?_,fK.o⟩
    rw[Int.toNat_of_nonneg (by omega),AM.gL,<- vh.o]
    exact Jm.o
   case round =>
    obtain⟨n,rZ,Pj,rfl,hno,hA,hb⟩:=hrel
    have HN:Hid (∀k:Nat,page.toNat<=k->k<n->(aL (F k)).2=0):=hno
    have HA:Hid (wr.heap[w2.heap.size]?=some (.cells (bd (AM.turned F aL page n)) 140 (0,0))):=hA
    have HB:Hid (Below w.heap.size w wr):=hb
    have QT:w2.heap.size<wr.heap.size:=B.isLt hA
    by_cases hin:(n:Int)<page+aj
    · have z0:=B.cell hA n (AM.lR _ n (by omega))
      have zf:=B.free hA
      rw[AM.lh] at z0
      have xD:(n:Int)<256:=by omega
      clear hno hA hb
      have QJ:=vW.out.bE n
      obtain⟨s,hs⟩:=ex (F n)
      rw[<- hs] at z0 QJ
      have HS:Hid (s=F n):=hs
      clear hs
      have hstep:Hid (∀x:AM.St,(aL s).1=x->(bd (AM.turned F aL page n)).setIfInBounds n (I (AM.enc x))=bd (AM.turned F aL page ((n:Int)+1))):=fun x hx=>by
       unfold bd
       rw[AM.nZ _ n _ (by omega),AM.sk (AM.turned F aL page n) n x,<- AM.iO F aL page n rZ,<- HS.o,hx]
      · go_wp2
        go_roundw
        case rel =>
         have kG:=B.set HA.o n (I 0)
         rw[show 0=AM.enc AM.off from by simp[AM.enc,AM.off],hstep.out AM.off (by simp[aL])] at kG
         refine⟨n+1,by omega,by omega,by go_num,fun k h1 h2=>if e:k=n then by rw[e,<- HS.o];simp[aL] else HN.o k h1 (by omega),?_,HB.o.setCell (by simp;omega) _⟩
         rw[show((n+1:Nat):Int)=(n:Int)+1 from by omega]
         exact kG
        case measure=>simp[intOf];omega
    · have hend:Hid ((n:Int)=page+aj):=by show _=_;omega
      have ht:Hid (bP l page aj=(AM.cT (AM.turned F aL page n),0)):=by
       have mO:AM.b6 F aL page.toNat aj.toNat=0:=AM.fY F aL _ _ (fun k h1 h2=>HN.o k h1 (by have:=hend.out;omega))
       show _=_
       rw[HT.o,mO,if_pos rfl,hend.out]
      clear hno hA hb
      go_wp2_with (refine wpList_load_row rfl 140 _ rfl w2.heap.size rfl 140 _ (0,0) _ HA.o Tryz.underlying140 rfl (by rw[tF];exact fU) ?_)
      refine(mI _ (hfin.out n) _).mono ?_
      rintro e w4 ⟨r,rfl,hr,hb4⟩
      go_wp2
      go_ret2
      exact⟨r,by rw[ht.out];rfl,by rw[ht.out];exact hr.mono HB.o.size,HB.o.trans (hb4.mono HB.o.size)⟩
 · have HT:Hid (bP l page aj=([],fM l page aj 0)):=by
    show _=_
    unfold bP AM.cH fM at *
    by_cases hc:AM.aD l=0
    · rw[if_pos hc] at hs
      rw[if_pos hc,if_pos hc]
      by_cases hx:(AM.bW page aj&&AM.dM 0)=true
      · rw[if_pos hx] at hs;exact absurd rfl hs
      · rw[if_neg hx,if_neg hx]
    · rw[if_neg hc,if_neg hc]
   have SP:=ai (fun W hW=>m6 l v page aj 0 W hW hf hp hn)
   obtain⟨c,hcc⟩:=ex (fM l page aj 0)
   rw[<- hcc] at SP hs HT
   clear hcc
   have hs':(c==0)=false:=by simpa using hs
   go_enter Tryz.func85,Tryz.ntmps85
   go_wp2_with fail
   refine(SP.o _ h).mono ?_
   rintro e w1 ⟨rfl,hb1⟩
   go_wp2
   go_ret2
   exact⟨Nl,by rw[HT.o];rfl,by rw[HT.o];exact Own.nil _ _,hb1⟩
end AW
end Go.Proofs.YtkdigjpejnebkaaGreat
