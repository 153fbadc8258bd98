import Derived.Test.YtpgifpeohlllfaaGreatGP00
import Derived.Test.YtpgifpeohlllfaaGreatGP08
import Derived.Test.YtpgifpeohlllfaaGreatGP04
import Derived.Maps.Own
import Derived.Maps.OwnSet
import Derived.Maps.Views
import Derived.Deep.AppendLies
import Derived.Deep.RegionLaw
import Derived.Lib.Repeat
set_option maxHeartbeats 20000000
set_option linter.unusedVariables false
set_option maxRecDepth 100000
set_option linter.unusedSimpArgs false
namespace Go.Proofs.YtpgifpeohlllfaaGreat
namespace W
open Go.RowKit
theorem uW (i:M.Im) (a:M.At) (w:World) (hf:M.Fit i):Calls Tryz.prog 176 #[.agg (M.eO a i)] w fun e w'=>e=.returned (.bool (M.pN i))/\Below w.heap.size w w':=by
 obtain⟨an,cn,ag,cg,ay,cy,ar,cr⟩:=a
 obtain⟨nm,ns,gs,ys,rs,en⟩:=i
 obtain⟨f1,f2,f3,f4,f5,f6,f7,f8,f9,f10⟩:=hf
 simp only at f2 f4 f6 f8
 unfold M.br at f2 f4 f6 f8
 simp only[M.eO,M.pN]
 have bI:∀o,Hid (Below w.heap.size w (w.alloc o)):=fun o=>(Below.refl w.heap.size w).alloc (Nat.le_refl _) o
 obtain⟨r,hr⟩:=ex (decide (1<=gs.length/\gs.length<=6/\ns.length<=4/\ys.length<=12/\rs.length<=16))
 rw[<- hr]
 have HR:=ai hr
 clear hr f1 f3 f5 f7 f9 f10
 obtain⟨ln,DV⟩:∃n,n=ns.length:=⟨_,rfl⟩
 obtain⟨lg,NN⟩:∃n,n=gs.length:=⟨_,rfl⟩
 obtain⟨ly,XO⟩:∃n,n=ys.length:=⟨_,rfl⟩
 obtain⟨lr,hlr⟩:∃n,n=rs.length:=⟨_,rfl⟩
 rw[<- DV,<- NN,<- XO,<- hlr] at HR
 rw[<- DV,<- NN,<- XO,<- hlr]
 rw[<- DV] at f2
 rw[<- NN] at f4
 rw[<- XO] at f6
 rw[<- hlr] at f8
 clear DV NN XO hlr
 by_cases d1:1<=(lg:Int)
 · by_cases d2:(lg:Int)<=6
   · by_cases d3:(ln:Int)<=4
     · by_cases d4:(ly:Int)<=12
       · by_cases d5:(lr:Int)<=16
         · have e:r=true:=by rw[HR.o];exact decide_eq_true (by omega)
           subst e
           have q1:1<=lg:=by omega
           have q2:lg<=6:=by omega
           have q3:ln<=4:=by omega
           have q4:ly<=12:=by omega
           have q5:lr<=16:=by omega
           go_enter Tryz.func176,Tryz.ntmps176
           go_wp2
           go_ret
           exact⟨rfl,(bI _).out⟩
         · have e:r=false:=by rw[HR.o];exact decide_eq_false (by omega)
           subst e
           have q1:1<=lg:=by omega
           have q2:lg<=6:=by omega
           have q3:ln<=4:=by omega
           have q4:ly<=12:=by omega
           have q5:decide ((lr:Int)<=16)=false:=decide_eq_false d5
           have q6:decide (lr<=16)=false:=decide_eq_false (by omega)
           have q7:¬lr<=16:=by omega
           go_enter Tryz.func176,Tryz.ntmps176
           go_wp2
           go_ret
           exact⟨rfl,(bI _).out⟩
       · have e:r=false:=by rw[HR.o];exact decide_eq_false (by omega)
         subst e
         have q1:1<=lg:=by omega
         have q2:lg<=6:=by omega
         have q3:ln<=4:=by omega
         have q4:decide ((ly:Int)<=12)=false:=decide_eq_false d4
         have q6:decide (ly<=12)=false:=decide_eq_false (by omega)
         have q7:¬ly<=12:=by omega
         go_enter Tryz.func176,Tryz.ntmps176
         go_wp2
         go_ret
         exact⟨rfl,(bI _).out⟩
     · have e:r=false:=by rw[HR.o];exact decide_eq_false (by omega)
       subst e
       have q1:1<=lg:=by omega
       have q2:lg<=6:=by omega
       have q4:decide ((ln:Int)<=4)=false:=decide_eq_false d3
       have q6:decide (ln<=4)=false:=decide_eq_false (by omega)
       have q7:¬ln<=4:=by omega
       go_enter Tryz.func176,Tryz.ntmps176
       go_wp2
       go_ret
       exact⟨rfl,(bI _).out⟩
   · have e:r=false:=by rw[HR.o];exact decide_eq_false (by omega)
     subst e
     have q1:1<=lg:=by omega
     have q4:decide ((lg:Int)<=6)=false:=decide_eq_false d2
     have q6:decide (lg<=6)=false:=decide_eq_false (by omega)
     have q7:¬lg<=6:=by omega
     go_enter Tryz.func176,Tryz.ntmps176
     go_wp2
     go_ret
     exact⟨rfl,(bI _).out⟩
 · have e:r=false:=by rw[HR.o];exact decide_eq_false (by omega)
   subst e
   have q4:decide ((1:Int)<=(lg:Int))=false:=decide_eq_false d1
   obtain rfl:lg=0:=by omega
   go_enter Tryz.func176,Tryz.ntmps176
   go_wp2
   go_ret
   exact⟨rfl,(bI _).out⟩
theorem uU (l:List M.Sg) (ao:Option Addr) (cap:Nat) (w:World) (h:M.eB M.xQ w ao l) (hn:M.br l.length) (hf:∀k,k<l.length->M.Xr (M.dn l k)) :
  Calls Tryz.prog 177 #[.slice ao l.length cap] w fun e w'=>e=.returned (.bool (l.all M.fB))/\Below w.heap.size w w':=by
 unfold M.br at hn
 have H:=ai h
 have F:=ai hf
 clear h hf
 go_enter Tryz.func177,Tryz.ntmps177
 go_wp2
 go_loopw [7] (fun i wr=>∃k:Nat,k<=l.length/\i=I k/\(∀j,j<k->M.fB (M.dn l j)=true)/\Below w.heap.size w wr) (fun i _=>l.length-(intOf i).toNat)
 case atStart=>exact⟨0,by omega,rfl,fun j h=>by omega,Below.refl _ _⟩
 case round =>
  obtain⟨k,hk,rfl,hall,hb⟩:=hrel
  have HA:=ai hall
  have HB:=ai hb
  clear hall
  by_cases hlt:k<l.length
  · obtain⟨b,off,hao,hbl,hl⟩:=H.o (by omega)
    subst hao
    obtain⟨c0,c1,c2,c3,c4⟩:=M.wV hb hbl hl k hlt
    obtain⟨g1,g2,g3⟩:=F.o k hlt
    obtain⟨s,hs⟩:=ex (M.dn l k)
    rw[<- hs] at c0 c1 c2 c3 c4 g1 g2 g3
    have HS:=ai hs
    clear hs hb hl
    obtain⟨p,n,d,x,y⟩:=s
    simp only at c0 c1 c2 c3 c4 g1 g2 g3
    unfold M.fR at g1 g2
    unfold M.br at g3
    have mU:d.size<=maxLen:=by unfold maxLen;omega
    have zj:(k:Int)<(l.length:Int):=by omega
    have hbad:Hid (¬(0<=p/\1<=n/\p+n<=255/\(d.size:Int)<=n*16)->l.all M.fB=false):=fun hx =>
     M.all_false M.fB M.NJ l k hlt (by show M.fB (M.dn l k)=false;rw[<- HS.o];exact decide_eq_false hx)
    by_cases d1:0<=p
    · have d1':¬p<0:=by omega
      by_cases d2:1<=n
      · have d2':¬n<1:=by omega
        by_cases d3:p+n<=255
        · have Yb:¬255-p<n:=by omega
          by_cases d4:(d.size:Int)<=n*16
          · have d4':¬n*16<(d.size:Int):=by omega
            have VC:Hid (M.fB ⟨p,n,d,x,y⟩=true):=decide_eq_true ⟨d1,d2,d3,d4⟩
            go_wp2
            go_roundw
            case rel=>exact⟨k+1,by omega,by go_num,fun j h=>if e:j=k then by rw[e,<- HS.o];exact VC.out else HA.o j (by omega),HB.o.alloc HB.o.size _⟩
            case measure=>simp[intOf];omega
          · have d4':n*16<(d.size:Int):=by omega
            have HR:=ai (hbad.out (by omega))
            go_wp2
            go_ret
            exact⟨bN HR.o.symm,HB.o.alloc HB.o.size _⟩
        · have Yb:255-p<n:=by omega
          have HR:=ai (hbad.out (by omega))
          go_wp2
          go_ret
          exact⟨bN HR.o.symm,HB.o.alloc HB.o.size _⟩
      · have d2':n<1:=by omega
        have HR:=ai (hbad.out (by omega))
        go_wp2
        go_ret
        exact⟨bN HR.o.symm,HB.o.alloc HB.o.size _⟩
    · have d1':p<0:=by omega
      have HR:=ai (hbad.out (by omega))
      go_wp2
      go_ret
      exact⟨bN HR.o.symm,HB.o.alloc HB.o.size _⟩
  · obtain rfl:k=l.length:=by omega
    have HR:=ai (M.all_true M.fB M.NJ l (fun j hj=>HA.o j hj))
    clear hb
    go_wp2
    go_ret
    exact⟨bN HR.o.symm,HB.o⟩
theorem Ix (l:List M.Sg) (k n:Nat) (h:M.lu l k=false) (hk:k<=n):M.lu l n=false:=by
 induction n with
 | zero => obtain rfl:k=0 := by omega
           exact h
 | succ n ih =>
  rcases Nat.lt_or_ge n k with g | g
  · obtain rfl:k=n+1:=by omega
    exact h
  · simp only[M.lu]
    rw[ih g];rfl
theorem Nc (l:List M.Sg) (k:Nat) (hk:k<l.length) (h:M.lu l (k+1)=false):M.tL l=false:=Ix l (k+1) l.length h hk
theorem CA (l:List M.Sg) (ao:Option Addr) (cap:Nat) (w:World) (h:M.eB M.xQ w ao l) (hn:M.br l.length) (hr:l.all M.fB=true) :
  Calls Tryz.prog 178 #[.slice ao l.length cap] w fun e w'=>e=.returned (.bool (!M.tL l))/\Below w.heap.size w w':=by
 unfold M.br at hn
 have H:=ai h
 have F:=ai hr
 clear h hr
 go_enter Tryz.func178,Tryz.ntmps178
 go_wp2
 go_loopw [3] (fun i wr=>∃k:Nat,1<=k/\(k<=l.length∨k=1)/\i=I k/\M.lu l k=true/\Below w.heap.size w wr) (fun i _=>l.length-(intOf i).toNat)
 case atStart=>exact⟨1,by omega,.inr rfl,rfl,rfl,Below.refl _ _⟩
 case round =>
  obtain⟨k,hk1,hk,rfl,hall,hb⟩:=hrel
  have HA:=ai hall
  have HB:=ai hb
  clear hall
  by_cases hlt:k<l.length
  · obtain⟨b,off,hao,hbl,hl⟩:=H.o (by omega)
    subst hao
    obtain⟨c0,c1,c2,c3,c4⟩:=M.wV hb hbl hl k hlt
    obtain⟨e0,e1,e2,e3,e4⟩:=M.wV hb hbl hl (k-1) (by omega)
    have g1:0<=(M.dn l (k-1)).page/\1<=(M.dn l (k-1)).aB/\(M.dn l (k-1)).page+(M.dn l (k-1)).aB<=255/\_:=of_decide_eq_true (M.xP M.fB M.NJ l (k-1) (by omega) F.o)
    have hov:Hid (M.lu l (k+1)=decide ((M.dn l (k-1)).page+(M.dn l (k-1)).aB<=(M.dn l k).page)):=by
     show _=_
     simp only[M.lu,HA.o,Bool.true_and,M.Ll]
     rw[show(k==0)=false from by simp;omega,Bool.false_or]
    obtain⟨s,hs⟩:=ex (M.dn l k)
    obtain⟨t,ht⟩:=ex (M.dn l (k-1))
    rw[<- hs] at c0 c1 c2 c3 c4 hov
    rw[<- ht] at e0 e1 e2 e3 e4 g1 hov
    clear hs ht hb hl
    obtain⟨sp,sn,sd,sx,sy⟩:=s
    obtain⟨tp,tn,td,tx,ty⟩:=t
    simp only at c0 c1 c2 c3 c4 e0 e1 e2 e3 e4 g1 hov
    obtain⟨g1,g2,g3,g4⟩:=g1
    clear c1 c2 c3 c4 e2 e3 e4 g4
    have zj:(k:Int)<(l.length:Int):=by omega
    have mN:=Q.dO wr
    have hkc:=@Q.cC wr
    have hbr:b<wr.heap.size:=Nat.lt_of_lt_of_le hbl HB.o.size
    have k0:∀x:Q.eU wr.heap.size wr,x.world.cell? (Ad b (off+k*5))=some (I sp):=fun x=>by rw[hkc x _ _ hbr,c0]
    have k1:∀x:Q.eU wr.heap.size wr,x.world.cell? ⟨b,off+(k-1)*5,none⟩=some (I tp):=fun x=>by rw[hkc x _ _ hbr,e0]
    have k2:∀x:Q.eU wr.heap.size wr,x.world.cell? ⟨b,off+(k-1)*5+1,none⟩=some (I tn):=fun x=>by rw[hkc x _ _ hbr,e1]
    clear hkc c0 e0 e1
    by_cases d:sp<tp+tn
    · have hno:Hid (M.lu l (k+1)=false):=by show _=_;rw[hov.out];exact decide_eq_false (by omega)
      go_wp2
      refine Q.bc (by kernel_rfl) (by kernel_rfl) ?_
      repeat (first | go_big_quiet_step (fail) | quiet_step (fail))
      refine wpQuiet_nil ?_
      intro _ hw'
      obtain⟨x,hw''⟩:=hw'
      subst hw''
      go_wp2
      go_ret
      exact⟨bN (by rw[Nc l k hlt hno.out];rfl),HB.o.trans (x.keeps.mono HB.o.size)⟩
    · have L4:Hid (M.lu l (k+1)=true):=by show _=_;rw[hov.out];exact decide_eq_true (by omega)
      go_wp2
      refine Q.bc (by kernel_rfl) (by kernel_rfl) ?_
      repeat (first | go_big_quiet_step (fail) | quiet_step (fail))
      refine wpQuiet_nil ?_
      intro _ hw'
      obtain⟨x,hw''⟩:=hw'
      subst hw''
      go_wp2
      go_roundw
      case rel=>exact⟨k+1,by omega,.inl (by omega),by go_num,L4.out,HB.o.trans (x.keeps.mono HB.o.size)⟩
      case measure=>simp[intOf];omega
  · have HR:Hid (M.tL l=true):=by
     show _=_
     unfold M.tL
     rcases hk with hk | hk
     · rw[show l.length=k by omega];exact HA.o
     · rcases Nat.lt_or_ge l.length 1 with h0 | h0
       · rw[show l.length=0 by omega];rfl
       · rw[show l.length=k by omega];exact HA.o
    have hge:¬(k:Int)<(l.length:Int):=by omega
    clear hb
    go_wp2
    go_ret
    exact⟨bN (by rw[HR.o];rfl),HB.o⟩
def qR (s:M.Sg):Array Value:=#[I s.page,I s.aB,.string s.data,.bool s.wr,.bool s.ex]
def vU (l:List M.Sg) (a:Int):M.Sg:=(M.lj l a).getD M.NJ
theorem qx:∀(l:List M.Sg) (a:Int),(∀j,j<l.length->M.mr (M.dn l j) a=false)->M.lj l a=none
 | [],_,_=>rfl
 | s::r,a,h=>by
  have h0:M.mr s a=false:=h 0 (by simp)
  unfold M.lj
  rw[h0,if_neg (by simp)]
  exact qx r a (fun j hj=>h (j+1) (by simpa using hj))
theorem qw:∀(l:List M.Sg) (a:Int) (k:Nat),k<l.length->(∀j,j<k->M.mr (M.dn l j) a=false)->M.mr (M.dn l k) a=true->M.lj l a=some (M.dn l k)
 | s::r,a,0,_,_,h=>by
  have h0:M.mr s a=true:=h
  unfold M.lj
  rw[h0,if_pos rfl]
  rfl
 | s::r,a,k+1,hk,hj,h=>by
  have h0:M.mr s a=false:=hj 0 (by omega)
  unfold M.lj
  rw[h0,if_neg (by simp)]
  exact qw r a k (by simpa using hk) (fun j h=>hj (j+1) (by omega)) h
theorem Ct {l:List M.Sg} (h:l.all M.fB=true) (k:Nat) (hk:k<l.length):0<=(M.dn l k).page/\1<=(M.dn l k).aB/\(M.dn l k).page+(M.dn l k).aB<=255/\((M.dn l k).data.size:Int)<=(M.dn l k).aB*16 :=
 of_decide_eq_true (M.xP M.fB M.NJ l k hk h)
theorem Io {l:List M.Sg} (h:l.all M.fB=true) (a:Int) (ha:a<0):M.lj l a=none :=
 qx l a (fun j hj=>by
  have:=Ct h j hj
  exact decide_eq_false (by omega))
theorem Ac {a b:M.Sg} {x y:Bool} (h:a=b) (g:x=y):Ending.returned (.tuple #[.agg (qR a),.bool x])=.returned (.tuple #[.agg (qR b),.bool y]):=by rw[h,g]
theorem pq (l:List M.Sg) (ao:Option Addr) (cap:Nat) (a:Int) (w:World) (h:M.eB M.xQ w ao l) (hn:M.br l.length) (hr:l.all M.fB=true) (ha:M.fR a) :
  Calls Tryz.prog 199 #[.slice ao l.length cap,I a] w fun e w'=>e=.returned (.tuple #[.agg (qR (vU l a)),.bool (M.dM l a)])/\Below w.heap.size w w':=by
 unfold M.br at hn
 unfold M.fR at ha
 have H:=ai h
 have F:=ai hr
 clear h hr
 by_cases h0:a<0
 · have HN:=ai (Io F.o a h0)
   have HZ:=ai ((Below.refl w.heap.size w).alloc (Nat.le_refl _) (.cells #[I 0,I 0,.string ⟨#[]⟩,.bool false,.bool false] 145))
   go_enter Tryz.func199,Tryz.ntmps199
   go_wp2
   exact bodyPost_ret (v:=.tuple #[.agg #[I 0,I 0,.string ⟨#[]⟩,.bool false,.bool false],.bool false]) (by simp[results,Tryz.results199,go_sem]) rfl ⟨Ac (a:=M.NJ) (x:=false) (by unfold vU;rw[HN.o];rfl) (by unfold M.dM;rw[HN.o];rfl),HZ.o⟩
 · have h0':0<=a:=by omega
   have hbz:Below w.heap.size w (w.alloc (.cells #[I 0,I 0,.string ⟨#[]⟩,.bool false,.bool false] 145)):=(Below.refl _ _).alloc (Nat.le_refl _) _
   have HZ:=ai hbz
   clear hbz
   go_enter Tryz.func199,Tryz.ntmps199
   go_wp2
   go_loopw [16] (fun i wr=>∃k:Nat,k<=l.length/\i=I k/\(∀j,j<k->M.mr (M.dn l j) a=false)/\Below (w.heap.size+1) (w.alloc (.cells #[I 0,I 0,.string ⟨#[]⟩,.bool false,.bool false] 145)) wr) (fun i _=>l.length-(intOf i).toNat)
   case atStart=>exact⟨0,by omega,rfl,fun j hj=>by omega,Below.refl _ _⟩
   case round =>
    obtain⟨k,hk,rfl,hno,hb⟩:=hrel
    have HN:=ai hno
    have HB:=ai hb
    have eW:Hid (Below w.heap.size w wr):=HZ.o.trans (hb.mono (Nat.le_succ _))
    have hsz:w.heap.size+1<=wr.heap.size:=by have:=hb.size;simpa using this
    have HR:=ai (B.below (B.new w #[I 0,I 0,.string ⟨#[]⟩,.bool false,.bool false] 145) hb (Nat.lt_succ_self _))
    clear hno hb
    by_cases hlt:k<l.length
    · obtain⟨b,off,hao,hbl,hl⟩:=H.o (by omega)
      subst hao
      obtain⟨c0,c1,c2,c3,c4⟩:=M.wV eW.out hbl hl k hlt
      obtain⟨g1,g2,g3,g4⟩:=Ct F.o k hlt
      obtain⟨s,hs⟩:=ex (M.dn l k)
      rw[<- hs] at c0 c1 c2 c3 c4 g1 g2 g3 g4
      have HS:=ai hs
      clear hs hl
      obtain⟨p,n,d,x,y⟩:=s
      simp only at c0 c1 c2 c3 c4 g1 g2 g3 g4
      have mU:d.size<=maxLen:=by unfold maxLen;omega
      have zj:(k:Int)<(l.length:Int):=by omega
      clear g4
      by_cases d1:p<=a/16
      · by_cases d2:a/16<p+n
        · have hin:Hid (M.mr (M.dn l k) a=true):=by show _=_;rw[<- HS.o];exact decide_eq_true (show p*16<=a/\a<(p+n)*16 by omega)
          have t0:=B.cell (B.alloc HR.o (.cells #[I p,I n,.string d,.bool x,.bool y] 145)) 0 rfl
          have t1:=B.cell (B.alloc HR.o (.cells #[I p,I n,.string d,.bool x,.bool y] 145)) 1 rfl
          have t2:=B.cell (B.alloc HR.o (.cells #[I p,I n,.string d,.bool x,.bool y] 145)) 2 rfl
          have t3:=B.cell (B.alloc HR.o (.cells #[I p,I n,.string d,.bool x,.bool y] 145)) 3 rfl
          have t4:=B.cell (B.alloc HR.o (.cells #[I p,I n,.string d,.bool x,.bool y] 145)) 4 rfl
          have u0:=B.free (B.alloc HR.o (.cells #[I p,I n,.string d,.bool x,.bool y] 145))
          have xR:=ai (eW.out.alloc eW.out.size (.cells #[I p,I n,.string d,.bool x,.bool y] 145))
          go_wp2
          exact bodyPost_ret (v:=.tuple #[.agg #[I p,I n,.string d,.bool x,.bool y],.bool true]) (by simp[results,Tryz.results199,go_sem,t0,t1,t2,t3,t4]) rfl ⟨Ac (a:=⟨p,n,d,x,y⟩) (x:=true) (by unfold vU;rw[qw l a k hlt HN.o hin.out];exact HS.o) (by unfold M.dM;rw[qw l a k hlt HN.o hin.out];rfl),(((((xR.o.setCell (Nat.le_refl _) _).setCell (Nat.le_refl _) _).setCell (Nat.le_refl _) _).setCell (Nat.le_refl _) _).setCell (Nat.le_refl _) _)⟩
        · have od:Hid (M.mr (M.dn l k) a=false):=by show _=_;rw[<- HS.o];exact decide_eq_false (show ¬(p*16<=a/\a<(p+n)*16) by omega)
          go_wp2
          go_roundw
          case rel=>exact⟨k+1,by omega,by go_num,fun j hj=>if e:j=k then by rw[e];exact od.out else HN.o j (by omega),HB.o.alloc (by simpa using hsz) _⟩
          case measure=>simp[intOf];omega
      · have od:Hid (M.mr (M.dn l k) a=false):=by show _=_;rw[<- HS.o];exact decide_eq_false (show ¬(p*16<=a/\a<(p+n)*16) by omega)
        have d1':decide (p<=a/16)=false:=decide_eq_false d1
        go_wp2
        go_roundw
        case rel=>exact⟨k+1,by omega,by go_num,fun j hj=>if e:j=k then by rw[e];exact od.out else HN.o j (by omega),HB.o.alloc (by simpa using hsz) _⟩
        case measure=>simp[intOf];omega
    · obtain rfl:k=l.length:=by omega
      have HNo:=ai (qx l a HN.o)
      have t0:=B.cell HR.o 0 rfl
      have t1:=B.cell HR.o 1 rfl
      have t2:=B.cell HR.o 2 rfl
      have t3:=B.cell HR.o 3 rfl
      have t4:=B.cell HR.o 4 rfl
      have u0:=B.free HR.o
      go_wp2
      exact bodyPost_ret (v:=.tuple #[.agg #[I 0,I 0,.string ⟨#[]⟩,.bool false,.bool false],.bool false]) (by simp[results,Tryz.results199,go_sem,t0,t1,t2,t3,t4]) rfl ⟨Ac (a:=M.NJ) (x:=false) (by unfold vU;rw[HNo.o];rfl) (by unfold M.dM;rw[HNo.o];rfl),(((((eW.out.setCell (Nat.le_refl _) _).setCell (Nat.le_refl _) _).setCell (Nat.le_refl _) _).setCell (Nat.le_refl _) _).setCell (Nat.le_refl _) _)⟩
theorem iD {l:List M.Sg} (h:l.all M.fB=true) (a:Int) (hp:M.dM l a=true):0<=a/\a<4080:=by
 induction l with
 | nil=>cases hp
 | cons s r ih =>
  have h':M.fB s=true/\r.all M.fB=true:=by simpa using h
  have hs:0<=s.page/\1<=s.aB/\s.page+s.aB<=255/\(s.data.size:Int)<=s.aB*16:=of_decide_eq_true h'.1
  unfold M.dM M.lj at hp
  cases e:M.mr s a
  · rw[e,if_neg (by simp)] at hp
    exact ih h'.2 hp
  · have:=of_decide_eq_true e
    omega
theorem vd (i:M.Im) (a:M.At) (w:World) (h:M.mK w a i) (hf:M.Fit i) (hr:i.cU.all M.fB=true):Calls Tryz.prog 183 #[.agg (M.eO a i)] w fun e w'=>e=.returned (.bool (M.tF i))/\Below w.heap.size w w':=by
 obtain⟨an,cn,ag,cg,ay,cy,ar,cr⟩:=a
 obtain⟨nm,ns,gs,ys,rs,en⟩:=i
 obtain⟨h1,h2,h3,h4⟩:=h
 obtain⟨f1,f2,f3,f4,f5,f6,f7,f8,f9,f10⟩:=hf
 simp only at h1 h2 h3 h4 f1 f2 f3 f4 f5 f6 f7 f8 f9 f10
 have F4:=ai f4
 unfold M.br at f2 f4 f6 f8
 simp only[M.eO]
 have H1:=ai h1
 have H2:=ai h2
 have H3:=ai h3
 have H4:=ai h4
 have F3:=ai f3
 have F7:=ai f7
 have F9:=ai f9
 have Xu:=ai f10
 have HG:=ai hr
 clear h1 h2 h3 h4 f3 f5 f7 f9 f10 hr
 have NI:=ai (B.new w #[.string nm,.slice an ns.length cn,.slice ag gs.length cg,.slice ay ys.length cy,.slice ar rs.length cr,I en] 151)
 have bI:=ai ((Below.refl w.heap.size w).alloc (Nat.le_refl _) (.cells #[.string nm,.slice an ns.length cn,.slice ag gs.length cg,.slice ay ys.length cy,.slice ar rs.length cr,I en] 151))
 obtain⟨X,hX⟩:∃X:Array Value,X=#[.string nm,.slice an ns.length cn,.slice ag gs.length cg,.slice ay ys.length cy,.slice ar rs.length cr,I en]:=⟨_,rfl⟩
 have HX:=ai hX
 rw[<- hX] at NI bI
 clear hX
 have bx2:=B.cell NI.o 2 (by rw[HX.o];rfl)
 have bx5:=B.cell NI.o 5 (by rw[HX.o];rfl)
 have aai:=Xu.o
 unfold M.fR at aai
 have HE:Hid (M.tF ⟨nm,ns,gs,ys,rs,en⟩=(M.dM gs en&&((vU gs en).ex&&decide (en%8=0)))):=by
  show _=_
  unfold M.tF M.dM vU
  simp only
  cases M.lj gs en <;> rfl
 rw[HE.o]
 have hpb:M.dM gs en=true->0<=en:=fun h=>(iD HG.o en h).1
 obtain⟨sg,Zj⟩:=ex (vU gs en)
 obtain⟨pb,u6⟩:=ex (M.dM gs en)
 have HS:=ai Zj
 have HP:=ai u6
 rw[<- u6] at hpb
 rw[<- Zj,<- u6]
 obtain⟨sp,sn,sd,sx,sy⟩:=sg
 simp only
 clear HE Zj u6
 cases pb
 · clear hpb
   go_enter Tryz.func183,Tryz.ntmps183
   go_wp2_with fail
   rw[<- HX.o]
   refine(pq gs ag cg en _ (M.eB.below (lie:=M.xQ) (fun hb hlt h=>M.wV hb hlt h) H2.o bI.o) F4.o HG.o Xu.o).mono ?_
   rintro e w2 ⟨rfl,hb2⟩
   have bY:=ai (bI.o.trans (hb2.mono bI.o.size))
   have BG:=ai (B.below NI.o hb2 (B.isLt NI.o))
   have CS:=B.isLt BG.o
   have by5:=B.cell BG.o 5 (by rw[HX.o];rfl)
   clear hb2
   rw[<- HS.o,<- HP.o]
   simp only[qR]
   go_wp2
   go_ret
   exact⟨rfl,bY.o.alloc bY.o.size _⟩
 · have hp:=hpb rfl
   clear hpb
   cases sy
   · go_enter Tryz.func183,Tryz.ntmps183
     go_wp2_with fail
     rw[<- HX.o]
     refine(pq gs ag cg en _ (M.eB.below (lie:=M.xQ) (fun hb hlt h=>M.wV hb hlt h) H2.o bI.o) F4.o HG.o Xu.o).mono ?_
     rintro e w2 ⟨rfl,hb2⟩
     have bY:=ai (bI.o.trans (hb2.mono bI.o.size))
     have BG:=ai (B.below NI.o hb2 (B.isLt NI.o))
     have CS:=B.isLt BG.o
     have by5:=B.cell BG.o 5 (by rw[HX.o];rfl)
     clear hb2
     rw[<- HS.o,<- HP.o]
     simp only[qR]
     go_wp2
     go_ret
     exact⟨rfl,bY.o.alloc bY.o.size _⟩
   · by_cases d:en%8=0
     · rw[decide_eq_true d]
       go_enter Tryz.func183,Tryz.ntmps183
       go_wp2_with fail
       rw[<- HX.o]
       refine(pq gs ag cg en _ (M.eB.below (lie:=M.xQ) (fun hb hlt h=>M.wV hb hlt h) H2.o bI.o) F4.o HG.o Xu.o).mono ?_
       rintro e w2 ⟨rfl,hb2⟩
       have bY:=ai (bI.o.trans (hb2.mono bI.o.size))
       have BG:=ai (B.below NI.o hb2 (B.isLt NI.o))
       have CS:=B.isLt BG.o
       have by5:=B.cell BG.o 5 (by rw[HX.o];rfl)
       clear hb2
       rw[<- HS.o,<- HP.o]
       simp only[qR]
       go_wp2
       go_ret
       exact⟨rfl,bY.o.alloc bY.o.size _⟩
     · rw[decide_eq_false d]
       go_enter Tryz.func183,Tryz.ntmps183
       go_wp2_with fail
       rw[<- HX.o]
       refine(pq gs ag cg en _ (M.eB.below (lie:=M.xQ) (fun hb hlt h=>M.wV hb hlt h) H2.o bI.o) F4.o HG.o Xu.o).mono ?_
       rintro e w2 ⟨rfl,hb2⟩
       have bY:=ai (bI.o.trans (hb2.mono bI.o.size))
       have BG:=ai (B.below NI.o hb2 (B.isLt NI.o))
       have CS:=B.isLt BG.o
       have by5:=B.cell BG.o 5 (by rw[HX.o];rfl)
       clear hb2
       rw[<- HS.o,<- HP.o]
       simp only[qR]
       go_wp2
       go_ret
       exact⟨bN (by simpa using d),bY.o.alloc bY.o.size _⟩
end W
namespace W
open Go.RowKit Go.WideMaps Go.Maps
theorem law:Keyed Tryz.prog 9:=string_keyed Tryz.underlying9
theorem Ks (w:World):(zeroValue 3).run Tryz.prog w=.ok (I 0) w:=by kernel_rfl
def yq (s:ByteArray):Lit:=.string s.data.toList
theorem wX {s t:ByteArray} (h:yq s=yq t):s=t:=by
 unfold yq at h
 injection h with h
 cases s;cases t
 congr 1
 exact Array.toList_inj.1 h
theorem GL {s:ByteArray} (h:M.br s.size):keyOf Tryz.prog 9 (.string s)=some (yq s):=keyOf_string_mk Tryz.underlying9 (by unfold M.br at h;unfold maxLen;omega)
instance UW:LawfulBEq ByteArray where
 eq_of_beq {a b} h:=by
  cases a;cases b
  congr 1
  exact eq_of_beq (α:=Array UInt8) h
 rfl {a}:=by
  cases a
  exact beq_self_eq_true (α:=Array UInt8) _
def YG (l:List ByteArray) (k:Nat) (D:DataW Unit):Prop:=∀s:ByteArray,D.atKey (yq s) (.lit (.int .i64 0))=.lit (.int .i64 (if (l.take k).contains s then 1 else 0))
theorem MT (l:List ByteArray):YG l 0 (.map []):=fun s=>by simp[DataW.atKey]
theorem qj (l:List ByteArray) (k:Nat) (hk:k<l.length) (s:ByteArray):(l.take (k+1)).contains s=((l.take k).contains s || s==M.ki l k):=by
 rw[List.take_add_one,List.getElem?_eq_getElem hk]
 have e:M.ki l k=l[k]:=by unfold M.ki;rw[List.getD_eq_getElem?_getD,List.getElem?_eq_getElem hk];rfl
 rw[e]
 have g:∀(m:List ByteArray) (a:ByteArray),(m++[a]).contains s=(m.contains s || s==a):=fun m a=>by
  rw[Bool.eq_iff_iff]
  simp
 exact g _ _
theorem MU {l:List ByteArray} {k:Nat} {D:DataW Unit} (hk:k<l.length) (hD:IsMap D) (h:YG l k D):YG l (k+1) (D.put (yq (M.ki l k)) (.lit (.int .i64 1))):=fun s=>by
 rw[qj l k hk s]
 by_cases e:s=M.ki l k
 · subst e
   rw[atKey_put_same hD (by trivial)]
   simp
 · rw[atKey_put_other (fun g=>e (wX g)),h s]
   have:(s==M.ki l k)=false:=by simpa using e
   rw[this,Bool.or_false]
theorem Iy (l:List ByteArray) (k n:Nat) (h:M.iU l k=false) (hk:k<=n):M.iU l n=false:=by
 induction n with
 | zero => obtain rfl:k=0 := by omega
           exact h
 | succ n ih =>
  rcases Nat.lt_or_ge n k with g | g
  · obtain rfl:k=n+1:=by omega
    exact h
  · simp only[M.iU]
    rw[ih g];rfl
theorem Hu (l:List ByteArray) (ao:Option Addr) (cap:Nat) (w:World) (h:M.eB M.Ni w ao l) (hn:M.br l.length) (hf:∀k,k<l.length->M.br (M.ki l k).size) :
  Calls Tryz.prog 179 #[.slice ao l.length cap] w fun e w'=>e=.returned (.bool (!M.oQ l))/\Below w.heap.size w w':=by
 unfold M.br at hn
 have H:=ai h
 have F:=ai hf
 clear h hf
 have hmm:=@run_makeMap Tryz.prog
 go_enter Tryz.func179,Tryz.ntmps179
 go_wp2
 go_loopw [9] (fun i wr=>∃(k:Nat) (D:DataW Unit),k<=l.length/\i=I k/\wr.ownsMap Tryz.prog 9 (plainElem Tryz.prog 3) w.heap.size k D/\YG l k D/\M.iU l k=true/\Below w.heap.size w wr) (fun i _=>l.length-(intOf i).toNat)
 case atStart=>exact⟨0,.map [],Nat.zero_le _,rfl,World.ownsMap_made _ _ _ _,MT l,rfl,(Below.refl _ _).alloc (Nat.le_refl _) _⟩
 case round =>
  obtain⟨k,D,hk,rfl,hown,VH,CY,hb⟩:=hrel
  have HO:=ai CY
  have HC:=ai VH
  have HB:=ai hb
  have HW:=ai hown
  clear CY VH
  by_cases hlt:k<l.length
  · obtain⟨b,off,hao,hbl,hl⟩:=H.o (by omega)
    subst hao
    have zj:(k:Int)<(l.length:Int):=by omega
    have c0:=M.UO hb hbl hl k hlt
    have fs:=F.o k hlt
    have Xg:=ai (MU hlt hown.isMap HC.o)
    have HN:Hid (M.iU l (k+1)=!(l.take k).contains (M.ki l k)):=by show(M.iU l k&&_)=_;rw[HO.o];rfl
    have VG:=HC.o (M.ki l k)
    obtain⟨s,hs⟩:=ex (M.ki l k)
    rw[<- hs] at c0 fs Xg HN VG
    clear hs hb hl
    have hkey:=GL fs
    obtain⟨c,hrun,hat,_⟩:=hown.lookup_int law Tryz.underlying272 Tryz.underlying3 (Ks _) hkey
    rw[VG] at hat
    have fQ:k<maxLen:=by unfold maxLen;omega
    cases hc:(l.take k).contains s
    · rw[hc] at hat HN
      have e:c=0:=by injection hat with hat;injection hat with _ hat;exact hat.symm
      subst e
      clear hat VG
      go_wp2_with (first | (at_mapUpdate;refine wpList_mapUpdate_own _ rfl _ _ _ 272 rfl 9 3 law Tryz.underlying272 _ w.heap.size k _ rfl HW.o fQ _ _ _ rfl rfl hkey _ [] (plainElem_int Tryz.underlying3 (by decide)) ?_) | go_in)
      intro w1 hown1 hgrow1
      have R2:=ai (HB.o.grown hgrow1 HB.o.size (fun j hj=>by cases hj;exact Nat.le_refl _))
      obtain⟨c,Ve,qL,_⟩:=hown1.lookup_int law Tryz.underlying272 Tryz.underlying3 (Ks _) hkey
      rw[atKey_put_same HW.o.isMap (by trivial)] at qL
      have e:c=1:=by injection qL with qL;injection qL with _ qL;exact qL.symm
      subst e
      have pj:=ai hown1
      clear qL hown hrun hgrow1 hown1
      go_wp2
      go_roundw
      case rel=>exact⟨k+1,_,by omega,by go_num,pj.o,Xg.o,HN.o,R2.o⟩
      case measure=>simp[intOf];omega
    · rw[hc] at hat HN
      have e:c=1:=by injection hat with hat;injection hat with _ hat;exact hat.symm
      subst e
      clear hat VG
      have HR:=ai (Iy l (k+1) l.length HN.o hlt)
      go_wp2_with (first | (at_mapUpdate;refine wpList_mapUpdate_own _ rfl _ _ _ 272 rfl 9 3 law Tryz.underlying272 _ w.heap.size k _ rfl HW.o fQ _ _ _ rfl rfl hkey _ [] (plainElem_int Tryz.underlying3 (by decide)) ?_) | go_in)
      intro w1 hown1 hgrow1
      have R2:=ai (HB.o.grown hgrow1 HB.o.size (fun j hj=>by cases hj;exact Nat.le_refl _))
      obtain⟨c,Ve,qL,_⟩:=hown1.lookup_int law Tryz.underlying272 Tryz.underlying3 (Ks _) hkey
      rw[atKey_put_same HW.o.isMap (by trivial)] at qL
      have e:c=2:=by injection qL with qL;injection qL with _ qL;exact qL.symm
      subst e
      clear qL hown hrun hgrow1 hown1
      go_wp2
      go_ret
      exact⟨bN (by unfold M.oQ;rw[HR.o];rfl),R2.o⟩
  · obtain rfl:k=l.length:=by omega
    clear hb
    go_wp2
    go_ret
    exact⟨bN (by unfold M.oQ;rw[HO.o];rfl),HB.o⟩
end W
namespace LM
open Go.RowKit Go.WideMaps Go.Maps
structure Li where
 i:M.Im
 a:M.At
def YZ:Li:=⟨⟨⟨#[]⟩,[],[],[],[],0⟩,⟨none,0,none,0,none,0,none,0⟩⟩
def b9 (l:List Li) (k:Nat):Li:=l.getD k YZ
def CR (x:Li):Value:=.agg (M.eO x.a x.i)
def Nk (w:World) (b off:Nat) (l:List Li):Prop:=∀k,k<l.length ->
 (w.cell? (Ad b (off+k*6))=some (.string (b9 l k).i.name)/\w.cell? (Ad b (off+k*6+1))=some (.slice (b9 l k).a.an (b9 l k).i.needs.length (b9 l k).a.cn) /\
  w.cell? (Ad b (off+k*6+2))=some (.slice (b9 l k).a.ag (b9 l k).i.cU.length (b9 l k).a.cg)/\w.cell? (Ad b (off+k*6+3))=some (.slice (b9 l k).a.ay (b9 l k).i.syms.length (b9 l k).a.cy) /\
  w.cell? (Ad b (off+k*6+4))=some (.slice (b9 l k).a.ar (b9 l k).i.fu.length (b9 l k).a.cr)/\w.cell? (Ad b (off+k*6+5))=some (I (b9 l k).i.entry))/\M.mK w (b9 l k).a (b9 l k).i
theorem YY {w w':World} {b off:Nat} {l:List Li} (hb:Below w.heap.size w w') (hlt:b<w.heap.size) (h:Nk w b off l):Nk w' b off l:=fun k hk=>by
 obtain⟨⟨c0,c1,c2,c3,c4,c5⟩,hi⟩:=h k hk
 exact⟨⟨(M.aX hb hlt).trans c0,(M.aX hb hlt).trans c1,(M.aX hb hlt).trans c2,(M.aX hb hlt).trans c3,(M.aX hb hlt).trans c4,(M.aX hb hlt).trans c5⟩,hi.below hb⟩
def FT (w:World) (ao:Option Addr) (l:List Li):Prop:=M.eB Nk w ao l
theorem FT.below {w w':World} {ao:Option Addr} {l:List Li} (h:FT w ao l) (hb:Below w.heap.size w w'):FT w' ao l:=M.eB.below (lie:=Nk) (fun hb hlt h=>YY hb hlt h) h hb
def Xq (l:List Li):Prop:=M.br l.length/\∀k,k<l.length->M.Fit (b9 l k).i
def kM (l:List Li):Nat->Int
 | 0=>0
 | k+1=>if kM l k=0 then M.jB (b9 l k).i else kM l k
def fD (l:List Li):List ByteArray:=l.map (·.i.name)
def lV (l:List Li):Int:=if kM l l.length=0 then (if M.oQ (fD l) then 0 else 5) else kM l l.length
theorem uH (l:List Li) (k:Nat) (h:kM l k≠0):∀n,k<=n->kM l n=kM l k
 | 0, hn => by obtain rfl:k=0 := by omega
               rfl
 | n+1,hn=>by
  by_cases e:k=n+1
  · subst e;rfl
  · have ih:=uH l k h n (by omega)
    simp only[kM]
    rw[ih,if_neg h]
theorem xw (l:List Li):∀n,kM l n=0->∀k,k<n->M.jB (b9 l k).i=0
 | 0,_,k,hk=>by omega
 | n+1,h,k,hk=>by
  simp only[kM] at h
  by_cases e0:kM l n=0
  · rw[if_pos e0] at h
    by_cases e:k=n
    · subst e;exact h
    · exact xw l n e0 k (by omega)
  · rw[if_neg e0] at h
    exact(e0 h).elim
theorem za (l:List Li) (k:Nat) (hk:k<l.length):M.ki (fD l) k=(b9 l k).i.name:=by
 unfold M.ki fD b9
 rw[List.getD_eq_getElem?_getD,List.getD_eq_getElem?_getD,List.getElem?_map,List.getElem?_eq_getElem hk]
 rfl
theorem iE (l:List Li):(fD l).length=l.length:=by simp[fD]
def Rv (v:Value):Option (DataW Value×List MemPlace):=some (.held v,[])
def YK:Value:=.agg #[.string ⟨#[]⟩,Nl,Nl,Nl,Nl,I 0]
structure Nm (l:List Li) (k:Nat) (D:DataW Value):Prop where
 has:∀s,Maps.has D (W.yq s)=((fD l).take k).contains s
 at_:M.iU (fD l) k=true->∀j,j<k->D.atKey (W.yq (b9 l j).i.name) (.held YK)=.held (CR (b9 l j))
 le:Maps.size D<=k
 all:Maps.size D=k↔M.iU (fD l) k=true
theorem OO (l:List Li):Nm l 0 (.map []):=⟨fun s=>by simp[Maps.has],fun _ j hj=>by omega,by simp[Maps.size],by simp[Maps.size,M.iU]⟩
theorem OV (l:List Li) (k j:Nat) (hj:j<k) (hk:k<=l.length):((fD l).take k).contains (b9 l j).i.name=true:=by
 have h1:j<((fD l).take k).length:=by rw[List.length_take,iE];omega
 have h2:((fD l).take k)[j]=(b9 l j).i.name:=by
  rw[List.getElem_take]
  have h3:j<(fD l).length:=by rw[iE];omega
  have:=za l j (by omega)
  unfold M.ki at this
  rw[List.getD_eq_getElem?_getD,List.getElem?_eq_getElem h3] at this
  exact this
 rw[<- h2]
 exact List.contains_iff_mem.2 (List.getElem_mem h1)
theorem OP {l:List Li} {k:Nat} {D:DataW Value} (hk:k<l.length) (hD:IsMap D) (hT:Maps.Tidy D) (h:Nm l k D):Nm l (k+1) (D.put (W.yq (b9 l k).i.name) (.held (CR (b9 l k)))):=by
 have hc:=fun s=>W.qj (fD l) k (by rw[iE];exact hk) s
 have hat:=za l k hk
 have hon:M.iU (fD l) (k+1)=(M.iU (fD l) k&&!((fD l).take k).contains (b9 l k).i.name):=by simp only[M.iU];rw[hat]
 have hsz:=Maps.size_put (k:=W.yq (b9 l k).i.name) hT (.held (CR (b9 l k)))
 rw[h.has] at hsz
 refine⟨fun s=>?_,fun ho j hj=>?_,?_,?_⟩
 · rw[hc s,hat]
   by_cases e:s=(b9 l k).i.name
   · subst e
     rw[Maps.has_put_same hD (by trivial)]
     simp
   · rw[Maps.has_put_other (fun g=>e (W.wX g)),h.has]
     have:(s==(b9 l k).i.name)=false:=by simpa using e
     rw[this,Bool.or_false]
 · rw[hon] at ho
   simp only[Bool.and_eq_true,Bool.not_eq_true'] at ho
   by_cases e:j=k
   · subst e
     exact atKey_put_same hD (by trivial) _ _
   · have hin:=OV l k j (by omega) (by omega)
     rw[atKey_put_other (fun g=>by
      have:=W.wX g
      rw[this] at hin
      rw[ho.2] at hin
      cases hin)]
     exact h.at_ ho.1 j (by omega)
 · have:=h.le
   split at hsz <;> omega
 · rw[hon]
   have h1:=h.le
   have h2:=h.all
   cases hcn:((fD l).take k).contains (b9 l k).i.name
   · rw[hcn] at hsz
     simp only[Bool.false_eq_true,if_false] at hsz
     rw[hsz]
     simp only[Bool.not_false,Bool.and_true]
     rw[<- h2]
     omega
   · rw[hcn] at hsz
     simp only[if_true] at hsz
     rw[hsz]
     simp only[Bool.not_true,Bool.and_false,Bool.false_eq_true,iff_false]
     omega
end LM
namespace W
open Go.RowKit
end W
namespace LW
open Go.RowKit Go.WideMaps Go.Maps
open W (ai)
def aat (l:List LM.Li) (w:World) (e:Ending) (w':World):Prop:=Below w.heap.size w w' /\
 if LM.lV l=0 then ∃m D,e=.returned (.tuple #[.map (some m),I 0])/\w'.ownsMap Tryz.prog 9 LM.Rv m l.length D/\LM.Nm l l.length D
 else e=.returned (.tuple #[.map none,I (LM.lV l)])
end LW
namespace LW
open Go.RowKit
open W (ai)
end LW
namespace LM
open Go.RowKit
def Y6 (all:List Li) (s:ByteArray):Option Nat:=all.findIdx? (fun x=>decide (x.i.name=s))
def Wp (ix:List Nat) (j:Nat):List Nat:=if ix.contains j then ix else ix++[j]
def QS (all:List Li) (ix:List Nat) (needs:List ByteArray):Nat->Option (List Nat)
 | 0=>some ix
 | k+1=>match QS all ix needs k with
  | none=>none
  | some Y7=>match Y6 all (M.ki needs k) with
   | none=>none
   | some j=>some (Wp Y7 j)
def Gy (all:List Li) (ix:List Nat) (n:Nat):List ByteArray:=(b9 all (ix.getD n 0)).i.needs
def Uf (all:List Li):Nat->Nat->List Nat->Option (List Nat)
 | 0,_,ix=>some ix
 | f+1,n,ix=>if n<ix.length then (match QS all ix (Gy all ix n) (Gy all ix n).length with
  | none=>none
  | some Y7=>Uf all f (n+1) Y7) else some ix
structure Qm (all:List Li) (ix:List Nat):Prop where
 pos:0<ix.length
 nodup:ix.Nodup
 lt:∀j∈ix,j<all.length
theorem sW:∀(L:Nat) (ix:List Nat),ix.Nodup->(∀j∈ix,j<L)->ix.length<=L
 | 0,ix,_,h=>by
  cases ix with
  | nil=>exact Nat.le_refl _
  | cons x r=>exact absurd (h x List.mem_cons_self) (by omega)
 | L+1,ix,hn,h=>by
  by_cases e:L∈ix
  · have h1:=sW L (ix.erase L) (hn.erase L) (fun j hj=>by
     have h2:=(List.Nodup.mem_erase_iff hn).1 hj
     have:=h j h2.2
     omega)
    rw[List.length_erase_of_mem e] at h1
    omega
  · have:=sW L ix hn (fun j hj=>by
     have h1:=h j hj
     have h2:j≠L:=fun g=>e (g ▸ hj)
     omega)
    omega
theorem Qm.le {all:List Li} {ix:List Nat} (h:Qm all ix):ix.length<=all.length:=sW _ _ h.nodup h.lt
def cu (all:List Li):Int->List Nat->List Ob
 | _,[]=>[]
 | b,j::r=>⟨(b9 all j).i,(b9 all j).a,b⟩::cu all (yz ⟨(b9 all j).i,(b9 all j).a,b⟩) r
def fy (all:List Li):Int->List Nat->Int
 | b,[]=>b
 | b,j::r=>fy all (yz ⟨(b9 all j).i,(b9 all j).a,b⟩) r
theorem dX (all:List Li):∀(ix:List Nat) (b:Int),(cu all b ix).length=ix.length
 | [],_=>rfl
 | j::r,b=>by simp only[cu,List.length_cons,dX all r]
theorem rJ (all:List Li) (j:Nat):∀(ix:List Nat) (b:Int),cu all b (ix++[j])=cu all b ix++[⟨(b9 all j).i,(b9 all j).a,fy all b ix⟩]
 | [],b=>rfl
 | k::r,b=>by simp only[List.cons_append,cu,fy,rJ all j r]
theorem r9 (all:List Li) (j:Nat):∀(ix:List Nat) (b:Int),fy all b (ix++[j])=yz ⟨(b9 all j).i,(b9 all j).a,fy all b ix⟩
 | [],b=>rfl
 | k::r,b=>by simp only[List.cons_append,fy,r9 all j r]
theorem lB (all:List Li):∀(ix:List Nat) (b:Int) (k:Nat),k<ix.length->(dK (cu all b ix) k).i=(b9 all (ix.getD k 0)).i/\(dK (cu all b ix) k).a=(b9 all (ix.getD k 0)).a/\(dK (cu all b ix) k).base=fy all b (ix.take k)
 | [],_,k,hk=>by simp at hk
 | j::r,b,0,_=>⟨rfl,rfl,rfl⟩
 | j::r,b,k+1,hk=>by
  have:=lB all r (yz ⟨(b9 all j).i,(b9 all j).a,b⟩) k (by simpa using hk)
  simpa [dK,cu,fy] using this
theorem Au (all:List Li) (ix:List Nat) (b:Int) (h:0<ix.length):yz (dK (cu all b ix) (ix.length-1))=fy all b ix:=by
 obtain⟨r,j,rfl⟩:∃r j,ix=r++[j]:=⟨ix.dropLast,ix.getLast (by intro e;subst e;simp at h),(List.dropLast_concat_getLast _).symm⟩
 rw[rJ,r9]
 have e:(r++[j]).length-1=(cu all b r).length:=by rw[dX];simp
 rw[e]
 unfold dK
 rw[List.getD_eq_getElem?_getD,List.getElem?_append_right (Nat.le_refl _)]
 simp
theorem dB (ix:List Nat) (k:Nat) (h:k<ix.length):ix.getD k 0∈ix:=by
 rw[List.getD_eq_getElem?_getD,List.getElem?_eq_getElem h]
 exact List.getElem_mem h
theorem o6 (all:List Li) (hc:∀j,j<all.length->M.jB (b9 all j).i=0):∀(ix:List Nat) (b:Int),(∀j∈ix,j<all.length)->b<=fy all b ix/\fy all b ix<=b+255*(ix.length:Int)
 | [],b,_=>by simp[fy]
 | j::r,b,h=>by
  have hl:=ug (hc j (h j List.mem_cons_self))
  have ih:=o6 all hc r (yz ⟨(b9 all j).i,(b9 all j).a,b⟩) (fun k hk=>h k (List.mem_cons_of_mem _ hk))
  simp only[fy]
  have e:yz ⟨(b9 all j).i,(b9 all j).a,b⟩=b+(mo (b9 all j).i).page+(mo (b9 all j).i).aB:=rfl
  rw[e] at ih ⊢
  simp only[List.length_cons]
  omega
end LM
namespace LW
open Go.RowKit Go.WideMaps Go.Maps
open W (ai)
theorem flat_get {α:Type} (f:α->List Value) (c:Nat) (hc:∀x,(f x).length=c) (d:α):∀(l:List α) (i j:Nat),i<l.length->j<c->(l.flatMap f)[i*c+j]?=(f (l.getD i d))[j]?
 | a::r,0,j,_,hj=>by
  rw[List.flatMap_cons,Nat.zero_mul,Nat.zero_add,List.getElem?_append_left (by rw[hc];exact hj)]
  rfl
 | a::r,i+1,j,hi,hj=>by
  rw[List.flatMap_cons,List.getElem?_append_right (by rw[hc,Nat.succ_mul];omega),hc,show(i+1)*c+j-c=i*c+j by rw[Nat.succ_mul];omega]
  exact flat_get f c hc d r i j (by simpa using hi) hj
def Qk (all:List LM.Li) (R:Option (List Nat)) (w:World) (e:Ending) (w':World):Prop:=Below w.heap.size w w'/\match R with
 | none=>e=.returned (.tuple #[Nl,.bool false])
 | some ix=>LM.Qm all ix/\∃ao cap,e=.returned (.tuple #[.slice ao ix.length cap,.bool true])/\LM.Nr w' ao (LM.cu all 1 ix)
structure Gi (all:List LM.Li) (m:Nat) (D:DataW Value) (w:World):Prop where
 pos:0<all.length
 few:all.length<=7
 Wm:∀j,j<all.length->M.jB (LM.b9 all j).i=0
 fit:∀j,j<all.length->M.Fit (LM.b9 all j).i
 once:M.oQ (LM.fD all)=true
 im:∀j,j<all.length->M.mK w (LM.b9 all j).a (LM.b9 all j).i
 map:w.ownsMap Tryz.prog 9 LM.Rv m all.length D
 nm:LM.Nm all all.length D
theorem sU {w w':World} {base:Nat} {e:TypeId} {size:Nat} {v:Value} {n:Nat} {xs:List Value} (h:w.ownsRow base e size v n xs) (hb:Below w.heap.size w w'):w'.ownsRow base e size v n xs:=by
 refine⟨h.1,?_⟩
 rcases h.2 with h2 | ⟨g,cap,cur,hv,hbg,hg,rest⟩
 · exact .inl h2
 · exact .inr ⟨g,cap,cur,hv,hbg,(hb.block g (B.isLt hg)).trans hg,rest⟩
end LW
namespace LM
open Go.RowKit
def kP:ByteArray:=⟨(Lib.repeatL [0] 16).toArray⟩
theorem ra:kP.size=16:=rfl
def rG (s:M.Sg) (n:Nat):ByteArray:=CL.over kP 0 (s.data.extract (min (n*16) s.data.size) (min (min (n*16) s.data.size+16) s.data.size))
theorem extract_size (s:ByteArray) (a b:Nat) (h1:a<=b) (h2:b<=s.size):(s.extract a b).size=b-a:=by
 rw[ByteArray.size_extract]
 omega
structure Pt where
 pos:Int
 bytes:ByteArray
def YR:Pt:=⟨0,⟨#[]⟩⟩
def yl (l:List Pt) (k:Nat):Pt:=l.getD k YR
def Nj (w:World) (b off:Nat) (l:List Pt):Prop:=∀i,i<l.length->w.cell? (Ad b (off+i*2))=some (I (yl l i).pos)/\w.cell? (Ad b (off+i*2+1))=some (.string (yl l i).bytes)
theorem YW {w w':World} {b off:Nat} {l:List Pt} (hb:Below w.heap.size w w') (hlt:b<w.heap.size) (h:Nj w b off l):Nj w' b off l:=fun i hi=>by
 obtain⟨c0,c1⟩:=h i hi
 exact⟨(M.aX hb hlt).trans c0,(M.aX hb hlt).trans c1⟩
def Nq (w:World) (ao:Option Addr) (l:List Pt):Prop:=M.eB Nj w ao l
theorem Nq.below {w w':World} {ao:Option Addr} {l:List Pt} (h:Nq w ao l) (hb:Below w.heap.size w w'):Nq w' ao l:=M.eB.below (lie:=Nj) (fun hb hlt h=>YW hb hlt h) h hb
def Hb (p:Pt):List Value:=[I p.pos,.string p.bytes]
def zL (f:Fx):List Value:=[I f.off,.string f.bytes]
def T7 (p:Pt):Prop:=0<=p.pos/\p.pos<=1000000/\p.bytes.size=8
def Fu (page:Int) (p:Pt):List Fx:=if max (page*16) p.pos<min (page*16+16) (p.pos+8) then [⟨max (page*16) p.pos-page*16,p.bytes.extract (max (page*16) p.pos-p.pos).toNat (max (page*16) p.pos-p.pos+(min (page*16+16) (p.pos+8)-max (page*16) p.pos)).toNat⟩] else []
def gA (page:Int) (ps:List Pt):List Fx:=ps.flatMap (Fu page)
theorem H6 {α:Type} (l:List α) (d:α) (k:Nat) (h:k<l.length):l.take (k+1)=l.take k++[l.getD k d]:=by
 rw[List.take_succ_eq_append_getElem h,List.getD_eq_getElem?_getD,List.getElem?_eq_getElem h]
 rfl
theorem PN (page:Int) (p:Pt):(Fu page p).length<=1:=by
 unfold Fu
 split <;> simp
theorem zC (page:Int):∀ps:List Pt,(gA page ps).length<=ps.length
 | []=>by simp[gA]
 | p::r=>by
  have h1:=zC page r
  have h2:=PN page p
  unfold gA at h1 ⊢
  rw[List.flatMap_cons,List.length_append,List.length_cons]
  omega
theorem Dc (page:Int) (l:List Pt) (p:Pt):gA page (l++[p])=gA page l++Fu page p:=by
 unfold gA
 rw[List.flatMap_append]
 simp
end LM
end Go.Proofs.YtpgifpeohlllfaaGreat
