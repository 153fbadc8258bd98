import Derived.Test.YtkdigjpejnebkaaGreatGU00
import Derived.Test.YtkdigjpejnebkaaGreatGU13
import Derived.Maps.Own
import Derived.Maps.OwnSet
import Derived.Maps.Views
import Derived.Deep.AppendLies
import Derived.Deep.RegionLaw
import Derived.Lib.Repeat
set_option maxHeartbeats 20000000
set_option linter.unusedVariables false
set_option maxRecDepth 100000
set_option linter.unusedSimpArgs false
namespace Go.Proofs.YtkdigjpejnebkaaGreat
namespace W
open Go.RowKit
theorem vD (i:M.Im) (a:M.At) (w:World) (hf:M.Fit i):Calls Tryz.prog 131 #[.agg (M.eZ a i)] w fun e w'=>e=.returned (.bool (M.qg i))/\Below w.heap.size w w':=by
 obtain⟨an,cn,ag,cg,ay,cy,ar,cr⟩:=a
 obtain⟨nm,ns,gs,ys,rs,en⟩:=i
 obtain⟨f1,f2,f3,f4,f5,f6,f7,f8,f9,f10⟩:=hf
 simp only at f2 f4 f6 f8
 unfold M.bD at f2 f4 f6 f8
 simp only[M.eZ,M.qg]
 have cM:∀o,Hid (Below w.heap.size w (w.alloc o)):=fun o=>(Below.refl w.heap.size w).alloc (Nat.le_refl _) o
 obtain⟨r,hr⟩:=ex (decide (1<=gs.length/\gs.length<=6/\ns.length<=4/\ys.length<=12/\rs.length<=16))
 rw[<- hr]
 have HR:=ai hr
 clear hr f1 f3 f5 f7 f9 f10
 obtain⟨ln,EB⟩:∃n,n=ns.length:=⟨_,rfl⟩
 obtain⟨lg,O7⟩:∃n,n=gs.length:=⟨_,rfl⟩
 obtain⟨ly,hly⟩:∃n,n=ys.length:=⟨_,rfl⟩
 obtain⟨lr,hlr⟩:∃n,n=rs.length:=⟨_,rfl⟩
 rw[<- EB,<- O7,<- hly,<- hlr] at HR
 rw[<- EB,<- O7,<- hly,<- hlr]
 rw[<- EB] at f2
 rw[<- O7] at f4
 rw[<- hly] at f6
 rw[<- hlr] at f8
 clear EB O7 hly hlr
 by_cases d1:1<=(lg:Int)
 · by_cases d2:(lg:Int)<=6
   · by_cases d3:(ln:Int)<=4
     · by_cases d4:(ly:Int)<=12
       · by_cases d5:(lr:Int)<=16
         · have e:r=true:=by rw[HR.o];exact decide_eq_true (by omega)
           subst e
           have q1:1<=lg:=by omega
           have q2:lg<=6:=by omega
           have q3:ln<=4:=by omega
           have q4:ly<=12:=by omega
           have q5:lr<=16:=by omega
           go_enter Tryz.func131,Tryz.ntmps131
           go_wp2
           go_ret
           exact⟨rfl,(cM _).out⟩
         · have e:r=false:=by rw[HR.o];exact decide_eq_false (by omega)
           subst e
           have q1:1<=lg:=by omega
           have q2:lg<=6:=by omega
           have q3:ln<=4:=by omega
           have q4:ly<=12:=by omega
           have q5:decide ((lr:Int)<=16)=false:=decide_eq_false d5
           have q6:decide (lr<=16)=false:=decide_eq_false (by omega)
           have q7:¬lr<=16:=by omega
           go_enter Tryz.func131,Tryz.ntmps131
           go_wp2
           go_ret
           exact⟨rfl,(cM _).out⟩
       · have e:r=false:=by rw[HR.o];exact decide_eq_false (by omega)
         subst e
         have q1:1<=lg:=by omega
         have q2:lg<=6:=by omega
         have q3:ln<=4:=by omega
         have q4:decide ((ly:Int)<=12)=false:=decide_eq_false d4
         have q6:decide (ly<=12)=false:=decide_eq_false (by omega)
         have q7:¬ly<=12:=by omega
         go_enter Tryz.func131,Tryz.ntmps131
         go_wp2
         go_ret
         exact⟨rfl,(cM _).out⟩
     · have e:r=false:=by rw[HR.o];exact decide_eq_false (by omega)
       subst e
       have q1:1<=lg:=by omega
       have q2:lg<=6:=by omega
       have q4:decide ((ln:Int)<=4)=false:=decide_eq_false d3
       have q6:decide (ln<=4)=false:=decide_eq_false (by omega)
       have q7:¬ln<=4:=by omega
       go_enter Tryz.func131,Tryz.ntmps131
       go_wp2
       go_ret
       exact⟨rfl,(cM _).out⟩
   · have e:r=false:=by rw[HR.o];exact decide_eq_false (by omega)
     subst e
     have q1:1<=lg:=by omega
     have q4:decide ((lg:Int)<=6)=false:=decide_eq_false d2
     have q6:decide (lg<=6)=false:=decide_eq_false (by omega)
     have q7:¬lg<=6:=by omega
     go_enter Tryz.func131,Tryz.ntmps131
     go_wp2
     go_ret
     exact⟨rfl,(cM _).out⟩
 · have e:r=false:=by rw[HR.o];exact decide_eq_false (by omega)
   subst e
   have q4:decide ((1:Int)<=(lg:Int))=false:=decide_eq_false d1
   obtain rfl:lg=0:=by omega
   go_enter Tryz.func131,Tryz.ntmps131
   go_wp2
   go_ret
   exact⟨rfl,(cM _).out⟩
theorem vB (l:List M.Sg) (ao:Option Addr) (cap:Nat) (w:World) (h:M.dU M.yr w ao l) (hn:M.bD l.length) (hf:∀k,k<l.length->M.Z1 (M.dB l k)) :
  Calls Tryz.prog 132 #[.slice ao l.length cap] w fun e w'=>e=.returned (.bool (l.all M.fE))/\Below w.heap.size w w':=by
 unfold M.bD at hn
 have H:=ai h
 have F:=ai hf
 clear h hf
 go_enter Tryz.func132,Tryz.ntmps132
 go_wp2
 go_loopw [7] (fun i wr=>∃k:Nat,k<=l.length/\i=I k/\(∀j,j<k->M.fE (M.dB l j)=true)/\Below w.heap.size w wr) (fun i _=>l.length-(intOf i).toNat)
 case atStart=>exact⟨0,by omega,rfl,fun j h=>by omega,Below.refl _ _⟩
 case round =>
  obtain⟨k,hk,rfl,hall,hb⟩:=hrel
  have HA:=ai hall
  have HB:=ai hb
  clear hall
  by_cases hlt:k<l.length
  · obtain⟨b,off,hao,hbl,hl⟩:=H.o (by omega)
    subst hao
    obtain⟨c0,c1,c2,c3,c4⟩:=M.xp hb hbl hl k hlt
    obtain⟨g1,g2,g3⟩:=F.o k hlt
    obtain⟨s,hs⟩:=ex (M.dB l k)
    rw[<- hs] at c0 c1 c2 c3 c4 g1 g2 g3
    have HS:=ai hs
    clear hs hb hl
    obtain⟨p,n,d,x,y⟩:=s
    simp only at c0 c1 c2 c3 c4 g1 g2 g3
    unfold M.dF at g1 g2
    unfold M.bD at g3
    have V8:d.size<=maxLen:=by unfold maxLen;omega
    have hli:(k:Int)<(l.length:Int):=by omega
    have hbad:Hid (¬(0<=p/\1<=n/\p+n<=255/\(d.size:Int)<=n*16)->l.all M.fE=false):=fun hx =>
     M.all_false M.fE M.O6 l k hlt (by show M.fE (M.dB l k)=false;rw[<- HS.o];exact decide_eq_false hx)
    by_cases d1:0<=p
    · have d1':¬p<0:=by omega
      by_cases d2:1<=n
      · have d2':¬n<1:=by omega
        by_cases d3:p+n<=255
        · have Wk:¬255-p<n:=by omega
          by_cases d4:(d.size:Int)<=n*16
          · have d4':¬n*16<(d.size:Int):=by omega
            have kL:Hid (M.fE ⟨p,n,d,x,y⟩=true):=decide_eq_true ⟨d1,d2,d3,d4⟩
            go_wp2
            go_roundw
            case rel=>exact⟨k+1,by omega,by go_num,fun j h=>if e:j=k then by rw[e,<- HS.o];exact kL.out else HA.o j (by omega),HB.o.alloc HB.o.size _⟩
            case measure=>simp[intOf];omega
          · have d4':n*16<(d.size:Int):=by omega
            have HR:=ai (hbad.out (by omega))
            go_wp2
            go_ret
            exact⟨aY HR.o.symm,HB.o.alloc HB.o.size _⟩
        · have Wk:255-p<n:=by omega
          have HR:=ai (hbad.out (by omega))
          go_wp2
          go_ret
          exact⟨aY HR.o.symm,HB.o.alloc HB.o.size _⟩
      · have d2':n<1:=by omega
        have HR:=ai (hbad.out (by omega))
        go_wp2
        go_ret
        exact⟨aY HR.o.symm,HB.o.alloc HB.o.size _⟩
    · have d1':p<0:=by omega
      have HR:=ai (hbad.out (by omega))
      go_wp2
      go_ret
      exact⟨aY HR.o.symm,HB.o.alloc HB.o.size _⟩
  · obtain rfl:k=l.length:=by omega
    have HR:=ai (M.all_true M.fE M.O6 l (fun j hj=>HA.o j hj))
    clear hb
    go_wp2
    go_ret
    exact⟨aY HR.o.symm,HB.o⟩
theorem JO (l:List M.Sg) (k n:Nat) (h:M.lJ l k=false) (hk:k<=n):M.lJ l n=false:=by
 induction n with
 | zero => obtain rfl:k=0 := by omega
           exact h
 | succ n ih =>
  rcases Nat.lt_or_ge n k with g | g
  · obtain rfl:k=n+1:=by omega
    exact h
  · simp only[M.lJ]
    rw[ih g];rfl
theorem Ol (l:List M.Sg) (k:Nat) (hk:k<l.length) (h:M.lJ l (k+1)=false):M.uo l=false:=JO l (k+1) l.length h hk
theorem C7 (l:List M.Sg) (ao:Option Addr) (cap:Nat) (w:World) (h:M.dU M.yr w ao l) (hn:M.bD l.length) (hr:l.all M.fE=true) :
  Calls Tryz.prog 133 #[.slice ao l.length cap] w fun e w'=>e=.returned (.bool (!M.uo l))/\Below w.heap.size w w':=by
 unfold M.bD at hn
 have H:=ai h
 have F:=ai hr
 clear h hr
 go_enter Tryz.func133,Tryz.ntmps133
 go_wp2
 go_loopw [3] (fun i wr=>∃k:Nat,1<=k/\(k<=l.length∨k=1)/\i=I k/\M.lJ l k=true/\Below w.heap.size w wr) (fun i _=>l.length-(intOf i).toNat)
 case atStart=>exact⟨1,by omega,.inr rfl,rfl,rfl,Below.refl _ _⟩
 case round =>
  obtain⟨k,hk1,hk,rfl,hall,hb⟩:=hrel
  have HA:=ai hall
  have HB:=ai hb
  clear hall
  by_cases hlt:k<l.length
  · obtain⟨b,off,hao,hbl,hl⟩:=H.o (by omega)
    subst hao
    obtain⟨c0,c1,c2,c3,c4⟩:=M.xp hb hbl hl k hlt
    obtain⟨e0,e1,e2,e3,e4⟩:=M.xp hb hbl hl (k-1) (by omega)
    have g1:0<=(M.dB l (k-1)).page/\1<=(M.dB l (k-1)).aj/\(M.dB l (k-1)).page+(M.dB l (k-1)).aj<=255/\_:=of_decide_eq_true (M.ym M.fE M.O6 l (k-1) (by omega) F.o)
    have hov:Hid (M.lJ l (k+1)=decide ((M.dB l (k-1)).page+(M.dB l (k-1)).aj<=(M.dB l k).page)):=by
     show _=_
     simp only[M.lJ,HA.o,Bool.true_and,M.Ms]
     rw[show(k==0)=false from by simp;omega,Bool.false_or]
    obtain⟨s,hs⟩:=ex (M.dB l k)
    obtain⟨t,ht⟩:=ex (M.dB l (k-1))
    rw[<- hs] at c0 c1 c2 c3 c4 hov
    rw[<- ht] at e0 e1 e2 e3 e4 g1 hov
    clear hs ht hb hl
    obtain⟨sp,sn,sd,sx,sy⟩:=s
    obtain⟨tp,tn,td,tx,ty⟩:=t
    simp only at c0 c1 c2 c3 c4 e0 e1 e2 e3 e4 g1 hov
    obtain⟨g1,g2,g3,g4⟩:=g1
    clear c1 c2 c3 c4 e2 e3 e4 g4
    have hli:(k:Int)<(l.length:Int):=by omega
    have oG:=Q.dS wr
    have hkc:=@Q.cA wr
    have hbr:b<wr.heap.size:=Nat.lt_of_lt_of_le hbl HB.o.size
    have k0:∀x:Q.dA wr.heap.size wr,x.world.cell? (Ad b (off+k*5))=some (I sp):=fun x=>by rw[hkc x _ _ hbr,c0]
    have k1:∀x:Q.dA wr.heap.size wr,x.world.cell? ⟨b,off+(k-1)*5,none⟩=some (I tp):=fun x=>by rw[hkc x _ _ hbr,e0]
    have k2:∀x:Q.dA wr.heap.size wr,x.world.cell? ⟨b,off+(k-1)*5+1,none⟩=some (I tn):=fun x=>by rw[hkc x _ _ hbr,e1]
    clear hkc c0 e0 e1
    by_cases d:sp<tp+tn
    · have hno:Hid (M.lJ l (k+1)=false):=by show _=_;rw[hov.out];exact decide_eq_false (by omega)
      go_wp2
      refine Q.aW (by kernel_rfl) (by kernel_rfl) ?_
      repeat (first | go_big_quiet_step (fail) | quiet_step (fail))
      refine wpQuiet_nil ?_
      intro _ hw'
      obtain⟨x,hw''⟩:=hw'
      subst hw''
      go_wp2
      go_ret
      exact⟨aY (by rw[Ol l k hlt hno.out];rfl),HB.o.trans (x.keeps.mono HB.o.size)⟩
    · have abP:Hid (M.lJ l (k+1)=true):=by show _=_;rw[hov.out];exact decide_eq_true (by omega)
      go_wp2
      refine Q.aW (by kernel_rfl) (by kernel_rfl) ?_
      repeat (first | go_big_quiet_step (fail) | quiet_step (fail))
      refine wpQuiet_nil ?_
      intro _ hw'
      obtain⟨x,hw''⟩:=hw'
      subst hw''
      go_wp2
      go_roundw
      case rel=>exact⟨k+1,by omega,.inl (by omega),by go_num,abP.out,HB.o.trans (x.keeps.mono HB.o.size)⟩
      case measure=>simp[intOf];omega
  · have HR:Hid (M.uo l=true):=by
     show _=_
     unfold M.uo
     rcases hk with hk | hk
     · rw[show l.length=k by omega];exact HA.o
     · rcases Nat.lt_or_ge l.length 1 with h0 | h0
       · rw[show l.length=0 by omega];rfl
       · rw[show l.length=k by omega];exact HA.o
    have hge:¬(k:Int)<(l.length:Int):=by omega
    clear hb
    go_wp2
    go_ret
    exact⟨aY (by rw[HR.o];rfl),HB.o⟩
def rO (s:M.Sg):Array Value:=#[I s.page,I s.aj,.string s.data,.bool s.wr,.bool s.ex]
def wI (l:List M.Sg) (a:Int):M.Sg:=(M.lC l a).getD M.O6
theorem qY:∀(l:List M.Sg) (a:Int),(∀j,j<l.length->M.mz (M.dB l j) a=false)->M.lC l a=none
 | [],_,_=>rfl
 | s::r,a,h=>by
  have h0:M.mz s a=false:=h 0 (by simp)
  unfold M.lC
  rw[h0,if_neg (by simp)]
  exact qY r a (fun j hj=>h (j+1) (by simpa using hj))
theorem qX:∀(l:List M.Sg) (a:Int) (k:Nat),k<l.length->(∀j,j<k->M.mz (M.dB l j) a=false)->M.mz (M.dB l k) a=true->M.lC l a=some (M.dB l k)
 | s::r,a,0,_,_,h=>by
  have h0:M.mz s a=true:=h
  unfold M.lC
  rw[h0,if_pos rfl]
  rfl
 | s::r,a,k+1,hk,hj,h=>by
  have h0:M.mz s a=false:=hj 0 (by omega)
  unfold M.lC
  rw[h0,if_neg (by simp)]
  exact qX r a k (by simpa using hk) (fun j h=>hj (j+1) (by omega)) h
theorem CY {l:List M.Sg} (h:l.all M.fE=true) (k:Nat) (hk:k<l.length):0<=(M.dB l k).page/\1<=(M.dB l k).aj/\(M.dB l k).page+(M.dB l k).aj<=255/\((M.dB l k).data.size:Int)<=(M.dB l k).aj*16 :=
 of_decide_eq_true (M.ym M.fE M.O6 l k hk h)
theorem JE {l:List M.Sg} (h:l.all M.fE=true) (a:Int) (ha:a<0):M.lC l a=none :=
 qY l a (fun j hj=>by
  have:=CY h j hj
  exact decide_eq_false (by omega))
theorem AV {a b:M.Sg} {x y:Bool} (h:a=b) (g:x=y):Ending.returned (.tuple #[.agg (rO a),.bool x])=.returned (.tuple #[.agg (rO b),.bool y]):=by rw[h,g]
theorem pS (l:List M.Sg) (ao:Option Addr) (cap:Nat) (a:Int) (w:World) (h:M.dU M.yr w ao l) (hn:M.bD l.length) (hr:l.all M.fE=true) (ha:M.dF a) :
  Calls Tryz.prog 150 #[.slice ao l.length cap,I a] w fun e w'=>e=.returned (.tuple #[.agg (rO (wI l a)),.bool (M.dQ l a)])/\Below w.heap.size w w':=by
 unfold M.bD at hn
 unfold M.dF at ha
 have H:=ai h
 have F:=ai hr
 clear h hr
 by_cases h0:a<0
 · have HN:=ai (JE F.o a h0)
   have HZ:=ai ((Below.refl w.heap.size w).alloc (Nat.le_refl _) (.cells #[I 0,I 0,.string ⟨#[]⟩,.bool false,.bool false] 129))
   go_enter Tryz.func150,Tryz.ntmps150
   go_wp2
   exact bodyPost_ret (v:=.tuple #[.agg #[I 0,I 0,.string ⟨#[]⟩,.bool false,.bool false],.bool false]) (by simp[results,Tryz.results150,go_sem]) rfl ⟨AV (a:=M.O6) (x:=false) (by unfold wI;rw[HN.o];rfl) (by unfold M.dQ;rw[HN.o];rfl),HZ.o⟩
 · have h0':0<=a:=by omega
   have hbz:Below w.heap.size w (w.alloc (.cells #[I 0,I 0,.string ⟨#[]⟩,.bool false,.bool false] 129)):=(Below.refl _ _).alloc (Nat.le_refl _) _
   have HZ:=ai hbz
   clear hbz
   go_enter Tryz.func150,Tryz.ntmps150
   go_wp2
   go_loopw [16] (fun i wr=>∃k:Nat,k<=l.length/\i=I k/\(∀j,j<k->M.mz (M.dB l j) a=false)/\Below (w.heap.size+1) (w.alloc (.cells #[I 0,I 0,.string ⟨#[]⟩,.bool false,.bool false] 129)) wr) (fun i _=>l.length-(intOf i).toNat)
   case atStart=>exact⟨0,by omega,rfl,fun j hj=>by omega,Below.refl _ _⟩
   case round =>
    obtain⟨k,hk,rfl,hno,hb⟩:=hrel
    have HN:=ai hno
    have HB:=ai hb
    have EC:Hid (Below w.heap.size w wr):=HZ.o.trans (hb.mono (Nat.le_succ _))
    have hsz:w.heap.size+1<=wr.heap.size:=by have:=hb.size;simpa using this
    have HR:=ai (B.below (B.new w #[I 0,I 0,.string ⟨#[]⟩,.bool false,.bool false] 129) hb (Nat.lt_succ_self _))
    clear hno hb
    by_cases hlt:k<l.length
    · obtain⟨b,off,hao,hbl,hl⟩:=H.o (by omega)
      subst hao
      obtain⟨c0,c1,c2,c3,c4⟩:=M.xp EC.out hbl hl k hlt
      obtain⟨g1,g2,g3,g4⟩:=CY F.o k hlt
      obtain⟨s,hs⟩:=ex (M.dB l k)
      rw[<- hs] at c0 c1 c2 c3 c4 g1 g2 g3 g4
      have HS:=ai hs
      clear hs hl
      obtain⟨p,n,d,x,y⟩:=s
      simp only at c0 c1 c2 c3 c4 g1 g2 g3 g4
      have V8:d.size<=maxLen:=by unfold maxLen;omega
      have hli:(k:Int)<(l.length:Int):=by omega
      clear g4
      by_cases d1:p<=a/16
      · by_cases d2:a/16<p+n
        · have hin:Hid (M.mz (M.dB l k) a=true):=by show _=_;rw[<- HS.o];exact decide_eq_true (show p*16<=a/\a<(p+n)*16 by omega)
          have t0:=B.cell (B.alloc HR.o (.cells #[I p,I n,.string d,.bool x,.bool y] 129)) 0 rfl
          have t1:=B.cell (B.alloc HR.o (.cells #[I p,I n,.string d,.bool x,.bool y] 129)) 1 rfl
          have t2:=B.cell (B.alloc HR.o (.cells #[I p,I n,.string d,.bool x,.bool y] 129)) 2 rfl
          have t3:=B.cell (B.alloc HR.o (.cells #[I p,I n,.string d,.bool x,.bool y] 129)) 3 rfl
          have t4:=B.cell (B.alloc HR.o (.cells #[I p,I n,.string d,.bool x,.bool y] 129)) 4 rfl
          have u0:=B.free (B.alloc HR.o (.cells #[I p,I n,.string d,.bool x,.bool y] 129))
          have Cv:=ai (EC.out.alloc EC.out.size (.cells #[I p,I n,.string d,.bool x,.bool y] 129))
          go_wp2
          exact bodyPost_ret (v:=.tuple #[.agg #[I p,I n,.string d,.bool x,.bool y],.bool true]) (by simp[results,Tryz.results150,go_sem,t0,t1,t2,t3,t4]) rfl ⟨AV (a:=⟨p,n,d,x,y⟩) (x:=true) (by unfold wI;rw[qX l a k hlt HN.o hin.out];exact HS.o) (by unfold M.dQ;rw[qX l a k hlt HN.o hin.out];rfl),(((((Cv.o.setCell (Nat.le_refl _) _).setCell (Nat.le_refl _) _).setCell (Nat.le_refl _) _).setCell (Nat.le_refl _) _).setCell (Nat.le_refl _) _)⟩
        · have oq:Hid (M.mz (M.dB l k) a=false):=by show _=_;rw[<- HS.o];exact decide_eq_false (show ¬(p*16<=a/\a<(p+n)*16) by omega)
          go_wp2
          go_roundw
          case rel=>exact⟨k+1,by omega,by go_num,fun j hj=>if e:j=k then by rw[e];exact oq.out else HN.o j (by omega),HB.o.alloc (by simpa using hsz) _⟩
          case measure=>simp[intOf];omega
      · have oq:Hid (M.mz (M.dB l k) a=false):=by show _=_;rw[<- HS.o];exact decide_eq_false (show ¬(p*16<=a/\a<(p+n)*16) by omega)
        have d1':decide (p<=a/16)=false:=decide_eq_false d1
        go_wp2
        go_roundw
        case rel=>exact⟨k+1,by omega,by go_num,fun j hj=>if e:j=k then by rw[e];exact oq.out else HN.o j (by omega),HB.o.alloc (by simpa using hsz) _⟩
        case measure=>simp[intOf];omega
    · obtain rfl:k=l.length:=by omega
      have HNo:=ai (qY l a HN.o)
      have t0:=B.cell HR.o 0 rfl
      have t1:=B.cell HR.o 1 rfl
      have t2:=B.cell HR.o 2 rfl
      have t3:=B.cell HR.o 3 rfl
      have t4:=B.cell HR.o 4 rfl
      have u0:=B.free HR.o
      go_wp2
      exact bodyPost_ret (v:=.tuple #[.agg #[I 0,I 0,.string ⟨#[]⟩,.bool false,.bool false],.bool false]) (by simp[results,Tryz.results150,go_sem,t0,t1,t2,t3,t4]) rfl ⟨AV (a:=M.O6) (x:=false) (by unfold wI;rw[HNo.o];rfl) (by unfold M.dQ;rw[HNo.o];rfl),(((((EC.out.setCell (Nat.le_refl _) _).setCell (Nat.le_refl _) _).setCell (Nat.le_refl _) _).setCell (Nat.le_refl _) _).setCell (Nat.le_refl _) _)⟩
theorem gY {l:List M.Sg} (h:l.all M.fE=true) (a:Int) (hp:M.dQ l a=true):0<=a/\a<4080:=by
 induction l with
 | nil=>cases hp
 | cons s r ih =>
  have h':M.fE s=true/\r.all M.fE=true:=by simpa using h
  have hs:0<=s.page/\1<=s.aj/\s.page+s.aj<=255/\(s.data.size:Int)<=s.aj*16:=of_decide_eq_true h'.1
  unfold M.dQ M.lC at hp
  cases e:M.mz s a
  · rw[e,if_neg (by simp)] at hp
    exact ih h'.2 hp
  · have:=of_decide_eq_true e
    omega
theorem vK (i:M.Im) (a:M.At) (w:World) (h:M.mH w a i) (hf:M.Fit i) (hr:i.cW.all M.fE=true):Calls Tryz.prog 138 #[.agg (M.eZ a i)] w fun e w'=>e=.returned (.bool (M.ug i))/\Below w.heap.size w w':=by
 obtain⟨an,cn,ag,cg,ay,cy,ar,cr⟩:=a
 obtain⟨nm,ns,gs,ys,rs,en⟩:=i
 obtain⟨h1,h2,h3,h4⟩:=h
 obtain⟨f1,f2,f3,f4,f5,f6,f7,f8,f9,f10⟩:=hf
 simp only at h1 h2 h3 h4 f1 f2 f3 f4 f5 f6 f7 f8 f9 f10
 have F4:=ai f4
 unfold M.bD at f2 f4 f6 f8
 simp only[M.eZ]
 have H1:=ai h1
 have H2:=ai h2
 have H3:=ai h3
 have H4:=ai h4
 have F3:=ai f3
 have F7:=ai f7
 have F9:=ai f9
 have Z2:=ai f10
 have HG:=ai hr
 clear h1 h2 h3 h4 f3 f5 f7 f9 f10 hr
 have O4:=ai (B.new w #[.string nm,.slice an ns.length cn,.slice ag gs.length cg,.slice ay ys.length cy,.slice ar rs.length cr,I en] 135)
 have cM:=ai ((Below.refl w.heap.size w).alloc (Nat.le_refl _) (.cells #[.string nm,.slice an ns.length cn,.slice ag gs.length cg,.slice ay ys.length cy,.slice ar rs.length cr,I en] 135))
 obtain⟨X,hX⟩:∃X:Array Value,X=#[.string nm,.slice an ns.length cn,.slice ag gs.length cg,.slice ay ys.length cy,.slice ar rs.length cr,I en]:=⟨_,rfl⟩
 have HX:=ai hX
 rw[<- hX] at O4 cM
 clear hX
 have bx2:=B.cell O4.o 2 (by rw[HX.o];rfl)
 have bx5:=B.cell O4.o 5 (by rw[HX.o];rfl)
 have ac4:=Z2.o
 unfold M.dF at ac4
 have HE:Hid (M.ug ⟨nm,ns,gs,ys,rs,en⟩=(M.dQ gs en&&((wI gs en).ex&&decide (en%8=0)))):=by
  show _=_
  unfold M.ug M.dQ wI
  simp only
  cases M.lC gs en <;> rfl
 rw[HE.o]
 have hpb:M.dQ gs en=true->0<=en:=fun h=>(gY HG.o en h).1
 obtain⟨sg,Ur⟩:=ex (wI gs en)
 obtain⟨pb,jh⟩:=ex (M.dQ gs en)
 have HS:=ai Ur
 have HP:=ai jh
 rw[<- jh] at hpb
 rw[<- Ur,<- jh]
 obtain⟨sp,sn,sd,sx,sy⟩:=sg
 simp only
 clear HE Ur jh
 cases pb
 · clear hpb
   go_enter Tryz.func138,Tryz.ntmps138
   go_wp2_with fail
   rw[<- HX.o]
   refine(pS gs ag cg en _ (M.dU.below (lie:=M.yr) (fun hb hlt h=>M.xp hb hlt h) H2.o cM.o) F4.o HG.o Z2.o).mono ?_
   rintro e w2 ⟨rfl,hb2⟩
   have bW:=ai (cM.o.trans (hb2.mono cM.o.size))
   have Eu:=ai (B.below O4.o hb2 (B.isLt O4.o))
   have nS:=B.isLt Eu.o
   have by5:=B.cell Eu.o 5 (by rw[HX.o];rfl)
   clear hb2
   rw[<- HS.o,<- HP.o]
   simp only[rO]
   go_wp2
   go_ret
   exact⟨rfl,bW.o.alloc bW.o.size _⟩
 · have hp:=hpb rfl
   clear hpb
   cases sy
   · go_enter Tryz.func138,Tryz.ntmps138
     go_wp2_with fail
     rw[<- HX.o]
     refine(pS gs ag cg en _ (M.dU.below (lie:=M.yr) (fun hb hlt h=>M.xp hb hlt h) H2.o cM.o) F4.o HG.o Z2.o).mono ?_
     rintro e w2 ⟨rfl,hb2⟩
     have bW:=ai (cM.o.trans (hb2.mono cM.o.size))
     have Eu:=ai (B.below O4.o hb2 (B.isLt O4.o))
     have nS:=B.isLt Eu.o
     have by5:=B.cell Eu.o 5 (by rw[HX.o];rfl)
     clear hb2
     rw[<- HS.o,<- HP.o]
     simp only[rO]
     go_wp2
     go_ret
     exact⟨rfl,bW.o.alloc bW.o.size _⟩
   · by_cases d:en%8=0
     · rw[decide_eq_true d]
       go_enter Tryz.func138,Tryz.ntmps138
       go_wp2_with fail
       rw[<- HX.o]
       refine(pS gs ag cg en _ (M.dU.below (lie:=M.yr) (fun hb hlt h=>M.xp hb hlt h) H2.o cM.o) F4.o HG.o Z2.o).mono ?_
       rintro e w2 ⟨rfl,hb2⟩
       have bW:=ai (cM.o.trans (hb2.mono cM.o.size))
       have Eu:=ai (B.below O4.o hb2 (B.isLt O4.o))
       have nS:=B.isLt Eu.o
       have by5:=B.cell Eu.o 5 (by rw[HX.o];rfl)
       clear hb2
       rw[<- HS.o,<- HP.o]
       simp only[rO]
       go_wp2
       go_ret
       exact⟨rfl,bW.o.alloc bW.o.size _⟩
     · rw[decide_eq_false d]
       go_enter Tryz.func138,Tryz.ntmps138
       go_wp2_with fail
       rw[<- HX.o]
       refine(pS gs ag cg en _ (M.dU.below (lie:=M.yr) (fun hb hlt h=>M.xp hb hlt h) H2.o cM.o) F4.o HG.o Z2.o).mono ?_
       rintro e w2 ⟨rfl,hb2⟩
       have bW:=ai (cM.o.trans (hb2.mono cM.o.size))
       have Eu:=ai (B.below O4.o hb2 (B.isLt O4.o))
       have nS:=B.isLt Eu.o
       have by5:=B.cell Eu.o 5 (by rw[HX.o];rfl)
       clear hb2
       rw[<- HS.o,<- HP.o]
       simp only[rO]
       go_wp2
       go_ret
       exact⟨aY (by simpa using d),bW.o.alloc bW.o.size _⟩
end W
namespace W
open Go.RowKit Go.WideMaps Go.Maps
theorem law:Keyed Tryz.prog 9:=string_keyed Tryz.underlying9
theorem Lz (w:World):(zeroValue 3).run Tryz.prog w=.ok (I 0) w:=by kernel_rfl
def yV (s:ByteArray):Lit:=.string s.data.toList
theorem xw {s t:ByteArray} (h:yV s=yV t):s=t:=by
 unfold yV at h
 injection h with h
 cases s;cases t
 congr 1
 exact Array.toList_inj.1 h
theorem Il {s:ByteArray} (h:M.bD s.size):keyOf Tryz.prog 9 (.string s)=some (yV s):=keyOf_string_mk Tryz.underlying9 (by unfold M.bD at h;unfold maxLen;omega)
instance Xk:LawfulBEq ByteArray where
 eq_of_beq {a b} h:=by
  cases a;cases b
  congr 1
  exact eq_of_beq (α:=Array UInt8) h
 rfl {a}:=by
  cases a
  exact beq_self_eq_true (α:=Array UInt8) _
def Cnt (l:List ByteArray) (k:Nat) (D:DataW Unit):Prop:=∀s:ByteArray,D.atKey (yV s) (.lit (.int .i64 0))=.lit (.int .i64 (if (l.take k).contains s then 1 else 0))
theorem NR (l:List ByteArray):Cnt l 0 (.map []):=fun s=>by simp[DataW.atKey]
theorem qL (l:List ByteArray) (k:Nat) (hk:k<l.length) (s:ByteArray):(l.take (k+1)).contains s=((l.take k).contains s || s==M.jU l k):=by
 rw[List.take_add_one,List.getElem?_eq_getElem hk]
 have e:M.jU l k=l[k]:=by unfold M.jU;rw[List.getD_eq_getElem?_getD,List.getElem?_eq_getElem hk];rfl
 rw[e]
 have g:∀(m:List ByteArray) (a:ByteArray),(m++[a]).contains s=(m.contains s || s==a):=fun m a=>by
  rw[Bool.eq_iff_iff]
  simp
 exact g _ _
theorem NS {l:List ByteArray} {k:Nat} {D:DataW Unit} (hk:k<l.length) (hD:IsMap D) (h:Cnt l k D):Cnt l (k+1) (D.put (yV (M.jU l k)) (.lit (.int .i64 1))):=fun s=>by
 rw[qL l k hk s]
 by_cases e:s=M.jU l k
 · subst e
   rw[atKey_put_same hD (by trivial)]
   simp
 · rw[atKey_put_other (fun g=>e (xw g)),h s]
   have:(s==M.jU l k)=false:=by simpa using e
   rw[this,Bool.or_false]
theorem JS (l:List ByteArray) (k n:Nat) (h:M.iG l k=false) (hk:k<=n):M.iG l n=false:=by
 induction n with
 | zero => obtain rfl:k=0 := by omega
           exact h
 | succ n ih =>
  rcases Nat.lt_or_ge n k with g | g
  · obtain rfl:k=n+1:=by omega
    exact h
  · simp only[M.iG]
    rw[ih g];rfl
theorem Jr (l:List ByteArray) (ao:Option Addr) (cap:Nat) (w:World) (h:M.dU M.zq w ao l) (hn:M.bD l.length) (hf:∀k,k<l.length->M.bD (M.jU l k).size) :
  Calls Tryz.prog 134 #[.slice ao l.length cap] w fun e w'=>e=.returned (.bool (!M.o9 l))/\Below w.heap.size w w':=by
 unfold M.bD at hn
 have H:=ai h
 have F:=ai hf
 clear h hf
 have hmm:=@run_makeMap Tryz.prog
 go_enter Tryz.func134,Tryz.ntmps134
 go_wp2
 go_loopw [9] (fun i wr=>∃(k:Nat) (D:DataW Unit),k<=l.length/\i=I k/\wr.ownsMap Tryz.prog 9 (plainElem Tryz.prog 3) w.heap.size k D/\Cnt l k D/\M.iG l k=true/\Below w.heap.size w wr) (fun i _=>l.length-(intOf i).toNat)
 case atStart=>exact⟨0,.map [],Nat.zero_le _,rfl,World.ownsMap_made _ _ _ _,NR l,rfl,(Below.refl _ _).alloc (Nat.le_refl _) _⟩
 case round =>
  obtain⟨k,D,hk,rfl,hown,UJ,Dv,hb⟩:=hrel
  have HO:=ai Dv
  have HC:=ai UJ
  have HB:=ai hb
  have HW:=ai hown
  clear Dv UJ
  by_cases hlt:k<l.length
  · obtain⟨b,off,hao,hbl,hl⟩:=H.o (by omega)
    subst hao
    have hli:(k:Int)<(l.length:Int):=by omega
    have c0:=M.Qn hb hbl hl k hlt
    have fs:=F.o k hlt
    have HCS:=ai (NS hlt hown.isMap HC.o)
    have HN:Hid (M.iG l (k+1)=!(l.take k).contains (M.jU l k)):=by show(M.iG l k&&_)=_;rw[HO.o];rfl
    have Yp:=HC.o (M.jU l k)
    obtain⟨s,hs⟩:=ex (M.jU l k)
    rw[<- hs] at c0 fs HCS HN Yp
    clear hs hb hl
    have hkey:=Il fs
    obtain⟨c,hrun,hat,_⟩:=hown.lookup_int law Tryz.underlying240 Tryz.underlying3 (Lz _) hkey
    rw[Yp] at hat
    have hkm:k<maxLen:=by unfold maxLen;omega
    cases hc:(l.take k).contains s
    · rw[hc] at hat HN
      have e:c=0:=by injection hat with hat;injection hat with _ hat;exact hat.symm
      subst e
      clear hat Yp
      go_wp2_with (first | (at_mapUpdate;refine wpList_mapUpdate_own _ rfl _ _ _ 240 rfl 9 3 law Tryz.underlying240 _ w.heap.size k _ rfl HW.o hkm _ _ _ rfl rfl hkey _ [] (plainElem_int Tryz.underlying3 (by decide)) ?_) | go_in)
      intro w1 hown1 hgrow1
      have R2:=ai (HB.o.grown hgrow1 HB.o.size (fun j hj=>by cases hj;exact Nat.le_refl _))
      obtain⟨c,XK,rA,_⟩:=hown1.lookup_int law Tryz.underlying240 Tryz.underlying3 (Lz _) hkey
      rw[atKey_put_same HW.o.isMap (by trivial)] at rA
      have e:c=1:=by injection rA with rA;injection rA with _ rA;exact rA.symm
      subst e
      have ur:=ai hown1
      clear rA hown hrun hgrow1 hown1
      go_wp2
      go_roundw
      case rel=>exact⟨k+1,_,by omega,by go_num,ur.o,HCS.o,HN.o,R2.o⟩
      case measure=>simp[intOf];omega
    · rw[hc] at hat HN
      have e:c=1:=by injection hat with hat;injection hat with _ hat;exact hat.symm
      subst e
      clear hat Yp
      have HR:=ai (JS l (k+1) l.length HN.o hlt)
      go_wp2_with (first | (at_mapUpdate;refine wpList_mapUpdate_own _ rfl _ _ _ 240 rfl 9 3 law Tryz.underlying240 _ w.heap.size k _ rfl HW.o hkm _ _ _ rfl rfl hkey _ [] (plainElem_int Tryz.underlying3 (by decide)) ?_) | go_in)
      intro w1 hown1 hgrow1
      have R2:=ai (HB.o.grown hgrow1 HB.o.size (fun j hj=>by cases hj;exact Nat.le_refl _))
      obtain⟨c,XK,rA,_⟩:=hown1.lookup_int law Tryz.underlying240 Tryz.underlying3 (Lz _) hkey
      rw[atKey_put_same HW.o.isMap (by trivial)] at rA
      have e:c=2:=by injection rA with rA;injection rA with _ rA;exact rA.symm
      subst e
      clear rA hown hrun hgrow1 hown1
      go_wp2
      go_ret
      exact⟨aY (by unfold M.o9;rw[HR.o];rfl),R2.o⟩
  · obtain rfl:k=l.length:=by omega
    clear hb
    go_wp2
    go_ret
    exact⟨aY (by unfold M.o9;rw[HO.o];rfl),HB.o⟩
end W
namespace LM
open Go.RowKit Go.WideMaps Go.Maps
structure Li where
 i:M.Im
 a:M.At
def li0:Li:=⟨⟨⟨#[]⟩,[],[],[],[],0⟩,⟨none,0,none,0,none,0,none,0⟩⟩
def cx (l:List Li) (k:Nat):Li:=l.getD k li0
def Dn (x:Li):Value:=.agg (M.eZ x.a x.i)
def Ou (w:World) (b off:Nat) (l:List Li):Prop:=∀k,k<l.length ->
 (w.cell? (Ad b (off+k*6))=some (.string (cx l k).i.name)/\w.cell? (Ad b (off+k*6+1))=some (.slice (cx l k).a.an (cx l k).i.needs.length (cx l k).a.cn) /\
  w.cell? (Ad b (off+k*6+2))=some (.slice (cx l k).a.ag (cx l k).i.cW.length (cx l k).a.cg)/\w.cell? (Ad b (off+k*6+3))=some (.slice (cx l k).a.ay (cx l k).i.syms.length (cx l k).a.cy) /\
  w.cell? (Ad b (off+k*6+4))=some (.slice (cx l k).a.ar (cx l k).i.fu.length (cx l k).a.cr)/\w.cell? (Ad b (off+k*6+5))=some (I (cx l k).i.entry))/\M.mH w (cx l k).a (cx l k).i
theorem abH {w w':World} {b off:Nat} {l:List Li} (hb:Below w.heap.size w w') (hlt:b<w.heap.size) (h:Ou w b off l):Ou w' b off l:=fun k hk=>by
 obtain⟨⟨c0,c1,c2,c3,c4,c5⟩,hi⟩:=h k hk
 exact⟨⟨(M.aA hb hlt).trans c0,(M.aA hb hlt).trans c1,(M.aA hb hlt).trans c2,(M.aA hb hlt).trans c3,(M.aA hb hlt).trans c4,(M.aA hb hlt).trans c5⟩,hi.below hb⟩
def G6 (w:World) (ao:Option Addr) (l:List Li):Prop:=M.dU Ou w ao l
theorem G6.below {w w':World} {ao:Option Addr} {l:List Li} (h:G6 w ao l) (hb:Below w.heap.size w w'):G6 w' ao l:=M.dU.below (lie:=Ou) (fun hb hlt h=>abH hb hlt h) h hb
def ZY (l:List Li):Prop:=M.bD l.length/\∀k,k<l.length->M.Fit (cx l k).i
def kM (l:List Li):Nat->Int
 | 0=>0
 | k+1=>if kM l k=0 then M.ji (cx l k).i else kM l k
def fF (l:List Li):List ByteArray:=l.map (·.i.name)
def lU (l:List Li):Int:=if kM l l.length=0 then (if M.o9 (fF l) then 0 else 5) else kM l l.length
theorem u6 (l:List Li) (k:Nat) (h:kM l k≠0):∀n,k<=n->kM l n=kM l k
 | 0, hn => by obtain rfl:k=0 := by omega
               rfl
 | n+1,hn=>by
  by_cases e:k=n+1
  · subst e;rfl
  · have ih:=u6 l k h n (by omega)
    simp only[kM]
    rw[ih,if_neg h]
theorem xS (l:List Li):∀n,kM l n=0->∀k,k<n->M.ji (cx l k).i=0
 | 0,_,k,hk=>by omega
 | n+1,h,k,hk=>by
  simp only[kM] at h
  by_cases e0:kM l n=0
  · rw[if_pos e0] at h
    by_cases e:k=n
    · subst e;exact h
    · exact xS l n e0 k (by omega)
  · rw[if_neg e0] at h
    exact(e0 h).elim
theorem zU (l:List Li) (k:Nat) (hk:k<l.length):M.jU (fF l) k=(cx l k).i.name:=by
 unfold M.jU fF cx
 rw[List.getD_eq_getElem?_getD,List.getD_eq_getElem?_getD,List.getElem?_map,List.getElem?_eq_getElem hk]
 rfl
theorem gZ (l:List Li):(fF l).length=l.length:=by simp[fF]
def Rv (v:Value):Option (DataW Value×List MemPlace):=some (.held v,[])
def abm:Value:=.agg #[.string ⟨#[]⟩,Nl,Nl,Nl,Nl,I 0]
structure Nm (l:List Li) (k:Nat) (D:DataW Value):Prop where
 has:∀s,Maps.has D (W.yV s)=((fF l).take k).contains s
 at_:M.iG (fF l) k=true->∀j,j<k->D.atKey (W.yV (cx l j).i.name) (.held abm)=.held (Dn (cx l j))
 le:Maps.size D<=k
 all:Maps.size D=k↔M.iG (fF l) k=true
theorem P7 (l:List Li):Nm l 0 (.map []):=⟨fun s=>by simp[Maps.has],fun _ j hj=>by omega,by simp[Maps.size],by simp[Maps.size,M.iG]⟩
theorem Qe (l:List Li) (k j:Nat) (hj:j<k) (hk:k<=l.length):((fF l).take k).contains (cx l j).i.name=true:=by
 have h1:j<((fF l).take k).length:=by rw[List.length_take,gZ];omega
 have h2:((fF l).take k)[j]=(cx l j).i.name:=by
  rw[List.getElem_take]
  have h3:j<(fF l).length:=by rw[gZ];omega
  have:=zU l j (by omega)
  unfold M.jU at this
  rw[List.getD_eq_getElem?_getD,List.getElem?_eq_getElem h3] at this
  exact this
 rw[<- h2]
 exact List.contains_iff_mem.2 (List.getElem_mem h1)
theorem P8 {l:List Li} {k:Nat} {D:DataW Value} (hk:k<l.length) (hD:IsMap D) (hT:Maps.Tidy D) (h:Nm l k D):Nm l (k+1) (D.put (W.yV (cx l k).i.name) (.held (Dn (cx l k)))):=by
 have hc:=fun s=>W.qL (fF l) k (by rw[gZ];exact hk) s
 have hat:=zU l k hk
 have hon:M.iG (fF l) (k+1)=(M.iG (fF l) k&&!((fF l).take k).contains (cx l k).i.name):=by simp only[M.iG];rw[hat]
 have hsz:=Maps.size_put (k:=W.yV (cx l k).i.name) hT (.held (Dn (cx l k)))
 rw[h.has] at hsz
 refine⟨fun s=>?_,fun ho j hj=>?_,?_,?_⟩
 · rw[hc s,hat]
   by_cases e:s=(cx l k).i.name
   · subst e
     rw[Maps.has_put_same hD (by trivial)]
     simp
   · rw[Maps.has_put_other (fun g=>e (W.xw g)),h.has]
     have:(s==(cx l k).i.name)=false:=by simpa using e
     rw[this,Bool.or_false]
 · rw[hon] at ho
   simp only[Bool.and_eq_true,Bool.not_eq_true'] at ho
   by_cases e:j=k
   · subst e
     exact atKey_put_same hD (by trivial) _ _
   · have hin:=Qe l k j (by omega) (by omega)
     rw[atKey_put_other (fun g=>by
      have:=W.xw g
      rw[this] at hin
      rw[ho.2] at hin
      cases hin)]
     exact h.at_ ho.1 j (by omega)
 · have:=h.le
   split at hsz <;> omega
 · rw[hon]
   have h1:=h.le
   have h2:=h.all
   cases hcn:((fF l).take k).contains (cx l k).i.name
   · rw[hcn] at hsz
     simp only[Bool.false_eq_true,if_false] at hsz
     rw[hsz]
     simp only[Bool.not_false,Bool.and_true]
     rw[<- h2]
     omega
   · rw[hcn] at hsz
     simp only[if_true] at hsz
     rw[hsz]
     simp only[Bool.not_true,Bool.and_false,Bool.false_eq_true,iff_false]
     omega
end LM
namespace W
open Go.RowKit
end W
namespace LW
open Go.RowKit Go.WideMaps Go.Maps
open W (ai)
def adi (l:List LM.Li) (w:World) (e:Ending) (w':World):Prop:=Below w.heap.size w w' /\
 if LM.lU l=0 then ∃m D,e=.returned (.tuple #[.map (some m),I 0])/\w'.ownsMap Tryz.prog 9 LM.Rv m l.length D/\LM.Nm l l.length D
 else e=.returned (.tuple #[.map none,I (LM.lU l)])
end LW
namespace LW
open Go.RowKit
open W (ai)
end LW
namespace LM
open Go.RowKit
def abK (all:List Li) (s:ByteArray):Option Nat:=all.findIdx? (fun x=>decide (x.i.name=s))
def Y5 (ix:List Nat) (j:Nat):List Nat:=if ix.contains j then ix else ix++[j]
def SM (all:List Li) (ix:List Nat) (needs:List ByteArray):Nat->Option (List Nat)
 | 0=>some ix
 | k+1=>match SM all ix needs k with
  | none=>none
  | some ix'=>match abK all (M.jU needs k) with
   | none=>none
   | some j=>some (Y5 ix' j)
def Ie (all:List Li) (ix:List Nat) (n:Nat):List ByteArray:=(cx all (ix.getD n 0)).i.needs
def Wj (all:List Li):Nat->Nat->List Nat->Option (List Nat)
 | 0,_,ix=>some ix
 | f+1,n,ix=>if n<ix.length then (match SM all ix (Ie all ix n) (Ie all ix n).length with
  | none=>none
  | some ix'=>Wj all f (n+1) ix') else some ix
structure RF (all:List Li) (ix:List Nat):Prop where
 pos:0<ix.length
 nodup:ix.Nodup
 lt:∀j∈ix,j<all.length
theorem Fi:∀(L:Nat) (ix:List Nat),ix.Nodup->(∀j∈ix,j<L)->ix.length<=L
 | 0,ix,_,h=>by
  cases ix with
  | nil=>exact Nat.le_refl _
  | cons x r=>exact absurd (h x List.mem_cons_self) (by omega)
 | L+1,ix,hn,h=>by
  by_cases e:L∈ix
  · have h1:=Fi L (ix.erase L) (hn.erase L) (fun j hj=>by
     have h2:=(List.Nodup.mem_erase_iff hn).1 hj
     have:=h j h2.2
     omega)
    rw[List.length_erase_of_mem e] at h1
    omega
  · have:=Fi L ix hn (fun j hj=>by
     have h1:=h j hj
     have h2:j≠L:=fun g=>e (g ▸ hj)
     omega)
    omega
theorem RF.le {all:List Li} {ix:List Nat} (h:RF all ix):ix.length<=all.length:=Fi _ _ h.nodup h.lt
def cH (all:List Li):Int->List Nat->List Ob
 | _,[]=>[]
 | b,j::r=>⟨(cx all j).i,(cx all j).a,b⟩::cH all (zj ⟨(cx all j).i,(cx all j).a,b⟩) r
def fD (all:List Li):Int->List Nat->Int
 | b,[]=>b
 | b,j::r=>fD all (zj ⟨(cx all j).i,(cx all j).a,b⟩) r
theorem dW (all:List Li):∀(ix:List Nat) (b:Int),(cH all b ix).length=ix.length
 | [],_=>rfl
 | j::r,b=>by simp only[cH,List.length_cons,dW all r]
theorem sJ (all:List Li) (j:Nat):∀(ix:List Nat) (b:Int),cH all b (ix++[j])=cH all b ix++[⟨(cx all j).i,(cx all j).a,fD all b ix⟩]
 | [],b=>rfl
 | k::r,b=>by simp only[List.cons_append,cH,fD,sJ all j r]
theorem s8 (all:List Li) (j:Nat):∀(ix:List Nat) (b:Int),fD all b (ix++[j])=zj ⟨(cx all j).i,(cx all j).a,fD all b ix⟩
 | [],b=>rfl
 | k::r,b=>by simp only[List.cons_append,fD,s8 all j r]
theorem lK (all:List Li):∀(ix:List Nat) (b:Int) (k:Nat),k<ix.length->(dP (cH all b ix) k).i=(cx all (ix.getD k 0)).i/\(dP (cH all b ix) k).a=(cx all (ix.getD k 0)).a/\(dP (cH all b ix) k).base=fD all b (ix.take k)
 | [],_,k,hk=>by simp at hk
 | j::r,b,0,_=>⟨rfl,rfl,rfl⟩
 | j::r,b,k+1,hk=>by
  have:=lK all r (zj ⟨(cx all j).i,(cx all j).a,b⟩) k (by simpa using hk)
  simpa [dP,cH,fD] using this
theorem A5 (all:List Li) (ix:List Nat) (b:Int) (h:0<ix.length):zj (dP (cH all b ix) (ix.length-1))=fD all b ix:=by
 obtain⟨r,j,rfl⟩:∃r j,ix=r++[j]:=⟨ix.dropLast,ix.getLast (by intro e;subst e;simp at h),(List.dropLast_concat_getLast _).symm⟩
 rw[sJ,s8]
 have e:(r++[j]).length-1=(cH all b r).length:=by rw[dW];simp
 rw[e]
 unfold dP
 rw[List.getD_eq_getElem?_getD,List.getElem?_append_right (Nat.le_refl _)]
 simp
theorem DB (ix:List Nat) (k:Nat) (h:k<ix.length):ix.getD k 0∈ix:=by
 rw[List.getD_eq_getElem?_getD,List.getElem?_eq_getElem h]
 exact List.getElem_mem h
theorem pF (all:List Li) (hc:∀j,j<all.length->M.ji (cx all j).i=0):∀(ix:List Nat) (b:Int),(∀j∈ix,j<all.length)->b<=fD all b ix/\fD all b ix<=b+255*(ix.length:Int)
 | [],b,_=>by simp[fD]
 | j::r,b,h=>by
  have hl:=uG (hc j (h j List.mem_cons_self))
  have ih:=pF all hc r (zj ⟨(cx all j).i,(cx all j).a,b⟩) (fun k hk=>h k (List.mem_cons_of_mem _ hk))
  simp only[fD]
  have e:zj ⟨(cx all j).i,(cx all j).a,b⟩=b+(mr (cx all j).i).page+(mr (cx all j).i).aj:=rfl
  rw[e] at ih ⊢
  simp only[List.length_cons]
  omega
end LM
namespace LW
open Go.RowKit Go.WideMaps Go.Maps
open W (ai)
theorem nv {α:Type} (f:α->List Value) (c:Nat) (hc:∀x,(f x).length=c) (d:α):∀(l:List α) (i j:Nat),i<l.length->j<c->(l.flatMap f)[i*c+j]?=(f (l.getD i d))[j]?
 | a::r,0,j,_,hj=>by
  rw[List.flatMap_cons,Nat.zero_mul,Nat.zero_add,List.getElem?_append_left (by rw[hc];exact hj)]
  rfl
 | a::r,i+1,j,hi,hj=>by
  rw[List.flatMap_cons,List.getElem?_append_right (by rw[hc,Nat.succ_mul];omega),hc,show(i+1)*c+j-c=i*c+j by rw[Nat.succ_mul];omega]
  exact nv f c hc d r i j (by simpa using hi) hj
def RD (all:List LM.Li) (R:Option (List Nat)) (w:World) (e:Ending) (w':World):Prop:=Below w.heap.size w w'/\match R with
 | none=>e=.returned (.tuple #[Nl,.bool false])
 | some ix=>LM.RF all ix/\∃ao cap,e=.returned (.tuple #[.slice ao ix.length cap,.bool true])/\LM.Ox w' ao (LM.cH all 1 ix)
structure Gi (all:List LM.Li) (m:Nat) (D:DataW Value) (w:World):Prop where
 pos:0<all.length
 few:all.length<=7
 YS:∀j,j<all.length->M.ji (LM.cx all j).i=0
 fit:∀j,j<all.length->M.Fit (LM.cx all j).i
 once:M.o9 (LM.fF all)=true
 im:∀j,j<all.length->M.mH w (LM.cx all j).a (LM.cx all j).i
 map:w.ownsMap Tryz.prog 9 LM.Rv m all.length D
 nm:LM.Nm all all.length D
theorem tW {w w':World} {base:Nat} {e:TypeId} {size:Nat} {v:Value} {n:Nat} {xs:List Value} (h:w.ownsRow base e size v n xs) (hb:Below w.heap.size w w'):w'.ownsRow base e size v n xs:=by
 refine⟨h.1,?_⟩
 rcases h.2 with h2 | ⟨g,cap,cur,hv,hbg,hg,rest⟩
 · exact .inl h2
 · exact .inr ⟨g,cap,cur,hv,hbg,(hb.block g (B.isLt hg)).trans hg,rest⟩
end LW
namespace LM
open Go.RowKit
def kO:ByteArray:=⟨(Lib.repeatL [0] 16).toArray⟩
theorem rZ:kO.size=16:=rfl
def sG (s:M.Sg) (n:Nat):ByteArray:=CL.over kO 0 (s.data.extract (min (n*16) s.data.size) (min (min (n*16) s.data.size+16) s.data.size))
theorem extract_size (s:ByteArray) (a b:Nat) (h1:a<=b) (h2:b<=s.size):(s.extract a b).size=b-a:=by
 rw[ByteArray.size_extract]
 omega
structure Pt where
 pos:Int
 bytes:ByteArray
def pt0:Pt:=⟨0,⟨#[]⟩⟩
def yQ (l:List Pt) (k:Nat):Pt:=l.getD k pt0
def yq (w:World) (b off:Nat) (l:List Pt):Prop:=∀i,i<l.length->w.cell? (Ad b (off+i*2))=some (I (yQ l i).pos)/\w.cell? (Ad b (off+i*2+1))=some (.string (yQ l i).bytes)
theorem Qo {w w':World} {b off:Nat} {l:List Pt} (hb:Below w.heap.size w w') (hlt:b<w.heap.size) (h:yq w b off l):yq w' b off l:=fun i hi=>by
 obtain⟨c0,c1⟩:=h i hi
 exact⟨(M.aA hb hlt).trans c0,(M.aA hb hlt).trans c1⟩
def iL (w:World) (ao:Option Addr) (l:List Pt):Prop:=M.dU yq w ao l
theorem iL.below {w w':World} {ao:Option Addr} {l:List Pt} (h:iL w ao l) (hb:Below w.heap.size w w'):iL w' ao l:=M.dU.below (lie:=yq) (fun hb hlt h=>Qo hb hlt h) h hb
def IZ (p:Pt):List Value:=[I p.pos,.string p.bytes]
def Ai (f:Fx):List Value:=[I f.off,.string f.bytes]
def oc (p:Pt):Prop:=0<=p.pos/\p.pos<=1000000/\p.bytes.size=8
def Gt (page:Int) (p:Pt):List Fx:=if max (page*16) p.pos<min (page*16+16) (p.pos+8) then [⟨max (page*16) p.pos-page*16,p.bytes.extract (max (page*16) p.pos-p.pos).toNat (max (page*16) p.pos-p.pos+(min (page*16+16) (p.pos+8)-max (page*16) p.pos)).toNat⟩] else []
def gq (page:Int) (ps:List Pt):List Fx:=ps.flatMap (Gt page)
theorem kY {α:Type} (l:List α) (d:α) (k:Nat) (h:k<l.length):l.take (k+1)=l.take k++[l.getD k d]:=by
 rw[List.take_succ_eq_append_getElem h,List.getD_eq_getElem?_getD,List.getElem?_eq_getElem h]
 rfl
theorem QU (page:Int) (p:Pt):(Gt page p).length<=1:=by
 unfold Gt
 split <;> simp
theorem Ab (page:Int):∀ps:List Pt,(gq page ps).length<=ps.length
 | []=>by simp[gq]
 | p::r=>by
  have h1:=Ab page r
  have h2:=QU page p
  unfold gq at h1 ⊢
  rw[List.flatMap_cons,List.length_append,List.length_cons]
  omega
theorem DI (page:Int) (l:List Pt) (p:Pt):gq page (l++[p])=gq page l++Gt page p:=by
 unfold gq
 rw[List.flatMap_append]
 simp
end LM
end Go.Proofs.YtkdigjpejnebkaaGreat
