import Derived.Test.YtpgifpeohlllfaaGreatGS00
import Derived.Test.YtpgifpeohlllfaaGreatGS03
import Derived.Test.YtpgifpeohlllfaaGreatGS10
import Derived.Test.YtpgifpeohlllfaaGreatGS07
import Derived.Deep.RegionLaw
set_option maxHeartbeats 20000000
set_option linter.unusedVariables false
set_option maxRecDepth 100000
set_option linter.unusedSimpArgs false
namespace Go.Proofs.YtpgifpeohlllfaaGreat
namespace AM
open Go.RowKit
def mark (p:Int) (z:Bool):Int:=1+2*p+(if z then 8 else 0)
def enc (s:St):Int:=if s.m then mark s.p s.z else 0
def rM (G:Nat->Int):Nat->List Value
 | 0=>[]
 | m+1=>rM G m++[I (G m)]
def fZ (G:Nat->Int):Array Value:=(rM G 256).toArray
def Dv (G:Nat->Int) (n:Nat) (x:Int):Nat->Int:=fun k=>if k=n then x else G k
theorem gG (G:Nat->Int):∀m,(rM G m).length=m
 | 0=>rfl
 | m+1=>by simp[rM,gG G m]
theorem nj (G:Nat->Int):(fZ G).size=256:=by simp[fZ,gG]
theorem DU (G:Nat->Int) (n:Nat):∀m,n<m->(rM G m)[n]?=some (I (G n))
 | 0,h=>by omega
 | m+1,h=>by
  simp only[rM]
  by_cases e:n=m
  · subst e
    rw[List.getElem?_append_right (by rw[gG];omega),gG]
    simp
  · rw[List.getElem?_append_left (by rw[gG];omega)]
    exact DU G n m (by omega)
theorem zj (G:Nat->Int) (n:Nat) (hn:n<256):(fZ G)[n]?=some (I (G n)):=by
 unfold fZ
 rw[List.getElem?_toArray]
 exact DU G n 256 hn
theorem xR (F G:Nat->Int):∀m,(∀k,k<m->F k=G k)->rM F m=rM G m
 | 0,_=>rfl
 | m+1,h=>by simp only[rM];rw[xR F G m (fun k hk=>h k (by omega)),h m (by omega)]
theorem DR (G:Nat->Int) (n:Nat) (x:Int):∀m,n<m->(rM G m).set n (I x)=rM (Dv G n x) m
 | 0,h=>by omega
 | m+1,h=>by
  simp only[rM]
  by_cases e:n=m
  · subst e
    rw[List.set_append_right _ _ (by rw[gG];omega),gG,xR (Dv G n x) G n (fun k hk=>by simp[Dv];omega)]
    simp[Dv]
  · rw[List.set_append_left _ _ (by rw[gG];omega),DR G n x m (by omega)]
    congr 2
    simp[Dv];intro h';exact absurd h'.symm e
theorem Hx (G:Nat->Int) (n:Nat) (x:Int) (hn:n<256):(fZ G).setIfInBounds n (I x)=fZ (Dv G n x):=by
 unfold fZ
 rw[<- DR G n x 256 hn]
 simp only[List.setIfInBounds_toArray]
theorem DT (G:Nat->Int):∀m,∀v∈rM G m,v.oneCell'=true
 | 0,v,h=>by simp[rM] at h
 | m+1,v,h=>by
  simp only[rM,List.mem_append,List.mem_singleton] at h
  rcases h with h | rfl
  · exact DT G m v h
  · rfl
theorem sk (G:Nat->Int):(fZ G).all (·.oneCell')=true:=by
 rw[Array.all_eq_true_iff_forall_mem]
 intro v hv
 exact DT G 256 v (by simpa [fZ] using hv)
theorem Mz (F:Nat->St) (n:Nat) (s:St):Dv (fun k=>enc (F k)) n (enc s)=fun k=>enc (upd F n s k):=by
 funext k;simp only[Dv,upd];split <;> rfl
theorem O7 (s:St) (h:0<=s.p):(enc s=0)↔s.m=false:=by
 unfold enc mark
 cases s.m
 · simp
 · simp only[if_true]
   cases s.z <;> simp <;> omega
theorem RO (s t:St) (hs:0<=s.p/\s.p<=3) (ht:0<=t.p/\t.p<=3) (hm:s.m=true):(enc t=enc s)↔qL s t=true:=by
 unfold enc mark qL
 rw[hm]
 cases t.m
 · simp
   cases s.z <;> simp <;> omega
 · cases s.z <;> cases t.z <;> simp <;> omega
theorem O8 (s:St) (hs:0<=s.p/\s.p<=3) (hm:s.m=true):(enc s-1)%8/2=s.p/\(decide (8<=enc s-1)=s.z)/\1<=enc s/\enc s<=15:=by
 unfold enc mark
 rw[hm]
 simp only[if_true]
 cases s.z
 · simp;omega
 · simp;omega
def fC (l:List Ar):Nat->Bool
 | 0=>true
 | k+1=>fC l k&&(dQ (at_ l k).page (at_ l k).aH&&iO (at_ l k).bO)
def gz (l:List Ar) (i:Nat):Bool:=i==0 || decide ((at_ l (i-1)).ez<=(at_ l i).page)
def cB (l:List Ar):Nat->Bool
 | 0=>true
 | k+1=>cB l k&&gz l k
theorem jP (l:List Ar):∀(k n:Nat),k<=n->cB l k=false->cB l n=false
 | k, 0, h, hk => by obtain rfl:k=0 := by omega
                     exact hk
 | k,n+1,h,hk=>by
  by_cases e:k=n+1
  · subst e;exact hk
  · simp[cB,jP l k n (by omega) hk]
theorem vM (a b:Ar) (h:fG a b=true):a.ez<=b.page:=by
 unfold fG at h
 split at h
 · omega
 · simp at h;omega
theorem uF (l:List Ar):∀k,gB l k=true->fC l k=true/\cB l k=true
 | 0,_=>⟨rfl,rfl⟩
 | k+1,h=>by
  simp only[gB,Bool.and_eq_true] at h
  have ih:=uF l k h.1
  have hk:=h.2
  simp only[nu,Bool.and_eq_true,Bool.or_eq_true,beq_iff_eq] at hk
  refine⟨by simp[fC,ih.1,hk.1.1,hk.1.2],?_⟩
  simp only[cB,ih.2,gz,Bool.true_and,Bool.or_eq_true,beq_iff_eq,decide_eq_true_eq]
  rcases hk.2 with e | e
  · exact .inl e
  · exact .inr (vM _ _ e)
theorem xt (l:List Ar):∀k,fC l k=true->∀i,i<k->dQ (at_ l i).page (at_ l i).aH=true/\iO (at_ l i).bO=true
 | 0,_,i,hi=>by omega
 | k+1,h,i,hi=>by
  simp only[fC,Bool.and_eq_true] at h
  by_cases e:i=k
  · subst e;exact h.2
  · exact xt l k h.1 i (by omega)
theorem Bo (l:List Ar) (n:Nat) (h:fC l n=true):∀k,k<=n->(bB l k 0).m=false/\(∀m,(bB l k m).m=false->bB l k m=off)/\(∀m,0<=(bB l k m).p/\(bB l k m).p<=3)
 | 0,_=>⟨rfl,fun n _=>rfl,fun n=>by simp[bB,off]⟩
 | k+1,hk=>by
  have ih:=Bo l n h k (by omega)
  have ho:=xt l n h k (by omega)
  have h1:=(jr _ _).1 ho.1
  have h2:0<=(at_ l k).bO/\(at_ l k).bO<=3:=of_decide_eq_true ho.2
  refine⟨?_,fun n=>?_,fun n=>?_⟩
  · simp only[bB,gP];rw[if_neg (by omega)];exact ih.1
  · simp only[bB,gP]
    split
    · intro h;simp at h
    · exact ih.2.1 n
  · simp only[bB,gP]
    split
    · exact h2
    · exact ih.2.2 n
theorem Bk (l:List Ar) (h:fC l l.length=true):tT (cK l):=by
 have h:=Bo l l.length h l.length (Nat.le_refl _)
 exact⟨h.1,h.2.1,h.2.2⟩
theorem NC (G:List Ar) (n:Nat):(look G n).m=(aM G n).2:=by
 unfold look
 by_cases c:(aM G n).2=true
 · simp[c]
 · simp[off,show(aM G n).2=false by simpa using c]
theorem AV (G:List Ar) (a:Ar) (h:iz G a=true) (hne:0<G.length):(iT G).ez<=a.page:=by
 simp only[iz,Bool.and_eq_true,Bool.or_eq_true,beq_iff_eq] at h
 rcases h.2 with e | e
 · omega
 · exact vM _ _ e
theorem lO (G:List Ar) (a:Ar) (h:iz G a=true):1<=a.page/\1<=a.aH/\a.aH<=256-a.page:=by
 simp only[iz,Bool.and_eq_true] at h
 exact(jr _ _).1 h.1.1
theorem uy (G:List Ar) (a:Ar) (hg:good G=true) (h:iz G a=true) (n:Nat) (hn:a.page<=(n:Int)):(aM G n).2=false:=by
 by_cases c:(aM G n).2=true
 · have hb:=jx _ G rfl hg n c
   have hne:0<G.length:=by
    rcases Nat.eq_zero_or_pos G.length with e | e
    · have e':G=[]:=List.eq_nil_of_length_eq_zero e
      subst e';simp[aM] at c
    · exact e
   have:=AV G a h hne
   omega
 · simpa using c
theorem kr (G:List Ar) (a:Ar) (hg:good G=true) (h:iz G a=true) (n:Nat) (h1:a.page<=(n:Int)) (h2:(n:Int)<a.page+a.aH):look (G++[a]) n=⟨true,a.bO,a.zero⟩:=by
 rw[nY,if_neg (by rw[uy G a hg h n h1];simp),if_pos ((mY a n).2 ⟨h1,h2⟩)]
theorem rU (G:List Ar) (a:Ar) (n:Nat) (h1:¬(a.page<=(n:Int)/\(n:Int)<a.page+a.aH)):look (G++[a]) n=look G n:=by
 rw[nY]
 by_cases c:(aM G n).2=true
 · rw[if_pos c]
 · rw[if_neg c,if_neg (fun e=>h1 ((mY a n).1 e))]
   unfold look
   simp[show(aM G n).2=false by simpa using c]
theorem vB:∀(m:Nat) (G H:List Ar),G.length=m->good G=true->good H=true->(∀n:Nat,look G n=look H n)->G=H
 | 0,G,H,hm,hG,hH,he=>by
  have e:G=[]:=List.eq_nil_of_length_eq_zero hm
  subst e
  rcases List.eq_nil_or_concat H with rfl | ⟨H',b,rfl⟩
  · rfl
  · rw[List.concat_eq_append] at *
    rw[iM,Bool.and_eq_true] at hH
    have hb:=lO _ _ hH.2
    have h1:=kr H' b hH.1 hH.2 b.page.toNat (by omega) (by omega)
    rw[<- he] at h1
    have:=congrArg St.m h1
    simp[look,aM,off] at this
 | m+1,G,H,hm,hG,hH,he=>by
  rcases List.eq_nil_or_concat G with rfl | ⟨G',a,rfl⟩
  · simp at hm
  · rw[List.concat_eq_append] at *
    have hG0:=hG
    rw[iM,Bool.and_eq_true] at hG
    have ha:=lO _ _ hG.2
    rcases List.eq_nil_or_concat H with rfl | ⟨H',b,rfl⟩
    · have h1:=kr G' a hG.1 hG.2 a.page.toNat (by omega) (by omega)
      rw[he] at h1
      have:=congrArg St.m h1
      simp[look,aM,off] at this
    · rw[List.concat_eq_append] at *
      have hH0:=hH
      rw[iM,Bool.and_eq_true] at hH
      have hb:=lO _ _ hH.2
      have up:∀(X Y:List Ar) (x y:Ar),good X=true->iz X x=true->good (Y++[y])=true->(∀n:Nat,look (X++[x]) n=look (Y++[y]) n)->1<=x.page->1<=x.aH->x.page+x.aH<=y.page+y.aH:=by
       intro X Y x y hX hx hY hxy h1 h2
       have e1:=kr X x hX hx (x.page+x.aH-1).toNat (by omega) (by omega)
       rw[hxy] at e1
       have e2:(aM (Y++[y]) ((x.page+x.aH-1).toNat:Nat)).2=true:=by rw[<- NC,e1]
       have e3:=(jx _ _ rfl hY _ e2).2
       rw[eT] at e3
       unfold Ar.ez at e3
       omega
      have hend:a.page+a.aH=b.page+b.aH:=Int.le_antisymm (up G' H' a b hG.1 hG.2 hH0 he ha.1 ha.2.1) (up H' G' b a hH.1 hH.2 hG0 (fun n=>(he n).symm) hb.1 hb.2.1)
      have Dh:=kr G' a hG.1 hG.2 (a.page+a.aH-1).toNat (by omega) (by omega)
      have hl2:=kr H' b hH.1 hH.2 (a.page+a.aH-1).toNat (by omega) (by omega)
      rw[he,hl2] at Dh
      have Ew:b.bO=a.bO:=congrArg St.p Dh
      have hze:b.zero=a.zero:=congrArg St.z Dh
      have beg:∀(X Y:List Ar) (x y:Ar),good X=true->iz X x=true->good Y=true->iz Y y=true->(∀n:Nat,look (X++[x]) n=look (Y++[y]) n)->x.page+x.aH=y.page+y.aH->y.bO=x.bO->y.zero=x.zero->1<=x.page->1<=y.aH->y.page<=x.page:=by
       intro X Y x y hX hx hY hy hxy hen hp hz h1 h2
       by_cases c:y.page<=x.page
       · exact c
       · exfalso
         have e1:=kr X x hX hx (y.page-1).toNat (by omega) (by omega)
         rw[hxy,rU Y y _ (by omega)] at e1
         have e2:(aM Y ((y.page-1).toNat:Nat)).2=true:=by rw[<- NC,e1]
         have e3:=(jx _ _ rfl hY _ e2).2
         have hne:0<Y.length:=by
          rcases Nat.eq_zero_or_pos Y.length with e | e
          · have e':Y=[]:=List.eq_nil_of_length_eq_zero e
            subst e';simp[aM] at e2
          · exact e
         have e4:=AV Y y hy hne
         have e5:(iT Y).ez=y.page:=by omega
         have hfo:=hy
         simp only[iz,Bool.and_eq_true,Bool.or_eq_true,beq_iff_eq] at hfo
         have Om:fG (iT Y) y=true:=by
          rcases hfo.2 with e | e
          · omega
          · exact e
         unfold fG at Om
         rw[if_pos e5.symm] at Om
         rcases List.eq_nil_or_concat Y with rfl | ⟨Y',z,rfl⟩
         · simp at hne
         · rw[List.concat_eq_append] at *
           rw[eT] at e5 Om
           unfold Ar.ez at e5
           have YX:=hY
           rw[iM,Bool.and_eq_true] at YX
           have hzp:=lO _ _ YX.2
           have e6:=kr Y' z YX.1 YX.2 (y.page-1).toNat (by omega) (by omega)
           rw[e6] at e1
           have q1:z.bO=x.bO:=congrArg St.p e1
           have q2:z.zero=x.zero:=congrArg St.z e1
           rw[hp,hz,q1,q2] at Om
           simp at Om
      have YN:a.page=b.page:=Int.le_antisymm (beg H' G' b a hH.1 hH.2 hG.1 hG.2 (fun n=>(he n).symm) hend.symm Ew.symm hze.symm hb.1 ha.2.1) (beg G' H' a b hG.1 hG.2 hH.1 hH.2 he hend Ew hze ha.1 hb.2.1)
      have hab:a=b:=by
       cases a;cases b
       simp only at YN hend Ew hze
       subst YN;subst Ew;subst hze
       congr 1
       omega
      subst hab
      have ih:=vB m G' H' (by simpa using hm) hG.1 hH.1 (fun n=>by
       by_cases c:a.page<=(n:Int)
       · have x1:=uy G' a hG.1 hG.2 n c
         have x2:=uy H' a hH.1 hH.2 n c
         unfold look
         simp[x1,x2]
       · have x1:=rU G' a n (by omega)
         have x2:=rU H' a n (by omega)
         rw[<- x1,<- x2];exact he n)
      rw[ih]
theorem Ac (l:List Ar) (hc:aR l=0):eJ (cK l)=l:=by
 have hF:=vN l hc
 have hg:=rh l hc
 refine vB _ _ _ rfl (vI _ hF) hg (fun n=>?_)
 rw[mN l _ l rfl hg n]
 by_cases hn:n<256
 · exact vD _ hF n hn
 · have:=(oK _ hF 256 (Nat.le_refl _)).look n
   rw[if_neg hn] at this
   rw[show look (eJ (cK l)) n=off from this]
   have e:look l n=off:=by
    unfold look
    by_cases c:(aM l n).2=true
    · exfalso
      have hb:=(jx _ l rfl hg n c).2
      have hne:0<l.length:=by
       rcases Nat.eq_zero_or_pos l.length with e | e
       · have e':l=[]:=List.eq_nil_of_length_eq_zero e
         subst e';simp[aM] at c
       · exact e
      have ho:=df l (l.length-1) (cR l hc _ (by omega))
      unfold iT Ar.ez at hb
      omega
    · simp[show(aM l n).2=false by simpa using c]
   rw[<- mN l _ l rfl hg n,e]
end AM
namespace AW
open Go.RowKit
theorem eG (n a b:Int) (w:World):Calls Tryz.prog 44 #[I n,I a,I b] w fun e w'=>e=.returned (.bool (decide (a<=n/\n<=b)))/\w=w':=by
 by_cases h1:a<=n
 · by_cases h2:n<=b
   · rw[show decide (a<=n/\n<=b)=true from decide_eq_true ⟨h1,h2⟩]
     go_enter Tryz.func44,Tryz.ntmps44
     go_wp2
     go_ret
     exact⟨rfl,rfl⟩
   · have d:decide (n<=b)=false:=decide_eq_false h2
     rw[show decide (a<=n/\n<=b)=false from decide_eq_false (by omega)]
     go_enter Tryz.func44,Tryz.ntmps44
     go_wp2
     go_ret
     exact⟨rfl,rfl⟩
 · have d:decide (a<=n)=false:=decide_eq_false h1
   rw[show decide (a<=n/\n<=b)=false from decide_eq_false (by omega)]
   go_enter Tryz.func44,Tryz.ntmps44
   go_wp2
   go_ret
   exact⟨rfl,rfl⟩
theorem Ny (p:Int) (z:Bool) (w:World) (h:0<=p/\p<=3):Calls Tryz.prog 127 #[I p,.bool z] w fun e w'=>e=.returned (I (AM.mark p z))/\w=w':=by
 cases z
 · go_enter Tryz.func127,Tryz.ntmps127
   go_wp2
   go_ret
   exact⟨dE (by simp[AM.mark]),rfl⟩
 · go_enter Tryz.func127,Tryz.ntmps127
   go_wp2
   go_ret
   exact⟨dE (by simp[AM.mark]),rfl⟩
theorem Mu:(Tryz.prog.info? 177).map (fun i=>(i.zero,i.size))=some (some (.agg (AM.fZ (fun _=>0))),256):=by kernel_rfl
theorem kq:(Tryz.prog.info? 177).map (·.size)=some 256:=(zero_of_info Mu).2
theorem Um (w:World):(zeroValue 177).run Tryz.prog w=.ok (.agg (AM.fZ (fun _=>0))) w:=(zero_of_info Mu).1 w
def bd (F:Nat->AM.St):Array Value:=AM.fZ (fun n=>AM.enc (F n))
theorem Jq (F:Nat->AM.St):(bd F).size=256:=AM.nj _
def JC (l:List AM.Ar) (C:Array Value):Prop:=C.size=256/\C.all (·.oneCell')=true/\(AM.cB l l.length=true->C=bd (AM.cK l))
theorem CY (l:List AM.Ar) (b off cap:Nat) (w:World) (hl:AM.Bx w b off l) (he:AM.fC l l.length=true) (hn:l.length<=255) :
  Calls Tryz.prog 126 #[.slice (some (Ad b off)) l.length cap] w fun e w'=>∃C,e=.returned (.tuple #[.agg C,.bool (AM.cB l l.length)])/\JC l C/\Below w.heap.size w w':=by
 have HE:Hid (AM.fC l l.length=true):=he
 clear he
 obtain⟨Z,hZ⟩:=ex (AM.fZ (fun _=>0))
 have hz:=Um
 rw[<- hZ] at hz
 have HZ:Hid (Z=AM.fZ (fun _=>0)):=hZ
 have Dk:Z.size=256:=by rw[hZ];exact AM.nj _
 clear hZ
 go_enter Tryz.func126,Tryz.ntmps126
 go_wp2
 go_loopw [5,6] (fun la i wr=>∃(k:Nat) (t:Int),k<=l.length/\i=I k/\la=I t/\(k=0/\t=0∨0<k/\t=(AM.at_ l (k-1)).page+(AM.at_ l (k-1)).aH-1)/\AM.cB l k=true/\wr.heap[w.heap.size]?=some (.cells Z 177 (0,0))/\wr.heap[w.heap.size+1]?=some (.cells (bd (AM.bB l k)) 177 (0,0))/\Below w.heap.size w wr) (fun _ i _=>l.length-(intOf i).toNat)
 case atStart =>
  refine⟨0,0,by omega,rfl,rfl,.inl ⟨rfl,rfl⟩,rfl,B.alloc (B.new w Z 177) _,?_,((Below.refl _ _).alloc (Nat.le_refl _) _).alloc (by simp) _⟩
  have e:bd (AM.bB l 0)=Z:=by rw[HZ.o];rfl
  rw[e]
  have:=B.new (w.alloc (.cells Z 177)) Z 177
  simpa using this
 case round =>
  obtain⟨k,t,hk,rfl,rfl,hlast,WK,hR,hA,hb⟩:=hrel
  have HR:Hid (wr.heap[w.heap.size]?=some (.cells Z 177 (0,0))):=hR
  have HA:Hid (wr.heap[w.heap.size+1]?=some (.cells (bd (AM.bB l k)) 177 (0,0))):=hA
  have HB:Hid (Below w.heap.size w wr):=hb
  have Fj:Hid (AM.cB l k=true):=WK
  have HL:Hid (k=0/\t=0∨0<k/\t=(AM.at_ l (k-1)).page+(AM.at_ l (k-1)).aH-1):=hlast
  have hsz:w.heap.size+2<=wr.heap.size:=B.isLt hA
  by_cases hlt:k<l.length
  · obtain⟨c0,c1,c2,c3⟩:=hl.below hb k hlt
    have FE:=AM.xt l _ HE.o k hlt
    have hbk:=(AM.jr _ _).1 FE.1
    have Ew:0<=(AM.at_ l k).bO/\(AM.at_ l k).bO<=3:=of_decide_eq_true FE.2
    have N6:Hid (AM.gz l k=decide (t<(AM.at_ l k).page)):=by
     show _=_
     unfold AM.gz
     rcases HL.o with⟨h1,h2⟩ | ⟨h1,h2⟩
     · rw[h1,h2]
       rw[h1] at hbk
       simp
       omega
     · have Oj:(k==0)=false:=by simp;omega
       rw[Oj,Bool.false_or]
       unfold AM.Ar.ez
       rw[h2]
       exact decide_eq_decide.2 (by omega)
    obtain⟨a,ha⟩:=ex (AM.at_ l k)
    rw[<- ha] at c0 c1 c2 c3 hbk N6 Ew
    have HAr:Hid (a=AM.at_ l k):=ha
    clear ha hR hA hb hlast WK FE
    have hkl:(k:Int)<(l.length:Int):=by omega
    by_cases hup:t<a.page
    · have abT:¬a.page<=t:=by omega
      obtain⟨wo,hwo⟩:∃wo:World,wo=wr:=⟨_,rfl⟩
      subst hwo
      go_wp2
      go_loopw [8] (fun tt wi=>∃n:Nat,a.page<=(n:Int)/\(n:Int)<=a.page+a.aH/\tt=I n/\wi.heap[w.heap.size]?=some (.cells Z 177 (0,0))/\wi.heap[w.heap.size+1]?=some (.cells (bd (AM.gP (AM.bB l k) a n)) 177 (0,0))/\wi.heap[wo.heap.size]?=some (.cells #[I a.page,I a.aH,I a.bO,.bool a.zero] 47 (0,0))/\Below w.heap.size w wi) (fun tt _=>(a.page+a.aH-intOf tt).toNat)
      case atStart =>
       refine⟨a.page.toNat,by omega,by omega,by rw[Int.toNat_of_nonneg (by omega)],B.alloc HR.o _,?_,B.new _ _ _,HB.o.alloc HB.o.size _⟩
       rw[Int.toNat_of_nonneg (by omega),AM.vk]
       exact B.alloc HA.o _
      case round =>
       obtain⟨n,Oe,q9,rfl,iR,iA,iX,ib⟩:=hrel
       have IR:Hid (wr.heap[w.heap.size]?=some (.cells Z 177 (0,0))):=iR
       have IA:Hid (wr.heap[w.heap.size+1]?=some (.cells (bd (AM.gP (AM.bB l k) a n)) 177 (0,0))):=iA
       have IB:Hid (Below w.heap.size w wr):=ib
       have x0:=B.cell iX 0 rfl
       have x1:=B.cell iX 1 rfl
       have x2:=B.cell iX 2 rfl
       have x3:=B.cell iX 3 rfl
       have IX:Hid (wr.heap[wo.heap.size]?=some (.cells #[I a.page,I a.aH,I a.bO,.bool a.zero] 47 (0,0))):=iX
       clear iR iX ib
       by_cases hin:(n:Int)<a.page+a.aH
       · have hin':(n:Int)<=a.page+a.aH-1:=by omega
         have z0:=B.cell iA n (AM.zj _ n (by omega))
         have zf:=B.free iA
         have TC:(n:Int)<256:=by omega
         clear iA
         go_wp2_with (first | (go_at_call 127;refine(Ny _ _ _ Ew).mono ?_;rintro e w' ⟨rfl,rfl⟩))
         go_roundw
         case rel =>
          refine⟨n+1,by omega,by omega,by go_num,B.other IR.o _ _ _ (by omega),?_,B.other IX.o _ _ _ (by omega),IB.o.setCell (by simp) _⟩
          have h:=B.set IA.o n (I (AM.mark a.bO a.zero))
          have e:(bd (AM.gP (AM.bB l k) a n)).setIfInBounds n (I (AM.mark a.bO a.zero))=bd (AM.gP (AM.bB l k) a ((n:Int)+1)):=by
           unfold bd
           rw[AM.Hx _ n _ (by omega),<- AM.yz _ _ _ Oe]
           congr 1
           exact AM.Mz (AM.gP (AM.bB l k) a n) n ⟨true,a.bO,a.zero⟩
          rw[e] at h
          rw[show((n+1:Nat):Int)=(n:Int)+1 from by omega]
          exact h
         case measure=>simp[intOf];omega
       · have hin':¬(n:Int)<=a.page+a.aH-1:=by omega
         have hE2:Hid ((n:Int)=a.page+a.aH):=by show _=_;omega
         clear iA
         go_wp2
         go_roundw
         case rel =>
          refine⟨k+1,a.page+a.aH-1,by omega,by go_num,rfl,.inr ⟨by omega,?_⟩,?_,IR.o,?_,IB.o⟩
          · rw[Nat.add_sub_cancel,<- HAr.o]
          · simp only[AM.cB,Fj.o,N6.out,Bool.true_and]
            exact decide_eq_true hup
          · have h:=IA.o
            rw[hE2.out] at h
            show _=some (Obj.cells (bd (AM.gP (AM.bB l k) (AM.at_ l k) (AM.at_ l k).ez)) 177 (0,0))
            rw[<- HAr.o]
            exact h
         case measure=>simp[intOf];omega
    · have abT:a.page<=t:=by omega
      have hbad:Hid (AM.cB l l.length=false):=by
       show _=_
       have e:AM.cB l (k+1)=false:=by simp only[AM.cB,Fj.o,N6.out,Bool.true_and];exact decide_eq_false hup
       exact AM.jP l (k+1) l.length (by omega) e
      have Dl:Hid ((wr.alloc (.cells #[I a.page,I a.aH,I a.bO,.bool a.zero] 47)).heap[w.heap.size+1]?=some (.cells (bd (AM.bB l k)) 177 (0,0))):=B.alloc HA.o _
      have CN:Hid ((wr.alloc (.cells #[I a.page,I a.aH,I a.bO,.bool a.zero] 47)).heap[w.heap.size]?=some (.cells Z 177 (0,0))):=B.alloc HR.o _
      have hB2:Hid (Below w.heap.size w (wr.alloc (.cells #[I a.page,I a.aH,I a.bO,.bool a.zero] 47))):=HB.o.alloc HB.o.size _
      obtain⟨D,hD⟩:=ex (bd (AM.bB l k))
      have OO:D.size=256:=by rw[hD];exact Jq _
      have Zc:D.all (·.oneCell')=true:=by rw[hD];exact AM.sk _
      rw[<- hD] at Dl
      clear hD
      go_wp2_with (first | (refine wpList_load_row rfl 177 _ rfl (w.heap.size+1) rfl 177 D (0,0) _ Dl.out Tryz.underlying177 rfl (by rw[OO];exact kq) ?_) | (refine wpList_store_row rfl 177 _ _ rfl w.heap.size D rfl rfl 177 Z CN.out (by rw[OO];exact kq) (by rw[Dk,OO]) Zc ?_))
      have hfin:=setRow_heap _ _ _ D 177 (0,0) CN.out
      have Yu:=run_loadVar_row (P:=Tryz.prog) _ _ 177 177 D (0,0) _ hfin Tryz.underlying177 rfl (by rw[OO];exact kq)
      refine bodyPost_ret (v:=.tuple #[.agg D,.bool false]) ?_ rfl ⟨D,by rw[hbad.out],⟨OO,Zc,fun h=>(by rw[hbad.out] at h;cases h)⟩,below_setRow hB2.out (Nat.le_refl _) _⟩
      rw[results_cell_tmp rfl]
      simp[asAddr,Result.andThen,Yu]
  · obtain rfl:k=l.length:=by omega
    obtain⟨D,hD⟩:=ex (bd (AM.bB l l.length))
    have OO:D.size=256:=by rw[hD];exact Jq _
    have Zc:D.all (·.oneCell')=true:=by rw[hD];exact AM.sk _
    have HD:Hid (D=bd (AM.bB l l.length)):=hD
    rw[<- hD] at HA
    clear hD hR hA hb hlast WK
    go_wp2_with (first | (refine wpList_load_row rfl 177 _ rfl (w.heap.size+1) rfl 177 D (0,0) _ HA.o Tryz.underlying177 rfl (by rw[OO];exact kq) ?_) | (refine wpList_store_row rfl 177 _ _ rfl w.heap.size D rfl rfl 177 Z HR.o (by rw[OO];exact kq) (by rw[Dk,OO]) Zc ?_))
    have hfin:=setRow_heap _ _ _ D 177 (0,0) HR.o
    have Yu:=run_loadVar_row (P:=Tryz.prog) _ _ 177 177 D (0,0) _ hfin Tryz.underlying177 rfl (by rw[OO];exact kq)
    refine bodyPost_ret (v:=.tuple #[.agg D,.bool true]) ?_ rfl ⟨D,by rw[Fj.o],⟨OO,Zc,fun _=>HD.o⟩,below_setRow HB.o (Nat.le_refl _) _⟩
    rw[results_cell_tmp rfl]
    simp[asAddr,Result.andThen,Yu]
end AW
namespace LW
open Go.RowKit
open W (ai)
theorem zR (s:LM.Sh) (w:World) (h:LM.nE w s.ao s.bh) (hf:LM.De s) :
  Calls Tryz.prog 89 #[.agg (LM.ll s)] w fun e w'=>e=.returned (.bool (LM.bN s))/\Below w.heap.size w w':=by
 obtain⟨f1,f2,f3,f4⟩:=hf
 obtain⟨pg,dt,fs,ao,cap⟩:=s
 simp only at f1 f2 f3 f4
 unfold M.gj at f1
 unfold M.bf at f2 f3
 simp only[LM.ll]
 have hdl:dt.size<=maxLen:=by unfold maxLen;omega
 have F4:=ai f4
 have HH:=ai h
 clear f4 h
 have HB:=ai ((Below.refl w.heap.size w).alloc (Nat.le_refl _) (.cells #[I pg,.string dt,.slice ao fs.length cap] 50))
 have BX:=ai (B.new w #[I pg,.string dt,.slice ao fs.length cap] 50)
 by_cases h1:1<=pg/\pg<=255
 · have d1:decide (1<=pg/\pg<=255)=true:=decide_eq_true h1
   by_cases h3:dt.size=16
   · by_cases h4:fs.length<=16
     · have h3':(dt.size:Int)=16:=by omega
       have h4':¬(16:Int)<(fs.length:Int):=by omega
       have e:LM.jE ⟨pg,dt,fs,ao,cap⟩=true:=by
        unfold LM.jE
        exact decide_eq_true ⟨h1.1,h1.2,h3⟩
       have E:Hid (LM.bN ⟨pg,dt,fs,ao,cap⟩=LM.b7 fs fs.length):=by
        show _=_
        unfold LM.bN
        rw[e,Bool.true_and]
       clear e h3
       go_enter Tryz.func89,Tryz.ntmps89
       go_wp2_with (go_at_call 44;refine(AW.eG _ _ _ _).mono ?_;rintro e w' ⟨rfl,rfl⟩;rw[d1])
       go_loopw [4,3] (fun i en wr=>∃k:Nat,k<=fs.length/\i=I k/\en=I (LM.lD fs k)/\LM.b7 fs k=true/\Below w.heap.size w wr/\wr.heap[w.heap.size]?=some (.cells #[I pg,.string dt,.slice ao fs.length cap] 50 (0,0))) (fun i _ _=>fs.length-(intOf i).toNat)
       case atStart=>exact⟨0,by omega,rfl,rfl,rfl,HB.o,BX.o⟩
       case round =>
        obtain⟨k,hk,rfl,rfl,hg,hb,lB⟩:=hrel
        have HG:=ai hg
        have fw:=ai hb
        have Qt:=ai lB
        have x2:=B.cell lB 2 rfl
        clear hg lB
        by_cases hlt:k<fs.length
        · obtain⟨b,off,hao,hbl,bM⟩:=(HH.o.below hb) (by omega)
          subst hao
          obtain⟨c0,c1⟩:=bM k hlt
          obtain⟨g1,g2⟩:=F4.o k hlt
          have YE:=LM.jg fs k HG.o
          obtain⟨f,vw⟩:=ex (LM.lQ fs k)
          rw[<- vw] at c0 c1 g1 g2
          unfold M.gj at g1
          unfold M.bf at g2
          have hfl:f.bytes.size<=maxLen:=by unfold maxLen;omega
          have sK:=ai vw
          clear vw bM hb
          obtain⟨en,hen⟩:=ex (LM.lD fs k)
          rw[<- hen] at YE
          have iG:=ai hen
          rw[<- hen]
          clear hen
          have cJ:=ai (fw.o.alloc fw.o.size (.cells #[I f.off,.string f.bytes] 52))
          have BXA:=ai (B.alloc Qt.o (.cells #[I f.off,.string f.bytes] 52))
          by_cases q1:en<=f.off/\f.off<=16
          · have z1:decide (en<=f.off/\f.off<=16)=true:=decide_eq_true q1
            by_cases q3:1<=(f.bytes.size:Int)/\(f.bytes.size:Int)<=16-f.off
            · have z2:decide (1<=(f.bytes.size:Int)/\(f.bytes.size:Int)<=16-f.off)=true:=decide_eq_true q3
              have HX:Hid (LM.b7 fs (k+1)=true):=by
               show _=_
               simp only[LM.b7,Bool.and_eq_true]
               exact⟨HG.o,by rw[<- sK.o,<- iG.o];exact(LM.oc _ _).2 (by omega)⟩
              have HY:Hid (LM.lD fs (k+1)=f.off+(f.bytes.size:Int)):=by show _=_;simp only[LM.lD];rw[<- sK.o]
              go_wp2_with (first | (go_at_call 44;have _:=FA;refine(AW.eG _ _ _ _).mono ?_;rintro e w' ⟨rfl,rfl⟩;rw[z2]) | (go_at_call 44;refine(AW.eG _ _ _ _).mono ?_;rintro e w' ⟨rfl,rfl⟩;rw[z1];have FA:=trivial))
              go_roundw
              case rel=>exact⟨k+1,by omega,by go_num,by rw[HY.o],HX.o,cJ.o,BXA.o⟩
              case measure=>simp[intOf];omega
            · have z2:decide (1<=(f.bytes.size:Int)/\(f.bytes.size:Int)<=16-f.off)=false:=decide_eq_false q3
              have HX:Hid (LM.b7 fs fs.length=false):=LM.l7 fs k hlt (by rw[<- sK.o,<- iG.o];exact LM.qB (by omega))
              go_wp2_with (first | (go_at_call 44;have _:=FA;refine(AW.eG _ _ _ _).mono ?_;rintro e w' ⟨rfl,rfl⟩;rw[z2]) | (go_at_call 44;refine(AW.eG _ _ _ _).mono ?_;rintro e w' ⟨rfl,rfl⟩;rw[z1];have FA:=trivial))
              go_ret
              exact⟨bV (by rw[E.o,HX.o]),cJ.o⟩
          · have z1:decide (en<=f.off/\f.off<=16)=false:=decide_eq_false q1
            have HX:Hid (LM.b7 fs fs.length=false):=LM.l7 fs k hlt (by rw[<- sK.o,<- iG.o];exact LM.qB (by omega))
            go_wp2_with (go_at_call 44;refine(AW.eG _ _ _ _).mono ?_;rintro e w' ⟨rfl,rfl⟩;rw[z1])
            go_ret
            exact⟨bV (by rw[E.o,HX.o]),cJ.o⟩
        · obtain rfl:k=fs.length:=by omega
          go_wp2
          go_ret
          exact⟨bV (by rw[E.o,HG.o]),fw.o⟩
     · have h3':(dt.size:Int)=16:=by omega
       have h4':(16:Int)<(fs.length:Int):=by omega
       have e:LM.bN ⟨pg,dt,fs,ao,cap⟩=false:=by
        unfold LM.bN
        cases e:LM.b7 fs fs.length
        · exact Bool.and_false _
        · have:=LM.jg fs fs.length e
          omega
       rw[e]
       go_enter Tryz.func89,Tryz.ntmps89
       go_wp2_with (go_at_call 44;refine(AW.eG _ _ _ _).mono ?_;rintro e w' ⟨rfl,rfl⟩;rw[d1])
       go_ret
       exact⟨rfl,HB.o⟩
   · have h3':((dt.size:Int)==16)=false:=by simp;omega
     have e:LM.bN ⟨pg,dt,fs,ao,cap⟩=false:=by
      unfold LM.bN LM.jE
      rw[decide_eq_false (fun h=>h3 h.2.2),Bool.false_and]
     rw[e]
     go_enter Tryz.func89,Tryz.ntmps89
     go_wp2_with (go_at_call 44;refine(AW.eG _ _ _ _).mono ?_;rintro e w' ⟨rfl,rfl⟩;rw[d1])
     go_ret
     exact⟨rfl,HB.o⟩
 · have d1:decide (1<=pg/\pg<=255)=false:=decide_eq_false h1
   have e:LM.bN ⟨pg,dt,fs,ao,cap⟩=false:=by
    unfold LM.bN LM.jE
    rw[decide_eq_false (fun h=>h1 ⟨h.1,h.2.1⟩),Bool.false_and]
   rw[e]
   go_enter Tryz.func89,Tryz.ntmps89
   go_wp2_with (go_at_call 44;refine(AW.eG _ _ _ _).mono ?_;rintro e w' ⟨rfl,rfl⟩;rw[d1])
   go_ret
   exact⟨rfl,HB.o⟩
theorem Hl (s:LM.Sh) (w:World) (h:LM.nE w s.ao s.bh) (hf:LM.De s) (hs:LM.bN s=true) :
  Calls Tryz.prog 92 #[.agg (LM.ll s)] w fun e w'=>e=.returned (.string (LM.mA s))/\Below w.heap.size w w':=by
 obtain⟨f1,f2,f3,f4⟩:=hf
 obtain⟨pg,dt,fs,ao,cap⟩:=s
 simp only at f1 f2 f3 f4
 unfold M.bf at f2 f3
 simp only[LM.ll]
 have hdl:dt.size<=maxLen:=by unfold maxLen;omega
 have HH:=ai h
 clear f4 h f1
 have HB:=ai ((Below.refl w.heap.size w).alloc (Nat.le_refl _) (.cells #[I pg,.string dt,.slice ao fs.length cap] 50))
 have BX:=ai (B.new w #[I pg,.string dt,.slice ao fs.length cap] 50)
 have HN:Hid (LM.mA ⟨pg,dt,fs,ao,cap⟩=LM.jT dt fs fs.length):=rfl
 obtain⟨hd,Ha⟩:LM.jE ⟨pg,dt,fs,ao,cap⟩=true/\LM.b7 fs fs.length=true:=by
  unfold LM.bN at hs
  simpa using hs
 have h16:dt.size=16:=by
  unfold LM.jE at hd
  exact(of_decide_eq_true hd).2.2
 have Ik:=ai Ha
 clear hs hd Ha
 rw[HN.o]
 go_enter Tryz.func92,Tryz.ntmps92
 go_wp2
 go_loopw [4,3] (fun i d wr=>∃k:Nat,k<=fs.length/\i=I k/\d=.string (LM.jT dt fs k)/\Below w.heap.size w wr/\wr.heap[w.heap.size]?=some (.cells #[I pg,.string dt,.slice ao fs.length cap] 50 (0,0))) (fun i _ _=>fs.length-(intOf i).toNat)
 case atStart=>exact⟨0,by omega,rfl,rfl,HB.o,BX.o⟩
 case round =>
  obtain⟨k,hk,rfl,rfl,hb,lB⟩:=hrel
  have fw:=ai hb
  have Qt:=ai lB
  have x2:=B.cell lB 2 rfl
  clear lB
  by_cases hlt:k<fs.length
  · obtain⟨b,off,hao,hbl,bM⟩:=(HH.o.below hb) (by omega)
    subst hao
    obtain⟨c0,c1⟩:=bM k hlt
    have hok:=(LM.oc _ _).1 (LM.r7 fs fs.length Ik.o k hlt)
    have P4:LM.b7 fs k=true:=by
     cases e:LM.b7 fs k
     · rw[LM.kO fs k fs.length (by omega) e] at Ik
       cases Ik
     · rfl
    have YE:=LM.jg fs k P4
    have hsz:=LM.mU dt fs h16 k P4
    have ji:Hid (LM.jT dt fs (k+1)=CL.over (LM.jT dt fs k) (LM.lQ fs k).off.toNat (LM.lQ fs k).bytes):=rfl
    obtain⟨f,vw⟩:=ex (LM.lQ fs k)
    rw[<- vw] at c0 c1 hok ji
    obtain⟨D,hD⟩:=ex (LM.jT dt fs k)
    rw[<- hD] at hsz ji
    rw[<- hD]
    obtain⟨o,ho⟩:∃o:Nat,f.off=(o:Int):=⟨f.off.toNat,by omega⟩
    rw[ho] at c0 hok
    rw[ho,Int.toNat_natCast] at ji
    have Ud:=ai (zo wr)
    clear vw hD P4 bM hb
    go_wp2
    go_region_law (go_simp;go_at_call 68;refine(CW.Nc D f.bytes o _ (by omega) (by omega)).mono ?_;rintro e w3 ⟨rfl,hb⟩;have cZ:=ai (fw.o.trans ((Ud.o.trans hb).mono fw.o.size));have Mq:=ai (B.below (B.below Qt.o Ud.o (B.isLt Qt.o)) hb (by have:=B.isLt Qt.o;simpa using this));clear hb;go_simp)
    all_goals
     go_wp2
     go_roundw
     case rel=>exact⟨k+1,by omega,by go_num,by rw[ji.o],cZ.o,Mq.o⟩
     case measure=>simp[intOf];omega
  · obtain rfl:k=fs.length:=by omega
    go_wp2
    go_ret
    exact⟨rfl,fw.o⟩
theorem bl {P:Program} {f:FuncId} {args:Array Value} {v:Value} {w:World} (x:Q.fF w.heap.size w) (h:∀W,Below w.heap.size w W->Calls P f args W fun e w'=>e=.returned v/\Below W.heap.size W w') :
  Calls P f args x.world fun e w''=>e=.returned v/\∃y:Q.fF w.heap.size w,w''=y.world :=
 (h x.world x.keeps).mono fun e w'' ⟨he,hb⟩=>⟨he,⟨w'',x.keeps.trans (hb.mono x.keeps.size)⟩,rfl⟩
theorem pM (hs:List LM.Sh) (ao:Option Addr) (cap:Nat) (w:World) (h:LM.gT w ao hs) (hf:LM.lJ hs) :
  Calls Tryz.prog 45 #[.slice ao hs.length cap] w fun e w'=>e=.returned (.bool (LM.cV hs))/\Below w.heap.size w w':=by
 have HF:=ai hf
 have HH:=ai h
 have hn:hs.length<=140737488351232:=hf.1
 clear h hf
 go_enter Tryz.func45,Tryz.ntmps45
 go_wp2
 go_loopw [3] (fun i wr=>∃k:Nat,k<=hs.length/\i=I k/\LM.cB hs k=true/\Below w.heap.size w wr) (fun i _=>hs.length-(intOf i).toNat)
 case atStart=>exact⟨0,by omega,rfl,rfl,Below.refl _ _⟩
 case round =>
  obtain⟨k,hk,rfl,hz,hb⟩:=hrel
  have HZ:=ai hz
  have fw:=ai hb
  clear hz
  by_cases hlt:k<hs.length
  · obtain⟨b,off,hao,hbl,bM⟩:=(HH.o.below hb) (by omega)
    subst hao
    obtain⟨c0,c1,c2,c3⟩:=bM k hlt
    have ra:=HF.o.2 k hlt
    have HE:Hid (LM.cB hs (k+1)=(LM.bN (LM.aW hs k)&&LM.gz hs k)):=by
     show _=_
     simp only[LM.cB]
     rw[HZ.o,Bool.true_and]
    have Da:Hid ((LM.bN (LM.aW hs k)&&LM.gz hs k)=false->LM.cV hs=false):=fun e=>LM.DY hs k hlt e
    have mv:=Q.dW wr
    have hkc:=@Q.cH wr
    have Sw:Hid (0<k->wr.cell? ⟨b,off+(k-1)*3,none⟩=some (I (LM.aW hs (k-1)).page)):=fun h0=>(bM (k-1) (by omega)).1
    have Fj:Hid (LM.gz hs k=(k==0 || decide ((LM.aW hs (k-1)).page<(LM.aW hs k).page))):=rfl
    obtain⟨s,Ja⟩:=ex (LM.aW hs k)
    rw[<- Ja] at c0 c1 c2 c3 ra HE Da Fj
    have e0:∀x:Q.fF wr.heap.size wr,x.world.cell? (Ad b (off+k*3))=some (I s.page):=fun x=>by rw[hkc x _ _ hbl,c0]
    have e1:∀x:Q.fF wr.heap.size wr,x.world.cell? (Ad b (off+k*3+1))=some (.string s.data):=fun x=>by rw[hkc x _ _ hbl,c1]
    have e2:∀x:Q.fF wr.heap.size wr,x.world.cell? (Ad b (off+k*3+2))=some (.slice s.ao s.bh.length s.cap):=fun x=>by rw[hkc x _ _ hbl,c2]
    have HC:Hid (∀W,Below wr.heap.size wr W->Calls Tryz.prog 89 #[.agg #[I s.page,.string s.data,.slice s.ao s.bh.length s.cap]] W fun e w'=>e=.returned (.bool (LM.bN s))/\Below W.heap.size W w'):=fun W hb=>zR s W (c3.below hb) ra
    clear Ja bM hb c0 c1 c2 c3 ra
    cases e:LM.bN s with
    | false =>
     have HX:=ai (Da.o (by rw[e];rfl))
     rw[e] at HC
     clear e HE Da Fj Sw hkc
     go_wp2
     refine Q.br (by kernel_rfl) (by kernel_rfl) ?_
     repeat (first | go_big_quiet_step ((go_at_call 89;exact bl _ HC.o)) | quiet_step ((go_at_call 89;exact bl _ HC.o)))
     refine wpQuiet_nil ?_
     intro _ hw'
     obtain⟨x,hw''⟩:=hw'
     subst hw''
     go_wp2
     go_ret
     exact⟨bV HX.o.symm,fw.o.trans (x.keeps.mono fw.o.size)⟩
    | true =>
     rw[e] at HC HE Da
     rw[Bool.true_and] at HE Da
     clear e
     by_cases Oj:k=0
     · have z1:decide ((0:Int)<(k:Int))=false:=by simp;omega
       have z2:decide (0<k)=false:=by simp;omega
       have HX:Hid (LM.gz hs k=true):=by show _=_;rw[Fj.o,Oj];rfl
       rw[HX.o] at HE
       clear Oj Da Fj Sw hkc HX
       go_wp2
       refine Q.br (by kernel_rfl) (by kernel_rfl) ?_
       repeat (first | go_big_quiet_step ((go_at_call 89;exact bl _ HC.o)) | quiet_step ((go_at_call 89;exact bl _ HC.o)))
       refine wpQuiet_nil ?_
       intro _ hw'
       obtain⟨x,hw''⟩:=hw'
       subst hw''
       go_wp2
       go_roundw
       case rel=>exact⟨k+1,by omega,by go_num,HE.o,fw.o.trans (x.keeps.mono fw.o.size)⟩
       case measure=>simp[intOf];omega
     · have hk1:(1:Int)<=(k:Int):=by omega
       have hk2:0<k:=by omega
       have hk3:(0:Int)<(k:Int):=by omega
       have hkz:(k==0)=false:=by simpa using Oj
       obtain⟨p,hp⟩:=ex ((LM.aW hs (k-1)).page)
       have hpv:=Sw.o hk2
       rw[<- hp] at hpv Fj
       rw[hkz,Bool.false_or] at Fj
       have e3:∀x:Q.fF wr.heap.size wr,x.world.cell? ⟨b,off+(k-1)*3,none⟩=some (I p):=fun x=>by rw[hkc x _ _ hbl,hpv]
       clear hp hpv Oj Sw hkc hkz
       by_cases oI:p<s.page
       · have HX:Hid (LM.gz hs k=true):=by show _=_;rw[Fj.o,decide_eq_true oI]
         rw[HX.o] at HE
         have hnl:¬s.page<=p:=by omega
         clear Da Fj HX
         go_wp2
         refine Q.br (by kernel_rfl) (by kernel_rfl) ?_
         repeat (first | go_big_quiet_step ((go_at_call 89;exact bl _ HC.o)) | quiet_step ((go_at_call 89;exact bl _ HC.o)))
         refine wpQuiet_nil ?_
         intro _ hw'
         obtain⟨x,hw''⟩:=hw'
         subst hw''
         go_wp2
         go_roundw
         case rel=>exact⟨k+1,by omega,by go_num,HE.o,fw.o.trans (x.keeps.mono fw.o.size)⟩
         case measure=>simp[intOf];omega
       · have HX:Hid (LM.cV hs=false):=Da.o (by rw[Fj.o,decide_eq_false oI])
         have hnl:s.page<=p:=by omega
         clear HE Da Fj
         go_wp2
         refine Q.br (by kernel_rfl) (by kernel_rfl) ?_
         repeat (first | go_big_quiet_step ((go_at_call 89;exact bl _ HC.o)) | quiet_step ((go_at_call 89;exact bl _ HC.o)))
         refine wpQuiet_nil ?_
         intro _ hw'
         obtain⟨x,hw''⟩:=hw'
         subst hw''
         go_wp2
         go_ret
         exact⟨bV HX.o.symm,fw.o.trans (x.keeps.mono fw.o.size)⟩
  · obtain rfl:k=hs.length:=by omega
    go_wp2
    go_ret
    exact⟨bV HZ.o.symm,fw.o⟩
end LW
end Go.Proofs.YtpgifpeohlllfaaGreat
