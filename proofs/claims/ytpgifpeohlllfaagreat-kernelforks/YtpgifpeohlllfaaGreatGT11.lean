import Derived.Test.YtpgifpeohlllfaaGreatGT10
set_option maxHeartbeats 20000000
set_option linter.unusedVariables false
set_option maxRecDepth 100000
set_option linter.unusedSimpArgs false
namespace Go.Proofs.YtpgifpeohlllfaaGreat
namespace AM
open Go.RowKit
def mark (p:Int) (z:Bool):Int:=1+2*p+(if z then 8 else 0)
def enc (s:St):Int:=if s.m then mark s.p s.z else 0
def r8 (G:Nat->Int):Nat->List Value
 | 0=>[]
 | m+1=>r8 G m++[I (G m)]
def gp (G:Nat->Int):Array Value:=(r8 G 256).toArray
def D9 (G:Nat->Int) (n:Nat) (x:Int):Nat->Int:=fun k=>if k=n then x else G k
theorem gH (G:Nat->Int):∀m,(r8 G m).length=m
 | 0=>rfl
 | m+1=>by simp[r8,gH G m]
theorem nU (G:Nat->Int):(gp G).size=256:=by simp[gp,gH]
theorem Ev (G:Nat->Int) (n:Nat):∀m,n<m->(r8 G m)[n]?=some (I (G n))
 | 0,h=>by omega
 | m+1,h=>by
  simp only[r8];by_cases e:n=m
  · subst e;rw[List.getElem?_append_right (by rw[gH];omega),gH];simp
  · rw[List.getElem?_append_left (by rw[gH];omega)];exact Ev G n m (by omega)
theorem zQ (G:Nat->Int) (n:Nat) (hn:n<256):(gp G)[n]?=some (I (G n)):=by
 unfold gp;rw[List.getElem?_toArray];exact Ev G n 256 hn
theorem yu (F G:Nat->Int):∀m,(∀k,k<m->F k=G k)->r8 F m=r8 G m
 | 0,_=>rfl
 | m+1,h=>by simp only[r8];rw[yu F G m (fun k hk=>h k (by omega)),h m (by omega)]
theorem Et (G:Nat->Int) (n:Nat) (x:Int):∀m,n<m->(r8 G m).set n (I x)=r8 (D9 G n x) m
 | 0,h=>by omega
 | m+1,h=>by
  simp only[r8];by_cases e:n=m
  · subst e;rw[List.set_append_right _ _ (by rw[gH];omega),gH,yu (D9 G n x) G n (fun k hk=>by simp[D9];omega)];simp[D9]
  · rw[List.set_append_left _ _ (by rw[gH];omega),Et G n x m (by omega)];congr 2;simp[D9];intro h';exact absurd h'.symm e
theorem IL (G:Nat->Int) (n:Nat) (x:Int) (hn:n<256):(gp G).setIfInBounds n (I x)=gp (D9 G n x):=by
 unfold gp;rw[<- Et G n x 256 hn];simp only[List.setIfInBounds_toArray]
theorem Eu (G:Nat->Int):∀m,∀v∈r8 G m,v.oneCell'=true
 | 0,v,h=>by simp[r8] at h
 | m+1,v,h=>by
  simp only[r8,List.mem_append,List.mem_singleton] at h;rcases h with h | rfl
  · exact Eu G m v h
  · rfl
theorem sU (G:Nat->Int):(gp G).all (·.oneCell')=true:=by
 rw[Array.all_eq_true_iff_forall_mem];intro v hv;exact Eu G 256 v (by simpa [gp] using hv)
theorem Nv (F:Nat->St) (n:Nat) (s:St):D9 (fun k=>enc (F k)) n (enc s)=fun k=>enc (upd F n s k):=by
 funext k;simp only[D9,upd];split <;> rfl
theorem Qc (s:St) (h:0<=s.p):(enc s=0)↔s.m=false:=by
 unfold enc mark;cases s.m
 · simp
 · simp only[if_true];cases s.z <;> simp <;> omega
theorem TT (s t:St) (hs:0<=s.p/\s.p<=3) (ht:0<=t.p/\t.p<=3) (hm:s.m=true):(enc t=enc s)↔ra s t=true:=by
 unfold enc mark ra;rw[hm];cases t.m
 · simp;cases s.z <;> simp <;> omega
 · cases s.z <;> cases t.z <;> simp <;> omega
theorem Qd (s:St) (hs:0<=s.p/\s.p<=3) (hm:s.m=true):(enc s-1)%8/2=s.p/\(decide (8<=enc s-1)=s.z)/\1<=enc s/\enc s<=15:=by
 unfold enc mark;rw[hm];simp only[if_true];cases s.z
 · simp;omega
 · simp;omega
def fI (l:List Ar):Nat->Bool
 | 0=>true
 | k+1=>fI l k&&(dW (at_ l k).page (at_ l k).aJ&&iV (at_ l k).bV)
def gA (l:List Ar) (i:Nat):Bool:=i==0 || decide ((at_ l (i-1)).eG<=(at_ l i).page)
def cN (l:List Ar):Nat->Bool
 | 0=>true
 | k+1=>cN l k&&gA l k
theorem jV (l:List Ar):∀(k n:Nat),k<=n->cN l k=false->cN l n=false
 | k, 0, h, hk => by obtain rfl:k=0 := by omega
                     exact hk
 | k,n+1,h,hk=>by
  by_cases e:k=n+1
  · subst e;exact hk
  · simp[cN,jV l k n (by omega) hk]
theorem wI (a b:Ar) (h:fM a b=true):a.eG<=b.page:=by
 unfold fM at h;split at h
 · omega
 · simp at h;omega
theorem uX (l:List Ar):∀k,gF l k=true->fI l k=true/\cN l k=true
 | 0,_=>⟨rfl,rfl⟩
 | k+1,h=>by
  simp only[gF,Bool.and_eq_true] at h;have ih:=uX l k h.1;have hk:=h.2;simp only[nY,Bool.and_eq_true,Bool.or_eq_true,beq_iff_eq] at hk;refine⟨by simp[fI,ih.1,hk.1.1,hk.1.2],?_⟩;simp only[cN,ih.2,gA,Bool.true_and,Bool.or_eq_true,beq_iff_eq,decide_eq_true_eq];rcases hk.2 with e | e
  · exact .inl e
  · exact .inr (wI _ _ e)
theorem xR (l:List Ar):∀k,fI l k=true->∀i,i<k->dW (at_ l i).page (at_ l i).aJ=true/\iV (at_ l i).bV=true
 | 0,_,i,hi=>by omega
 | k+1,h,i,hi=>by
  simp only[fI,Bool.and_eq_true] at h;by_cases e:i=k
  · subst e;exact h.2
  · exact xR l k h.1 i (by omega)
theorem Ci (l:List Ar) (n:Nat) (h:fI l n=true):∀k,k<=n->(bG l k 0).m=false/\(∀m,(bG l k m).m=false->bG l k m=off)/\(∀m,0<=(bG l k m).p/\(bG l k m).p<=3)
 | 0,_=>⟨rfl,fun n _=>rfl,fun n=>by simp[bG,off]⟩
 | k+1,hk=>by
  have ih:=Ci l n h k (by omega);have ho:=xR l n h k (by omega);have h1:=(jD _ _).1 ho.1;have h2:0<=(at_ l k).bV/\(at_ l k).bV<=3:=of_decide_eq_true ho.2;refine⟨?_,fun n=>?_,fun n=>?_⟩
  · simp only[bG,gM];rw[if_neg (by omega)];exact ih.1
  · simp only[bG,gM];split
    · intro h;simp at h
    · exact ih.2.1 n
  · simp only[bG,gM];split
    · exact h2
    · exact ih.2.2 n
theorem Ce (l:List Ar) (h:fI l l.length=true):uo (cR l):=by
 have h:=Ci l l.length h l.length (Nat.le_refl _);exact⟨h.1,h.2.1,h.2.2⟩
theorem Ox (G:List Ar) (n:Nat):(look G n).m=(aU G n).2:=by
 unfold look;by_cases c:(aU G n).2=true
 · simp[c]
 · simp[off,show(aU G n).2=false by simpa using c]
theorem Bq (G:List Ar) (a:Ar) (h:iE G a=true) (hne:0<G.length):(ja G).eG<=a.page:=by
 simp only[iE,Bool.and_eq_true,Bool.or_eq_true,beq_iff_eq] at h;rcases h.2 with e | e
 · omega
 · exact wI _ _ e
theorem mh (G:List Ar) (a:Ar) (h:iE G a=true):1<=a.page/\1<=a.aJ/\a.aJ<=256-a.page:=by
 simp only[iE,Bool.and_eq_true] at h;exact(jD _ _).1 h.1.1
theorem uT (G:List Ar) (a:Ar) (hg:good G=true) (h:iE G a=true) (n:Nat) (hn:a.page<=(n:Int)):(aU G n).2=false:=by
 by_cases c:(aU G n).2=true
 · have hb:=jH _ G rfl hg n c;have hne:0<G.length:=by
    rcases Nat.eq_zero_or_pos G.length with e | e
    · have e':G=[]:=List.eq_nil_of_length_eq_zero e;subst e';simp[aU] at c
    · exact e
   have:=Bq G a h hne;omega
 · simpa using c
theorem kL (G:List Ar) (a:Ar) (hg:good G=true) (h:iE G a=true) (n:Nat) (h1:a.page<=(n:Int)) (h2:(n:Int)<a.page+a.aJ):look (G++[a]) n=⟨true,a.bV,a.zero⟩:=by
 rw[oG,if_neg (by rw[uT G a hg h n h1];simp),if_pos ((nI a n).2 ⟨h1,h2⟩)]
theorem sD (G:List Ar) (a:Ar) (n:Nat) (h1:¬(a.page<=(n:Int)/\(n:Int)<a.page+a.aJ)):look (G++[a]) n=look G n:=by
 rw[oG];by_cases c:(aU G n).2=true
 · rw[if_pos c]
 · rw[if_neg c,if_neg (fun e=>h1 ((nI a n).1 e))];unfold look;simp[show(aU G n).2=false by simpa using c]
theorem wA:∀(m:Nat) (G H:List Ar),G.length=m->good G=true->good H=true->(∀n:Nat,look G n=look H n)->G=H
 | 0,G,H,hm,hG,hH,he=>by
  have e:G=[]:=List.eq_nil_of_length_eq_zero hm;subst e;rcases List.eq_nil_or_concat H with rfl | ⟨H',b,rfl⟩
  · rfl
  · rw[List.concat_eq_append] at *;rw[iT,Bool.and_eq_true] at hH;have hb:=mh _ _ hH.2;have h1:=kL H' b hH.1 hH.2 b.page.toNat (by omega) (by omega);rw[<- he] at h1;have:=congrArg St.m h1;simp[look,aU,off] at this
 | m+1,G,H,hm,hG,hH,he=>by
  rcases List.eq_nil_or_concat G with rfl | ⟨G',a,rfl⟩
  · simp at hm
  · rw[List.concat_eq_append] at *;have hG0:=hG;rw[iT,Bool.and_eq_true] at hG;have ha:=mh _ _ hG.2;rcases List.eq_nil_or_concat H with rfl | ⟨H',b,rfl⟩
    · have h1:=kL G' a hG.1 hG.2 a.page.toNat (by omega) (by omega);rw[he] at h1;have:=congrArg St.m h1;simp[look,aU,off] at this
    · rw[List.concat_eq_append] at *;have hH0:=hH;rw[iT,Bool.and_eq_true] at hH;have hb:=mh _ _ hH.2;have up:∀(X Y:List Ar) (x y:Ar),good X=true->iE X x=true->good (Y++[y])=true->(∀n:Nat,look (X++[x]) n=look (Y++[y]) n)->1<=x.page->1<=x.aJ->x.page+x.aJ<=y.page+y.aJ:=by
       intro X Y x y hX hx hY hxy h1 h2;have e1:=kL X x hX hx (x.page+x.aJ-1).toNat (by omega) (by omega);rw[hxy] at e1;have e2:(aU (Y++[y]) ((x.page+x.aJ-1).toNat:Nat)).2=true:=by rw[<- Ox,e1]
       have e3:=(jH _ _ rfl hY _ e2).2;rw[eV] at e3;unfold Ar.eG at e3;omega
      have hend:a.page+a.aJ=b.page+b.aJ:=Int.le_antisymm (up G' H' a b hG.1 hG.2 hH0 he ha.1 ha.2.1) (up H' G' b a hH.1 hH.2 hG0 (fun n=>(he n).symm) hb.1 hb.2.1);have DI:=kL G' a hG.1 hG.2 (a.page+a.aJ-1).toNat (by omega) (by omega);have hl2:=kL H' b hH.1 hH.2 (a.page+a.aJ-1).toNat (by omega) (by omega);rw[he,hl2] at DI;have Hy:b.bV=a.bV:=congrArg St.p DI;have hze:b.zero=a.zero:=congrArg St.z DI;have beg:∀(X Y:List Ar) (x y:Ar),good X=true->iE X x=true->good Y=true->iE Y y=true->(∀n:Nat,look (X++[x]) n=look (Y++[y]) n)->x.page+x.aJ=y.page+y.aJ->y.bV=x.bV->y.zero=x.zero->1<=x.page->1<=y.aJ->y.page<=x.page:=by
       intro X Y x y hX hx hY hy hxy hen hp hz h1 h2;by_cases c:y.page<=x.page
       · exact c
       · exfalso;have e1:=kL X x hX hx (y.page-1).toNat (by omega) (by omega);rw[hxy,sD Y y _ (by omega)] at e1;have e2:(aU Y ((y.page-1).toNat:Nat)).2=true:=by rw[<- Ox,e1]
         have e3:=(jH _ _ rfl hY _ e2).2;have hne:0<Y.length:=by
          rcases Nat.eq_zero_or_pos Y.length with e | e
          · have e':Y=[]:=List.eq_nil_of_length_eq_zero e;subst e';simp[aU] at e2
          · exact e
         have e4:=Bq Y y hy hne;have e5:(ja Y).eG=y.page:=by omega
         have hfo:=hy;simp only[iE,Bool.and_eq_true,Bool.or_eq_true,beq_iff_eq] at hfo;have Pp:fM (ja Y) y=true:=by
          rcases hfo.2 with e | e
          · omega
          · exact e
         unfold fM at Pp;rw[if_pos e5.symm] at Pp;rcases List.eq_nil_or_concat Y with rfl | ⟨Y',z,rfl⟩
         · simp at hne
         · rw[List.concat_eq_append] at *;rw[eV] at e5 Pp;unfold Ar.eG at e5;have hYs:=hY;rw[iT,Bool.and_eq_true] at hYs;have hzp:=mh _ _ hYs.2;have e6:=kL Y' z hYs.1 hYs.2 (y.page-1).toNat (by omega) (by omega);rw[e6] at e1;have q1:z.bV=x.bV:=congrArg St.p e1;have q2:z.zero=x.zero:=congrArg St.z e1;rw[hp,hz,q1,q2] at Pp;simp at Pp
      have Z9:a.page=b.page:=Int.le_antisymm (beg H' G' b a hH.1 hH.2 hG.1 hG.2 (fun n=>(he n).symm) hend.symm Hy.symm hze.symm hb.1 ha.2.1) (beg G' H' a b hG.1 hG.2 hH.1 hH.2 he hend Hy hze ha.1 hb.2.1);have hab:a=b:=by
       cases a;cases b;simp only at Z9 hend Hy hze;subst Z9;subst Hy;subst hze;congr 1;omega
      subst hab;have ih:=wA m G' H' (by simpa using hm) hG.1 hH.1 (fun n=>by
       by_cases c:a.page<=(n:Int)
       · have x1:=uT G' a hG.1 hG.2 n c;have x2:=uT H' a hH.1 hH.2 n c;unfold look;simp[x1,x2]
       · have x1:=sD G' a n (by omega);have x2:=sD H' a n (by omega);rw[<- x1,<- x2];exact he n)
      rw[ih]
theorem AK (l:List Ar) (hc:aW l=0):eO (cR l)=l:=by
 have hF:=wJ l hc;have hg:=rK l hc;refine wA _ _ _ rfl (wF _ hF) hg (fun n=>?_);rw[nk l _ l rfl hg n];by_cases hn:n<256
 · exact wB _ hF n hn
 · have:=(o8 _ hF 256 (Nat.le_refl _)).look n;rw[if_neg hn] at this;rw[show look (eO (cR l)) n=off from this];have e:look l n=off:=by
    unfold look;by_cases c:(aU l n).2=true
    · exfalso;have hb:=(jH _ l rfl hg n c).2;have hne:0<l.length:=by
       rcases Nat.eq_zero_or_pos l.length with e | e
       · have e':l=[]:=List.eq_nil_of_length_eq_zero e;subst e';simp[aU] at c
       · exact e
      have ho:=dg l (l.length-1) (cW l hc _ (by omega));unfold ja Ar.eG at hb;omega
    · simp[show(aU l n).2=false by simpa using c]
   rw[<- nk l _ l rfl hg n,e]
end AM
namespace AW
open Go.RowKit
theorem eI (n a b:Int) (w:World):Calls Tryz.prog 44 #[I n,I a,I b] w fun e w'=>e=.returned (.bool (decide (a<=n/\n<=b)))/\w=w':=by
 by_cases h1:a<=n
 · by_cases h2:n<=b
   · rw[show decide (a<=n/\n<=b)=true from decide_eq_true ⟨h1,h2⟩];go_enter Tryz.func44,Tryz.ntmps44;go_wp2;go_ret;exact⟨rfl,rfl⟩
   · have d:decide (n<=b)=false:=decide_eq_false h2;rw[show decide (a<=n/\n<=b)=false from decide_eq_false (by omega)];go_enter Tryz.func44,Tryz.ntmps44;go_wp2;go_ret;exact⟨rfl,rfl⟩
 · have d:decide (a<=n)=false:=decide_eq_false h1;rw[show decide (a<=n/\n<=b)=false from decide_eq_false (by omega)];go_enter Tryz.func44,Tryz.ntmps44;go_wp2;go_ret;exact⟨rfl,rfl⟩
theorem Ou (p:Int) (z:Bool) (w:World) (h:0<=p/\p<=3):Calls Tryz.prog 127 #[I p,.bool z] w fun e w'=>e=.returned (I (AM.mark p z))/\w=w':=by
 cases z
 · go_enter Tryz.func127,Tryz.ntmps127;go_wp2;go_ret;exact⟨fU (by simp[AM.mark]),rfl⟩
 · go_enter Tryz.func127,Tryz.ntmps127;go_wp2;go_ret;exact⟨fU (by simp[AM.mark]),rfl⟩
theorem Nq:(Tryz.prog.info? 177).map (fun i=>(i.zero,i.size))=some (some (.agg (AM.gp (fun _=>0))),256):=by kernel_rfl
theorem kF:(Tryz.prog.info? 177).map (·.size)=some 256:=(zero_of_info Nq).2
theorem VQ (w:World):(zeroValue 177).run Tryz.prog w=.ok (.agg (AM.gp (fun _=>0))) w:=(zero_of_info Nq).1 w
def bd (F:Nat->AM.St):Array Value:=AM.gp (fun n=>AM.enc (F n))
theorem J5 (F:Nat->AM.St):(bd F).size=256:=AM.nU _
def Kk (l:List AM.Ar) (C:Array Value):Prop:=C.size=256/\C.all (·.oneCell')=true/\(AM.cN l l.length=true->C=bd (AM.cR l))
theorem Ds (l:List AM.Ar) (b off cap:Nat) (w:World) (hl:AM.Cs w b off l) (he:AM.fI l l.length=true) (hn:l.length<=255) :
  Calls Tryz.prog 126 #[.slice (some (Ad b off)) l.length cap] w fun e w'=>∃C,e=.returned (.tuple #[.agg C,.bool (AM.cN l l.length)])/\Kk l C/\Below w.heap.size w w':=by
 have HE:Hid (AM.fI l l.length=true):=he;clear he;obtain⟨Z,hZ⟩:=ex (AM.gp (fun _=>0));have hz:=VQ;rw[<- hZ] at hz;have HZ:Hid (Z=AM.gp (fun _=>0)):=hZ;have DM:Z.size=256:=by rw[hZ];exact AM.nU _
 clear hZ;go_enter Tryz.func126,Tryz.ntmps126;go_wp2;go_loopw [5,6] (fun la i wr=>∃(k:Nat) (t:Int),k<=l.length/\i=I k/\la=I t/\(k=0/\t=0∨0<k/\t=(AM.at_ l (k-1)).page+(AM.at_ l (k-1)).aJ-1)/\AM.cN l k=true/\wr.heap[w.heap.size]?=some (.cells Z 177 (0,0))/\wr.heap[w.heap.size+1]?=some (.cells (bd (AM.bG l k)) 177 (0,0))/\Below w.heap.size w wr) (fun _ i _=>l.length-(intOf i).toNat)
 case atStart =>
  refine⟨0,0,by omega,rfl,rfl,.inl ⟨rfl,rfl⟩,rfl,B.alloc (B.new w Z 177) _,?_,((Below.refl _ _).alloc (Nat.le_refl _) _).alloc (by simp) _⟩;have e:bd (AM.bG l 0)=Z:=by rw[HZ.o];rfl
  rw[e];have:=B.new (w.alloc (.cells Z 177)) Z 177;simpa using this
 case round =>
  obtain⟨k,t,hk,rfl,rfl,hlast,Yt,hR,hA,hb⟩:=hrel;have HR:Hid (wr.heap[w.heap.size]?=some (.cells Z 177 (0,0))):=hR;have HA:Hid (wr.heap[w.heap.size+1]?=some (.cells (bd (AM.bG l k)) 177 (0,0))):=hA;have HB:Hid (Below w.heap.size w wr):=hb;have FU:Hid (AM.cN l k=true):=Yt;have HL:Hid (k=0/\t=0∨0<k/\t=(AM.at_ l (k-1)).page+(AM.at_ l (k-1)).aJ-1):=hlast;have hsz:w.heap.size+2<=wr.heap.size:=B.isLt hA;by_cases hlt:k<l.length
  · obtain⟨c0,c1,c2,c3⟩:=hl.below hb k hlt;have zm:=AM.xR l _ HE.o k hlt;have hbk:=(AM.jD _ _).1 zm.1;have Hy:0<=(AM.at_ l k).bV/\(AM.at_ l k).bV<=3:=of_decide_eq_true zm.2;have O8:Hid (AM.gA l k=decide (t<(AM.at_ l k).page)):=by
     show _=_;unfold AM.gA;rcases HL.o with⟨h1,h2⟩ | ⟨h1,h2⟩
     · rw[h1,h2];rw[h1] at hbk;simp;omega
     · have L3:(k==0)=false:=by simp;omega
       rw[L3,Bool.false_or];unfold AM.Ar.eG;rw[h2];exact decide_eq_decide.2 (by omega)
    obtain⟨a,ha⟩:=ex (AM.at_ l k);rw[<- ha] at c0 c1 c2 c3 hbk O8 Hy;have HAr:Hid (a=AM.at_ l k):=ha;clear ha hR hA hb hlast Yt zm;have hkl:(k:Int)<(l.length:Int):=by omega
    by_cases hup:t<a.page
    · have adz:¬a.page<=t:=by omega
      obtain⟨wo,hwo⟩:∃wo:World,wo=wr:=⟨_,rfl⟩;subst hwo;go_wp2;go_loopw [8] (fun tt wi=>∃n:Nat,a.page<=(n:Int)/\(n:Int)<=a.page+a.aJ/\tt=I n/\wi.heap[w.heap.size]?=some (.cells Z 177 (0,0))/\wi.heap[w.heap.size+1]?=some (.cells (bd (AM.gM (AM.bG l k) a n)) 177 (0,0))/\wi.heap[wo.heap.size]?=some (.cells #[I a.page,I a.aJ,I a.bV,.bool a.zero] 47 (0,0))/\Below w.heap.size w wi) (fun tt _=>(a.page+a.aJ-intOf tt).toNat)
      case atStart =>
       refine⟨a.page.toNat,by omega,by omega,by rw[Int.toNat_of_nonneg (by omega)],B.alloc HR.o _,?_,B.new _ _ _,HB.o.alloc HB.o.size _⟩;rw[Int.toNat_of_nonneg (by omega),AM.vW];exact B.alloc HA.o _
      case round =>
       obtain⟨n,Pj,rI,rfl,iR,iA,iX,ib⟩:=hrel;have IR:Hid (wr.heap[w.heap.size]?=some (.cells Z 177 (0,0))):=iR;have IA:Hid (wr.heap[w.heap.size+1]?=some (.cells (bd (AM.gM (AM.bG l k) a n)) 177 (0,0))):=iA;have IB:Hid (Below w.heap.size w wr):=ib;have x0:=B.cell iX 0 rfl;have x1:=B.cell iX 1 rfl;have x2:=B.cell iX 2 rfl;have x3:=B.cell iX 3 rfl;have IX:Hid (wr.heap[wo.heap.size]?=some (.cells #[I a.page,I a.aJ,I a.bV,.bool a.zero] 47 (0,0))):=iX;clear iR iX ib;by_cases hin:(n:Int)<a.page+a.aJ
       · have hin':(n:Int)<=a.page+a.aJ-1:=by omega
         have z0:=B.cell iA n (AM.zQ _ n (by omega));have zf:=B.free iA;have Ve:(n:Int)<256:=by omega
         clear iA;go_wp2_with (first | (go_at_call 127;refine(Ou _ _ _ Hy).mono ?_;rintro e w' ⟨rfl,rfl⟩))
         go_roundw
         case rel =>
          refine⟨n+1,by omega,by omega,by go_num,B.other IR.o _ _ _ (by omega),?_,B.other IX.o _ _ _ (by omega),IB.o.setCell (by simp) _⟩;have h:=B.set IA.o n (I (AM.mark a.bV a.zero));have e:(bd (AM.gM (AM.bG l k) a n)).setIfInBounds n (I (AM.mark a.bV a.zero))=bd (AM.gM (AM.bG l k) a ((n:Int)+1)):=by
           unfold bd;rw[AM.IL _ n _ (by omega),<- AM.yX _ _ _ Pj];congr 1;exact AM.Nv (AM.gM (AM.bG l k) a n) n ⟨true,a.bV,a.zero⟩
          rw[e] at h;rw[show((n+1:Nat):Int)=(n:Int)+1 from by omega];exact h
         case measure=>simp[intOf];omega
       · have hin':¬(n:Int)<=a.page+a.aJ-1:=by omega
         have hE2:Hid ((n:Int)=a.page+a.aJ):=by show _=_;omega
         clear iA;go_wp2;go_roundw
         case rel =>
          refine⟨k+1,a.page+a.aJ-1,by omega,by go_num,rfl,.inr ⟨by omega,?_⟩,?_,IR.o,?_,IB.o⟩
          · rw[Nat.add_sub_cancel,<- HAr.o]
          · simp only[AM.cN,FU.o,O8.out,Bool.true_and];exact decide_eq_true hup
          · have h:=IA.o;rw[hE2.out] at h;show _=some (Obj.cells (bd (AM.gM (AM.bG l k) (AM.at_ l k) (AM.at_ l k).eG)) 177 (0,0));rw[<- HAr.o];exact h
         case measure=>simp[intOf];omega
    · have adz:a.page<=t:=by omega
      have hbad:Hid (AM.cN l l.length=false):=by
       show _=_;have e:AM.cN l (k+1)=false:=by simp only[AM.cN,FU.o,O8.out,Bool.true_and];exact decide_eq_false hup
       exact AM.jV l (k+1) l.length (by omega) e
      have DN:Hid ((wr.alloc (.cells #[I a.page,I a.aJ,I a.bV,.bool a.zero] 47)).heap[w.heap.size+1]?=some (.cells (bd (AM.bG l k)) 177 (0,0))):=B.alloc HA.o _;have Df:Hid ((wr.alloc (.cells #[I a.page,I a.aJ,I a.bV,.bool a.zero] 47)).heap[w.heap.size]?=some (.cells Z 177 (0,0))):=B.alloc HR.o _;have hB2:Hid (Below w.heap.size w (wr.alloc (.cells #[I a.page,I a.aJ,I a.bV,.bool a.zero] 47))):=HB.o.alloc HB.o.size _;obtain⟨D,hD⟩:=ex (bd (AM.bG l k));have PO:D.size=256:=by rw[hD];exact J5 _
      have hDo:D.all (·.oneCell')=true:=by rw[hD];exact AM.sU _
      rw[<- hD] at DN;clear hD;go_wp2_with (first | (refine wpList_load_row rfl 177 _ rfl (w.heap.size+1) rfl 177 D (0,0) _ DN.out Tryz.underlying177 rfl (by rw[PO];exact kF) ?_) | (refine wpList_store_row rfl 177 _ _ rfl w.heap.size D rfl rfl 177 Z Df.out (by rw[PO];exact kF) (by rw[DM,PO]) hDo ?_))
      have hfin:=setRow_heap _ _ _ D 177 (0,0) Df.out;have ZK:=run_loadVar_row (P:=Tryz.prog) _ _ 177 177 D (0,0) _ hfin Tryz.underlying177 rfl (by rw[PO];exact kF);refine bodyPost_ret (v:=.tuple #[.agg D,.bool false]) ?_ rfl ⟨D,by rw[hbad.out],⟨PO,hDo,fun h=>(by rw[hbad.out] at h;cases h)⟩,below_setRow hB2.out (Nat.le_refl _) _⟩;rw[results_cell_tmp rfl];simp[asAddr,Result.andThen,ZK]
  · obtain rfl:k=l.length:=by omega
    obtain⟨D,hD⟩:=ex (bd (AM.bG l l.length));have PO:D.size=256:=by rw[hD];exact J5 _
    have hDo:D.all (·.oneCell')=true:=by rw[hD];exact AM.sU _
    have HD:Hid (D=bd (AM.bG l l.length)):=hD;rw[<- hD] at HA;clear hD hR hA hb hlast Yt;go_wp2_with (first | (refine wpList_load_row rfl 177 _ rfl (w.heap.size+1) rfl 177 D (0,0) _ HA.o Tryz.underlying177 rfl (by rw[PO];exact kF) ?_) | (refine wpList_store_row rfl 177 _ _ rfl w.heap.size D rfl rfl 177 Z HR.o (by rw[PO];exact kF) (by rw[DM,PO]) hDo ?_))
    have hfin:=setRow_heap _ _ _ D 177 (0,0) HR.o;have ZK:=run_loadVar_row (P:=Tryz.prog) _ _ 177 177 D (0,0) _ hfin Tryz.underlying177 rfl (by rw[PO];exact kF);refine bodyPost_ret (v:=.tuple #[.agg D,.bool true]) ?_ rfl ⟨D,by rw[FU.o],⟨PO,hDo,fun _=>HD.o⟩,below_setRow HB.o (Nat.le_refl _) _⟩;rw[results_cell_tmp rfl];simp[asAddr,Result.andThen,ZK]
end AW
namespace LW
open Go.RowKit
open W (ai)
theorem Au (s:LM.Sh) (w:World) (h:LM.oc w s.ao s.bg) (hf:LM.DF s) :
  Calls Tryz.prog 89 #[.agg (LM.lW s)] w fun e w'=>e=.returned (.bool (LM.bQ s))/\Below w.heap.size w w':=by
 obtain⟨f1,f2,f3,f4⟩:=hf;obtain⟨pg,dt,fs,ao,cap⟩:=s;simp only at f1 f2 f3 f4;unfold M.gu at f1;unfold M.bD at f2 f3;simp only[LM.lW];have hdl:dt.size<=maxLen:=by unfold maxLen;omega
 have F4:=ai f4;have HH:=ai h;clear f4 h;have HB:=ai ((Below.refl w.heap.size w).alloc (Nat.le_refl _) (.cells #[I pg,.string dt,.slice ao fs.length cap] 50));have BX:=ai (B.new w #[I pg,.string dt,.slice ao fs.length cap] 50);by_cases h1:1<=pg/\pg<=255
 · have d1:decide (1<=pg/\pg<=255)=true:=decide_eq_true h1;by_cases h3:dt.size=16
   · by_cases h4:fs.length<=16
     · have h3':(dt.size:Int)=16:=by omega
       have h4':¬(16:Int)<(fs.length:Int):=by omega
       have e:LM.jK ⟨pg,dt,fs,ao,cap⟩=true:=by
        unfold LM.jK;exact decide_eq_true ⟨h1.1,h1.2,h3⟩
       have E:Hid (LM.bQ ⟨pg,dt,fs,ao,cap⟩=LM.cH fs fs.length):=by
        show _=_;unfold LM.bQ;rw[e,Bool.true_and]
       clear e h3;go_enter Tryz.func89,Tryz.ntmps89;go_wp2_with (go_at_call 44;refine(AW.eI _ _ _ _).mono ?_;rintro e w' ⟨rfl,rfl⟩;rw[d1])
       go_loopw [4,3] (fun i en wr=>∃k:Nat,k<=fs.length/\i=I k/\en=I (LM.l6 fs k)/\LM.cH fs k=true/\Below w.heap.size w wr/\wr.heap[w.heap.size]?=some (.cells #[I pg,.string dt,.slice ao fs.length cap] 50 (0,0))) (fun i _ _=>fs.length-(intOf i).toNat)
       case atStart=>exact⟨0,by omega,rfl,rfl,rfl,HB.o,BX.o⟩
       case round =>
        obtain⟨k,hk,rfl,rfl,hg,hb,Ai⟩:=hrel;have HG:=ai hg;have iY:=ai hb;have BXr:=ai Ai;have x2:=B.cell Ai 2 rfl;clear hg Ai;by_cases hlt:k<fs.length
        · obtain⟨b,off,hao,hbl,bN⟩:=(HH.o.below hb) (by omega);subst hao;obtain⟨c0,c1⟩:=bN k hlt;obtain⟨g1,g2⟩:=F4.o k hlt;have ZX:=LM.jr fs k HG.o;obtain⟨f,wu⟩:=ex (LM.mi fs k);rw[<- wu] at c0 c1 g1 g2;unfold M.gu at g1;unfold M.bD at g2;have hfl:f.bytes.size<=maxLen:=by unfold maxLen;omega
          have s9:=ai wu;clear wu bN hb;obtain⟨en,hen⟩:=ex (LM.l6 fs k);rw[<- hen] at ZX;have iy:=ai hen;rw[<- hen];clear hen;have cQ:=ai (iY.o.alloc iY.o.size (.cells #[I f.off,.string f.bytes] 52));have BXA:=ai (B.alloc BXr.o (.cells #[I f.off,.string f.bytes] 52));by_cases q1:en<=f.off/\f.off<=16
          · have z1:decide (en<=f.off/\f.off<=16)=true:=decide_eq_true q1;by_cases q3:1<=(f.bytes.size:Int)/\(f.bytes.size:Int)<=16-f.off
            · have z2:decide (1<=(f.bytes.size:Int)/\(f.bytes.size:Int)<=16-f.off)=true:=decide_eq_true q3;have HX:Hid (LM.cH fs (k+1)=true):=by
               show _=_;simp only[LM.cH,Bool.and_eq_true];exact⟨HG.o,by rw[<- s9.o,<- iy.o];exact(LM.oK _ _).2 (by omega)⟩
              have HY:Hid (LM.l6 fs (k+1)=f.off+(f.bytes.size:Int)):=by show _=_;simp only[LM.l6];rw[<- s9.o]
              go_wp2_with (first | (go_at_call 44;have _:=FA;refine(AW.eI _ _ _ _).mono ?_;rintro e w' ⟨rfl,rfl⟩;rw[z2]) | (go_at_call 44;refine(AW.eI _ _ _ _).mono ?_;rintro e w' ⟨rfl,rfl⟩;rw[z1];have FA:=trivial))
              go_roundw
              case rel=>exact⟨k+1,by omega,by go_num,by rw[HY.o],HX.o,cQ.o,BXA.o⟩
              case measure=>simp[intOf];omega
            · have z2:decide (1<=(f.bytes.size:Int)/\(f.bytes.size:Int)<=16-f.off)=false:=decide_eq_false q3;have HX:Hid (LM.cH fs fs.length=false):=LM.mA fs k hlt (by rw[<- s9.o,<- iy.o];exact LM.qW (by omega));go_wp2_with (first | (go_at_call 44;have _:=FA;refine(AW.eI _ _ _ _).mono ?_;rintro e w' ⟨rfl,rfl⟩;rw[z2]) | (go_at_call 44;refine(AW.eI _ _ _ _).mono ?_;rintro e w' ⟨rfl,rfl⟩;rw[z1];have FA:=trivial))
              go_ret;exact⟨bY (by rw[E.o,HX.o]),cQ.o⟩
          · have z1:decide (en<=f.off/\f.off<=16)=false:=decide_eq_false q1;have HX:Hid (LM.cH fs fs.length=false):=LM.mA fs k hlt (by rw[<- s9.o,<- iy.o];exact LM.qW (by omega));go_wp2_with (go_at_call 44;refine(AW.eI _ _ _ _).mono ?_;rintro e w' ⟨rfl,rfl⟩;rw[z1])
            go_ret;exact⟨bY (by rw[E.o,HX.o]),cQ.o⟩
        · obtain rfl:k=fs.length:=by omega
          go_wp2;go_ret;exact⟨bY (by rw[E.o,HG.o]),iY.o⟩
     · have h3':(dt.size:Int)=16:=by omega
       have h4':(16:Int)<(fs.length:Int):=by omega
       have e:LM.bQ ⟨pg,dt,fs,ao,cap⟩=false:=by
        unfold LM.bQ;cases e:LM.cH fs fs.length
        · exact Bool.and_false _
        · have:=LM.jr fs fs.length e;omega
       rw[e];go_enter Tryz.func89,Tryz.ntmps89;go_wp2_with (go_at_call 44;refine(AW.eI _ _ _ _).mono ?_;rintro e w' ⟨rfl,rfl⟩;rw[d1])
       go_ret;exact⟨rfl,HB.o⟩
   · have h3':((dt.size:Int)==16)=false:=by simp;omega
     have e:LM.bQ ⟨pg,dt,fs,ao,cap⟩=false:=by
      unfold LM.bQ LM.jK;rw[decide_eq_false (fun h=>h3 h.2.2),Bool.false_and]
     rw[e];go_enter Tryz.func89,Tryz.ntmps89;go_wp2_with (go_at_call 44;refine(AW.eI _ _ _ _).mono ?_;rintro e w' ⟨rfl,rfl⟩;rw[d1])
     go_ret;exact⟨rfl,HB.o⟩
 · have d1:decide (1<=pg/\pg<=255)=false:=decide_eq_false h1;have e:LM.bQ ⟨pg,dt,fs,ao,cap⟩=false:=by
    unfold LM.bQ LM.jK;rw[decide_eq_false (fun h=>h1 ⟨h.1,h.2.1⟩),Bool.false_and]
   rw[e];go_enter Tryz.func89,Tryz.ntmps89;go_wp2_with (go_at_call 44;refine(AW.eI _ _ _ _).mono ?_;rintro e w' ⟨rfl,rfl⟩;rw[d1])
   go_ret;exact⟨rfl,HB.o⟩
theorem Iq (s:LM.Sh) (w:World) (h:LM.oc w s.ao s.bg) (hf:LM.DF s) (hs:LM.bQ s=true) :
  Calls Tryz.prog 92 #[.agg (LM.lW s)] w fun e w'=>e=.returned (.string (LM.mQ s))/\Below w.heap.size w w':=by
 obtain⟨f1,f2,f3,f4⟩:=hf;obtain⟨pg,dt,fs,ao,cap⟩:=s;simp only at f1 f2 f3 f4;unfold M.bD at f2 f3;simp only[LM.lW];have hdl:dt.size<=maxLen:=by unfold maxLen;omega
 have HH:=ai h;clear f4 h f1;have HB:=ai ((Below.refl w.heap.size w).alloc (Nat.le_refl _) (.cells #[I pg,.string dt,.slice ao fs.length cap] 50));have BX:=ai (B.new w #[I pg,.string dt,.slice ao fs.length cap] 50);have HN:Hid (LM.mQ ⟨pg,dt,fs,ao,cap⟩=LM.jZ dt fs fs.length):=rfl;obtain⟨hd,H7⟩:LM.jK ⟨pg,dt,fs,ao,cap⟩=true/\LM.cH fs fs.length=true:=by
  unfold LM.bQ at hs;simpa using hs
 have h16:dt.size=16:=by
  unfold LM.jK at hd;exact(of_decide_eq_true hd).2.2
 have I9:=ai H7;clear hs hd H7;rw[HN.o];go_enter Tryz.func92,Tryz.ntmps92;go_wp2;go_loopw [4,3] (fun i d wr=>∃k:Nat,k<=fs.length/\i=I k/\d=.string (LM.jZ dt fs k)/\Below w.heap.size w wr/\wr.heap[w.heap.size]?=some (.cells #[I pg,.string dt,.slice ao fs.length cap] 50 (0,0))) (fun i _ _=>fs.length-(intOf i).toNat)
 case atStart=>exact⟨0,by omega,rfl,rfl,HB.o,BX.o⟩
 case round =>
  obtain⟨k,hk,rfl,rfl,hb,Ai⟩:=hrel;have iY:=ai hb;have BXr:=ai Ai;have x2:=B.cell Ai 2 rfl;clear Ai;by_cases hlt:k<fs.length
  · obtain⟨b,off,hao,hbl,bN⟩:=(HH.o.below hb) (by omega);subst hao;obtain⟨c0,c1⟩:=bN k hlt;have hok:=(LM.oK _ _).1 (LM.sL fs fs.length I9.o k hlt);have RJ:LM.cH fs k=true:=by
     cases e:LM.cH fs k
     · rw[LM.lq fs k fs.length (by omega) e] at I9;cases I9
     · rfl
    have ZX:=LM.jr fs k RJ;have hsz:=LM.nB dt fs h16 k RJ;have ju:Hid (LM.jZ dt fs (k+1)=CL.over (LM.jZ dt fs k) (LM.mi fs k).off.toNat (LM.mi fs k).bytes):=rfl;obtain⟨f,wu⟩:=ex (LM.mi fs k);rw[<- wu] at c0 c1 hok ju;obtain⟨D,hD⟩:=ex (LM.jZ dt fs k);rw[<- hD] at hsz ju;rw[<- hD];obtain⟨o,ho⟩:∃o:Nat,f.off=(o:Int):=⟨f.off.toNat,by omega⟩;rw[ho] at c0 hok;rw[ho,Int.toNat_natCast] at ju;have HBd:=ai (IQ wr);clear wu hD RJ bN hb;go_wp2
    go_region_law (go_simp;go_at_call 68;refine(CW.N6 D f.bytes o _ (by omega) (by omega)).mono ?_;rintro e w3 ⟨rfl,hb⟩;have ed:=ai (iY.o.trans ((HBd.o.trans hb).mono iY.o.size));have BX3:=ai (B.below (B.below BXr.o HBd.o (B.isLt BXr.o)) hb (by have:=B.isLt BXr.o;simpa using this));clear hb;go_simp)
    all_goals
     go_wp2;go_roundw
     case rel=>exact⟨k+1,by omega,by go_num,by rw[ju.o],ed.o,BX3.o⟩
     case measure=>simp[intOf];omega
  · obtain rfl:k=fs.length:=by omega
    go_wp2;go_ret;exact⟨rfl,iY.o⟩
theorem bM {P:Program} {f:FuncId} {args:Array Value} {v:Value} {w:World} (x:Q.ez w.heap.size w) (h:∀W,Below w.heap.size w W->Calls P f args W fun e w'=>e=.returned v/\Below W.heap.size W w') :
  Calls P f args x.world fun e w''=>e=.returned v/\∃y:Q.ez w.heap.size w,w''=y.world :=
 (h x.world x.keeps).mono fun e w'' ⟨he,hb⟩=>⟨he,⟨w'',x.keeps.trans (hb.mono x.keeps.size)⟩,rfl⟩
theorem yc (hs:List LM.Sh) (ao:Option Addr) (cap:Nat) (w:World) (h:LM.jb w ao hs) (hf:LM.pH hs) :
  Calls Tryz.prog 45 #[.slice ao hs.length cap] w fun e w'=>e=.returned (.bool (LM.dC hs))/\Below w.heap.size w w':=by
 have HF:=ai hf;have HH:=ai h;have hn:hs.length<=140737488351232:=hf.1;clear h hf;go_enter Tryz.func45,Tryz.ntmps45;go_wp2;go_loopw [3] (fun i wr=>∃k:Nat,k<=hs.length/\i=I k/\LM.cN hs k=true/\Below w.heap.size w wr) (fun i _=>hs.length-(intOf i).toNat)
 case atStart=>exact⟨0,by omega,rfl,rfl,Below.refl _ _⟩
 case round =>
  obtain⟨k,hk,rfl,hz,hb⟩:=hrel;have HZ:=ai hz;have iY:=ai hb;clear hz;by_cases hlt:k<hs.length
  · obtain⟨b,off,hao,hbl,bN⟩:=(HH.o.below hb) (by omega);subst hao;obtain⟨c0,c1,c2,c3⟩:=bN k hlt;have rJ:=HF.o.2 k hlt;have HE:Hid (LM.cN hs (k+1)=(LM.bQ (LM.aY hs k)&&LM.gA hs k)):=by
     show _=_;simp only[LM.cN];rw[HZ.o,Bool.true_and]
    have DB:Hid ((LM.bQ (LM.aY hs k)&&LM.gA hs k)=false->LM.dC hs=false):=fun e=>LM.Ez hs k hlt e
    have j3:=Q.dE wr;have hkc:=@Q.cV wr;have Un:Hid (0<k->wr.cell? ⟨b,off+(k-1)*3,none⟩=some (I (LM.aY hs (k-1)).page)):=fun h0=>(bN (k-1) (by omega)).1
    have FU:Hid (LM.gA hs k=(k==0 || decide ((LM.aY hs (k-1)).page<(LM.aY hs k).page))):=rfl;obtain⟨s,JM⟩:=ex (LM.aY hs k);rw[<- JM] at c0 c1 c2 c3 rJ HE DB FU;have e0:∀x:Q.ez wr.heap.size wr,x.world.cell? (Ad b (off+k*3))=some (I s.page):=fun x=>by rw[hkc x _ _ hbl,c0]
    have e1:∀x:Q.ez wr.heap.size wr,x.world.cell? (Ad b (off+k*3+1))=some (.string s.data):=fun x=>by rw[hkc x _ _ hbl,c1]
    have e2:∀x:Q.ez wr.heap.size wr,x.world.cell? (Ad b (off+k*3+2))=some (.slice s.ao s.bg.length s.cap):=fun x=>by rw[hkc x _ _ hbl,c2]
    have HC:Hid (∀W,Below wr.heap.size wr W->Calls Tryz.prog 89 #[.agg #[I s.page,.string s.data,.slice s.ao s.bg.length s.cap]] W fun e w'=>e=.returned (.bool (LM.bQ s))/\Below W.heap.size W w'):=fun W hb=>Au s W (c3.below hb) rJ
    clear JM bN hb c0 c1 c2 c3 rJ;cases e:LM.bQ s with
    | false =>
     have HX:=ai (DB.o (by rw[e];rfl));rw[e] at HC;clear e HE DB FU Un hkc;go_wp2;refine Q.bu (by kernel_rfl) (by kernel_rfl) ?_
     repeat (first | go_big_quiet_step ((go_at_call 89;exact bM _ HC.o)) | quiet_step ((go_at_call 89;exact bM _ HC.o)))
     refine wpQuiet_nil ?_;intro _ hw';obtain⟨x,hw''⟩:=hw';subst hw'';go_wp2;go_ret;exact⟨bY HX.o.symm,iY.o.trans (x.keeps.mono iY.o.size)⟩
    | true =>
     rw[e] at HC HE DB;rw[Bool.true_and] at HE DB;clear e;by_cases L3:k=0
     · have z1:decide ((0:Int)<(k:Int))=false:=by simp;omega
       have z2:decide (0<k)=false:=by simp;omega
       have HX:Hid (LM.gA hs k=true):=by show _=_;rw[FU.o,L3];rfl
       rw[HX.o] at HE;clear L3 DB FU Un hkc HX;go_wp2;refine Q.bu (by kernel_rfl) (by kernel_rfl) ?_
       repeat (first | go_big_quiet_step ((go_at_call 89;exact bM _ HC.o)) | quiet_step ((go_at_call 89;exact bM _ HC.o)))
       refine wpQuiet_nil ?_;intro _ hw';obtain⟨x,hw''⟩:=hw';subst hw'';go_wp2;go_roundw
       case rel=>exact⟨k+1,by omega,by go_num,HE.o,iY.o.trans (x.keeps.mono iY.o.size)⟩
       case measure=>simp[intOf];omega
     · have hk1:(1:Int)<=(k:Int):=by omega
       have hk2:0<k:=by omega
       have hk3:(0:Int)<(k:Int):=by omega
       have hkz:(k==0)=false:=by simpa using L3
       obtain⟨p,hp⟩:=ex ((LM.aY hs (k-1)).page);have hpv:=Un.o hk2;rw[<- hp] at hpv FU;rw[hkz,Bool.false_or] at FU;have e3:∀x:Q.ez wr.heap.size wr,x.world.cell? ⟨b,off+(k-1)*3,none⟩=some (I p):=fun x=>by rw[hkc x _ _ hbl,hpv]
       clear hp hpv L3 Un hkc hkz;by_cases o6:p<s.page
       · have HX:Hid (LM.gA hs k=true):=by show _=_;rw[FU.o,decide_eq_true o6]
         rw[HX.o] at HE;have hnl:¬s.page<=p:=by omega
         clear DB FU HX;go_wp2;refine Q.bu (by kernel_rfl) (by kernel_rfl) ?_
         repeat (first | go_big_quiet_step ((go_at_call 89;exact bM _ HC.o)) | quiet_step ((go_at_call 89;exact bM _ HC.o)))
         refine wpQuiet_nil ?_;intro _ hw';obtain⟨x,hw''⟩:=hw';subst hw'';go_wp2;go_roundw
         case rel=>exact⟨k+1,by omega,by go_num,HE.o,iY.o.trans (x.keeps.mono iY.o.size)⟩
         case measure=>simp[intOf];omega
       · have HX:Hid (LM.dC hs=false):=DB.o (by rw[FU.o,decide_eq_false o6]);have hnl:s.page<=p:=by omega
         clear HE DB FU;go_wp2;refine Q.bu (by kernel_rfl) (by kernel_rfl) ?_
         repeat (first | go_big_quiet_step ((go_at_call 89;exact bM _ HC.o)) | quiet_step ((go_at_call 89;exact bM _ HC.o)))
         refine wpQuiet_nil ?_;intro _ hw';obtain⟨x,hw''⟩:=hw';subst hw'';go_wp2;go_ret;exact⟨bY HX.o.symm,iY.o.trans (x.keeps.mono iY.o.size)⟩
  · obtain rfl:k=hs.length:=by omega
    go_wp2;go_ret;exact⟨bY HZ.o.symm,iY.o⟩
end LW
end Go.Proofs.YtpgifpeohlllfaaGreat
