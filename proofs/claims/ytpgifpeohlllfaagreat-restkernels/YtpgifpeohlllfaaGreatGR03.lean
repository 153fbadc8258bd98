import Derived.Test.YtpgifpeohlllfaaGreatGR02
set_option maxHeartbeats 20000000
set_option linter.unusedVariables false
set_option maxRecDepth 100000
set_option linter.unusedSimpArgs false
namespace Go.Proofs.YtpgifpeohlllfaaGreat
open Go.RowKit
def jH (a:aZ) (n:Nat):List Int:=(List.range n).map (fun m:Nat=>a.page+(m:Int))
def fq (l:List aZ):Nat->List Int
 | 0=>[]
 | i+1=>fq l i++jH (bl l i) (bl l i).bC.toNat
def mH (l:List aZ):List Int:=fq l l.length
def jC (l:List aZ) (hs:List bR):Bool:=decide (hs.map (·.page)=mH l)
def mA (l:List aZ):Nat->Bool
 | 0=>false
 | k+1=>mA l k || (bl l k).zero
def kN (l:List aZ):Bool:=mA l l.length
def jW (hs:List bR):Nat->Bool
 | 0=>true
 | k+1=>jW hs k&&cu (aV hs k)
def pQ (hs:List bR):Bool:=jW hs hs.length
def xO (l:List aZ) (en:Int):Bool:=(bV l (en.tdiv 16)).2&&(decide (2<=(bV l (en.tdiv 16)).1.fI)&&decide (en.tmod 8=0))
def ld (l:List aZ) (hs:List bR) (en:Int):Int:=if bB l=0 then (if !kN l&&(jC l hs&&(pQ hs&&xO l en)) then 0 else 1) else bB l
theorem sk (a:aZ) (n:Nat):jH a (n+1)=jH a n++[a.page+(n:Int)]:=by
 grind [jH,List.range_succ]
theorem JI (a:aZ) (n m:Nat) (h:n<m):∃t,jH a m=jH a n++(a.page+(n:Int))::t:=by
 induction m with
 | zero=>omega
 | succ m ih =>
  by_cases e:n=m
  · simp_all [sk]
  grind [sk]
theorem AK (l:List aZ) (i:Nat):∀n,i<=n->∃t,fq l n=fq l i++t
 | 0,h=>by simp_all
 | n+1,h=>by
  by_cases e:i=n+1
  · simp_all
  · obtain⟨t,ht⟩:=AK l i n (by omega)
    grind [fq]
theorem Lm (l:List aZ) (i:Nat) (hi:i<l.length) (n:Nat) (hn:n<(bl l i).bC.toNat):∃t,mH l=(fq l i++jH (bl l i) n)++((bl l i).page+(n:Int))::t:=by
 obtain⟨t,ht⟩:=AK l (i+1) l.length (by omega);obtain⟨u,hu⟩:=JI (bl l i) n _ hn
 grind [mH,fq]
theorem Bq (l:List aZ):∀(k n:Nat),k<=n->mA l k=true->mA l n=true
 | k,0,h,hk=>by grind
 | k,n+1,h,hk=>by
  by_cases e:k=n+1
  · grind
  · simp[mA,Bq l k n (by omega) hk]
theorem VN (l:List aZ) (k:Nat) (hk:k<l.length) (h:(bl l k).zero=true):kN l=true:=Bq l (k+1) l.length (by omega) (by simp[mA,h])
theorem FH (l:List aZ):∀n,mA l n=false->∀i,i<n->(bl l i).zero=false
 | 0,_,i,hi=>by omega
 | n+1,h,i,hi=>by
  simp only[mA,Ku] at h;by_cases e:i=n
  · grind
  · exact FH l n h.1 i (by omega)
theorem xL (l:List bR):∀(k n:Nat),k<=n->jW l k=false->jW l n=false
 | k,0,h,hk=>by grind
 | k,n+1,h,hk=>by
  by_cases e:k=n+1
  · grind
  · simp[jW,xL l k n (by omega) hk]
theorem Np (l:List bR) (k:Nat) (hk:k<l.length) (h:cu (aV l k)=false):pQ l=false:=xL l (k+1) l.length (by omega) (by simp[jW,h])
theorem Br (l:List bR):∀n,jW l n=true->∀i,i<n->cu (aV l i)=true
 | 0,_,i,hi=>by omega
 | n+1,h,i,hi=>by
  simp only[jW,cR] at h;by_cases e:i=n
  · grind
  · exact Br l n h.1 i (by omega)
theorem y8 (hs:List bR) (c:Nat) (h:c<hs.length):(hs.take (c+1)).map (·.page)=(hs.take c).map (·.page)++[(aV hs c).page]:=by
 grind [List.take_succ_eq_append_getElem,aV]
theorem Nv {l:List aZ} {hs:List bR} {pre t:List Int} {x:Int} (hp:(hs.take hs.length).map (·.page)=pre) (ho:mH l=pre++x::t):jC l hs=false:=by
 simp_all [jC]
theorem Nw {l:List aZ} {hs:List bR} {pre t:List Int} {x:Int} {c:Nat} (hc:c<hs.length) (hp:(hs.take c).map (·.page)=pre) (ho:mH l=pre++x::t) (hx:(aV hs c).page≠x):jC l hs=false:=by
 unfold jC;refine dJ (fun e=>?_);have h1:=y8 hs c hc
 grind [List.take_append_drop,List.append_cancel_left]
theorem Qu {l:List aZ} {hs:List bR} {c:Nat} (hc:c<=hs.length) (hp:(hs.take c).map (·.page)=fq l l.length):jC l hs=decide (c=hs.length):=by
 grind [jC,mH,List.length_map]
def F9 (w:World) (b off:Nat) (l:List bR):Prop:=∀i,i<l.length ->
 w.cell? (Ad b (off+i*3))=some (I (aV l i).page)/\w.cell? (Ad b (off+i*3+1))=some (.string (aV l i).data)/\w.cell? (Ad b (off+i*3+2))=some (.slice (aV l i).ao (aV l i).cM.length (aV l i).cap)/\kQ w (aV l i).ao (aV l i).cM
theorem KI {w w':World} {b off:Nat} {l:List bR} (hb:Below w.heap.size w w') (hlt:b<w.heap.size) (h:F9 w b off l):F9 w' b off l:=fun i hi=>by
 obtain⟨c0,c1,c2,c3⟩:=h i hi
 grind [fF,kQ.below]
def fX (w:World) (ao:Option Addr) (l:List bR):Prop:=gB F9 w ao l
theorem fX.below {w w':World} {ao:Option Addr} {l:List bR} (h:fX w ao l) (hb:Below w.heap.size w w'):fX w' ao l:=gB.below (lie:=F9) (fun hb hlt h=>KI hb hlt h) h hb
def nk (l:List bR):Prop:=bT l.length/\∀k,k<l.length->vD (aV l k)
theorem Nr {p:Int} (h:0<=p/\p<=3):p=0∨p=1∨p=2∨p=3:=by omega
theorem Nu (l:List aZ) (hc:bB l=0) (p:Int) (h:(bV l p).2=true):0<=(bV l p).1.fI/\(bV l p).1.fI<=3:=by
 by_cases e:∃k,k<l.length/\fP (bl l k) p=true
 · obtain⟨k,hk,hh⟩:=e;have:∃k,k<l.length/\fP (bl l k) p=true/\∀i,i<k->fP (bl l i) p=false:=by
    induction k using Nat.strongRecOn with
    | _ k ih =>
     grind
   obtain⟨k,hk,h1,h2⟩:=this;rw[oG l p k hk h2 h1]
   simp_all [fG,fw]
 grind [oF]
open Go.RowKit
def kZ (hs:List bR) (k:Nat):Bool:=k==0 || decide ((aV hs (k-1)).page<(aV hs k).page)
def gX (hs:List bR):Nat->Bool
 | 0=>true
 | k+1=>gX hs k&&(cu (aV hs k)&&kZ hs k)
def ed (hs:List bR):Bool:=gX hs hs.length
theorem AJ (l:List bR):∀(k n:Nat),k<=n->gX l k=false->gX l n=false
 | k,0,h,hk=>by grind
 | k,n+1,h,hk=>by
  by_cases e:k=n+1
  · grind
  · simp[gX,AJ l k n (by omega) hk]
theorem IU (l:List bR) (k:Nat) (hk:k<l.length) (h:(cu (aV l k)&&kZ l k)=false):ed l=false:=AJ l (k+1) l.length (by omega) (by grind [gX])
theorem ng (l:List bR):∀n,gX l n=true->∀i,i<n->cu (aV l i)=true/\kZ l i=true
 | 0,_,i,hi=>by omega
 | n+1,h,i,hi=>by
  simp only[gX,cR] at h;by_cases e:i=n
  · grind
  · exact ng l n h.1 i (by omega)
theorem FM (l:List bR):∀n,(∀i,i<n->cu (aV l i)=true/\kZ l i=true)->gX l n=true
 | 0,_=>rfl
 | n+1,h=>by
  simp only[gX,cR];exact⟨FM l n (fun i hi=>h i (by omega)),h n (by omega)⟩
def C9 (l:List aZ) (hs:List bR) (k:Nat):Bool:=(bV l (aV hs k).page).2&&!(bV l (aV hs k).page).1.zero
def xM (l:List aZ) (hs:List bR):Nat->Bool
 | 0=>true
 | k+1=>xM l hs k&&C9 l hs k
theorem Ek (l:List aZ) (hs:List bR):∀n,xM l hs n=true->∀i,i<n->C9 l hs i=true
 | 0,_,i,hi=>by omega
 | n+1,h,i,hi=>by
  simp only[xM,cR] at h;by_cases e:i=n
  · grind
  · exact Ek l hs n h.1 i (by omega)
theorem Lr (l:List aZ) (hs:List bR):∀n,(∀i,i<n->C9 l hs i=true)->xM l hs n=true
 | 0,_=>rfl
 | n+1,h=>by
  simp only[xM,cR];exact⟨Lr l hs n (fun i hi=>h i (by omega)),h n (by omega)⟩
def Hw (l:List aZ) (hs:List bR) (en:Int):Int:=if bB l=0 then (if decide ((hs.length:Int)=gV l l.length)&&(ed hs&&(xM l hs hs.length&&xO l en)) then 0 else 1) else bB l
/-! the pages of areas that are right rise -/
def jZ (L:List Int):Prop:=L.Pairwise (·<·)
theorem uh (a:aZ) (n:Nat) (x:Int):x∈jH a n↔a.page<=x/\x<a.page+(n:Int):=by
 unfold jH;rw[xz];constructor
 · grind
 · rintro⟨h1,h2⟩;exact⟨(x-a.page).toNat,vk.2 (by omega),by omega⟩
theorem y7 (a:aZ):∀n,jZ (jH a n)
 | 0=>by simp[jH,jZ]
 | n+1=>by
  rw[sk];unfold jZ;rw[PY];refine⟨y7 a n,by simp,fun x hx y hy=>?_⟩
  grind [uh]
theorem Ht (a:aZ) (n:Nat):(jH a n).length=n:=by simp[jH]
theorem Lp (l:List aZ) (hc:bB l=0) (i:Nat) (hi:i+1<l.length):(bl l i).page+(bl l i).bC<=(bl l (i+1)).page:=by
 have h:=fw l hc (i+1) hi
 grind [lJ,iF,aZ.mW]
theorem ym (l:List aZ) (hc:bB l=0):∀i,i<=l.length->∀x∈fq l i,∀j,j<l.length->i<=j->x<(bl l j).page
 | 0,_,x,hx,j,_,_=>by grind [fq]
 | i+1,hi,x,hx,j,hj,hij=>by
  simp only[fq,kq] at hx;rcases hx with hx | hx
  · exact ym l hc i (by omega) x hx j hj (by omega)
  · have hk:=fG l i (fw l hc i (by omega));have h1:=(uh _ _ _).1 hx;have step:∀d,i+1+d<l.length->(bl l i).page+(bl l i).bC<=(bl l (i+1+d)).page:=by
     intro d;induction d with
     | zero=>simp_all [Lp]
     | succ d ih =>
      intro h;have h2:=ih (by omega);have h3:=Lp l hc (i+1+d) h;have h4:=fG l (i+1+d) (fw l hc (i+1+d) (by omega))
      grind
    have:=step (j-(i+1)) (by omega)
    grind
theorem se (l:List aZ) (hc:bB l=0):∀i,i<=l.length->jZ (fq l i)
 | 0,_=>by simp[fq,jZ]
 | i+1,hi=>by
  simp only[fq];unfold jZ;rw[PY];refine⟨se l hc i (by omega),y7 _ _,fun x hx y hy=>?_⟩;have h1:=ym l hc i (by omega) x hx i (by omega) (aI _)
  grind [uh]
theorem si (l:List aZ) (hc:bB l=0):∀i,i<=l.length->((fq l i).length:Int)=gV l i
 | 0,_=>rfl
 | i+1,hi=>by
  have ih:=si l hc i (by omega);have hk:=fG l i (fw l hc i (by omega))
  grind [fq,gV,Ht]
theorem pR (l:List aZ) (x:Int):∀i,x∈fq l i↔∃k,k<i/\fP (bl l k) x=true
 | 0=>by simp[fq]
 | i+1=>by
  simp only[fq,kq];rw[pR l x i,uh]
  grind [fP,aZ.mW]
theorem r7 {x:Int} {L:List Int} (h:jZ (x::L)):jZ L/\∀z∈L,x<z:=⟨(CZ.1 h).2,(CZ.1 h).1⟩
theorem yj:∀(K L:List Int),jZ L->jZ K->(∀z∈L,z∈K)->L.length<=K.length
 | [],L,_,_,hm=>by
  cases L with
  | nil=>omega
  | cons x L=>grind [List.mem_cons_self]
 | y::K,L,hL,hK,hm=>by
  cases L with
  | nil=>grind
  | cons x L =>
   obtain⟨hL1,hL2⟩:=r7 hL;obtain⟨Eg,hK2⟩:=r7 hK;by_cases e:x=y
   · subst e;have:=yj K L hL1 Eg (fun z hz=>by
      grind)
     grind
   · have hx:x∈K:=by
      grind
     have hyx:=hK2 x hx;have:=yj K (x::L) hL Eg (fun z hz=>by
      grind)
     grind
theorem FJ:∀(L K:List Int),jZ L->jZ K->(∀z∈L,z∈K)->K.length<=L.length->L=K
 | [],K,_,_,_,hl=>by
  simp_all
 | x::L,K,hL,hK,hm,hl=>by
  cases K with
  | nil=>grind [List.mem_cons_self]
  | cons y K =>
   obtain⟨hL1,hL2⟩:=r7 hL;obtain⟨Eg,hK2⟩:=r7 hK;have e:x=y:=by
    rcases xB.1 (hm x C4) with g | g
    · exact g
    · have hyx:=hK2 x g;have:=yj K (x::L) hL Eg (fun z hz=>by
       grind)
      grind
   subst e;rw[FJ L K hL1 Eg (fun z hz=>by
    grind) (by grind)]
theorem Bt (hs:List bR) (h:ed hs=true):jZ (hs.map (·.page)):=by
 have step:∀i j,i<j->j<hs.length->(aV hs i).page<(aV hs j).page:=by
  intro i j hij hj;induction j with
  | zero=>omega
  | succ j ih =>
   have h1:=(ng hs hs.length h (j+1) hj).2
   grind [kZ]
 grind [jZ,List.pairwise_iff_getElem,aV]
theorem Lj (hs:List bR) (h:jZ (hs.map (·.page))) (k:Nat) (hk:k<hs.length):kZ hs k=true:=by
 grind [kZ,jZ,List.pairwise_iff_getElem,aV]
theorem IV (l:List aZ) (p:Int) (k:Nat) (hk:k<l.length) (h:fP (bl l k) p=true):∃j,j<l.length/\bV l p=(bl l j,true):=by
 induction k using Nat.strongRecOn with
 | _ k ih =>
  grind [oG]
theorem Qt (l:List aZ) (p:Int) (h:(bV l p).2=true):∃k,k<l.length/\fP (bl l k) p=true:=by
 grind [oF]
theorem Za (hs:List bR) (k:Nat) (h:k<hs.length):(aV hs k).page∈hs.map (·.page):=by
 grind [aV]
theorem OT (hs:List bR) (x:Int) (h:x∈hs.map (·.page)):∃k,k<hs.length/\(aV hs k).page=x:=by
 obtain⟨s,hs1,rfl⟩:=xz.1 h;obtain⟨k,hk,e⟩:=List.getElem_of_mem hs1;refine⟨k,hk,?_⟩
 grind [aV]
theorem Ls (l:List aZ) (hc:bB l=0) (p:Int) (j k:Nat) (hj:j<l.length) (hk:k<l.length) (h1:fP (bl l j) p=true) (h2:fP (bl l k) p=true):j=k:=by
 have key:∀j k,j<k->k<l.length->fP (bl l j) p=true->fP (bl l k) p=true->False:=by
  intro j k hjk hk h1 h2;have hm:p∈fq l k:=(pR l p k).2 ⟨j,hjk,h1⟩;have:=ym l hc k (by omega) p hm k hk (aI _)
  grind [fP]
 grind
theorem Qs (l:List aZ) (hs:List bR) (hc:bB l=0) :
  (!kN l&&(jC l hs&&pQ hs))=(decide ((hs.length:Int)=gV l l.length)&&(ed hs&&xM l hs hs.length)):=by
 rw[Bool.eq_iff_iff];simp only[cR,Kn,gP];constructor
 · rintro⟨hz,he,hsh⟩;have he':hs.map (·.page)=mH l:=kr he;have hlen:=dQ List.length he';rw[ub] at hlen;have hr:jZ (hs.map (·.page)):=by rw[he'];exact se l hc l.length (aI _)
   refine⟨by rw[hlen];exact si l hc l.length (aI _),?_,?_⟩
   · exact FM hs hs.length (fun i hi=>⟨Br hs hs.length hsh i hi,Lj hs hr i hi⟩)
   · refine Lr l hs hs.length (fun i hi=>?_);have hm:(aV hs i).page∈fq l l.length:=by
      have:=Za hs i hi;rw[he'] at this;exact this
     obtain⟨k,hk,hh⟩:=(pR l _ _).1 hm;obtain⟨j,hj,e⟩:=IV l _ k hk hh;unfold C9;rw[e];simp[FH l l.length hz j hj]
 · rintro⟨hlen,hr,hin⟩;have hsub:∀z∈hs.map (·.page),z∈mH l:=fun z hz=>by
    obtain⟨k,hk,rfl⟩:=OT hs z hz;have:=Ek l hs hs.length hin k hk;unfold C9 at this;simp only[cR] at this;obtain⟨j,hj,hh⟩:=Qt l _ this.1;exact(pR l _ _).2 ⟨j,hj,hh⟩
   have he':hs.map (·.page)=mH l:=FJ _ _ (Bt hs hr) (se l hc l.length (aI _)) hsub (by
    grind [si,mH])
   refine⟨?_,dI he',?_⟩
   · cases hz:kN l
     · rfl
     · exfalso;have:∃i,i<l.length/\(bl l i).zero=true:=by
        by_cases g:∃i,i<l.length/\(bl l i).zero=true
        · exact g
        · have key:∀n,n<=l.length->mA l n=false:=by
           intro n;induction n with
           | zero=>intro _;rfl
           | succ n ih =>
            grind [mA]
          grind [kN]
       obtain⟨i,hi,hzi⟩:=this;have hk:=fG l i (fw l hc i hi);have hh:fP (bl l i) (bl l i).page=true:=by
        grind [fP,aZ.mW]
       have hm:(bl l i).page∈hs.map (·.page):=by
        rw[he'];exact(pR l _ _).2 ⟨i,hi,hh⟩
       obtain⟨k,hk1,hk2⟩:=OT hs _ hm;have ase:=Ek l hs hs.length hin k hk1
       grind [C9,Ls,oG]
   · have key:∀n,n<=hs.length->jW hs n=true:=by
      intro n;induction n with
      | zero=>intro _;rfl
      | succ n ih =>
       intro hn;simp only[jW,cR];exact⟨ih (by omega),(ng hs hs.length hr n (by omega)).1⟩
     exact key hs.length (aI _)
theorem Ny (l:List aZ) (hs:List bR) (en:Int):ld l hs en=Hw l hs en:=by
 grind [ld,Hw,Qs]
open Go.RowKit
theorem Am:∀(qs ps:List Int),ps.Pairwise (·<·)->qs.Pairwise (·<·)->(∀x∈ps,x∈qs)->ps.length<=qs.length
 | [],[],_,_,_=>aI _
 | [],p::ps,_,_,h=>by cases h p C4
 | q::qs,[],_,_,_=>by simp
 | q::qs,p::ps,h1,h2,h=>by
  rw[CZ] at h1 h2;by_cases e:p=q
  · subst e;have:=Am qs ps h1.2 h2.2 (fun x hx=>by
     grind)
    grind
  · have hp:p∈qs:=by
     grind
    have hq:=h2.1 p hp;have:=Am qs (p::ps) (CZ.2 h1) h2.2 (fun x hx=>by
     grind)
    grind
def yI (p:Int):Nat->List Int
 | 0=>[]
 | n+1=>p::yI (p+1) n
theorem Oq (p:Int):∀n,(yI p n).length=n:=fun n=>by
 induction n generalizing p with
 | zero=>rfl
 | succ n ih=>grind [yI]
theorem xm:∀(n:Nat) (p x:Int),x∈yI p n↔p<=x/\x<p+n
 | 0,p,x=>by constructor <;> intro h;cases h;omega
 | n+1,p,x=>by
  show x∈p::yI (p+1) n↔_;rw[xB,xm n (p+1) x];omega
theorem DZ:∀(n:Nat) (p:Int),(yI p n).Pairwise (·<·)
 | 0,p=>List.Pairwise.nil
 | n+1,p=>CZ.2 ⟨fun x hx=>by grind [xm],DZ n (p+1)⟩
def mQ:List aZ->List Int
 | []=>[]
 | a::r=>yI a.page a.bC.toNat++mQ r
theorem G0:∀(l:List aZ) (x:Int),x∈mQ l↔(bV l x).2=true
 | [],x=>by constructor <;> intro h <;> cases h
 | a::r,x=>by
  show x∈yI a.page a.bC.toNat++mQ r↔_;rw[kq,xm,G0 r x];show _↔(if fP a x=true then (a,true) else bV r x).2=true;by_cases c:fP a x=true
  · have h6:a.page<=x/\x<a.page+a.bC:=kr c
    grind
  · have h6:¬(a.page<=x/\x<a.page+a.bC):=fun g=>c (dI g)
    grind
def CJ:Int->List aZ->Prop
 | _,[]=>True
 | lo,a::r=>lo<=a.page/\1<=a.bC/\CJ (a.page+a.bC) r
theorem CJ.low:∀{l:List aZ} {lo:Int},CJ lo l->∀x∈mQ l,lo<=x
 | [],lo,h,x,hx=>by cases hx
 | a::r,lo,h,x,hx=>by
  obtain⟨h1,h2,h3⟩:=h;rcases kq.1 hx with g | g
  · grind [xm]
  · have:=h3.low x g;omega
theorem CJ.sorted:∀{l:List aZ} {lo:Int},CJ lo l->(mQ l).Pairwise (·<·)
 | [],lo,h=>List.Pairwise.nil
 | a::r,lo,h=>by
  obtain⟨h1,h2,h3⟩:=h;show(yI a.page a.bC.toNat++mQ r).Pairwise (·<·);rw[PY];refine⟨DZ _ _,h3.sorted,fun x hx y hy=>?_⟩;have:=(xm _ _ _).1 hx;have:=h3.low y hy;omega
def G1 (l:List aZ):Prop:=∀i,i<l.length->(1<=(bl l i).page/\1<=(bl l i).bC)/\(0<i->(bl l (i-1)).page+(bl l (i-1)).bC<=(bl l i).page)
theorem G1.tail {a:aZ} {r:List aZ} (h:G1 (a::r)):G1 r:=fun i hi=>by
 have h1:=h (i+1) (by grind);refine⟨h1.1,fun g=>?_⟩;have h2:=h1.2 (by omega);obtain⟨j,rfl⟩:∃j,i=j+1:=⟨i-1,by omega⟩;exact h2
theorem Jl:∀(l:List aZ) (lo:Int),G1 l->(∀a r,l=a::r->lo<=a.page)->CJ lo l
 | [],lo,h,_=>trivial
 | a::r,lo,h,hlo=>by
  have h0:=(h 0 (by simp)).1;refine⟨hlo a r rfl,h0.2,Jl r _ h.tail (fun b q e=>?_)⟩;subst e;exact(h 1 (by simp)).2 (by omega)
theorem Mz {l:List aZ} (hc:bB l=0):G1 l:=fun i hi=>by
 have h:=fw l hc i hi;have h1:=fG l i h
 grind [lJ,iF,aZ.mW]
theorem PF {l:List aZ} (hc:bB l=0):CJ 1 l:=Jl l 1 (Mz hc) (fun a r e=>by
 subst e;exact((Mz hc) 0 (by simp)).1.1)
theorem Jk (a:aZ) (r:List aZ):∀k,gV (a::r) (k+1)=a.bC+gV r k
 | 0=>by show(0:Int)+a.bC=a.bC+0;omega
 | k+1=>by
  show gV (a::r) (k+1)+(bl (a::r) (k+1)).bC=a.bC+(gV r k+(bl r k).bC);rw[Jk a r k]
  grind [bl]
theorem A5:∀{l:List aZ} {lo:Int},CJ lo l->((mQ l).length:Int)=gV l l.length
 | [],lo,h=>rfl
 | a::r,lo,h=>by
  obtain⟨h1,h2,h3⟩:=h;show(((yI a.page a.bC.toNat++mQ r).length:Nat):Int)=gV (a::r) (r.length+1);rw[Jk,fk,Oq,<- A5 h3];omega
theorem My {l:List aZ} (hc:bB l=0):dU l=((mQ l).length:Int):=by
 unfold dU;rw[aR hc,A5 (PF hc)]
theorem Sc {l:List aZ} (hc:bB l=0) (x:Int):(bh l x).2=true↔x∈mQ l:=by
 grind [G0,bh]
open Go.RowKit
structure jm where
 data:ByteArray
 refs:Int
 eX:Bool
 seen:Bool
structure lD where
 data:ByteArray
 refs:Int
structure bG where
 page:Int
 kind:Int
 loc:Int
structure cO where
 live:Bool
 bk:List aZ
 aU:List bG
structure aN where
 aD:List bR
 frames:List jm
 slots:List lD
 aj:List cO
 hand:Int
def eW:jm:=⟨⟨#[]⟩,0,false,false⟩
def jS:lD:=⟨⟨#[]⟩,0⟩
def dW:bG:=⟨0,0,0⟩
def sM:cO:=⟨false,[],[]⟩
def au (l:List jm) (i:Nat):jm:=l.getD i eW
def br (l:List lD) (i:Nat):lD:=l.getD i jS
def aH (l:List bG) (i:Nat):bG:=l.getD i dW
def ak (l:List cO) (i:Nat):cO:=l.getD i sM
theorem jc {α:Type} {d:α}:∀{l:List α} {i:Nat},i<l.length->l.getD i d∈l
 | [],i,h=>absurd h (gN _)
 | a::r,0,h=>C4
 | a::r,i+1,h=>E5 _ (jc (l:=r) (xH h))
theorem gU {α:Type} (d:α):∀{l:List α} {x:α},x∈l->∃i,i<l.length/\l.getD i d=x
 | a::r,x,h=>by
  rcases xB.1 h with rfl | h
  · exact⟨0,Kh _,rfl⟩
  · obtain⟨i,hi,e⟩:=gU d h;exact⟨i+1,Kg hi,e⟩
theorem eD {α:Type} (d x:α):∀(l:List α) (i:Nat),i<l.length->(l.set i x).getD i d=x
 | a::r,0,_=>rfl
 | a::r,i+1,h=>eD d x r i (xH h)
theorem pV {α:Type} (d x:α):∀(l:List α) (i j:Nat),i≠j->(l.set i x).getD j d=l.getD j d
 | [],_,_,_=>rfl
 | a::r,0,0,h=>absurd rfl h
 | a::r,0,j+1,_=>rfl
 | a::r,i+1,0,_=>rfl
 | a::r,i+1,j+1,h=>pV d x r i j (fun e=>h (by rw[e]))
def iz (s:cO) (kd at_:Int):List (Int×Bool):=(s.aU.filter fun e=>decide (e.kind=kd/\e.loc=at_)).map fun e=>(e.page,(bh s.bk e.page).1.zero)
def ck (ss:List cO) (kd at_:Int):List (Int×Bool):=ss.flatMap fun s=>iz s kd at_
def cY (hs:List bR) (p:Int):Option bR:=hs.find? fun s=>decide (s.page=p)
def eO (hs:List bR) (p:Int):ByteArray:=match cY hs p with
 | some s=>mI s
 | none=>⟨#[]⟩
def rR:ByteArray:=⟨#[0,0,0,0,0,0,0,0,0,0,0,0,0,0,0,0]⟩
def dY (hs:List bR) (p:Int) (z:Bool):ByteArray:=if z then rR else eO hs p
def pW (nf ns:Nat) (ar:List aZ) (e:bG):Prop:=(bh ar e.page).2=true/\((e.kind=1/\0<=e.loc/\e.loc<nf)∨(e.kind=2/\0<=e.loc/\e.loc<ns))
structure rH (hs:List bR) (nf ns:Nat) (s:cO):Prop where
 dead:s.live=false->s.bk=[]/\s.aU=[]
 bk:bB s.bk=0
 kP:(s.aU.map (·.page)).Pairwise (·<·)
 Hf:∀e∈s.aU,pW nf ns s.bk e
 aD:∀p,(bh s.bk p).2=true->(bh s.bk p).1.zero=false->(cY hs p).isSome=true
structure kI (hs:List bR) (L:List (Int×Bool)) (f:jm):Prop where
 refs:f.refs=L.length
 zero:L=[]->f=eW
 one:∀x∈L,∀y∈L,x=y
 size:L≠[]->f.data.size=16
 fill:f.eX=false->∀x∈L,f.data=dY hs x.1 x.2
structure l7 (L:List (Int×Bool)) (s:lD):Prop where
 refs:s.refs=L.length
 zero:L=[]->s=jS
 one:∀x∈L,∀y∈L,x=y
 size:L≠[]->s.data.size=16
def iO (l:List cO):Nat->Int
 | 0=>0
 | k+1=>iO l k+dU (ak l k).bk
def fL (l:List cO):Int:=iO l l.length
def lu (k:aN):Bool:=decide ((3<=k.frames.length/\k.frames.length<=64)/\k.slots.length<=512/\(1<=k.aj.length/\k.aj.length<=4)/\k.aD.length<=255)
structure bc (k:aN):Prop where
 counts:lu k=true
 kP:ed k.aD=true
 hand:0<=k.hand/\k.hand<k.frames.length
 each:∀s∈k.aj,rH k.aD k.frames.length k.slots.length s
 room:fL k.aj<=k.slots.length
 yS:∀i:Nat,i<k.frames.length->kI k.aD (ck k.aj 1 i) (au k.frames i)
 slt:∀i:Nat,i<k.slots.length->l7 (ck k.aj 2 i) (br k.slots i)
theorem bc.c {k:aN} (h:bc k):(3<=k.frames.length/\k.frames.length<=64)/\k.slots.length<=512/\(1<=k.aj.length/\k.aj.length<=4)/\k.aD.length<=255:=kr h.counts
theorem Rb (kd a:Int):ck [] kd a=[]:=rfl
theorem km (s:cO) (r:List cO) (kd a:Int):ck (s::r) kd a=iz s kd a++ck r kd a:=mS
theorem JS (l r:List cO) (kd a:Int):ck (l++r) kd a=ck l kd a++ck r kd a:=qg
theorem uu {s:cO} {kd a:Int} {x:Int×Bool}:x∈iz s kd a↔∃e∈s.aU,e.kind=kd/\e.loc=a/\x=(e.page,(bh s.bk e.page).1.zero):=by
 grind [iz]
theorem nA {ss:List cO} {kd a:Int} {x:Int×Bool}:x∈ck ss kd a↔∃s∈ss,∃e∈s.aU,e.kind=kd/\e.loc=a/\x=(e.page,(bh s.bk e.page).1.zero):=by
 grind [ck,uu]
theorem zY:∀(l:List cO) (j:Nat) (s:cO) (kd a:Int),j<l.length->∃u v,ck l kd a=u++(iz (ak l j) kd a++v)/\ck (l.set j s) kd a=u++(iz s kd a++v)
 | x::r,0,s,kd,a,_=>⟨[],ck r kd a,km x r kd a,km s r kd a⟩
 | x::r,j+1,s,kd,a,h=>by
  obtain⟨u,v,h1,h2⟩:=zY r j s kd a (xH h);refine⟨iz x kd a++u,v,?_,?_⟩
  · rw[km,h1,rW];rfl
  grind [km]
theorem qw (f:cO->cO) (kd a:Int) (kd' a':Int):∀(l:List cO),(∀s∈l,iz (f s) kd a=iz s kd' a')->ck (l.map f) kd a=ck l kd' a'
 | [],_=>rfl
 | x::r,h=>by
  rw[CV,km,km,h x C4,qw f kd a kd' a' r (fun s hs=>h s (E5 _ hs))]
theorem nT (f:cO->cO) (kd a:Int):∀(l:List cO),(∀s∈l,iz (f s) kd a=[])->ck (l.map f) kd a=[]
 | [],_=>rfl
 | x::r,h=>by
  rw[CV,km,h x C4,nT f kd a r (fun s hs=>h s (E5 _ hs))];rfl
theorem ry (l m:List cO):∀k,(∀i,i<k->(ak l i).bk=(ak m i).bk)->iO l k=iO m k
 | 0,_=>rfl
 | k+1,h=>by rw[iO,iO,ry l m k (fun i hi=>h i (Nat.lt_succ_of_lt hi)),h k (E3 k)]
open Go.RowKit
def iw (es:List bG):Prop:=(es.map (·.page)).Pairwise (·<·)
def bD (es:List bG) (p:Int):Option bG:=es.find? fun e=>decide (e.page=p)
theorem GF {a:bG} {r:List bG} (h:iw (a::r)):iw r/\∀e∈r,a.page<e.page:=by
 have:=CZ.1 h;exact⟨this.2,fun e he=>this.1 _ (List.mem_map_of_mem he)⟩
theorem gh:∀{es:List bG} {p:Int} {e:bG},iw es->(bD es p=some e↔e∈es/\e.page=p)
 | [],p,e,_=>by simp[bD]
 | a::r,p,e,h=>by
  have hr:=GF h;by_cases c:a.page=p
  · grind [bD]
  · have:bD (a::r) p=bD r p:=by simp[bD,c]
    rw[this,gh hr.1]
    grind
theorem rU {es:List bG} {p:Int}:bD es p=none↔∀e∈es,e.page≠p:=by
 grind [bD]
def iK:List bG->bG->List bG
 | [],e=>[e]
 | a::r,e=>if a.page<e.page then a::iK r e else if a.page=e.page then e::r else e::a::r
theorem sN:∀{es:List bG} {e:bG},iw es->∃pre post,es=pre++((bD es e.page).toList++post)/\iK es e=pre++e::post/\(∀x∈pre,x.page<e.page)/\∀x∈post,e.page<x.page
 | [],e,_=>⟨[],[],rfl,rfl,by simp,by simp⟩
 | a::r,e,h=>by
  have hr:=GF h;unfold iK;by_cases c:a.page<e.page
  · obtain⟨pre,post,h1,h2,h3,h4⟩:=sN (es:=r) (e:=e) hr.1;have:bD (a::r) e.page=bD r e.page:=by grind [bD]
    grind
  · rw[bf c];by_cases d:a.page=e.page
    · have:bD (a::r) e.page=some a:=by simp[bD,d]
      rw[aR d,this];exact⟨[],r,rfl,rfl,by simp,fun x hx=>by grind⟩
    · have:bD (a::r) e.page=none:=rU.2 fun x hx=>by
       grind
      rw[bf d,this];refine⟨[],a::r,rfl,rfl,by simp,fun x hx=>?_⟩
      grind
theorem Ue {pre post:List bG} {e:bG} (hp:iw pre) (hq:iw post) (h1:∀x∈pre,x.page<e.page) (h2:∀x∈post,e.page<x.page):iw (pre++e::post):=by
 grind [iw,List.pairwise_cons]
theorem yx {a b:List bG} (h:iw (a++b)):iw a/\iw b:=by
 grind [iw]
theorem Jd {es:List bG} {e:bG} (h:iw es):iw (iK es e):=by
 obtain⟨pre,post,h1,h2,h3,h4⟩:=sN (e:=e) h;rw[h2];rw[h1] at h;exact Ue (yx h).1 (yx (yx h).2).2 h3 h4
def iP (ar:List aZ) (kd a:Int) (es:List bG):List (Int×Bool):=(es.filter fun e=>decide (e.kind=kd/\e.loc=a)).map fun e=>(e.page,(bh ar e.page).1.zero)
theorem vR (s:cO) (kd a:Int):iz s kd a=iP s.bk kd a s.aU:=rfl
theorem kH (ar:List aZ) (kd a:Int) (l r:List bG):iP ar kd a (l++r)=iP ar kd a l++iP ar kd a r:=by grind [iP]
theorem tM (ar:List aZ) (kd a:Int) (e:bG) (r:List bG):iP ar kd a (e::r)=iP ar kd a [e]++iP ar kd a r:=kH ar kd a [e] r
theorem ot (ar:List aZ) {kd a:Int} {e:bG} (h:e.kind=kd/\e.loc=a):iP ar kd a [e]=[(e.page,(bh ar e.page).1.zero)]:=by simp[iP,h]
theorem lQ (ar:List aZ) {kd a:Int} {e:bG} (h:¬(e.kind=kd/\e.loc=a)):iP ar kd a [e]=[]:=by
 grind [iP]
theorem Ij {ar:List aZ} {kd a:Int} {es:List bG} {x:Int×Bool}:x∈iP ar kd a es↔∃e∈es,e.kind=kd/\e.loc=a/\x=(e.page,(bh ar e.page).1.zero):=uu (s:=⟨true,ar,es⟩)
theorem GH {ar:List aZ} {kd a:Int} {es:List bG} (h:∀e∈es,¬(e.kind=kd/\e.loc=a)):iP ar kd a es=[]:=by
 simp_all [List.eq_nil_iff_forall_not_mem,Ij]
theorem Cj {l:List cO} {j:Nat} (h:j<l.length):ak l j∈l:=jc h
theorem bc.sp {k:aN} (h:bc k) {j:Nat} (hj:j<k.aj.length):rH k.aD k.frames.length k.slots.length (ak k.aj j):=h.each _ (Cj hj)
theorem jb {ss:List cO} {j:Nat} (hj:j<ss.length) {e:bG} (he:e∈(ak ss j).aU):(e.page,(bh (ak ss j).bk e.page).1.zero)∈ck ss e.kind e.loc:=nA.2 ⟨_,Cj hj,e,he,rfl,rfl,rfl⟩
theorem bc.frame {k:aN} (h:bc k) {i:Nat} {f:jm} (hf:kI k.aD (ck k.aj 1 i) f):bc { k with frames:=k.frames.set i f }:=by
 have hl:(k.frames.set i f).length=k.frames.length:=iG;refine⟨?_,h.kP,by simp_all [hand],?_,h.room,?_,h.slt⟩
 · have:=h.counts
   grind [lu]
 · grind [each]
 · intro n hn;have hn':n<k.frames.length:=by grind
   show kI k.aD (ck k.aj 1 n) ((k.frames.set i f).getD n eW);by_cases c:i=n
   · grind
   · rw[pV _ _ _ _ _ c];exact h.yS n hn'
theorem bc.turn {k:aN} (h:bc k) {x:Int} (hx:0<=x/\x<k.frames.length):bc { k with hand:=x }:=⟨h.counts,h.kP,hx,h.each,h.room,h.yS,h.slt⟩
theorem kI.seen {hs:List bR} {L:List (Int×Bool)} {f:jm} (h:kI hs L f) (b:Bool) (hL:L≠[]):kI hs L { f with seen:=b }:=⟨h.refs,fun e=>absurd e hL,h.one,h.size,h.fill⟩
theorem kI.ne {hs:List bR} {L:List (Int×Bool)} {f:jm} (h:kI hs L f) (hr:f.refs≠0):L≠[]:=fun e=>hr (by rw[h.refs,e];rfl)
theorem kI.nil {hs:List bR} {L:List (Int×Bool)} {f:jm} (h:kI hs L f) (hr:f.refs=0):L=[]:=by
 have:=h.refs
 simp_all
theorem l7.nil {L:List (Int×Bool)} {f:lD} (h:l7 L f) (hr:f.refs=0):L=[]:=by
 have:=h.refs
 simp_all
theorem kI.none (hs:List bR):kI hs [] eW:=⟨rfl,fun _=>rfl,by simp,fun h=>absurd rfl h,by simp⟩
theorem l7.none:l7 [] jS:=⟨rfl,fun _=>rfl,by simp,fun h=>absurd rfl h⟩
def ma (f:jm):jm:=if f.refs-1=0 then eW else { f with refs:=f.refs-1 }
def nB (f:lD):lD:=if f.refs-1=0 then jS else { f with refs:=f.refs-1 }
theorem kI.less {hs:List bR} {X Y:List (Int×Bool)} {x:Int×Bool} {f:jm} (h:kI hs (X++x::Y) f):kI hs (X++Y) (ma f):=by
 have hr:=h.refs;have hn:X++x::Y≠[]:=by simp
 have hm:∀y∈X++Y,y∈X++x::Y:=fun y hy=>by
  grind
 rw[fk,xC] at hr;unfold ma;by_cases c:f.refs-1=0
 · rw[aR c];have:X++Y=[]:=iT (by grind)
   grind [kI.none]
 · rw[bf c];refine⟨?_,fun e=>?_,fun a ha b hb=>h.one a (hm a ha) b (hm b hb),fun _=>h.size hn,fun d y hy=>h.fill d y (hm y hy)⟩
   · grind
   simp_all
theorem l7.less {X Y:List (Int×Bool)} {x:Int×Bool} {f:lD} (h:l7 (X++x::Y) f):l7 (X++Y) (nB f):=by
 have hr:=h.refs;have hn:X++x::Y≠[]:=by simp
 have hm:∀y∈X++Y,y∈X++x::Y:=fun y hy=>by
  grind
 rw[fk,xC] at hr;unfold nB;by_cases c:f.refs-1=0
 · rw[aR c];have:X++Y=[]:=iT (by grind)
   grind [l7.none]
 · rw[bf c];refine⟨?_,fun e=>?_,fun a ha b hb=>h.one a (hm a ha) b (hm b hb),fun _=>h.size hn⟩
   · grind
   simp_all
open Go.RowKit
def iu (i:Int) (e:bG):Bool:=decide (e.kind=1/\e.loc=i)
def rz (i:Int) (es:List bG):List bG:=es.filter fun e=>!iu i e
def iJ (i s:Int) (es:List bG):List bG:=es.map fun e=>if iu i e then ⟨e.page,2,s⟩ else e
def pk (l:List jm):Option Nat:=l.findIdx? fun f=>decide (f.refs=0)
def qU (l:List lD):Option Nat:=l.findIdx? fun f=>decide (f.refs=0)
def kU (i:Int) (s:cO):cO:={ s with aU:=rz i s.aU }
def ik (i s:Int) (sp:cO):cO:={ sp with aU:=iJ i s sp.aU }
def uK (k:aN) (i:Nat):aN:={ k with frames:=k.frames.set i eW,aj:=k.aj.map (kU i) }
def Ci (k:aN) (i s:Nat):aN:={ k with frames:=k.frames.set i eW,slots:=k.slots.set s ⟨(au k.frames i).data,(au k.frames i).refs⟩,aj:=k.aj.map (ik i s) }
def dh (k:aN) (i:Nat):aN:=if (au k.frames i).eX then (match qU k.slots with
 | some s=>Ci k i s
 | none=>uK k i) else uK k i
def dO (k:aN) (j:Nat) (p:Int):ByteArray:=match bD (ak k.aj j).aU p with
 | some e=>if e.kind=1 then (au k.frames e.loc.toNat).data else (br k.slots e.loc.toNat).data
 | none=>dY k.aD p (bh (ak k.aj j).bk p).1.zero
theorem Jg {α β:Type} (f:α->β) (d:α) (d':β):∀(l:List α) (i:Nat),i<l.length->(l.map f).getD i d'=f (l.getD i d)
 | a::r,0,_=>rfl
 | a::r,i+1,h=>Jg f d d' r i (xH h)
theorem uJ {i:Int} {e:bG}:iu i e=true↔e.kind=1/\e.loc=i:=by simp[iu]
theorem mO {i:Int} {e:bG}:iu i e=false↔¬(e.kind=1/\e.loc=i):=by simp[iu]
theorem wV {i:Int} {es:List bG} {e:bG}:e∈rz i es↔e∈es/\¬(e.kind=1/\e.loc=i):=by
 grind [rz,mO]
theorem Je {i:Int} {es:List bG} (h:iw es):iw (rz i es):=List.Pairwise.sublist (List.filter_sublist.map _) h
theorem NQ (i s:Int) (es:List bG):(iJ i s es).map (·.page)=es.map (·.page):=by
 grind [iJ,List.map_congr_left]
theorem Gy {i s:Int} {es:List bG} (h:iw es):iw (iJ i s es):=by grind [iw,NQ]
theorem xX {i s:Int} {es:List bG} {x:bG}:x∈iJ i s es↔(x∈es/\¬(x.kind=1/\x.loc=i))∨∃e∈es,(e.kind=1/\e.loc=i)/\x=⟨e.page,2,s⟩:=by
 grind [iJ,mO]
theorem Pg (ar:List aZ) (i kd a:Int) (es:List bG) (h:¬(kd=1/\a=i)):iP ar kd a (rz i es)=iP ar kd a es:=by
 unfold iP rz;rw[List.filter_filter]
 grind [mO]
theorem uo (ar:List aZ) (i:Int) (es:List bG):iP ar 1 i (rz i es)=[]:=GH fun e he=>(wV.1 he).2
theorem Ey (ar:List aZ) (i s kd a:Int) (h:¬(kd=1/\a=i)) (h2:¬(kd=2/\a=s)):∀es:List bG,iP ar kd a (iJ i s es)=iP ar kd a es
 | []=>rfl
 | e::r=>by
  have e1:iJ i s (e::r)=(if iu i e then ⟨e.page,2,s⟩ else e)::iJ i s r:=rfl;rw[e1,tM,tM ar kd a e r,Ey ar i s kd a h h2 r]
  grind [lQ,mO]
theorem Cn (ar:List aZ) (i s:Int) (es:List bG):iP ar 1 i (iJ i s es)=[]:=GH fun e he g=>by
 grind [xX]
theorem DT (ar:List aZ) (i s:Int):∀es:List bG,(∀e∈es,¬(e.kind=2/\e.loc=s))->iP ar 2 s (iJ i s es)=iP ar 1 i es
 | [],_=>rfl
 | e::r,h=>by
  have e1:iJ i s (e::r)=(if iu i e then ⟨e.page,2,s⟩ else e)::iJ i s r:=rfl;rw[e1,tM,tM ar 1 i e r,DT ar i s r (fun x hx=>h x (E5 _ hx))]
  grind [ot,mO,lQ]
theorem Jc (f:cO->cO) (hf:∀s,(f s).bk=s.bk) (l:List cO):fL (l.map f)=fL l:=by
 grind [fL,ry,ak]
theorem bc.aik {k:aN} (h:bc k) {i:Nat} (hi:i<k.frames.length):bc (uK k i):=by
 have hl:(k.frames.set i eW).length=k.frames.length:=iG;have hm:(k.aj.map (kU i)).length=k.aj.length:=ub ..;refine⟨?_,h.kP,by show 0<=k.hand/\k.hand<((k.frames.set i eW).length:Int);simp_all [hand],?_,?_,?_,?_⟩
 · have:=h.counts
   grind [lu,uK]
 · show ∀s∈k.aj.map (kU i),rH k.aD (k.frames.set i eW).length k.slots.length s;rw[hl];intro s hs;obtain⟨s,hsq,rfl⟩:=xz.1 hs;have g:=h.each s hsq;exact⟨fun d=>⟨(g.dead d).1,by show rz i s.aU=[];rw[(g.dead d).2];rfl⟩,g.bk,Je g.kP,fun e he=>g.Hf e (wV.1 he).1,g.aD⟩
 · show fL (k.aj.map (kU i))<=_;rw[Jc (kU i) (fun _=>rfl)];exact h.room
 · intro n hn;have hn':n<k.frames.length:=by rw[<- hl];exact hn
   show kI k.aD (ck (k.aj.map (kU i)) 1 n) ((k.frames.set i eW).getD n eW);by_cases c:i=n
   · subst c;rw[eD _ _ _ _ hn',nT (kU i) 1 i _ (fun s _=>uo s.bk i s.aU)];exact kI.none _
   · rw[pV _ _ _ _ _ c,qw (kU i) 1 n 1 n _ (fun s _=>Pg s.bk i 1 n s.aU (by omega))];exact h.yS n hn'
 · intro n hn;show l7 (ck (k.aj.map (kU i)) 2 n) (br k.slots n);rw[qw (kU i) 2 n 2 n _ (fun s _=>Pg s.bk i 2 n s.aU (by omega))];exact h.slt n hn
theorem bc.agR {k:aN} (h:bc k) {i s:Nat} (hi:i<k.frames.length) (hs:s<k.slots.length) (hf:ck k.aj 2 s=[]):bc (Ci k i s):=by
 have hl:(k.frames.set i eW).length=k.frames.length:=iG;have hl2:(k.slots.set s ⟨(au k.frames i).data,(au k.frames i).refs⟩).length=k.slots.length:=iG;have hm:(k.aj.map (ik i s)).length=k.aj.length:=ub ..;have hno:∀sp∈k.aj,∀e∈sp.aU,¬(e.kind=2/\e.loc=(s:Int)):=fun sp hsp e he g=>by
  have:(e.page,(bh sp.bk e.page).1.zero)∈ck k.aj 2 s:=nA.2 ⟨sp,hsp,e,he,g.1,g.2,rfl⟩
  grind
 refine⟨?_,h.kP,by show 0<=k.hand/\k.hand<((k.frames.set i eW).length:Int);simp_all [hand],?_,?_,?_,?_⟩
 · have:=h.counts
   grind [lu,Ci]
 · show ∀sp∈k.aj.map (ik i s),rH k.aD (k.frames.set i eW).length (k.slots.set s ⟨(au k.frames i).data,(au k.frames i).refs⟩).length sp;rw[hl,hl2];intro sp hsp;obtain⟨sp,hsq,rfl⟩:=xz.1 hsp;have g:=h.each sp hsq;refine⟨fun d=>⟨(g.dead d).1,by show iJ i s sp.aU=[];rw[(g.dead d).2];rfl⟩,g.bk,Gy g.kP,fun e he=>?_,g.aD⟩;rcases xX.1 he with x | ⟨x,hx,hc,rfl⟩
   · exact g.Hf e x.1
   · exact⟨(g.Hf x hx).1,.inr ⟨rfl,by grind,by grind⟩⟩
 · show fL (k.aj.map (ik i s))<=((k.slots.set s ⟨(au k.frames i).data,(au k.frames i).refs⟩).length:Int);rw[hl2,Jc (ik i s) (fun _=>rfl)];exact h.room
 · intro n hn;have hn':n<k.frames.length:=by rw[<- hl];exact hn
   show kI k.aD (ck (k.aj.map (ik i s)) 1 n) ((k.frames.set i eW).getD n eW);by_cases c:i=n
   · subst c;rw[eD _ _ _ _ hn',nT (ik i s) 1 i _ (fun sp _=>Cn sp.bk i s sp.aU)];exact kI.none _
   · rw[pV _ _ _ _ _ c,qw (ik i s) 1 n 1 n _ (fun sp _=>Ey sp.bk i s 1 n (by omega) (by omega) sp.aU)];exact h.yS n hn'
 · intro n hn;have hn':n<k.slots.length:=by rw[<- hl2];exact hn
   show l7 (ck (k.aj.map (ik i s)) 2 n) ((k.slots.set s ⟨(au k.frames i).data,(au k.frames i).refs⟩).getD n jS);by_cases c:s=n
   · subst c;rw[eD _ _ _ _ hn',qw (ik i s) 2 s 1 i _ (fun sp hsp=>DT sp.bk i s sp.aU (hno sp hsp))];have g:=h.yS i hi;exact⟨g.refs,fun e=>by rw[g.zero e];rfl,g.one,g.size⟩
   · rw[pV _ _ _ _ _ c,qw (ik i s) 2 n 2 n _ (fun sp _=>Ey sp.bk i s 2 n (by omega) (by omega) sp.aU)];exact h.slt n hn'
theorem Pe:∀(n:Nat) (L:List Int),(∀i:Nat,i<n->(i:Int)∈L)->n<=L.length
 | 0,_,_=>oO _
 | n+1,L,h=>by
  have hn:=h n (E3 n);have:=Pe n (L.erase (n:Int)) (fun i hi=>(Kv (by omega)).2 (h i (by omega)))
  grind
def ux (ss:List cO):List bG:=ss.flatMap (·.aU)
theorem uv {hs:List bR} {nf ns:Nat} {s:cO} (g:rH hs nf ns s):(s.aU.length:Int)<=dU s.bk:=by
 rw[My g.bk];have:=Am (mQ s.bk) (s.aU.map (·.page)) g.kP (PF g.bk).sorted (fun x hx=>by
  obtain⟨e,he,rfl⟩:=xz.1 hx;exact(Sc g.bk _).1 (g.Hf e he).1)
 grind
theorem Ig (l r:List cO):∀k,k<=l.length->iO (l++r) k=iO l k:=fun k hk=>ry _ _ _ fun i hi=>by
 grind [ak]
theorem Q9 (l:List cO) (s:cO):fL (l++[s])=fL l+dU s.bk:=by
 simp[fL,iO,Ig,ak]
theorem Cz:∀(m:Nat) (l:List cO),l.length=m->(∀s∈l,(s.aU.length:Int)<=dU s.bk)->((ux l).length:Int)<=fL l
 | 0,l,h,_=>by
  have:l=[]:=iT h;subst this;exact xy _
 | m+1,l,h,hs=>by
  have hne:l≠[]:=fun e=>by grind
  obtain⟨l',s,rfl⟩:∃l' s,l=l'++[s]:=⟨l.dropLast,l.getLast hne,(XV hne).symm⟩;rw[Q9];have:=Cz m l' (by grind) (fun x hx=>hs x (kq.2 (.inl hx)))
  grind [ux]
theorem bc.slot {k:aN} (h:bc k) {i:Nat} (hi:i<k.frames.length) (hr:(au k.frames i).refs≠0):∃s,qU k.slots=some s/\s<k.slots.length/\ck k.aj 2 s=[]:=by
 cases hf:qU k.slots with
 | some s =>
  obtain⟨h1,h2,_⟩:=C5.1 hf
  grind [br,slt,l7.nil]
 | none =>
  exfalso;have hno:=KC.1 hf;have hall:∀n:Nat,n<k.slots.length->∃e∈ux k.aj,e.kind=2/\e.loc=(n:Int):=fun n hn=>by
   have h1:=hno (br k.slots n) (jc hn);have h2:=(h.slt n hn).refs;have h3:ck k.aj 2 n≠[]:=fun e=>by
    grind
   obtain⟨x,hx⟩:=E7 _ h3;obtain⟨s,hs,e,he,g1,g2,_⟩:=nA.1 hx;exact⟨e,ua.2 ⟨s,hs,he⟩,g1,g2⟩
  have hp:=Pe k.slots.length (((ux k.aj).filter fun e:bG=>decide (e.kind=2)).map (·.loc)) (fun n hn=>by
   grind)
  rw[ub] at hp;have hroom:=Cz _ k.aj rfl (fun s hs=>uv (h.each s hs));have hr2:=h.room;obtain⟨x,hx⟩:=E7 _ ((h.yS i hi).ne hr)
  grind [nA,ux,List.length_filter_eq_length_iff]
theorem bc.aside {k:aN} (h:bc k) {i:Nat} (hi:i<k.frames.length) (hr:(au k.frames i).refs≠0):bc (dh k i):=by
 grind [dh,slot,agR,aik]
open Go.RowKit
def dG (s:cO) (es:List bG):cO:=⟨s.live,s.bk,es⟩
def cK (k:aN) (e:bG):aN:=if e.kind=1 then { k with frames:=k.frames.set e.loc.toNat (ma (au k.frames e.loc.toNat)) } else { k with slots:=k.slots.set e.loc.toNat (nB (br k.slots e.loc.toNat)) }
def df (k:aN) (j:Nat) (e:bG):aN:={ k with aj:=k.aj.set j (dG (ak k.aj j) (iK (ak k.aj j).aU e)) }
def ez (k:aN) (i:Nat) (d:ByteArray) (dy:Bool):aN:={ k with frames:=k.frames.set i ⟨d,1,dy,false⟩ }
def dR (k:aN) (j:Nat) (p:Int) (i:Nat) (d:ByteArray) (dy:Bool):aN:=match bD (ak k.aj j).aU p with
 | none=>df (ez k i d dy) j ⟨p,1,i⟩
 | some e=>cK (df (ez k i d dy) j ⟨p,1,i⟩) e
theorem DU {ss:List cO} {j:Nat} (hj:j<ss.length) (e:bG) (hr:iw (ak ss j).aU) (kd a:Int):∃X Y,ck ss kd a=X++(iP (ak ss j).bk kd a (bD (ak ss j).aU e.page).toList++Y)/\ck (ss.set j (dG (ak ss j) (iK (ak ss j).aU e))) kd a=X++(iP (ak ss j).bk kd a [e]++Y):=by
 obtain⟨pre,post,h1,h2,_,_⟩:=sN (e:=e) hr;obtain⟨u,v,g1,g2⟩:=zY ss j (dG (ak ss j) (iK (ak ss j).aU e)) kd a hj;refine⟨u++iP (ak ss j).bk kd a pre,iP (ak ss j).bk kd a post++v,?_,?_⟩
 · grind [vR,kH]
 · rw[g2,vR];show u++(iP (ak ss j).bk kd a (iK (ak ss j).aU e)++v)=_
   grind [kH,tM]
theorem Ma {es:List bG} (h:iw es) (e:bG) (p:Int):bD (iK es e) p=if p=e.page then some e else bD es p:=by
 have hp:=Jd (e:=e) h;obtain⟨pre,post,h1,h2,h3,h4⟩:=sN (e:=e) h
 grind [gh,rU]
theorem lO (l:List cO) (j n:Nat) (s:cO) (hj:j<l.length):ak (l.set j s) n=if j=n then s else ak l n:=by
 grind [ak]
theorem iD (l:List jm) (j n:Nat) (s:jm) (hj:j<l.length):au (l.set j s) n=if j=n then s else au l n:=by
 grind [au]
theorem uI (l:List lD) (j n:Nat) (s:lD) (hj:j<l.length):br (l.set j s) n=if j=n then s else br l n:=by
 grind [br]
theorem Jb (l:List cO) (j:Nat) (s:cO) (hj:j<l.length) (ha:s.bk=(ak l j).bk):fL (l.set j s)=fL l:=by
 grind [fL,ry,lO]
structure je (k:aN) (j:Nat) (p:Int) (i:Nat) (d:ByteArray) (dy:Bool):Prop where
 right:bc k
 hj:j<k.aj.length
 hp:(bh (ak k.aj j).bk p).2=true
 hi:i<k.frames.length
 free:ck k.aj 1 i=[]
 size:d.size=16
 fill:dy=false->d=dY k.aD p (bh (ak k.aj j).bk p).1.zero
theorem ic {k:aN} (h:bc k) {j:Nat} (hj:j<k.aj.length) {e:bG} (he:e∈(ak k.aj j).aU):(e.kind=1/\(e.loc.toNat:Int)=e.loc/\e.loc.toNat<k.frames.length)∨(e.kind=2/\(e.loc.toNat:Int)=e.loc/\e.loc.toNat<k.slots.length):=by
 rcases((h.sp hj).Hf e he).2 with g | g
 · omega
 omega
theorem mN (k:aN) (j:Nat) (p:Int) (i:Nat) (d:ByteArray) (dy:Bool) (m:je k j p i d dy):(dR k j p i d dy).frames.length=k.frames.length/\(dR k j p i d dy).slots.length=k.slots.length/\(dR k j p i d dy).aD=k.aD/\(dR k j p i d dy).hand=k.hand/\(dR k j p i d dy).aj=k.aj.set j (dG (ak k.aj j) (iK (ak k.aj j).aU ⟨p,1,i⟩)) /\
  (∀n,au (dR k j p i d dy).frames n=if n=i then ⟨d,1,dy,false⟩ else match bD (ak k.aj j).aU p with
   | some e=>if e.kind=1/\e.loc=(n:Int) then ma (au k.frames n) else au k.frames n
   | none=>au k.frames n) /\
  (∀n,br (dR k j p i d dy).slots n=match bD (ak k.aj j).aU p with
   | some e=>if e.kind=2/\e.loc=(n:Int) then nB (br k.slots n) else br k.slots n
   | none=>br k.slots n):=by
 have hr:=(m.right.sp m.hj).kP;unfold dR;cases g:bD (ak k.aj j).aU p with
 | none =>
  refine⟨iG,rfl,rfl,rfl,rfl,fun n=>?_,fun n=>rfl⟩;show au (k.frames.set i _) n=_
  grind [iD,je.hi]
 | some e =>
  have he:=(gh hr).1 g;have hne:e.kind=1->e.loc.toNat≠i:=fun h1 h2=>by
   have:=jb m.hj he.1;rcases ic m.right m.hj he.1 with b | b
   · grind [je.free]
   · omega
  dsimp only;unfold cK;rcases ic m.right m.hj he.1 with b | b
  · rw[aR b.1];have hne:=hne b.1;refine⟨by show((k.frames.set i _).set _ _).length=_;grind,rfl,rfl,rfl,rfl,fun n=>?_,fun n=>?_⟩
    · show au ((k.frames.set i _).set _ (ma (au (k.frames.set i _) _))) n=_
      grind [iD,je.hi]
    · show br k.slots n=if e.kind=2/\e.loc=(n:Int) then _ else _
      grind
  · rw[bf (by omega)];refine⟨iG,iG,rfl,rfl,rfl,fun n=>?_,fun n=>?_⟩
    · show au (k.frames.set i _) n=if n=i then _ else if e.kind=1/\e.loc=(n:Int) then _ else _
      grind [iD,je.hi]
    · show br (k.slots.set _ (nB (br k.slots _))) n=if e.kind=2/\e.loc=(n:Int) then _ else _
      grind [uI]
theorem uq {k:aN} {j:Nat} {p:Int} {i:Nat} {d:ByteArray} {dy:Bool} (m:je k j p i d dy):bc (dR k j p i d dy):=by
 have h:=m.right;have hsp:=h.sp m.hj;obtain⟨f1,f2,f3,f4,f5,f6,f7⟩:=mN k j p i d dy m;have hlen:(dR k j p i d dy).aj.length=k.aj.length:=by grind
 refine⟨?_,by rw[f3];exact h.kP,by simp_all [bc.hand],?_,?_,?_,?_⟩
 · have:=h.counts
   grind [lu]
 · rw[f1,f2,f3,f5];intro s hs;rcases XU hs with g | rfl
   · exact h.each s g
   · refine⟨fun dd=>?_,hsp.bk,Jd hsp.kP,fun e he=>?_,hsp.aD⟩
     · have:=m.hp;rw[(hsp.dead dd).1] at this;cases this
     · obtain⟨pre,post,h1,h2,_,_⟩:=sN (e:=(⟨p,1,i⟩:bG)) hsp.kP;rw[show(dG (ak k.aj j) (iK (ak k.aj j).aU ⟨p,1,i⟩)).aU=pre++⟨p,1,i⟩::post from h2] at he;have hin:∀x,x∈pre∨x∈post->x∈(ak k.aj j).aU:=fun x hx=>by
        grind
       rcases kq.1 he with g | g
       · exact hsp.Hf e (hin e (.inl g))
       · rcases xB.1 g with rfl | g
         · exact⟨m.hp,.inl ⟨rfl,by grind,by show(i:Int)<_;have:=m.hi;omega⟩⟩
         · exact hsp.Hf e (hin e (.inr g))
 · rw[f2,f5,Jb _ _ (dG (ak k.aj j) (iK (ak k.aj j).aU ⟨p,1,i⟩)) m.hj rfl];exact h.room
 · intro n hn;rw[f1] at hn;rw[f3,f5,f6];obtain⟨X,Y,h1,h2⟩:=DU m.hj ⟨p,1,i⟩ hsp.kP 1 n;rw[h2];by_cases c:n=i
   · subst c;rw[aR rfl,ot _ (e:=(⟨p,1,n⟩:bG)) ⟨rfl,rfl⟩];rw[m.free] at h1;have hX:X=[]:=(PZ.1 h1.symm).1;have hY:Y=[]:=(PZ.1 (PZ.1 h1.symm).2).2;subst hX hY;refine⟨rfl,fun e=>(by cases e),fun x hx y hy=>?_,fun _=>m.size,fun e x hx=>?_⟩
     · grind
     grind [je.fill]
   · rw[bf c,lQ _ (e:=(⟨p,1,i⟩:bG)) (fun g=>c (by grind))];have hf:=h.yS n hn;rw[h1] at hf;cases g:bD (ak k.aj j).aU p with
     | none =>
      rw[g] at hf;exact hf
     | some e =>
      grind [ot,lQ,kI.less]
 · intro n hn;rw[f2] at hn;rw[f5,f7];obtain⟨X,Y,h1,h2⟩:=DU m.hj ⟨p,1,i⟩ hsp.kP 2 n;rw[h2,lQ _ (e:=(⟨p,1,i⟩:bG)) (fun g=>by grind)];have hf:=h.slt n hn;rw[h1] at hf;cases g:bD (ak k.aj j).aU p with
   | none =>
    rw[g] at hf;exact hf
   | some e =>
    grind [ot,lQ,l7.less]
end Go.Proofs.YtpgifpeohlllfaaGreat
