import Derived.Test.YtpgifpeohlllfaaGreatGV02
set_option maxHeartbeats 20000000
set_option linter.unusedVariables false
set_option maxRecDepth 100000
set_option linter.unusedSimpArgs false
namespace Go.Proofs.YtpgifpeohlllfaaGreat
namespace Go.Proofs.YtpgifpeohlllfaaGreat
open Go.RowKit
def kP (a:bc) (n:Nat):List Int:=(List.range n).map (fun m:Nat=>a.page+(m:Int))
def fY (l:List bc):Nat->List Int
 | 0=>[]
 | i+1=>fY l i++kP (bB l i) (bB l i).aR.toNat
def ot (l:List bc):List Int:=fY l l.length
def kK (l:List bc) (hs:List bM):Bool:=decide (hs.map (·.page)=ot l)
def oc (l:List bc):Nat->Bool
 | 0=>false
 | k+1=>oc l k || (bB l k).zero
def mn (l:List bc):Bool:=oc l l.length
def ld (hs:List bM):Nat->Bool
 | 0=>true
 | k+1=>ld hs k&&cR (bj hs k)
def rE (hs:List bM):Bool:=ld hs hs.length
def CE (l:List bc) (en:Int):Bool:=(bT l (en.tdiv 16)).2&&(decide (2<=(bT l (en.tdiv 16)).1.fV)&&decide (en.tmod 8=0))
def pP (l:List bc) (hs:List bM) (en:Int):Int:=if br l=0 then (if !mn l&&(kK l hs&&(rE hs&&CE l en)) then 0 else 1) else br l
theorem uF (a:bc) (n:Nat):kP a (n+1)=kP a n++[a.page+(n:Int)]:=by
 grind [kP,List.range_succ]
theorem M0 (a:bc) (n m:Nat) (h:n<m):∃t,kP a m=kP a n++(a.page+(n:Int))::t:=by
 induction m with
 | zero=>omega
 | succ m ih =>
  by_cases e:n=m
  · simp_all [uF]
  grind [uF]
theorem Dt (l:List bc) (i:Nat):∀n,i<=n->∃t,fY l n=fY l i++t
 | 0,h=>by simp_all
 | n+1,h=>by
  by_cases e:i=n+1
  · simp_all
  · obtain⟨t,ht⟩:=Dt l i n (by omega)
    grind [fY]
theorem O4 (l:List bc) (i:Nat) (hi:i<l.length) (n:Nat) (hn:n<(bB l i).aR.toNat):∃t,ot l=(fY l i++kP (bB l i) n)++((bB l i).page+(n:Int))::t:=by
 obtain⟨t,ht⟩:=Dt l (i+1) l.length (by omega);obtain⟨u,hu⟩:=M0 (bB l i) n _ hn
 grind [ot,fY]
theorem D7 (l:List bc):∀(k n:Nat),k<=n->oc l k=true->oc l n=true
 | k,0,h,hk=>by grind
 | k,n+1,h,hk=>by
  by_cases e:k=n+1
  · grind
  · simp[oc,D7 l k n (by omega) hk]
theorem aac (l:List bc) (k:Nat) (hk:k<l.length) (h:(bB l k).zero=true):mn l=true:=D7 l (k+1) l.length (by omega) (by simp[oc,h])
theorem I6 (l:List bc):∀n,oc l n=false->∀i,i<n->(bB l i).zero=false
 | 0,_,i,hi=>by omega
 | n+1,h,i,hi=>by
  simp only[oc,NY] at h;by_cases e:i=n
  · grind
  · exact I6 l n h.1 i (by omega)
theorem zX (l:List bM):∀(k n:Nat),k<=n->ld l k=false->ld l n=false
 | k,0,h,hk=>by grind
 | k,n+1,h,hk=>by
  by_cases e:k=n+1
  · grind
  · simp[ld,zX l k n (by omega) hk]
theorem Q0 (l:List bM) (k:Nat) (hk:k<l.length) (h:cR (bj l k)=false):rE l=false:=zX l (k+1) l.length (by omega) (by simp[ld,h])
theorem D8 (l:List bM):∀n,ld l n=true->∀i,i<n->cR (bj l i)=true
 | 0,_,i,hi=>by omega
 | n+1,h,i,hi=>by
  simp only[ld,dR] at h;by_cases e:i=n
  · grind
  · exact D8 l n h.1 i (by omega)
theorem Bx (hs:List bM) (c:Nat) (h:c<hs.length):(hs.take (c+1)).map (·.page)=(hs.take c).map (·.page)++[(bj hs c).page]:=by
 grind [List.take_succ_eq_append_getElem,bj]
theorem Q8 {l:List bc} {hs:List bM} {pre t:List Int} {x:Int} (hp:(hs.take hs.length).map (·.page)=pre) (ho:ot l=pre++x::t):kK l hs=false:=by
 simp_all [kK]
theorem Q9 {l:List bc} {hs:List bM} {pre t:List Int} {x:Int} {c:Nat} (hc:c<hs.length) (hp:(hs.take c).map (·.page)=pre) (ho:ot l=pre++x::t) (hx:(bj hs c).page≠x):kK l hs=false:=by
 unfold kK;refine dE (fun e=>?_);have h1:=Bx hs c hc
 grind [List.take_append_drop,List.append_cancel_left]
theorem UB {l:List bc} {hs:List bM} {c:Nat} (hc:c<=hs.length) (hp:(hs.take c).map (·.page)=fY l l.length):kK l hs=decide (c=hs.length):=by
 grind [kK,ot,List.length_map]
def Jk (w:World) (b off:Nat) (l:List bM):Prop:=∀i,i<l.length ->
 w.cell? (Ad b (off+i*3))=some (I (bj l i).page)/\w.cell? (Ad b (off+i*3+1))=some (.string (bj l i).data)/\w.cell? (Ad b (off+i*3+2))=some (.slice (bj l i).ao (bj l i).dn.length (bj l i).cap)/\mr w (bj l i).ao (bj l i).dn
theorem Od {w w':World} {b off:Nat} {l:List bM} (hb:Below w.heap.size w w') (hlt:b<w.heap.size) (h:Jk w b off l):Jk w' b off l:=fun i hi=>by
 obtain⟨c0,c1,c2,c3⟩:=h i hi
 grind [gF,mr.below]
def iM (w:World) (ao:Option Addr) (l:List bM):Prop:=iL Jk w ao l
theorem iM.below {w w':World} {ao:Option Addr} {l:List bM} (h:iM w ao l) (hb:Below w.heap.size w w'):iM w' ao l:=iL.below (lie:=Jk) (fun hb hlt h=>Od hb hlt h) h hb
def qI (l:List bM):Prop:=bY l.length/\∀k,k<l.length->xU (bj l k)
theorem Q4 {p:Int} (h:0<=p/\p<=3):p=0∨p=1∨p=2∨p=3:=by omega
theorem Q7 (l:List bc) (hc:br l=0) (p:Int) (h:(bT l p).2=true):0<=(bT l p).1.fV/\(bT l p).1.fV<=3:=by
 by_cases e:∃k,k<l.length/\gU (bB l k) p=true
 · obtain⟨k,hk,hh⟩:=e;have:∃k,k<l.length/\gU (bB l k) p=true/\∀i,i<k->gU (bB l i) p=false:=by
    induction k using Nat.strongRecOn with
    | _ k ih =>
     grind
   obtain⟨k,hk,h1,h2⟩:=this;rw[p9 l p k hk h2 h1]
   simp_all [gH,gm]
 grind [p8]
def mH (hs:List bM) (k:Nat):Bool:=k==0 || decide ((bj hs (k-1)).page<(bj hs k).page)
def jg (hs:List bM):Nat->Bool
 | 0=>true
 | k+1=>jg hs k&&(cR (bj hs k)&&mH hs k)
def fJ (hs:List bM):Bool:=jg hs hs.length
theorem Ds (l:List bM):∀(k n:Nat),k<=n->jg l k=false->jg l n=false
 | k,0,h,hk=>by grind
 | k,n+1,h,hk=>by
  by_cases e:k=n+1
  · grind
  · simp[jg,Ds l k n (by omega) hk]
theorem Mc (l:List bM) (k:Nat) (hk:k<l.length) (h:(cR (bj l k)&&mH l k)=false):fJ l=false:=Ds l (k+1) l.length (by omega) (by grind [jg])
theorem qq (l:List bM):∀n,jg l n=true->∀i,i<n->cR (bj l i)=true/\mH l i=true
 | 0,_,i,hi=>by omega
 | n+1,h,i,hi=>by
  simp only[jg,dR] at h;by_cases e:i=n
  · grind
  · exact qq l n h.1 i (by omega)
theorem I9 (l:List bM):∀n,(∀i,i<n->cR (bj l i)=true/\mH l i=true)->jg l n=true
 | 0,_=>rfl
 | n+1,h=>by
  simp only[jg,dR];exact⟨I9 l n (fun i hi=>h i (by omega)),h n (by omega)⟩
def FH (l:List bc) (hs:List bM) (k:Nat):Bool:=(bT l (bj hs k).page).2&&!(bT l (bj hs k).page).1.zero
def CC (l:List bc) (hs:List bM):Nat->Bool
 | 0=>true
 | k+1=>CC l hs k&&FH l hs k
theorem G8 (l:List bc) (hs:List bM):∀n,CC l hs n=true->∀i,i<n->FH l hs i=true
 | 0,_,i,hi=>by omega
 | n+1,h,i,hi=>by
  simp only[CC,dR] at h;by_cases e:i=n
  · grind
  · exact G8 l hs n h.1 i (by omega)
theorem O7 (l:List bc) (hs:List bM):∀n,(∀i,i<n->FH l hs i=true)->CC l hs n=true
 | 0,_=>rfl
 | n+1,h=>by
  simp only[CC,dR];exact⟨O7 l hs n (fun i hi=>h i (by omega)),h n (by omega)⟩
def La (l:List bc) (hs:List bM) (en:Int):Int:=if br l=0 then (if decide ((hs.length:Int)=jr l l.length)&&(fJ hs&&(CC l hs hs.length&&CE l en)) then 0 else 1) else br l
/-! the pages of areas that are right rise -/
def lj (L:List Int):Prop:=L.Pairwise (·<·)
theorem wy (a:bc) (n:Nat) (x:Int):x∈kP a n↔a.page<=x/\x<a.page+(n:Int):=by
 unfold kP;rw[zI];constructor
 · grind
 · rintro⟨h1,h2⟩;exact⟨(x-a.page).toNat,xN.2 (by omega),by omega⟩
theorem Bw (a:bc):∀n,lj (kP a n)
 | 0=>by simp[kP,lj]
 | n+1=>by
  rw[uF];unfold lj;rw[T7];refine⟨Bw a n,by simp,fun x hx y hy=>?_⟩
  grind [wy]
theorem K7 (a:bc) (n:Nat):(kP a n).length=n:=by simp[kP]
theorem O5 (l:List bc) (hc:br l=0) (i:Nat) (hi:i+1<l.length):(bB l i).page+(bB l i).aR<=(bB l (i+1)).page:=by
 have h:=gm l hc (i+1) hi
 grind [mQ,jF,bc.oV]
theorem Az (l:List bc) (hc:br l=0):∀i,i<=l.length->∀x∈fY l i,∀j,j<l.length->i<=j->x<(bB l j).page
 | 0,_,x,hx,j,_,_=>by grind [fY]
 | i+1,hi,x,hx,j,hj,hij=>by
  simp only[fY,lT] at hx;rcases hx with hx | hx
  · exact Az l hc i (by omega) x hx j hj (by omega)
  · have hk:=gH l i (gm l hc i (by omega));have h1:=(wy _ _ _).1 hx;have step:∀d,i+1+d<l.length->(bB l i).page+(bB l i).aR<=(bB l (i+1+d)).page:=by
     intro d;induction d with
     | zero=>simp_all [O5]
     | succ d ih =>
      intro h;have h3:=O5 l hc (i+1+d) h;have h4:=gH l (i+1+d) (gm l hc (i+1+d) (by omega))
      grind
    have:=step (j-(i+1)) (by omega)
    grind
theorem uD (l:List bc) (hc:br l=0):∀i,i<=l.length->lj (fY l i)
 | 0,_=>by simp[fY,lj]
 | i+1,hi=>by
  simp only[fY];unfold lj;rw[T7];refine⟨uD l hc i (by omega),Bw _ _,fun x hx y hy=>?_⟩;have h1:=Az l hc i (by omega) x hx i (by omega) (aM _)
  grind [wy]
theorem uE (l:List bc) (hc:br l=0):∀i,i<=l.length->((fY l i).length:Int)=jr l i
 | 0,_=>rfl
 | i+1,hi=>by
  have ih:=uE l hc i (by omega);have hk:=gH l i (gm l hc i (by omega))
  grind [fY,jr,K7]
theorem rG (l:List bc) (x:Int):∀i,x∈fY l i↔∃k,k<i/\gU (bB l k) x=true
 | 0=>by simp[fY]
 | i+1=>by
  simp only[fY,lT];rw[rG l x i,wy]
  grind [gU,bc.oV]
theorem uA {x:Int} {L:List Int} (h:lj (x::L)):lj L/\∀z∈L,x<z:=⟨(Fv.1 h).2,(Fv.1 h).1⟩
theorem Ay:∀(K L:List Int),lj L->lj K->(∀z∈L,z∈K)->L.length<=K.length
 | [],L,_,_,hm=>by
  cases L with
  | nil=>omega
  | cons x L=>grind [List.mem_cons_self]
 | y::K,L,hL,hK,hm=>by
  cases L with
  | nil=>grind
  | cons x L =>
   obtain⟨hL1,hL2⟩:=uA hL;obtain⟨Cg,hK2⟩:=uA hK;by_cases e:x=y
   · subst e;have:=Ay K L hL1 Cg (fun z hz=>by
      grind)
     grind
   · have hx:x∈K:=by
      grind
     have hyx:=hK2 x hx;have:=Ay K (x::L) hL Cg (fun z hz=>by
      grind)
     grind
theorem I8:∀(L K:List Int),lj L->lj K->(∀z∈L,z∈K)->K.length<=L.length->L=K
 | [],K,_,_,_,hl=>by
  simp_all
 | x::L,K,hL,hK,hm,hl=>by
  cases K with
  | nil=>grind [List.mem_cons_self]
  | cons y K =>
   obtain⟨hL1,hL2⟩:=uA hL;obtain⟨Cg,hK2⟩:=uA hK;have e:x=y:=by
    rcases zJ.1 (hm x Fx) with g | g
    · exact g
    · have hyx:=hK2 x g;have:=Ay K (x::L) hL Cg (fun z hz=>by
       grind)
      grind
   subst e;rw[I8 L K hL1 Cg (fun z hz=>by
    grind) (by grind)]
theorem D9 (hs:List bM) (h:fJ hs=true):lj (hs.map (·.page)):=by
 have step:∀i j,i<j->j<hs.length->(bj hs i).page<(bj hs j).page:=by
  intro i j hij hj;induction j with
  | zero=>omega
  | succ j ih =>
   have h1:=(qq hs hs.length h (j+1) hj).2
   grind [mH]
 grind [lj,List.pairwise_iff_getElem,bj]
theorem OZ (hs:List bM) (h:lj (hs.map (·.page))) (k:Nat) (hk:k<hs.length):mH hs k=true:=by
 grind [mH,lj,List.pairwise_iff_getElem,bj]
theorem Md (l:List bc) (p:Int) (k:Nat) (hk:k<l.length) (h:gU (bB l k) p=true):∃j,j<l.length/\bT l p=(bB l j,true):=by
 induction k using Nat.strongRecOn with
 | _ k ih =>
  grind [p9]
theorem UA (l:List bc) (p:Int) (h:(bT l p).2=true):∃k,k<l.length/\gU (bB l k) p=true:=by
 grind [p8]
theorem ac5 (hs:List bM) (k:Nat) (h:k<hs.length):(bj hs k).page∈hs.map (·.page):=by
 grind [bj]
theorem SU (hs:List bM) (x:Int) (h:x∈hs.map (·.page)):∃k,k<hs.length/\(bj hs k).page=x:=by
 obtain⟨s,hs1,rfl⟩:=zI.1 h;obtain⟨k,hk,e⟩:=List.getElem_of_mem hs1;refine⟨k,hk,?_⟩
 grind [bj]
theorem O8 (l:List bc) (hc:br l=0) (p:Int) (j k:Nat) (hj:j<l.length) (hk:k<l.length) (h1:gU (bB l j) p=true) (h2:gU (bB l k) p=true):j=k:=by
 have key:∀j k,j<k->k<l.length->gU (bB l j) p=true->gU (bB l k) p=true->False:=by
  intro j k hjk hk h1 h2;have hm:p∈fY l k:=(rG l p k).2 ⟨j,hjk,h1⟩;have:=Az l hc k (by omega) p hm k hk (aM _)
  grind [gU]
 grind
theorem Uz (l:List bc) (hs:List bM) (hc:br l=0) :
  (!mn l&&(kK l hs&&rE hs))=(decide ((hs.length:Int)=jr l l.length)&&(fJ hs&&CC l hs hs.length)):=by
 rw[Bool.eq_iff_iff];simp only[dR,NQ,iV];constructor
 · rintro⟨hz,he,hsh⟩;have he':hs.map (·.page)=ot l:=jH he;have hlen:=fp List.length he';rw[Cm] at hlen;have hr:lj (hs.map (·.page)):=by rw[he'];exact uD l hc l.length (aM _)
   refine⟨by rw[hlen];exact uE l hc l.length (aM _),?_,?_⟩
   · exact I9 hs hs.length (fun i hi=>⟨D8 hs hs.length hsh i hi,OZ hs hr i hi⟩)
   · refine O7 l hs hs.length (fun i hi=>?_);have hm:(bj hs i).page∈fY l l.length:=by
      have:=ac5 hs i hi;rw[he'] at this;exact this
     obtain⟨k,hk,hh⟩:=(rG l _ _).1 hm;obtain⟨j,hj,e⟩:=Md l _ k hk hh;unfold FH;rw[e];simp[I6 l l.length hz j hj]
 · rintro⟨hlen,hr,hin⟩;have hsub:∀z∈hs.map (·.page),z∈ot l:=fun z hz=>by
    obtain⟨k,hk,rfl⟩:=SU hs z hz;have:=G8 l hs hs.length hin k hk;unfold FH at this;simp only[dR] at this;obtain⟨j,hj,hh⟩:=UA l _ this.1;exact(rG l _ _).2 ⟨j,hj,hh⟩
   have he':hs.map (·.page)=ot l:=I8 _ _ (D9 hs hr) (uD l hc l.length (aM _)) hsub (by
    grind [uE,ot])
   refine⟨?_,dh he',?_⟩
   · cases hz:mn l
     · rfl
     · exfalso;have:∃i,i<l.length/\(bB l i).zero=true:=by
        by_cases g:∃i,i<l.length/\(bB l i).zero=true
        · exact g
        · have key:∀n,n<=l.length->oc l n=false:=by
           intro n;induction n with
           | zero=>intro _;rfl
           | succ n ih =>
            grind [oc]
          grind [mn]
       obtain⟨i,hi,hzi⟩:=this;have hk:=gH l i (gm l hc i hi);have hh:gU (bB l i) (bB l i).page=true:=by
        grind [gU,bc.oV]
       have hm:(bB l i).page∈hs.map (·.page):=by
        rw[he'];exact(rG l _ _).2 ⟨i,hi,hh⟩
       obtain⟨k,hk1,hk2⟩:=SU hs _ hm;have avH:=G8 l hs hs.length hin k hk1
       grind [FH,O8,p9]
   · have key:∀n,n<=hs.length->ld hs n=true:=by
      intro n;induction n with
      | zero=>intro _;rfl
      | succ n ih =>
       intro hn;simp only[ld,dR];exact⟨ih (by omega),(qq hs hs.length hr n (by omega)).1⟩
     exact key hs.length (aM _)
theorem Ra (l:List bc) (hs:List bM) (en:Int):pP l hs en=La l hs en:=by
 grind [pP,La,Uz]
theorem sJ:∀(qs ps:List Int),ps.Pairwise (·<·)->qs.Pairwise (·<·)->(∀x∈ps,x∈qs)->ps.length<=qs.length
 | [],[],_,_,_=>aM _
 | [],p::ps,_,_,h=>by cases h p Fx
 | q::qs,[],_,_,_=>by simp
 | q::qs,p::ps,h1,h2,h=>by
  rw[Fv] at h1 h2;by_cases e:p=q
  · subst e;have:=sJ qs ps h1.2 h2.2 (fun x hx=>by
     grind)
    grind
  · have hp:p∈qs:=by
     grind
    have hq:=h2.1 p hp;have:=sJ qs (p::ps) (Fv.2 h1) h2.2 (fun x hx=>by
     grind)
    grind
def tY (p:Int):Nat->List Int
 | 0=>[]
 | n+1=>p::tY (p+1) n
theorem Sq (p:Int):∀n,(tY p n).length=n:=fun n=>by
 induction n generalizing p with
 | zero=>rfl
 | succ n ih=>grind [tY]
theorem vT:∀(n:Nat) (p x:Int),x∈tY p n↔p<=x/\x<p+n
 | 0,p,x=>by constructor <;> intro h;cases h;omega
 | n+1,p,x=>by
  show x∈p::tY (p+1) n↔_;rw[zJ,vT n (p+1) x];omega
theorem A9:∀(n:Nat) (p:Int),(tY p n).Pairwise (·<·)
 | 0,p=>List.Pairwise.nil
 | n+1,p=>Fv.2 ⟨fun x hx=>by grind [vT],A9 n (p+1)⟩
def mM:List bc->List Int
 | []=>[]
 | a::r=>tY a.page a.aR.toNat++mM r
theorem J4:∀(l:List bc) (x:Int),x∈mM l↔(bT l x).2=true
 | [],x=>by constructor <;> intro h <;> cases h
 | a::r,x=>by
  show x∈tY a.page a.aR.toNat++mM r↔_;rw[lT,vT,J4 r x];show _↔(if gU a x=true then (a,true) else bT r x).2=true;by_cases c:gU a x=true
  · have h6:a.page<=x/\x<a.page+a.aR:=jH c
    grind
  · have h6:¬(a.page<=x/\x<a.page+a.aR):=fun g=>c (dh g)
    grind
def zi:Int->List bc->Prop
 | _,[]=>True
 | lo,a::r=>lo<=a.page/\1<=a.aR/\zi (a.page+a.aR) r
theorem zi.low:∀{l:List bc} {lo:Int},zi lo l->∀x∈mM l,lo<=x
 | [],lo,h,x,hx=>by cases hx
 | a::r,lo,h,x,hx=>by
  obtain⟨h1,h2,h3⟩:=h;rcases lT.1 hx with g | g
  · grind [vT]
  · have:=h3.low x g;omega
theorem zi.sorted:∀{l:List bc} {lo:Int},zi lo l->(mM l).Pairwise (·<·)
 | [],lo,h=>List.Pairwise.nil
 | a::r,lo,h=>by
  obtain⟨h1,h2,h3⟩:=h;show(tY a.page a.aR.toNat++mM r).Pairwise (·<·);rw[T7];refine⟨A9 _ _,h3.sorted,fun x hx y hy=>?_⟩;have:=(vT _ _ _).1 hx;have:=h3.low y hy;omega
def J5 (l:List bc):Prop:=∀i,i<l.length->(1<=(bB l i).page/\1<=(bB l i).aR)/\(0<i->(bB l (i-1)).page+(bB l (i-1)).aR<=(bB l i).page)
theorem J5.tail {a:bc} {r:List bc} (h:J5 (a::r)):J5 r:=fun i hi=>by
 have h1:=h (i+1) (by grind);refine⟨h1.1,fun g=>?_⟩;have h2:=h1.2 (by omega);obtain⟨j,rfl⟩:∃j,i=j+1:=⟨i-1,by omega⟩;exact h2
theorem MF:∀(l:List bc) (lo:Int),J5 l->(∀a r,l=a::r->lo<=a.page)->zi lo l
 | [],lo,h,_=>trivial
 | a::r,lo,h,hlo=>by
  have h0:=(h 0 (by simp)).1;refine⟨hlo a r rfl,h0.2,MF r _ h.tail (fun b q e=>?_)⟩;subst e;exact(h 1 (by simp)).2 (by omega)
theorem Qr {l:List bc} (hc:br l=0):J5 l:=fun i hi=>by
 have h:=gm l hc i hi;have h1:=gH l i h
 grind [mQ,jF,bc.oV]
theorem BV {l:List bc} (hc:br l=0):zi 1 l:=MF l 1 (Qr hc) (fun a r e=>by
 subst e;exact((Qr hc) 0 (by simp)).1.1)
theorem ME (a:bc) (r:List bc):∀k,jr (a::r) (k+1)=a.aR+jr r k
 | 0=>by show(0:Int)+a.aR=a.aR+0;omega
 | k+1=>by
  show jr (a::r) (k+1)+(bB (a::r) (k+1)).aR=a.aR+(jr r k+(bB r k).aR);rw[ME a r k]
  grind [bB]
theorem DG:∀{l:List bc} {lo:Int},zi lo l->((mM l).length:Int)=jr l l.length
 | [],lo,h=>rfl
 | a::r,lo,h=>by
  obtain⟨h1,h2,h3⟩:=h;show(((tY a.page a.aR.toNat++mM r).length:Nat):Int)=jr (a::r) (r.length+1);rw[ME,gh,Sq,<- DG h3];omega
theorem uU {l:List bc} (hc:br l=0):cI l=((mM l).length:Int):=by
 unfold cI;rw[bf hc,DG (BV hc)]
theorem uV {l:List bc} (hc:br l=0) (x:Int):(aV l x).2=true↔x∈mM l:=by
 grind [J4,aV]
structure kj where
 data:ByteArray
 refs:Int
 fN:Bool
 seen:Bool
structure mO where
 data:ByteArray
 refs:Int
structure bC where
 page:Int
 kind:Int
 loc:Int
structure dm where
 live:Bool
 aZ:List bc
 aW:List bC
structure aN where
 aA:List bM
 frames:List kj
 slots:List mO
 aj:List dm
 hand:Int
def gD:kj:=⟨⟨#[]⟩,0,false,false⟩
def nU:mO:=⟨⟨#[]⟩,0⟩
def eD:bC:=⟨0,0,0⟩
def uP:dm:=⟨false,[],[]⟩
def au (l:List kj) (i:Nat):kj:=l.getD i gD
def bw (l:List mO) (i:Nat):mO:=l.getD i nU
def aI (l:List bC) (i:Nat):bC:=l.getD i eD
def ak (l:List dm) (i:Nat):dm:=l.getD i uP
theorem jD {α:Type} {d:α}:∀{l:List α} {i:Nat},i<l.length->l.getD i d∈l
 | [],i,h=>absurd h (jQ _)
 | a::r,0,h=>Fx
 | a::r,i+1,h=>Ir _ (jD (l:=r) (zP h))
theorem jb {α:Type} (d:α):∀{l:List α} {x:α},x∈l->∃i,i<l.length/\l.getD i d=x
 | a::r,x,h=>by
  rcases zJ.1 h with rfl | h
  · exact⟨0,NJ _,rfl⟩
  · obtain⟨i,hi,e⟩:=jb d h;exact⟨i+1,NI hi,e⟩
theorem eX {α:Type} (d x:α):∀(l:List α) (i:Nat),i<l.length->(l.set i x).getD i d=x
 | a::r,0,_=>rfl
 | a::r,i+1,h=>eX d x r i (zP h)
theorem rN {α:Type} (d x:α):∀(l:List α) (i j:Nat),i≠j->(l.set i x).getD j d=l.getD j d
 | [],_,_,_=>rfl
 | a::r,0,0,h=>absurd rfl h
 | a::r,0,j+1,_=>rfl
 | a::r,i+1,0,_=>rfl
 | a::r,i+1,j+1,h=>rN d x r i j (fun e=>h (by rw[e]))
def ie (s:dm) (kd at_:Int):List (Int×Bool):=(s.aW.filter fun e=>decide (e.kind=kd/\e.loc=at_)).map fun e=>(e.page,(aV s.aZ e.page).1.zero)
def cO (ss:List dm) (kd at_:Int):List (Int×Bool):=ss.flatMap fun s=>ie s kd at_
def dJ (hs:List bM) (p:Int):Option bM:=hs.find? fun s=>decide (s.page=p)
def fM (hs:List bM) (p:Int):ByteArray:=match dJ hs p with
 | some s=>ou s
 | none=>⟨#[]⟩
def uh:ByteArray:=⟨#[0,0,0,0,0,0,0,0,0,0,0,0,0,0,0,0]⟩
def eH (hs:List bM) (p:Int) (z:Bool):ByteArray:=if z then uh else fM hs p
def rO (nf ns:Nat) (ar:List bc) (e:bC):Prop:=(aV ar e.page).2=true/\((e.kind=1/\0<=e.loc/\e.loc<nf)∨(e.kind=2/\0<=e.loc/\e.loc<ns))
structure rP (hs:List bM) (nf ns:Nat) (s:dm):Prop where
 dead:s.live=false->s.aZ=[]/\s.aW=[]
 aZ:br s.aZ=0
 lQ:(s.aW.map (·.page)).Pairwise (·<·)
 FC:∀e∈s.aW,rO nf ns s.aZ e
 aA:∀p,(aV s.aZ p).2=true->(aV s.aZ p).1.zero=false->(dJ hs p).isSome=true
structure lK (hs:List bM) (L:List (Int×Bool)) (f:kj):Prop where
 refs:f.refs=L.length
 zero:L=[]->f=gD
 one:∀x∈L,∀y∈L,x=y
 size:L≠[]->f.data.size=16
 fill:f.fN=false->∀x∈L,f.data=eH hs x.1 x.2
structure mY (L:List (Int×Bool)) (s:mO):Prop where
 refs:s.refs=L.length
 zero:L=[]->s=nU
 one:∀x∈L,∀y∈L,x=y
 size:L≠[]->s.data.size=16
def iP (l:List dm):Nat->Int
 | 0=>0
 | k+1=>iP l k+cI (ak l k).aZ
def eW (l:List dm):Int:=iP l l.length
def mi (k:aN):Bool:=decide ((3<=k.frames.length/\k.frames.length<=64)/\k.slots.length<=512/\(1<=k.aj.length/\k.aj.length<=4)/\k.aA.length<=255)
structure bg (k:aN):Prop where
 counts:mi k=true
 lQ:fJ k.aA=true
 hand:0<=k.hand/\k.hand<k.frames.length
 each:∀s∈k.aj,rP k.aA k.frames.length k.slots.length s
 room:eW k.aj<=k.slots.length
 zS:∀i:Nat,i<k.frames.length->lK k.aA (cO k.aj 1 i) (au k.frames i)
 slt:∀i:Nat,i<k.slots.length->mY (cO k.aj 2 i) (bw k.slots i)
theorem bg.c {k:aN} (h:bg k):(3<=k.frames.length/\k.frames.length<=64)/\k.slots.length<=512/\(1<=k.aj.length/\k.aj.length<=4)/\k.aA.length<=255:=jH h.counts
theorem Vy (kd a:Int):cO [] kd a=[]:=rfl
theorem lN (s:dm) (r:List dm) (kd a:Int):cO (s::r) kd a=ie s kd a++cO r kd a:=pJ
theorem Nk (l r:List dm) (kd a:Int):cO (l++r) kd a=cO l kd a++cO r kd a:=tG
theorem wI {s:dm} {kd a:Int} {x:Int×Bool}:x∈ie s kd a↔∃e∈s.aW,e.kind=kd/\e.loc=a/\x=(e.page,(aV s.aZ e.page).1.zero):=by
 grind [ie]
theorem o8 {ss:List dm} {kd a:Int} {x:Int×Bool}:x∈cO ss kd a↔∃s∈ss,∃e∈s.aW,e.kind=kd/\e.loc=a/\x=(e.page,(aV s.aZ e.page).1.zero):=by
 grind [cO,wI]
theorem x8:∀(l:List dm) (j:Nat) (s:dm) (kd a:Int),j<l.length->∃u v,cO l kd a=u++(ie (ak l j) kd a++v)/\cO (l.set j s) kd a=u++(ie s kd a++v)
 | x::r,0,s,kd,a,_=>⟨[],cO r kd a,lN x r kd a,lN s r kd a⟩
 | x::r,j+1,s,kd,a,h=>by
  obtain⟨u,v,h1,h2⟩:=x8 r j s kd a (zP h);refine⟨ie x kd a++u,v,?_,?_⟩
  · rw[lN,h1,wa];rfl
  grind [lN]
theorem su (f:dm->dm) (kd a:Int) (kd' a':Int):∀(l:List dm),(∀s∈l,ie (f s) kd a=ie s kd' a')->cO (l.map f) kd a=cO l kd' a'
 | [],_=>rfl
 | x::r,h=>by
  rw[Ii,lN,lN,h x Fx,su f kd a kd' a' r (fun s hs=>h s (Ir _ hs))]
theorem pC (f:dm->dm) (kd a:Int):∀(l:List dm),(∀s∈l,ie (f s) kd a=[])->cO (l.map f) kd a=[]
 | [],_=>rfl
 | x::r,h=>by
  rw[Ii,lN,h x Fx,pC f kd a r (fun s hs=>h s (Ir _ hs))];rfl
theorem tL (l m:List dm):∀k,(∀i,i<k->(ak l i).aZ=(ak m i).aZ)->iP l k=iP m k
 | 0,_=>rfl
 | k+1,h=>by rw[iP,iP,tL l m k (fun i hi=>h i (Nat.lt_succ_of_lt hi)),h k (Fs k)]
def jw (es:List bC):Prop:=(es.map (·.page)).Pairwise (·<·)
def bD (es:List bC) (p:Int):Option bC:=es.find? fun e=>decide (e.page=p)
theorem JK {a:bC} {r:List bC} (h:jw (a::r)):jw r/\∀e∈r,a.page<e.page:=by
 have:=Fv.1 h;exact⟨this.2,fun e he=>this.1 _ (List.mem_map_of_mem he)⟩
theorem iy:∀{es:List bC} {p:Int} {e:bC},jw es->(bD es p=some e↔e∈es/\e.page=p)
 | [],p,e,_=>by simp[bD]
 | a::r,p,e,h=>by
  have hr:=JK h;by_cases c:a.page=p
  · grind [bD]
  · have:bD (a::r) p=bD r p:=by simp[bD,c]
    rw[this,iy hr.1]
    grind
theorem ui {es:List bC} {p:Int}:bD es p=none↔∀e∈es,e.page≠p:=by
 grind [bD]
def jJ:List bC->bC->List bC
 | [],e=>[e]
 | a::r,e=>if a.page<e.page then a::jJ r e else if a.page=e.page then e::r else e::a::r
theorem uQ:∀{es:List bC} {e:bC},jw es->∃pre post,es=pre++((bD es e.page).toList++post)/\jJ es e=pre++e::post/\(∀x∈pre,x.page<e.page)/\∀x∈post,e.page<x.page
 | [],e,_=>⟨[],[],rfl,rfl,by simp,by simp⟩
 | a::r,e,h=>by
  have hr:=JK h;unfold jJ;by_cases c:a.page<e.page
  · obtain⟨pre,post,h1,h2,h3,h4⟩:=uQ (es:=r) (e:=e) hr.1
    grind [bD]
  · rw[bl c];by_cases d:a.page=e.page
    · have:bD (a::r) e.page=some a:=by simp[bD,d]
      rw[bf d,this];exact⟨[],r,rfl,rfl,by simp,fun x hx=>by grind⟩
    · have:bD (a::r) e.page=none:=ui.2 fun x hx=>by
       grind
      rw[bl d,this];refine⟨[],a::r,rfl,rfl,by simp,fun x hx=>?_⟩
      grind
theorem YB {pre post:List bC} {e:bC} (hp:jw pre) (hq:jw post) (h1:∀x∈pre,x.page<e.page) (h2:∀x∈post,e.page<x.page):jw (pre++e::post):=by
 grind [jw,List.pairwise_cons]
theorem AW {a b:List bC} (h:jw (a++b)):jw a/\jw b:=by
 grind [jw]
theorem Mu {es:List bC} {e:bC} (h:jw es):jw (jJ es e):=by
 obtain⟨pre,post,h1,h2,h3,h4⟩:=uQ (e:=e) h;rw[h2];rw[h1] at h;exact YB (AW h).1 (AW (AW h).2).2 h3 h4
def jO (ar:List bc) (kd a:Int) (es:List bC):List (Int×Bool):=(es.filter fun e=>decide (e.kind=kd/\e.loc=a)).map fun e=>(e.page,(aV ar e.page).1.zero)
theorem x9 (s:dm) (kd a:Int):ie s kd a=jO s.aZ kd a s.aW:=rfl
theorem l9 (ar:List bc) (kd a:Int) (l r:List bC):jO ar kd a (l++r)=jO ar kd a l++jO ar kd a r:=by grind [jO]
theorem vK (ar:List bc) (kd a:Int) (e:bC) (r:List bC):jO ar kd a (e::r)=jO ar kd a [e]++jO ar kd a r:=l9 ar kd a [e] r
theorem pT (ar:List bc) {kd a:Int} {e:bC} (h:e.kind=kd/\e.loc=a):jO ar kd a [e]=[(e.page,(aV ar e.page).1.zero)]:=by simp[jO,h]
theorem mW (ar:List bc) {kd a:Int} {e:bC} (h:¬(e.kind=kd/\e.loc=a)):jO ar kd a [e]=[]:=by
 grind [jO]
theorem LA {ar:List bc} {kd a:Int} {es:List bC} {x:Int×Bool}:x∈jO ar kd a es↔∃e∈es,e.kind=kd/\e.loc=a/\x=(e.page,(aV ar e.page).1.zero):=wI (s:=⟨true,ar,es⟩)
theorem JL {ar:List bc} {kd a:Int} {es:List bC} (h:∀e∈es,¬(e.kind=kd/\e.loc=a)):jO ar kd a es=[]:=by
 simp_all [List.eq_nil_iff_forall_not_mem,LA]
theorem EF {l:List dm} {j:Nat} (h:j<l.length):ak l j∈l:=jD h
theorem bg.sp {k:aN} (h:bg k) {j:Nat} (hj:j<k.aj.length):rP k.aA k.frames.length k.slots.length (ak k.aj j):=h.each _ (EF hj)
theorem jZ {ss:List dm} {j:Nat} (hj:j<ss.length) {e:bC} (he:e∈(ak ss j).aW):(e.page,(aV (ak ss j).aZ e.page).1.zero)∈cO ss e.kind e.loc:=o8.2 ⟨_,EF hj,e,he,rfl,rfl,rfl⟩
theorem bg.frame {k:aN} (h:bg k) {i:Nat} {f:kj} (hf:lK k.aA (cO k.aj 1 i) f):bg { k with frames:=k.frames.set i f }:=by
 have hl:(k.frames.set i f).length=k.frames.length:=jk;refine⟨?_,h.lQ,by simp_all [hand],?_,h.room,?_,h.slt⟩
 · have:=h.counts
   grind [mi]
 · grind [each]
 · intro n hn;have hn':n<k.frames.length:=by grind
   show lK k.aA (cO k.aj 1 n) ((k.frames.set i f).getD n gD);by_cases c:i=n
   · grind
   · rw[rN _ _ _ _ _ c];exact h.zS n hn'
theorem bg.turn {k:aN} (h:bg k) {x:Int} (hx:0<=x/\x<k.frames.length):bg { k with hand:=x }:=⟨h.counts,h.lQ,hx,h.each,h.room,h.zS,h.slt⟩
theorem lK.seen {hs:List bM} {L:List (Int×Bool)} {f:kj} (h:lK hs L f) (b:Bool) (hL:L≠[]):lK hs L { f with seen:=b }:=⟨h.refs,fun e=>absurd e hL,h.one,h.size,h.fill⟩
theorem lK.ne {hs:List bM} {L:List (Int×Bool)} {f:kj} (h:lK hs L f) (hr:f.refs≠0):L≠[]:=fun e=>hr (by rw[h.refs,e];rfl)
theorem lK.nil {hs:List bM} {L:List (Int×Bool)} {f:kj} (h:lK hs L f) (hr:f.refs=0):L=[]:=by
 have:=h.refs
 simp_all
theorem mY.nil {L:List (Int×Bool)} {f:mO} (h:mY L f) (hr:f.refs=0):L=[]:=by
 have:=h.refs
 simp_all
theorem lK.none (hs:List bM):lK hs [] gD:=⟨rfl,fun _=>rfl,by simp,fun h=>absurd rfl h,by simp⟩
theorem mY.none:mY [] nU:=⟨rfl,fun _=>rfl,by simp,fun h=>absurd rfl h⟩
def nO (f:kj):kj:=if f.refs-1=0 then gD else { f with refs:=f.refs-1 }
def pd (f:mO):mO:=if f.refs-1=0 then nU else { f with refs:=f.refs-1 }
theorem lK.less {hs:List bM} {X Y:List (Int×Bool)} {x:Int×Bool} {f:kj} (h:lK hs (X++x::Y) f):lK hs (X++Y) (nO f):=by
 have hr:=h.refs;have hn:X++x::Y≠[]:=by simp
 have hm:∀y∈X++Y,y∈X++x::Y:=fun y hy=>by
  grind
 rw[gh,Cl] at hr;unfold nO;by_cases c:f.refs-1=0
 · rw[bf c];have:X++Y=[]:=jS (by grind)
   grind [lK.none]
 · rw[bl c];refine⟨?_,fun e=>?_,fun a ha b hb=>h.one a (hm a ha) b (hm b hb),fun _=>h.size hn,fun d y hy=>h.fill d y (hm y hy)⟩
   · grind
   simp_all
theorem mY.less {X Y:List (Int×Bool)} {x:Int×Bool} {f:mO} (h:mY (X++x::Y) f):mY (X++Y) (pd f):=by
 have hr:=h.refs;have hn:X++x::Y≠[]:=by simp
 have hm:∀y∈X++Y,y∈X++x::Y:=fun y hy=>by
  grind
 rw[gh,Cl] at hr;unfold pd;by_cases c:f.refs-1=0
 · rw[bf c];have:X++Y=[]:=jS (by grind)
   grind [mY.none]
 · rw[bl c];refine⟨?_,fun e=>?_,fun a ha b hb=>h.one a (hm a ha) b (hm b hb),fun _=>h.size hn⟩
   · grind
   simp_all
def kr (i:Int) (e:bC):Bool:=decide (e.kind=1/\e.loc=i)
def tM (i:Int) (es:List bC):List bC:=es.filter fun e=>!kr i e
def jI (i s:Int) (es:List bC):List bC:=es.map fun e=>if kr i e then ⟨e.page,2,s⟩ else e
def qK (l:List kj):Option Nat:=l.findIdx? fun f=>decide (f.refs=0)
def tq (l:List mO):Option Nat:=l.findIdx? fun f=>decide (f.refs=0)
def mD (i:Int) (s:dm):dm:={ s with aW:=tM i s.aW }
def jq (i s:Int) (sp:dm):dm:={ sp with aW:=jI i s sp.aW }
def xm (k:aN) (i:Nat):aN:={ k with frames:=k.frames.set i gD,aj:=k.aj.map (mD i) }
def EE (k:aN) (i s:Nat):aN:={ k with frames:=k.frames.set i gD,slots:=k.slots.set s ⟨(au k.frames i).data,(au k.frames i).refs⟩,aj:=k.aj.map (jq i s) }
def dZ (k:aN) (i:Nat):aN:=if (au k.frames i).fN then (match tq k.slots with
 | some s=>EE k i s
 | none=>xm k i) else xm k i
def cQ (k:aN) (j:Nat) (p:Int):ByteArray:=match bD (ak k.aj j).aW p with
 | some e=>if e.kind=1 then (au k.frames e.loc.toNat).data else (bw k.slots e.loc.toNat).data
 | none=>eH k.aA p (aV (ak k.aj j).aZ p).1.zero
theorem Mx {α β:Type} (f:α->β) (d:α) (d':β):∀(l:List α) (i:Nat),i<l.length->(l.map f).getD i d'=f (l.getD i d)
 | a::r,0,_=>rfl
 | a::r,i+1,h=>Mx f d d' r i (zP h)
theorem xk {i:Int} {e:bC}:kr i e=true↔e.kind=1/\e.loc=i:=by simp[kr]
theorem oJ {i:Int} {e:bC}:kr i e=false↔¬(e.kind=1/\e.loc=i):=by simp[kr]
theorem yS {i:Int} {es:List bC} {e:bC}:e∈tM i es↔e∈es/\¬(e.kind=1/\e.loc=i):=by
 grind [tM,oJ]
theorem Mv {i:Int} {es:List bC} (h:jw es):jw (tM i es):=List.Pairwise.sublist (List.filter_sublist.map _) h
theorem Ry (i s:Int) (es:List bC):(jI i s es).map (·.page)=es.map (·.page):=by
 grind [jI,List.map_congr_left]
theorem JH {i s:Int} {es:List bC} (h:jw es):jw (jI i s es):=by grind [jw,Ry]
theorem Aj {i s:Int} {es:List bC} {x:bC}:x∈jI i s es↔(x∈es/\¬(x.kind=1/\x.loc=i))∨∃e∈es,(e.kind=1/\e.loc=i)/\x=⟨e.page,2,s⟩:=by
 grind [jI,oJ]
theorem Tq (ar:List bc) (i kd a:Int) (es:List bC) (h:¬(kd=1/\a=i)):jO ar kd a (tM i es)=jO ar kd a es:=by
 unfold jO tM;rw[List.filter_filter]
 grind [oJ]
theorem wF (ar:List bc) (i:Int) (es:List bC):jO ar 1 i (tM i es)=[]:=JL fun e he=>(yS.1 he).2
theorem Hl (ar:List bc) (i s kd a:Int) (h:¬(kd=1/\a=i)) (h2:¬(kd=2/\a=s)):∀es:List bC,jO ar kd a (jI i s es)=jO ar kd a es
 | []=>rfl
 | e::r=>by
  have e1:jI i s (e::r)=(if kr i e then ⟨e.page,2,s⟩ else e)::jI i s r:=rfl;rw[e1,vK,vK ar kd a e r,Hl ar i s kd a h h2 r]
  grind [mW,oJ]
theorem EL (ar:List bc) (i s:Int) (es:List bC):jO ar 1 i (jI i s es)=[]:=JL fun e he g=>by
 grind [Aj]
theorem GG (ar:List bc) (i s:Int):∀es:List bC,(∀e∈es,¬(e.kind=2/\e.loc=s))->jO ar 2 s (jI i s es)=jO ar 1 i es
 | [],_=>rfl
 | e::r,h=>by
  have e1:jI i s (e::r)=(if kr i e then ⟨e.page,2,s⟩ else e)::jI i s r:=rfl;rw[e1,vK,vK ar 1 i e r,GG ar i s r (fun x hx=>h x (Ir _ hx))]
  grind [pT,oJ,mW]
theorem Mt (f:dm->dm) (hf:∀s,(f s).aZ=s.aZ) (l:List dm):eW (l.map f)=eW l:=by
 grind [eW,tL,ak]
theorem bg.amx {k:aN} (h:bg k) {i:Nat} (hi:i<k.frames.length):bg (xm k i):=by
 have hl:(k.frames.set i gD).length=k.frames.length:=jk;have hm:(k.aj.map (mD i)).length=k.aj.length:=Cm ..;refine⟨?_,h.lQ,by show 0<=k.hand/\k.hand<((k.frames.set i gD).length:Int);simp_all [hand],?_,?_,?_,?_⟩
 · have:=h.counts
   grind [mi,xm]
 · show ∀s∈k.aj.map (mD i),rP k.aA (k.frames.set i gD).length k.slots.length s;rw[hl];intro s hs;obtain⟨s,hsq,rfl⟩:=zI.1 hs;have g:=h.each s hsq;exact⟨fun d=>⟨(g.dead d).1,by show tM i s.aW=[];rw[(g.dead d).2];rfl⟩,g.aZ,Mv g.lQ,fun e he=>g.FC e (yS.1 he).1,g.aA⟩
 · show eW (k.aj.map (mD i))<=_;rw[Mt (mD i) (fun _=>rfl)];exact h.room
 · intro n hn;have hn':n<k.frames.length:=by rw[<- hl];exact hn
   show lK k.aA (cO (k.aj.map (mD i)) 1 n) ((k.frames.set i gD).getD n gD);by_cases c:i=n
   · subst c;rw[eX _ _ _ _ hn',pC (mD i) 1 i _ (fun s _=>wF s.aZ i s.aW)];exact lK.none _
   · rw[rN _ _ _ _ _ c,su (mD i) 1 n 1 n _ (fun s _=>Tq s.aZ i 1 n s.aW (by omega))];exact h.zS n hn'
 · intro n hn;show mY (cO (k.aj.map (mD i)) 2 n) (bw k.slots n);rw[su (mD i) 2 n 2 n _ (fun s _=>Tq s.aZ i 2 n s.aW (by omega))];exact h.slt n hn
theorem bg.ak3 {k:aN} (h:bg k) {i s:Nat} (hi:i<k.frames.length) (hs:s<k.slots.length) (hf:cO k.aj 2 s=[]):bg (EE k i s):=by
 have hl:(k.frames.set i gD).length=k.frames.length:=jk;have hl2:(k.slots.set s ⟨(au k.frames i).data,(au k.frames i).refs⟩).length=k.slots.length:=jk;have hm:(k.aj.map (jq i s)).length=k.aj.length:=Cm ..;have hno:∀sp∈k.aj,∀e∈sp.aW,¬(e.kind=2/\e.loc=(s:Int)):=fun sp hsp e he g=>by
  have:(e.page,(aV sp.aZ e.page).1.zero)∈cO k.aj 2 s:=o8.2 ⟨sp,hsp,e,he,g.1,g.2,rfl⟩
  grind
 refine⟨?_,h.lQ,by show 0<=k.hand/\k.hand<((k.frames.set i gD).length:Int);simp_all [hand],?_,?_,?_,?_⟩
 · have:=h.counts
   grind [mi,EE]
 · show ∀sp∈k.aj.map (jq i s),rP k.aA (k.frames.set i gD).length (k.slots.set s ⟨(au k.frames i).data,(au k.frames i).refs⟩).length sp;rw[hl,hl2];intro sp hsp;obtain⟨sp,hsq,rfl⟩:=zI.1 hsp;have g:=h.each sp hsq;refine⟨fun d=>⟨(g.dead d).1,by show jI i s sp.aW=[];rw[(g.dead d).2];rfl⟩,g.aZ,JH g.lQ,fun e he=>?_,g.aA⟩;rcases Aj.1 he with x | ⟨x,hx,hc,rfl⟩
   · exact g.FC e x.1
   · exact⟨(g.FC x hx).1,.inr ⟨rfl,by grind,by grind⟩⟩
 · show eW (k.aj.map (jq i s))<=((k.slots.set s ⟨(au k.frames i).data,(au k.frames i).refs⟩).length:Int);rw[hl2,Mt (jq i s) (fun _=>rfl)];exact h.room
 · intro n hn;have hn':n<k.frames.length:=by rw[<- hl];exact hn
   show lK k.aA (cO (k.aj.map (jq i s)) 1 n) ((k.frames.set i gD).getD n gD);by_cases c:i=n
   · subst c;rw[eX _ _ _ _ hn',pC (jq i s) 1 i _ (fun sp _=>EL sp.aZ i s sp.aW)];exact lK.none _
   · rw[rN _ _ _ _ _ c,su (jq i s) 1 n 1 n _ (fun sp _=>Hl sp.aZ i s 1 n (by omega) (by omega) sp.aW)];exact h.zS n hn'
 · intro n hn;have hn':n<k.slots.length:=by rw[<- hl2];exact hn
   show mY (cO (k.aj.map (jq i s)) 2 n) ((k.slots.set s ⟨(au k.frames i).data,(au k.frames i).refs⟩).getD n nU);by_cases c:s=n
   · subst c;rw[eX _ _ _ _ hn',su (jq i s) 2 s 1 i _ (fun sp hsp=>GG sp.aZ i s sp.aW (hno sp hsp))];have g:=h.zS i hi;exact⟨g.refs,fun e=>by rw[g.zero e];rfl,g.one,g.size⟩
   · rw[rN _ _ _ _ _ c,su (jq i s) 2 n 2 n _ (fun sp _=>Hl sp.aZ i s 2 n (by omega) (by omega) sp.aW)];exact h.slt n hn'
theorem Tn:∀(n:Nat) (L:List Int),(∀i:Nat,i<n->(i:Int)∈L)->n<=L.length
 | 0,_,_=>ql _
 | n+1,L,h=>by
  have hn:=h n (Fs n);have:=Tn n (L.erase (n:Int)) (fun i hi=>(NZ (by omega)).2 (h i (by omega)))
  grind
def wL (ss:List dm):List bC:=ss.flatMap (·.aW)
theorem wJ {hs:List bM} {nf ns:Nat} {s:dm} (g:rP hs nf ns s):(s.aW.length:Int)<=cI s.aZ:=by
 rw[uU g.aZ];have:=sJ (mM s.aZ) (s.aW.map (·.page)) g.lQ (BV g.aZ).sorted (fun x hx=>by
  obtain⟨e,he,rfl⟩:=zI.1 hx;exact(uV g.aZ _).1 (g.FC e he).1)
 grind
theorem Lv (l r:List dm):∀k,k<=l.length->iP (l++r) k=iP l k:=fun k hk=>tL _ _ _ fun i hi=>by
 grind [ak]
theorem Vw (l:List dm) (s:dm):eW (l++[s])=eW l+cI s.aZ:=by
 simp[eW,iP,Lv,ak]
theorem EZ:∀(m:Nat) (l:List dm),l.length=m->(∀s∈l,(s.aW.length:Int)<=cI s.aZ)->((wL l).length:Int)<=eW l
 | 0,l,h,_=>by
  have:l=[]:=jS h;subst this;exact zG _
 | m+1,l,h,hs=>by
  have hne:l≠[]:=fun e=>by grind
  obtain⟨l',s,rfl⟩:∃l' s,l=l'++[s]:=⟨l.dropLast,l.getLast hne,(abQ hne).symm⟩;rw[Vw];have:=EZ m l' (by grind) (fun x hx=>hs x (lT.2 (.inl hx)))
  grind [wL]
theorem bg.slot {k:aN} (h:bg k) {i:Nat} (hi:i<k.frames.length) (hr:(au k.frames i).refs≠0):∃s,tq k.slots=some s/\s<k.slots.length/\cO k.aj 2 s=[]:=by
 cases hf:tq k.slots with
 | some s =>
  obtain⟨h1,h2,_⟩:=Fy.1 hf
  grind [bw,slt,mY.nil]
 | none =>
  exfalso;have hno:=N7.1 hf;have hall:∀n:Nat,n<k.slots.length->∃e∈wL k.aj,e.kind=2/\e.loc=(n:Int):=fun n hn=>by
   have h1:=hno (bw k.slots n) (jD hn);have h2:=(h.slt n hn).refs;have h3:cO k.aj 2 n≠[]:=fun e=>by
    grind
   obtain⟨x,hx⟩:=Iw _ h3;obtain⟨s,hs,e,he,g1,g2,_⟩:=o8.1 hx;exact⟨e,vZ.2 ⟨s,hs,he⟩,g1,g2⟩
  have hp:=Tn k.slots.length (((wL k.aj).filter fun e:bC=>decide (e.kind=2)).map (·.loc)) (fun n hn=>by
   grind)
  rw[Cm] at hp;have hroom:=EZ _ k.aj rfl (fun s hs=>wJ (h.each s hs));have hr2:=h.room;obtain⟨x,hx⟩:=Iw _ ((h.zS i hi).ne hr)
  grind [o8,wL,List.length_filter_eq_length_iff]
theorem bg.aside {k:aN} (h:bg k) {i:Nat} (hi:i<k.frames.length) (hr:(au k.frames i).refs≠0):bg (dZ k i):=by
 grind [dZ,slot,ak3,amx]
def dX (s:dm) (es:List bC):dm:=⟨s.live,s.aZ,es⟩
def df (k:aN) (e:bC):aN:=if e.kind=1 then { k with frames:=k.frames.set e.loc.toNat (nO (au k.frames e.loc.toNat)) } else { k with slots:=k.slots.set e.loc.toNat (pd (bw k.slots e.loc.toNat)) }
def dW (k:aN) (j:Nat) (e:bC):aN:={ k with aj:=k.aj.set j (dX (ak k.aj j) (jJ (ak k.aj j).aW e)) }
def fC (k:aN) (i:Nat) (d:ByteArray) (dy:Bool):aN:={ k with frames:=k.frames.set i ⟨d,1,dy,false⟩ }
def fe (k:aN) (j:Nat) (p:Int) (i:Nat) (d:ByteArray) (dy:Bool):aN:=match bD (ak k.aj j).aW p with
 | none=>dW (fC k i d dy) j ⟨p,1,i⟩
 | some e=>df (dW (fC k i d dy) j ⟨p,1,i⟩) e
theorem GH {ss:List dm} {j:Nat} (hj:j<ss.length) (e:bC) (hr:jw (ak ss j).aW) (kd a:Int):∃X Y,cO ss kd a=X++(jO (ak ss j).aZ kd a (bD (ak ss j).aW e.page).toList++Y)/\cO (ss.set j (dX (ak ss j) (jJ (ak ss j).aW e))) kd a=X++(jO (ak ss j).aZ kd a [e]++Y):=by
 obtain⟨pre,post,h1,h2,_,_⟩:=uQ (e:=e) hr;obtain⟨u,v,g1,g2⟩:=x8 ss j (dX (ak ss j) (jJ (ak ss j).aW e)) kd a hj;refine⟨u++jO (ak ss j).aZ kd a pre,jO (ak ss j).aZ kd a post++v,?_,?_⟩
 · grind [x9,l9]
 · rw[g2,x9];show u++(jO (ak ss j).aZ kd a (jJ (ak ss j).aW e)++v)=_
   grind [l9,vK]
theorem PT {es:List bC} (h:jw es) (e:bC) (p:Int):bD (jJ es e) p=if p=e.page then some e else bD es p:=by
 have hp:=Mu (e:=e) h;obtain⟨pre,post,h1,h2,h3,h4⟩:=uQ (e:=e) h
 grind [iy,ui]
theorem ja (l:List dm) (j n:Nat) (s:dm) (hj:j<l.length):ak (l.set j s) n=if j=n then s else ak l n:=by
 grind [ak]
theorem jc (l:List kj) (j n:Nat) (s:kj) (hj:j<l.length):au (l.set j s) n=if j=n then s else au l n:=by
 grind [au]
theorem xe (l:List mO) (j n:Nat) (s:mO) (hj:j<l.length):bw (l.set j s) n=if j=n then s else bw l n:=by
 grind [bw]
theorem EI (l:List dm) (j:Nat) (s:dm) (hj:j<l.length) (ha:s.aZ=(ak l j).aZ):eW (l.set j s)=eW l:=by
 grind [eW,tL,ja]
structure j4 (k:aN) (j:Nat) (p:Int) (i:Nat) (d:ByteArray) (dy:Bool):Prop where
 right:bg k
 hj:j<k.aj.length
 hp:(aV (ak k.aj j).aZ p).2=true
 hi:i<k.frames.length
 free:cO k.aj 1 i=[]
 size:d.size=16
 fill:dy=false->d=eH k.aA p (aV (ak k.aj j).aZ p).1.zero
theorem iQ {k:aN} (h:bg k) {j:Nat} (hj:j<k.aj.length) {e:bC} (he:e∈(ak k.aj j).aW):(e.kind=1/\(e.loc.toNat:Int)=e.loc/\e.loc.toNat<k.frames.length)∨(e.kind=2/\(e.loc.toNat:Int)=e.loc/\e.loc.toNat<k.slots.length):=by
 rcases((h.sp hj).FC e he).2 with g | g
 · omega
 omega
theorem oH (k:aN) (j:Nat) (p:Int) (i:Nat) (d:ByteArray) (dy:Bool) (m:j4 k j p i d dy):(fe k j p i d dy).frames.length=k.frames.length/\(fe k j p i d dy).slots.length=k.slots.length/\(fe k j p i d dy).aA=k.aA/\(fe k j p i d dy).hand=k.hand/\(fe k j p i d dy).aj=k.aj.set j (dX (ak k.aj j) (jJ (ak k.aj j).aW ⟨p,1,i⟩)) /\
  (∀n,au (fe k j p i d dy).frames n=if n=i then ⟨d,1,dy,false⟩ else match bD (ak k.aj j).aW p with
   | some e=>if e.kind=1/\e.loc=(n:Int) then nO (au k.frames n) else au k.frames n
   | none=>au k.frames n) /\
  (∀n,bw (fe k j p i d dy).slots n=match bD (ak k.aj j).aW p with
   | some e=>if e.kind=2/\e.loc=(n:Int) then pd (bw k.slots n) else bw k.slots n
   | none=>bw k.slots n):=by
 have hr:=(m.right.sp m.hj).lQ;unfold fe;cases g:bD (ak k.aj j).aW p with
 | none =>
  refine⟨jk,rfl,rfl,rfl,rfl,fun n=>?_,fun n=>rfl⟩;show au (k.frames.set i _) n=_
  grind [jc,j4.hi]
 | some e =>
  have he:=(iy hr).1 g;have hne:e.kind=1->e.loc.toNat≠i:=fun h1 h2=>by
   have:=jZ m.hj he.1;rcases iQ m.right m.hj he.1 with b | b
   · grind [j4.free]
   · omega
  dsimp only;unfold df;rcases iQ m.right m.hj he.1 with b | b
  · rw[bf b.1];refine⟨by show((k.frames.set i _).set _ _).length=_;grind,rfl,rfl,rfl,rfl,fun n=>?_,fun n=>?_⟩
    · show au ((k.frames.set i _).set _ (nO (au (k.frames.set i _) _))) n=_
      grind [jc,j4.hi]
    · show bw k.slots n=if e.kind=2/\e.loc=(n:Int) then _ else _
      grind
  · rw[bl (by omega)];refine⟨jk,jk,rfl,rfl,rfl,fun n=>?_,fun n=>?_⟩
    · show au (k.frames.set i _) n=if n=i then _ else if e.kind=1/\e.loc=(n:Int) then _ else _
      grind [jc,j4.hi]
    · show bw (k.slots.set _ (pd (bw k.slots _))) n=if e.kind=2/\e.loc=(n:Int) then _ else _
      grind [xe]
theorem wH {k:aN} {j:Nat} {p:Int} {i:Nat} {d:ByteArray} {dy:Bool} (m:j4 k j p i d dy):bg (fe k j p i d dy):=by
 have h:=m.right;have hsp:=h.sp m.hj;obtain⟨f1,f2,f3,f4,f5,f6,f7⟩:=oH k j p i d dy m;have hlen:(fe k j p i d dy).aj.length=k.aj.length:=by grind
 refine⟨?_,by rw[f3];exact h.lQ,by simp_all [bg.hand],?_,?_,?_,?_⟩
 · have:=h.counts
   grind [mi]
 · rw[f1,f2,f3,f5];intro s hs;rcases abP hs with g | rfl
   · exact h.each s g
   · refine⟨fun dd=>?_,hsp.aZ,Mu hsp.lQ,fun e he=>?_,hsp.aA⟩
     · have:=m.hp;rw[(hsp.dead dd).1] at this;cases this
     · obtain⟨pre,post,h1,h2,_,_⟩:=uQ (e:=(⟨p,1,i⟩:bC)) hsp.lQ;rw[show(dX (ak k.aj j) (jJ (ak k.aj j).aW ⟨p,1,i⟩)).aW=pre++⟨p,1,i⟩::post from h2] at he;have hin:∀x,x∈pre∨x∈post->x∈(ak k.aj j).aW:=fun x hx=>by
        grind
       rcases lT.1 he with g | g
       · exact hsp.FC e (hin e (.inl g))
       · rcases zJ.1 g with rfl | g
         · exact⟨m.hp,.inl ⟨rfl,by grind,by show(i:Int)<_;have:=m.hi;omega⟩⟩
         · exact hsp.FC e (hin e (.inr g))
 · rw[f2,f5,EI _ _ (dX (ak k.aj j) (jJ (ak k.aj j).aW ⟨p,1,i⟩)) m.hj rfl];exact h.room
 · intro n hn;rw[f1] at hn;rw[f3,f5,f6];obtain⟨X,Y,h1,h2⟩:=GH m.hj ⟨p,1,i⟩ hsp.lQ 1 n;rw[h2];by_cases c:n=i
   · subst c;rw[bf rfl,pT _ (e:=(⟨p,1,n⟩:bC)) ⟨rfl,rfl⟩];rw[m.free] at h1;have hX:X=[]:=(T8.1 h1.symm).1;have hY:Y=[]:=(T8.1 (T8.1 h1.symm).2).2;subst hX hY;refine⟨rfl,fun e=>(by cases e),fun x hx y hy=>?_,fun _=>m.size,fun e x hx=>?_⟩
     · grind
     grind [j4.fill]
   · rw[bl c,mW _ (e:=(⟨p,1,i⟩:bC)) (fun g=>c (by grind))];have hf:=h.zS n hn;rw[h1] at hf;cases g:bD (ak k.aj j).aW p with
     | none =>
      rw[g] at hf;exact hf
     | some e =>
      grind [pT,mW,lK.less]
 · intro n hn;rw[f2] at hn;rw[f5,f7];obtain⟨X,Y,h1,h2⟩:=GH m.hj ⟨p,1,i⟩ hsp.lQ 2 n;rw[h2,mW _ (e:=(⟨p,1,i⟩:bC)) (fun g=>by grind)];have hf:=h.slt n hn;rw[h1] at hf;cases g:bD (ak k.aj j).aW p with
   | none =>
    rw[g] at hf;exact hf
   | some e =>
    grind [pT,mW,mY.less]
end Go.Proofs.YtpgifpeohlllfaaGreat
end Go.Proofs.YtpgifpeohlllfaaGreat
