import Derived.Test.YtlgoihmkgaaemaaGreatGP01
import Derived.Lib.Hide
import Derived.Deep.CutBlock
import Derived.Deep.DeepCutAuto
set_option maxHeartbeats 20000000
set_option linter.unusedVariables false
set_option maxRecDepth 100000
set_option linter.unusedSimpArgs false
namespace Go.Proofs.YtlgoihmkgaaemaaGreat
open Go.RowKit Tryz
def fw (q:Int) (s:dg):dg×Int:=if s.m then (s,5) else (⟨true,q,true⟩,0)
def bZ (s:dg):dg×Int:=(iE,0)
def cO (q:Int) (s:dg):dg×Int:=if s.m then (⟨s.m,q,s.z⟩,0) else (s,6)
def DN (s:dg):Value:=.agg #[.bool s.m,I s.p,.bool s.z]
theorem ab5 (s:dg) (q:Int) (P:Nat) (w:World) (hP:w.cell? (Ad P 0)=some (I q)) :
  Calls prog 173 #[.agg #[.bool s.m,I s.p,.bool s.z],.pointer (some (Ad P 0))] w λe w'=>e=.returned (.tuple #[DN (fw q s).1,I (fw q s).2])/\Below w.heap.size w w':=by
 have b:P<w.heap.size:=nu w _ hP;obtain⟨m,p,z⟩:=s;cases m
 . go_enter func173,ntmps173;go_wp2;exact bW (v:=.tuple #[.agg #[.bool true,I q,.bool true],I 0]) (by simp[results,results173,go_sem]) rfl ⟨rfl,((aN _ _).alloc (aJ _) _).alloc ξ _⟩
 go_enter func173,ntmps173;go_wp2;exact bW (v:=.tuple #[.agg #[.bool true,I p,.bool z],I 5]) (by simp[results,results173,go_sem]) rfl ⟨rfl,((aN _ _).alloc (aJ _) _).alloc ξ _⟩
theorem UY (s:dg) (w:World) :
  Calls prog 287 #[.agg #[.bool s.m,I s.p,.bool s.z]] w λe w'=>e=.returned (.tuple #[DN (bZ s).1,I (bZ s).2])/\Below w.heap.size w w':=by
 go_enter func287,ntmps287;go_wp2;exact bW (v:=.tuple #[.agg #[.bool false,I 0,.bool false],I 0]) (by simp[results,results287,go_sem]) rfl ⟨rfl,((aN _ _).alloc (aJ _) _).alloc ξ _⟩
theorem PT (s:dg) (q:Int) (P:Nat) (w:World) (hP:w.cell? (Ad P 0)=some (I q)) :
  Calls prog 286 #[.agg #[.bool s.m,I s.p,.bool s.z],.pointer (some (Ad P 0))] w λe w'=>e=.returned (.tuple #[DN (cO q s).1,I (cO q s).2])/\Below w.heap.size w w':=by
 have b:P<w.heap.size:=nu w _ hP;obtain⟨m,p,z⟩:=s;cases m
 . go_enter func286,ntmps286;go_wp2;exact bW (v:=.tuple #[.agg #[.bool false,I p,.bool z],I 6]) (by simp[results,results286,go_sem]) rfl ⟨rfl,((aN _ _).alloc (aJ _) _).alloc ξ _⟩
 go_enter func286,ntmps286;go_wp2;exact bW (v:=.tuple #[.agg #[.bool true,I q,.bool z],I 0]) (by simp[results,results286,go_sem]) rfl ⟨rfl,((aN _ _).alloc (aJ _) _).alloc ξ _⟩
theorem eN.below {w w':World} {v:Value} {l:List aU} (h:eN w v l) (hb:Below w.heap.size w w'):eN w' v l:=by
 obtain⟨ao,cap,rfl,h⟩:=h;rcases h with rfl | ⟨b,off,rfl,hl⟩
 . exact⟨ao,cap,rfl,.inl rfl⟩
 exact⟨_,cap,rfl,.inr ⟨b,off,rfl,hl.below hb⟩⟩
def dG (l:List aU):Prop:=(∀i,i<l.length->Ag (bw l i))/\l.length<=140737488351232
variable (l:List aU) (v:Value) (p:Int) (w:World) (F:Nat->dg) (how:dg->dg×Int) (page aY:Int) (G:List aU) (a:aU)
theorem jL (h:eN w v l) (hf:dG l) :
  Calls prog 117 #[v] w λe w'=>e=.returned (I (bf l))/\Below w.heap.size w w':=by
 obtain⟨ao,cap,rfl,h⟩:=h;rcases h with rfl | ⟨b,off,rfl,hl⟩
 . exact E1 ao cap w
 exact uL l b off cap w hl hf.1 hf.2
theorem xk (h:eN w v l) (hf:dG l) :
  Calls prog 70 #[v] w λe w'=>e=.returned (I (bR l))/\Below w.heap.size w w':=by
 obtain⟨ao,cap,rfl,h⟩:=h;rcases h with rfl | ⟨b,off,rfl,hl⟩
 . exact Zl ao cap w
 exact UZ l b off cap w hl hf.1 hf.2
theorem zg (h:eN w v l) (hf:dG l) :
  Calls prog 77 #[v,I p] w λe w'=>e=.returned (.tuple #[.agg (ou (bc l p).1),.bool (bc l p).2])/\Below w.heap.size w w':=by
 obtain⟨ao,cap,rfl,h⟩:=h;rcases h with rfl | ⟨b,off,rfl,hl⟩
 . exact ab7 ao cap p w
 exact Zp l b off cap p w hl hf.1 hf.2
theorem C8 (h:eN w v l) (hc:bf l=0) :
  Calls prog 210 #[v] w λe w'=>e=.returned (.agg (cT (dA l)))/\Below w.heap.size w w':=by
 obtain⟨ao,cap,rfl,h⟩:=h;rcases h with rfl | ⟨b,off,rfl,hl⟩
 . exact U0 ao cap w
 exact SQ l b off cap w hl hc
theorem ai {p:Prop} (h:p):Hid p:=h
theorem cJ {w w1 w2:World} (h1:Below w.heap.size w w1) (h2:Below w1.heap.size w1 w2):Below w.heap.size w w2:=h1.trans (h2.mono h1.size)
def xU (way:Int):Int:=if way=1 then 1 else if way=2 then 2 else 0
theorem Zb (way:Int) (w:World):Calls prog 289 #[I way] w λe w'=>e=.returned (I (xU way))/\w=w':=by
 unfold xU;by_cases h1:way=1
 . subst h1;go_enter func289,ntmps289;go_wp2;go_ret
   simp_all
 rw[aH h1];have b:(way==1)=false:=by grind
 by_cases h2:way=2
 . subst h2;go_enter func289,ntmps289;go_wp2;go_ret
   simp_all
 rw[aH h2];have h:(way==2)=false:=by grind
 clear h1 h2;go_enter func289,ntmps289;go_wp2;go_ret
 simp_all
theorem UO (way:Int) (h0:0<=p) (h3:p<=3):(bits BinOp.and IntKind.i64 p (xU way)==xU way)=!(rU p way):=by
 have hp:p=0\/p=1\/p=2\/p=3:=by omega
 unfold xU rU;by_cases h1:way=1
 . subst h1;rcases hp with rfl | rfl | rfl | rfl <;> decide
 by_cases h2:way=2
 . subst h2;rcases hp with rfl | rfl | rfl | rfl <;> decide
 rw[aH h1,aH h2];simp only[h1,h2,false_and,or_self,decide_false,Km];rcases hp with rfl | rfl | rfl | rfl <;> decide
def ez (F:Nat->dg) (how:dg->dg×Int) (page t:Int):Nat->dg:=λk=>if page<=(k:Int)/\(k:Int)<t then (how (F k)).1 else F k
def gI (F:Nat->dg) (how:dg->dg×Int):Nat->Nat->Int
 | _,0=>0
 | n,c+1=>if (how (F n)).2=0 then gI F how (n+1) c else (how (F n)).2
def dV (l:List aU) (page aY gh:Int) (how:dg->dg×Int):List aU×Int :=
 if bf l=0 then
  if fF page aY&&jg gh then
   if gI (dA l) how page.toNat aY.toNat=0 then (gH (ez (dA l) how page (page+aY)),0)
   else ([],gI (dA l) how page.toNat aY.toNat)
  else ([],3)
 else ([],bf l)
theorem zq:ez F how page page=F:=by
 grind [ez]
theorem E2 (n:Nat):ez F how page n n=F n:=by
 grind [ez]
theorem Bk (n:Nat) (h:page<=(n:Int)):Dc (ez F how page n) n (how (F n)).1=ez F how page ((n:Int)+1):=by
 grind [Dc,ez]
theorem vg (F:Nat->dg) (how:dg->dg×Int):∀(c n:Nat),(∀k,n<=k->k<n+c->(how (F k)).2=0)->gI F how n c=0
 | 0,_,_=>rfl
 | c+1,n,h=>by
  simp only[gI];rw[aQ (h n ω ω)];exact vg F how c (n+1) (λk h1 h2=>h k ω ω)
theorem yI (F:Nat->dg) (how:dg->dg×Int):∀(c n m:Nat),n<=m->m<n+c->(∀k,n<=k->k<m->(how (F k)).2=0)->(how (F m)).2≠0->gI F how n c=(how (F m)).2
 | 0,n,m,h1,h2,_,_=>by omega
 | c+1,n,m,h1,h2,h,hm=>by
  simp only[gI];by_cases e:n=m
  . grind
  rw[aQ (h n ω ω)];exact yI F how c (n+1) m ω ω (λk h1 h2=>h k ω h2) hm
theorem lG (n:Int):fF p n=true↔1<=p/\1<=n/\n<=256-p:=by simp[fF]
theorem PO (q:Int) (P:Nat) (w:World) (h:eN w v l) (hf:dG l) (hp:-9223372036854775808<=page/\page<=9223372036854775807) (hn:-9223372036854775808<=aY/\aY<=9223372036854775807) (hP:w.cell? (Ad P 0)=some (I q)) :
  Calls prog 172 #[v,I page,I aY,I q,.func (.func 173) #[] #[.pointer (some (Ad P 0))]] w λe w'=>∃r,e=.returned (.tuple #[r,I (dV l page aY q (fw q)).2])/\eO w.heap.size w' r (dV l page aY q (fw q)).1/\Below w.heap.size w w':=by
 by_cases hc:bf l=0
 . by_cases Ib:fF page aY=true
   . by_cases hqq:jg q=true
     . have HT:Hid (dV l page aY q (fw q)=if gI (dA l) (fw q) page.toNat aY.toNat=0 then (gH (ez (dA l) (fw q) page (page+aY)),0) else ([],gI (dA l) (fw q) page.toNat aY.toNat)):=by
        show _=_;grind [dV]
       have a1:=(lG page aY).1 Ib;obtain⟨Z,hZ⟩:=ex (cT (λ_=>iE));have hz:=Mx;rw[<- hZ] at hz;have U:Z.size=768:=by grind [gy]
       clear hZ;go_enter func172,ntmps172;go_wp2_with fail;refine(jL l v _ h hf).mono ?_;rintro e w1 ⟨rfl,b⟩;rw[hc];have HC:Hid (bf l=0):=hc;clear hc;go_wp2_with fail;refine(fU _ _ _ hp hn).mono ?_;rintro e w' ⟨rfl,rfl⟩;go_wp2_with fail;refine(jC _ _).mono ?_;rintro e w' ⟨rfl,rfl⟩;go_wp2_with fail;refine(C8 l v _ (h.below b) HC.o).mono ?_;rintro e w2 ⟨rfl,K⟩;have iI:Hid (Below w.heap.size w w2):=b.trans (K.mono b.size);generalize dA l=F at HT ⊢;obtain⟨C,hC⟩:=ex (cT F);have N:C.size=768:=by grind [gy]
       have R:Hid (C=cT F):=hC;rw[<- hC];clear b K hC Ib hqq;have Br:Hid ((w2.alloc (.cells Z 332)).heap[w2.heap.size]?=some (.cells Z 332 (0,0))):=bG w2 Z 332;go_wp2_with (refine yc rfl 332 _ _ rfl w2.heap.size C rfl rfl 332 Z Br.out (by rw[N];exact oX) ω (by grind [uM,Hid.o]) ?_);have a0:Hid (((w2.alloc (.cells Z 332)).setRow w2.heap.size C).heap[w2.heap.size]?=some (.cells C 332 (0,0))):=pW _ _ _ _ 332 (0,0) Br.out;have kE:Hid (Below w.heap.size w ((w2.alloc (.cells Z 332)).setRow w2.heap.size C)):=below_setRow (iI.o.alloc iI.o.size _) iI.o.size _;have MM:=iI.o.size;go_loopw [14] (λt wr=>∃n:Nat,page<=(n:Int)/\(n:Int)<=page+aY/\t=I n/\(∀k:Nat,page.toNat<=k->k<n->((fw q) (F k)).2=0)/\wr.heap[w2.heap.size]?=some (.cells (cT (ez F (fw q) page n)) 332 (0,0))/\Below w.heap.size w wr) (λt _=>(page+aY-intOf t).toNat)
       case atStart =>
        grind [zq,Hid.o]
       case round =>
        obtain⟨n,MO,W,rfl,A,hA,hb⟩:=hrel;have HN:Hid (∀k:Nat,page.toNat<=k->k<n->((fw q) (F k)).2=0):=A;have HA:Hid (wr.heap[w2.heap.size]?=some (.cells (cT (ez F (fw q) page n)) 332 (0,0))):=hA;have HB:Hid (Below w.heap.size w wr):=hb;have M:w2.heap.size<wr.heap.size:=aM hA;have O:wr.cell? (Ad P 0)=some (I q):=(hb.cell (p:=(Ad P 0)) (nu w _ hP)).trans hP;by_cases hin:(n:Int)<page+aY
        . have z0:=aA hA (n*3) (nT _ n ω);have z1:=aA hA (n*3+1) (nR _ n ω);have z2:=aA hA (n*3+2) (nQ _ n ω);rw[E2] at z0 z1 z2;have X:(n:Int)<256:=by omega
          clear A hA hb;obtain⟨s,hs⟩:=ex (F n);rw[<- hs] at z0 z1 z2;have HS:Hid (s=F n):=hs;clear hs;go_wp2_with fail;refine(ab5 s q P _ O).mono ?_;rintro e w3 ⟨rfl,G⟩;have bA:=aO HA.o G M;have y0:=aA bA (n*3) (nT _ n ω);have y1:=aA bA (n*3+1) (nR _ n ω);have y2:=aA bA (n*3+2) (nQ _ n ω);have yf:=br bA;have C2:Hid (w3.heap[w2.heap.size]?=some (.cells (cT (ez F (fw q) page n)) 332 (0,0))):=bA;have B:Hid (Below w.heap.size w w3):=HB.o.trans (G.mono HB.o.size);have T:w2.heap.size<w3.heap.size:=aM bA;clear bA G z0 z1 z2;obtain⟨r,hr⟩:=ex ((fw q) s);rw[<- hr];have HR:Hid (r=(fw q) s):=hr;clear hr;unfold DN;by_cases he:r.2=0
          . have Q:(r.2 != 0)=false:=by simp[he]
            have HE:Hid (r.2=0):=he;clear he;go_wp2;go_roundw
            case rel =>
             have nJ:=dm (dm (dm C2.o (n*3) (.bool r.1.m)) (n*3+1) (I r.1.p)) (n*3+2) (.bool r.1.z);have L:=Bk F (fw q) page n MO;rw[<- HS.o,<- HR.o] at L;rw[yJ (ez F (fw q) page n) n r.1 ω,L] at nJ;refine⟨n+1,ω,ω,by go_num,λk h1 h2=>if e:k=n then by rw[e,<- HS.o,<- HR.o];exact HE.o else HN.o k h1 ω,?_,?_⟩
             . rw[show((n+1:Nat):Int)=(n:Int)+1 from by omega];exact bB nJ _
             have y:=((B.o.setCell (p:=(Ad w2.heap.size (n*3))) MM (.bool r.1.m)).setCell (p:=(Ad w2.heap.size (n*3+1))) MM (I r.1.p)).setCell (p:=(Ad w2.heap.size (n*3+2))) MM (.bool r.1.z);exact y.alloc y.size _
            case measure=>simp[intOf];omega
          have Q:(r.2 != 0)=true:=by simpa using he
          have HE:Hid (r.2≠0):=he;clear he;have ht:Hid (dV l page aY q (fw q)=([],r.2)):=by
           have QL:gI F (fw q) page.toNat aY.toNat=r.2:=by
            rw[HR.o,HS.o];exact yI F (fw q) _ _ n ω ω HN.o (by rw[<- HS.o,<- HR.o];exact HE.o)
           show _=_;rw[HT.o,QL,aH HE.o]
          go_wp2
          go_ret2
          exact⟨Nl,by rw[ht.out];rfl,by rw[ht.out];exact eO.nil _ _,B.o.alloc B.o.size _⟩
        have J:Hid ((n:Int)=page+aY):=by show _=_;omega
        have ht:Hid (dV l page aY q (fw q)=(gH (ez F (fw q) page n),0)):=by
         have QL:gI F (fw q) page.toNat aY.toNat=0:=vg F (fw q) _ _ (λk h1 h2=>HN.o k h1 ω);show _=_;rw[HT.o,QL,aQ rfl,J.out]
        clear A hA hb;go_wp2_with (refine vZ rfl 332 _ rfl w2.heap.size rfl 332 _ (0,0) _ HA.o underlying332 rfl (by rw[gy];exact oX) ?_);refine(C9 _ _).mono ?_;rintro e w4 ⟨r,rfl,hr,y⟩;go_wp2
        go_ret2
        exact⟨r,by rw[ht.out];rfl,by rw[ht.out];exact hr.mono HB.o.size,HB.o.trans (y.mono HB.o.size)⟩
     have a3:jg q=false:=by grind
     have HT:Hid (dV l page aY q (fw q)=([],3)):=by show _=_;grind [dV]
     clear hqq;go_enter func172,ntmps172;go_wp2_with fail;refine(jL l v _ h hf).mono ?_;rintro e w1 ⟨rfl,b⟩;rw[hc];clear hc;go_wp2_with fail;refine(fU _ _ _ hp hn).mono ?_;rintro e w' ⟨rfl,rfl⟩;go_wp2_with fail;refine(jC _ _).mono ?_;rintro e w' ⟨rfl,rfl⟩;go_wp2
     go_ret2
     exact⟨Nl,by rw[HT.o];rfl,by grind [eO.nil,Hid.o],b⟩
   have Y:fF page aY=false:=by grind
   have HT:Hid (dV l page aY q (fw q)=([],3)):=by show _=_;grind [dV]
   clear Ib;go_enter func172,ntmps172;go_wp2_with fail;refine(jL l v _ h hf).mono ?_;rintro e w1 ⟨rfl,b⟩;rw[hc];clear hc;go_wp2_with fail;refine(fU _ _ _ hp hn).mono ?_;rintro e w' ⟨rfl,rfl⟩;go_wp2
   go_ret2
   exact⟨Nl,by rw[HT.o];rfl,by grind [eO.nil,Hid.o],b⟩
 have HT:Hid (dV l page aY q (fw q)=([],bf l)):=by show _=_;grind [dV]
 have a2:(bf l != 0)=true:=by grind
 go_enter func172,ntmps172;go_wp2_with fail;refine(jL l v _ h hf).mono ?_;rintro e w1 ⟨rfl,b⟩;go_wp2
 go_ret2
 exact⟨Nl,by rw[HT.o];rfl,by grind [eO.nil,Hid.o],b⟩
theorem My (q:Int) (w:World) (h:eN w v l) (hf:dG l) (hp:-9223372036854775808<=page/\page<=9223372036854775807) (hn:-9223372036854775808<=aY/\aY<=9223372036854775807) :
  Calls prog 172 #[v,I page,I aY,I q,.func (.func 287) #[] #[]] w λe w'=>∃r,e=.returned (.tuple #[r,I (dV l page aY q bZ).2])/\eO w.heap.size w' r (dV l page aY q bZ).1/\Below w.heap.size w w':=by
 by_cases hc:bf l=0
 . by_cases Ib:fF page aY=true
   . by_cases hqq:jg q=true
     . have HT:Hid (dV l page aY q bZ=if gI (dA l) bZ page.toNat aY.toNat=0 then (gH (ez (dA l) bZ page (page+aY)),0) else ([],gI (dA l) bZ page.toNat aY.toNat)):=by
        show _=_;grind [dV]
       have a0:=(lG page aY).1 Ib;obtain⟨Z,hZ⟩:=ex (cT (λ_=>iE));have hz:=Mx;rw[<- hZ] at hz;have T:Z.size=768:=by grind [gy]
       clear hZ;go_enter func172,ntmps172;go_wp2_with fail;refine(jL l v _ h hf).mono ?_;rintro e w1 ⟨rfl,b⟩;rw[hc];have HC:Hid (bf l=0):=hc;clear hc;go_wp2_with fail;refine(fU _ _ _ hp hn).mono ?_;rintro e w' ⟨rfl,rfl⟩;go_wp2_with fail;refine(jC _ _).mono ?_;rintro e w' ⟨rfl,rfl⟩;go_wp2_with fail;refine(C8 l v _ (h.below b) HC.o).mono ?_;rintro e w2 ⟨rfl,K⟩;have iI:Hid (Below w.heap.size w w2):=b.trans (K.mono b.size);generalize dA l=F at HT ⊢;obtain⟨C,hC⟩:=ex (cT F);have N:C.size=768:=by grind [gy]
       have Q:Hid (C=cT F):=hC;rw[<- hC];clear b K hC Ib hqq;have Br:Hid ((w2.alloc (.cells Z 332)).heap[w2.heap.size]?=some (.cells Z 332 (0,0))):=bG w2 Z 332;go_wp2_with (refine yc rfl 332 _ _ rfl w2.heap.size C rfl rfl 332 Z Br.out (by rw[N];exact oX) ω (by grind [uM,Hid.o]) ?_);have Y:Hid (((w2.alloc (.cells Z 332)).setRow w2.heap.size C).heap[w2.heap.size]?=some (.cells C 332 (0,0))):=pW _ _ _ _ 332 (0,0) Br.out;have kE:Hid (Below w.heap.size w ((w2.alloc (.cells Z 332)).setRow w2.heap.size C)):=below_setRow (iI.o.alloc iI.o.size _) iI.o.size _;have MM:=iI.o.size;go_loopw [14] (λt wr=>∃n:Nat,page<=(n:Int)/\(n:Int)<=page+aY/\t=I n/\(∀k:Nat,page.toNat<=k->k<n->(bZ (F k)).2=0)/\wr.heap[w2.heap.size]?=some (.cells (cT (ez F bZ page n)) 332 (0,0))/\Below w.heap.size w wr) (λt _=>(page+aY-intOf t).toNat)
       case atStart =>
        grind [zq,Hid.o]
       case round =>
        obtain⟨n,MO,U,rfl,A,hA,hb⟩:=hrel;have HN:Hid (∀k:Nat,page.toNat<=k->k<n->(bZ (F k)).2=0):=A;have HA:Hid (wr.heap[w2.heap.size]?=some (.cells (cT (ez F bZ page n)) 332 (0,0))):=hA;have HB:Hid (Below w.heap.size w wr):=hb;have M:w2.heap.size<wr.heap.size:=aM hA;by_cases hin:(n:Int)<page+aY
        . have z0:=aA hA (n*3) (nT _ n ω);have z1:=aA hA (n*3+1) (nR _ n ω);have z2:=aA hA (n*3+2) (nQ _ n ω);rw[E2] at z0 z1 z2;have W:(n:Int)<256:=by omega
          clear A hA hb;obtain⟨s,hs⟩:=ex (F n);rw[<- hs] at z0 z1 z2;have HS:Hid (s=F n):=hs;clear hs;go_wp2_with fail;refine(UY s _).mono ?_;rintro e w3 ⟨rfl,G⟩;have bA:=aO HA.o G M;have y0:=aA bA (n*3) (nT _ n ω);have y1:=aA bA (n*3+1) (nR _ n ω);have y2:=aA bA (n*3+2) (nQ _ n ω);have yf:=br bA;have C2:Hid (w3.heap[w2.heap.size]?=some (.cells (cT (ez F bZ page n)) 332 (0,0))):=bA;have B:Hid (Below w.heap.size w w3):=HB.o.trans (G.mono HB.o.size);have R:w2.heap.size<w3.heap.size:=aM bA;clear bA G z0 z1 z2;obtain⟨r,hr⟩:=ex (bZ s);rw[<- hr];have HR:Hid (r=bZ s):=hr;clear hr;unfold DN;by_cases he:r.2=0
          . have O:(r.2 != 0)=false:=by simp[he]
            have HE:Hid (r.2=0):=he;clear he;go_wp2;go_roundw
            case rel =>
             have nJ:=dm (dm (dm C2.o (n*3) (.bool r.1.m)) (n*3+1) (I r.1.p)) (n*3+2) (.bool r.1.z);have L:=Bk F bZ page n MO;rw[<- HS.o,<- HR.o] at L;rw[yJ (ez F bZ page n) n r.1 ω,L] at nJ;refine⟨n+1,ω,ω,by go_num,λk h1 h2=>if e:k=n then by rw[e,<- HS.o,<- HR.o];exact HE.o else HN.o k h1 ω,?_,?_⟩
             . rw[show((n+1:Nat):Int)=(n:Int)+1 from by omega];exact bB nJ _
             have y:=((B.o.setCell (p:=(Ad w2.heap.size (n*3))) MM (.bool r.1.m)).setCell (p:=(Ad w2.heap.size (n*3+1))) MM (I r.1.p)).setCell (p:=(Ad w2.heap.size (n*3+2))) MM (.bool r.1.z);exact y.alloc y.size _
            case measure=>simp[intOf];omega
          have O:(r.2 != 0)=true:=by simpa using he
          have HE:Hid (r.2≠0):=he;clear he;have ht:Hid (dV l page aY q bZ=([],r.2)):=by
           have QL:gI F bZ page.toNat aY.toNat=r.2:=by
            rw[HR.o,HS.o];exact yI F bZ _ _ n ω ω HN.o (by rw[<- HS.o,<- HR.o];exact HE.o)
           show _=_;rw[HT.o,QL,aH HE.o]
          go_wp2
          go_ret2
          exact⟨Nl,by rw[ht.out];rfl,by rw[ht.out];exact eO.nil _ _,B.o.alloc B.o.size _⟩
        have J:Hid ((n:Int)=page+aY):=by show _=_;omega
        have ht:Hid (dV l page aY q bZ=(gH (ez F bZ page n),0)):=by
         have QL:gI F bZ page.toNat aY.toNat=0:=vg F bZ _ _ (λk h1 h2=>HN.o k h1 ω);show _=_;rw[HT.o,QL,aQ rfl,J.out]
        clear A hA hb;go_wp2_with (refine vZ rfl 332 _ rfl w2.heap.size rfl 332 _ (0,0) _ HA.o underlying332 rfl (by rw[gy];exact oX) ?_);refine(C9 _ _).mono ?_;rintro e w4 ⟨r,rfl,hr,y⟩;go_wp2
        go_ret2
        exact⟨r,by rw[ht.out];rfl,by rw[ht.out];exact hr.mono HB.o.size,HB.o.trans (y.mono HB.o.size)⟩
     have a2:jg q=false:=by grind
     have HT:Hid (dV l page aY q bZ=([],3)):=by show _=_;grind [dV]
     clear hqq;go_enter func172,ntmps172;go_wp2_with fail;refine(jL l v _ h hf).mono ?_;rintro e w1 ⟨rfl,b⟩;rw[hc];clear hc;go_wp2_with fail;refine(fU _ _ _ hp hn).mono ?_;rintro e w' ⟨rfl,rfl⟩;go_wp2_with fail;refine(jC _ _).mono ?_;rintro e w' ⟨rfl,rfl⟩;go_wp2
     go_ret2
     exact⟨Nl,by rw[HT.o];rfl,by grind [eO.nil,Hid.o],b⟩
   have X:fF page aY=false:=by grind
   have HT:Hid (dV l page aY q bZ=([],3)):=by show _=_;grind [dV]
   clear Ib;go_enter func172,ntmps172;go_wp2_with fail;refine(jL l v _ h hf).mono ?_;rintro e w1 ⟨rfl,b⟩;rw[hc];clear hc;go_wp2_with fail;refine(fU _ _ _ hp hn).mono ?_;rintro e w' ⟨rfl,rfl⟩;go_wp2
   go_ret2
   exact⟨Nl,by rw[HT.o];rfl,by grind [eO.nil,Hid.o],b⟩
 have HT:Hid (dV l page aY q bZ=([],bf l)):=by show _=_;grind [dV]
 have a1:(bf l != 0)=true:=by grind
 go_enter func172,ntmps172;go_wp2_with fail;refine(jL l v _ h hf).mono ?_;rintro e w1 ⟨rfl,b⟩;go_wp2
 go_ret2
 exact⟨Nl,by rw[HT.o];rfl,by grind [eO.nil,Hid.o],b⟩
theorem Ik (q:Int) (P:Nat) (w:World) (h:eN w v l) (hf:dG l) (hp:-9223372036854775808<=page/\page<=9223372036854775807) (hn:-9223372036854775808<=aY/\aY<=9223372036854775807) (hP:w.cell? (Ad P 0)=some (I q)) :
  Calls prog 172 #[v,I page,I aY,I q,.func (.func 286) #[] #[.pointer (some (Ad P 0))]] w λe w'=>∃r,e=.returned (.tuple #[r,I (dV l page aY q (cO q)).2])/\eO w.heap.size w' r (dV l page aY q (cO q)).1/\Below w.heap.size w w':=by
 by_cases hc:bf l=0
 . by_cases Ib:fF page aY=true
   . by_cases hqq:jg q=true
     . have HT:Hid (dV l page aY q (cO q)=if gI (dA l) (cO q) page.toNat aY.toNat=0 then (gH (ez (dA l) (cO q) page (page+aY)),0) else ([],gI (dA l) (cO q) page.toNat aY.toNat)):=by
        show _=_;grind [dV]
       have a1:=(lG page aY).1 Ib;obtain⟨Z,hZ⟩:=ex (cT (λ_=>iE));have hz:=Mx;rw[<- hZ] at hz;have U:Z.size=768:=by grind [gy]
       clear hZ;go_enter func172,ntmps172;go_wp2_with fail;refine(jL l v _ h hf).mono ?_;rintro e w1 ⟨rfl,b⟩;rw[hc];have HC:Hid (bf l=0):=hc;clear hc;go_wp2_with fail;refine(fU _ _ _ hp hn).mono ?_;rintro e w' ⟨rfl,rfl⟩;go_wp2_with fail;refine(jC _ _).mono ?_;rintro e w' ⟨rfl,rfl⟩;go_wp2_with fail;refine(C8 l v _ (h.below b) HC.o).mono ?_;rintro e w2 ⟨rfl,K⟩;have iI:Hid (Below w.heap.size w w2):=b.trans (K.mono b.size);generalize dA l=F at HT ⊢;obtain⟨C,hC⟩:=ex (cT F);have N:C.size=768:=by grind [gy]
       have R:Hid (C=cT F):=hC;rw[<- hC];clear b K hC Ib hqq;have Br:Hid ((w2.alloc (.cells Z 332)).heap[w2.heap.size]?=some (.cells Z 332 (0,0))):=bG w2 Z 332;go_wp2_with (refine yc rfl 332 _ _ rfl w2.heap.size C rfl rfl 332 Z Br.out (by rw[N];exact oX) ω (by grind [uM,Hid.o]) ?_);have a0:Hid (((w2.alloc (.cells Z 332)).setRow w2.heap.size C).heap[w2.heap.size]?=some (.cells C 332 (0,0))):=pW _ _ _ _ 332 (0,0) Br.out;have kE:Hid (Below w.heap.size w ((w2.alloc (.cells Z 332)).setRow w2.heap.size C)):=below_setRow (iI.o.alloc iI.o.size _) iI.o.size _;have MM:=iI.o.size;go_loopw [14] (λt wr=>∃n:Nat,page<=(n:Int)/\(n:Int)<=page+aY/\t=I n/\(∀k:Nat,page.toNat<=k->k<n->((cO q) (F k)).2=0)/\wr.heap[w2.heap.size]?=some (.cells (cT (ez F (cO q) page n)) 332 (0,0))/\Below w.heap.size w wr) (λt _=>(page+aY-intOf t).toNat)
       case atStart =>
        grind [zq,Hid.o]
       case round =>
        obtain⟨n,MO,W,rfl,A,hA,hb⟩:=hrel;have HN:Hid (∀k:Nat,page.toNat<=k->k<n->((cO q) (F k)).2=0):=A;have HA:Hid (wr.heap[w2.heap.size]?=some (.cells (cT (ez F (cO q) page n)) 332 (0,0))):=hA;have HB:Hid (Below w.heap.size w wr):=hb;have M:w2.heap.size<wr.heap.size:=aM hA;have O:wr.cell? (Ad P 0)=some (I q):=(hb.cell (p:=(Ad P 0)) (nu w _ hP)).trans hP;by_cases hin:(n:Int)<page+aY
        . have z0:=aA hA (n*3) (nT _ n ω);have z1:=aA hA (n*3+1) (nR _ n ω);have z2:=aA hA (n*3+2) (nQ _ n ω);rw[E2] at z0 z1 z2;have X:(n:Int)<256:=by omega
          clear A hA hb;obtain⟨s,hs⟩:=ex (F n);rw[<- hs] at z0 z1 z2;have HS:Hid (s=F n):=hs;clear hs;go_wp2_with fail;refine(PT s q P _ O).mono ?_;rintro e w3 ⟨rfl,G⟩;have bA:=aO HA.o G M;have y0:=aA bA (n*3) (nT _ n ω);have y1:=aA bA (n*3+1) (nR _ n ω);have y2:=aA bA (n*3+2) (nQ _ n ω);have yf:=br bA;have C2:Hid (w3.heap[w2.heap.size]?=some (.cells (cT (ez F (cO q) page n)) 332 (0,0))):=bA;have B:Hid (Below w.heap.size w w3):=HB.o.trans (G.mono HB.o.size);have T:w2.heap.size<w3.heap.size:=aM bA;clear bA G z0 z1 z2;obtain⟨r,hr⟩:=ex ((cO q) s);rw[<- hr];have HR:Hid (r=(cO q) s):=hr;clear hr;unfold DN;by_cases he:r.2=0
          . have Q:(r.2 != 0)=false:=by simp[he]
            have HE:Hid (r.2=0):=he;clear he;go_wp2;go_roundw
            case rel =>
             have nJ:=dm (dm (dm C2.o (n*3) (.bool r.1.m)) (n*3+1) (I r.1.p)) (n*3+2) (.bool r.1.z);have L:=Bk F (cO q) page n MO;rw[<- HS.o,<- HR.o] at L;rw[yJ (ez F (cO q) page n) n r.1 ω,L] at nJ;refine⟨n+1,ω,ω,by go_num,λk h1 h2=>if e:k=n then by rw[e,<- HS.o,<- HR.o];exact HE.o else HN.o k h1 ω,?_,?_⟩
             . rw[show((n+1:Nat):Int)=(n:Int)+1 from by omega];exact bB nJ _
             have y:=((B.o.setCell (p:=(Ad w2.heap.size (n*3))) MM (.bool r.1.m)).setCell (p:=(Ad w2.heap.size (n*3+1))) MM (I r.1.p)).setCell (p:=(Ad w2.heap.size (n*3+2))) MM (.bool r.1.z);exact y.alloc y.size _
            case measure=>simp[intOf];omega
          have Q:(r.2 != 0)=true:=by simpa using he
          have HE:Hid (r.2≠0):=he;clear he;have ht:Hid (dV l page aY q (cO q)=([],r.2)):=by
           have QL:gI F (cO q) page.toNat aY.toNat=r.2:=by
            rw[HR.o,HS.o];exact yI F (cO q) _ _ n ω ω HN.o (by rw[<- HS.o,<- HR.o];exact HE.o)
           show _=_;rw[HT.o,QL,aH HE.o]
          go_wp2
          go_ret2
          exact⟨Nl,by rw[ht.out];rfl,by rw[ht.out];exact eO.nil _ _,B.o.alloc B.o.size _⟩
        have J:Hid ((n:Int)=page+aY):=by show _=_;omega
        have ht:Hid (dV l page aY q (cO q)=(gH (ez F (cO q) page n),0)):=by
         have QL:gI F (cO q) page.toNat aY.toNat=0:=vg F (cO q) _ _ (λk h1 h2=>HN.o k h1 ω);show _=_;rw[HT.o,QL,aQ rfl,J.out]
        clear A hA hb;go_wp2_with (refine vZ rfl 332 _ rfl w2.heap.size rfl 332 _ (0,0) _ HA.o underlying332 rfl (by rw[gy];exact oX) ?_);refine(C9 _ _).mono ?_;rintro e w4 ⟨r,rfl,hr,y⟩;go_wp2
        go_ret2
        exact⟨r,by rw[ht.out];rfl,by rw[ht.out];exact hr.mono HB.o.size,HB.o.trans (y.mono HB.o.size)⟩
     have a3:jg q=false:=by grind
     have HT:Hid (dV l page aY q (cO q)=([],3)):=by show _=_;grind [dV]
     clear hqq;go_enter func172,ntmps172;go_wp2_with fail;refine(jL l v _ h hf).mono ?_;rintro e w1 ⟨rfl,b⟩;rw[hc];clear hc;go_wp2_with fail;refine(fU _ _ _ hp hn).mono ?_;rintro e w' ⟨rfl,rfl⟩;go_wp2_with fail;refine(jC _ _).mono ?_;rintro e w' ⟨rfl,rfl⟩;go_wp2
     go_ret2
     exact⟨Nl,by rw[HT.o];rfl,by grind [eO.nil,Hid.o],b⟩
   have Y:fF page aY=false:=by grind
   have HT:Hid (dV l page aY q (cO q)=([],3)):=by show _=_;grind [dV]
   clear Ib;go_enter func172,ntmps172;go_wp2_with fail;refine(jL l v _ h hf).mono ?_;rintro e w1 ⟨rfl,b⟩;rw[hc];clear hc;go_wp2_with fail;refine(fU _ _ _ hp hn).mono ?_;rintro e w' ⟨rfl,rfl⟩;go_wp2
   go_ret2
   exact⟨Nl,by rw[HT.o];rfl,by grind [eO.nil,Hid.o],b⟩
 have HT:Hid (dV l page aY q (cO q)=([],bf l)):=by show _=_;grind [dV]
 have a2:(bf l != 0)=true:=by grind
 go_enter func172,ntmps172;go_wp2_with fail;refine(jL l v _ h hf).mono ?_;rintro e w1 ⟨rfl,b⟩;go_wp2
 go_ret2
 exact⟨Nl,by rw[HT.o];rfl,by grind [eO.nil,Hid.o],b⟩
def jz (l:List aU) (page aY q:Int):List aU×Int:=dV l page aY q (fw q)
def gL (l:List aU) (page aY:Int):List aU×Int:=dV l page aY 0 bZ
def fV (l:List aU) (page aY q:Int):List aU×Int:=dV l page aY q (cO q)
def uA (n:Int):Prop:=-9223372036854775808<=n/\n<=9223372036854775807
theorem SU (q:Int) (w:World) (h:eN w v l) (hf:dG l) (hp:uA page) (hn:uA aY) :
  Calls prog 115 #[v,I page,I aY,I q] w λe w'=>∃r,e=.returned (.tuple #[r,I (jz l page aY q).2])/\eO w.heap.size w' r (jz l page aY q).1/\Below w.heap.size w w':=by
 have b:Below w.heap.size w (w.alloc (.cells #[I q] 3)):=(aN _ _).alloc (aJ _) _;have hP:=aA (bG w #[I q] 3) 0 rfl;have H:=h.below b;have HP:Hid ((w.alloc (.cells #[I q] 3)).cell? (Ad w.heap.size 0)=some (I q)):=hP;clear hP;go_enter func115,ntmps115;go_wp2_with fail;refine(PO l v page aY q w.heap.size _ H hf hp hn HP.o).mono ?_;rintro e w1 ⟨r,rfl,hr,y⟩;go_wp2
 go_ret2
 exact⟨r,rfl,hr.mono b.size,b.trans (y.mono b.size)⟩
theorem Zk (w:World) (h:eN w v l) (hf:dG l) (hp:uA page) (hn:uA aY) :
  Calls prog 280 #[v,I page,I aY] w λe w'=>∃r,e=.returned (.tuple #[r,I (gL l page aY).2])/\eO w.heap.size w' r (gL l page aY).1/\Below w.heap.size w w':=by
 go_enter func280,ntmps280;go_wp2_with fail;refine(My l v page aY 0 _ h hf hp hn).mono ?_;rintro e w1 ⟨r,rfl,hr,b⟩;go_wp2
 go_ret2
 exact⟨r,rfl,hr,b⟩
theorem SS (q:Int) (w:World) (h:eN w v l) (hf:dG l) (hp:uA page) (hn:uA aY) :
  Calls prog 277 #[v,I page,I aY,I q] w λe w'=>∃r,e=.returned (.tuple #[r,I (fV l page aY q).2])/\eO w.heap.size w' r (fV l page aY q).1/\Below w.heap.size w w':=by
 have b:Below w.heap.size w (w.alloc (.cells #[I q] 3)):=(aN _ _).alloc (aJ _) _;have hP:=aA (bG w #[I q] 3) 0 rfl;have H:=h.below b;have HP:Hid ((w.alloc (.cells #[I q] 3)).cell? (Ad w.heap.size 0)=some (I q)):=hP;clear hP;go_enter func277,ntmps277;go_wp2_with fail;refine(Ik l v page aY q w.heap.size _ H hf hp hn HP.o).mono ?_;rintro e w1 ⟨r,rfl,hr,y⟩;go_wp2
 go_ret2
 exact⟨r,rfl,hr.mono b.size,b.trans (y.mono b.size)⟩
theorem aeP {l:List aU} (h:∀a∈l,Ag a) (hn:l.length<=140737488351232):dG l:=by
 refine⟨λi hi=>?_,hn⟩
 grind [bw]
theorem E0:dG []:=aeP (λa h=>by simp at h) ξ
def jB (l:List aU) (n:Nat):dg:=let r:=bE l n;if r.2 then ⟨true,r.1.gh,r.1.zero⟩ else iE
def oZ (G:List aU):aU:=bw G (G.length-1)
def l6 (G:List aU) (a:aU):Bool:=fF a.page a.aY&&jg a.gh&&(G.length==0 || jH (oZ G) a)
theorem NL (n q:Int) (z:Bool) (x:Int):gW ⟨p,n,q,z⟩ x=decide (p<=x/\x<p+n):=rfl
theorem Bl (x:Int):gW a x=true↔a.page<=x/\x<a.page+a.aY:=⟨λh=>kr h,λh=>dW h⟩
theorem lI:oZ (G++[a])=a:=by simp[oZ,bw]
theorem DW (G H:List aU):∀k,k<=G.length->jS (G++H) k=jS G k
 | 0,_=>rfl
 | k+1,h=>by
  simp only[jS,DW G H k ω]
  grind [nD,s7]
theorem oN:nE (G++[a])=(nE G&&l6 G a):=by
 unfold nE;rw[gM];show jS (G++[a]) (G.length+1)=_
 grind [jS,DW,nD,l6,oZ,xw,s7]
theorem xY:∀(G:List aU) (a:aU) (p:Int),bE (G++[a]) p=if (bE G p).2 then bE G p else if gW a p then (a,true) else (vB,false)
 | [],a,p=>by rfl
 | b::r,a,p=>by
  simp only[Hi,bE];by_cases h:gW b p=true
  . simp[h]
  simp[h,xY r a p]
theorem DX:∀(G:List aU) (p:Int),(bE G p).2=false->bE G p=(vB,false)
 | [],p,_=>rfl
 | b::r,p,h=>by
  simp only[bE] at h ⊢;by_cases c:gW b p=true
  . grind
  simp only[c] at h ⊢;exact DX r p h
theorem xq (n:Nat):jB (G++[a]) n=if (bE G n).2 then jB G n else if gW a n then ⟨true,a.gh,a.zero⟩ else iE:=by
 grind [jB,xY]
theorem qE:∀(m:Nat) (G:List aU),G.length=m->nE G=true->∀p:Int,(bE G p).2=true->1<=p/\p<(oZ G).pL
 | 0,G,hm,_,p,h=>by
  grind [bE]
 | m+1,G,hm,hg,p,h=>by
  rcases D9 G with rfl | ⟨H,a,rfl⟩
  . grind
  rw[D8] at *;rw[oN,cV] at hg;obtain⟨hgH,hok⟩:=hg;rw[lI];simp only[l6,cV,fF,iP] at hok;obtain⟨⟨hpa,_⟩,hfo⟩:=hok;rw[xY] at h;by_cases c:(bE H p).2=true
  . have ih:=qE m H Γ hgH p c
    grind [bE,jH,aU.pL]
  grind [gW]
structure nI (F:Nat->dg):Prop where
 zero:(F 0).m=false
 none:∀n,(F n).m=false->F n=iE
 gh:∀n,0<=(F n).p/\(F n).p<=3
theorem Zr (H:List aU) (a:aU):yK (H++[a])=H++[⟨a.page,a.aY+1,a.gh,a.zero⟩]:=by
 grind [yK,bw]
structure Zt (F:Nat->dg) (k:Nat) (G:List aU):Prop where
 good:nE G=true
 look:∀n:Nat,jB G n=if n<k then F n else iE
 yes:(gV F k).m=true->0<G.length/\(oZ G).pL=k/\(oZ G).gh=(gV F k).p/\(oZ G).zero=(gV F k).z
 no:(gV F k).m=false->G.length=0\/(oZ G).pL<k\/k=0
theorem aca (n:Nat) (h:jB G n=iE):(bE G n).2=false:=by
 grind [jB,iE]
theorem yH (F:Nat->dg) (hF:nI F):∀k,k<=256->Zt F k (cj F k)
 | 0,_=>⟨rfl,λn=>rfl,λh=>by grind [gV,iE],λ_=>.inl rfl⟩
 | k+1,hk=>by
  have ih:=yH F hF k ω;obtain⟨G,hG⟩:=ex (cj F k);rw[<- hG] at ih;simp only[cj];rw[<- hG];by_cases hm:(F k).m=false
  . rw[aQ hm];refine⟨ih.good,λn=>?_,λh=>?_,λ_=>?_⟩
    . rw[ih.look n];by_cases h1:n<k
      . grind
      rw[aH h1];by_cases h2:n<k+1
      . obtain rfl:n=k:=by omega
        rw[aQ h2,hF.none n hm]
      grind
    . have:(F k).m=true:=h
      grind
    by_cases hl:(gV F k).m=true
    . grind [Zt.yes]
    rcases ih.no Γ with h | h | h
    . omega
    . omega
    subst h;have:G=[]:=hG
    grind
  have r:(F k).m=true:=by grind
  rw[aH hm];have M:1<=k:=by
   grind [nI.zero]
  have E6:=aca G k (by rw[ih.look k,aH ω]);by_cases he:qO (F k) (gV F k)=true
  . rw[aQ he];have y:=J8 _ _ he;obtain⟨h0,h1,h2,h3⟩:=ih.yes Γ;rcases D9 G with L | ⟨H,a,hH⟩
    . grind
    rw[D8] at hH;rw[hH,lI] at h1 h2 h3;have hg:=ih.good;rw[hH,oN,cV] at hg;obtain⟨q,J⟩:=hg;have b:=J;simp only[l6,cV,fF,iP] at b;obtain⟨⟨A,B⟩,K⟩:=b;rw[hH,Zr];unfold aU.pL at h1;refine⟨?_,λn=>?_,λ_=>⟨ξ,?_,?_,?_⟩,λh=>?_⟩
    . rw[oN,q,ju];simp only[l6,cV,fF,iP];exact⟨⟨⟨A.1,ω,ω⟩,B⟩,K⟩
    . have hl:=ih.look n;rw[hH] at hl;rw[xq] at hl ⊢;by_cases c:(bE H n).2=true
      . rw[aQ c] at hl ⊢;rw[hl];have hb:=qE _ H rfl q n c
        grind [bE,jH]
      rw[aH c] at hl ⊢;by_cases d:n=k
      . subst d;rw[aQ (by grind [NL]),aQ ω];show dg.mk true a.gh a.zero=F n;rw[h2,h3,<- y,<- r]
      grind [Bl]
    . rw[lI];show a.page+(a.aY+1)=_;omega
    . rw[lI];show a.gh=(F k).p;grind
    . rw[lI];show a.zero=(F k).z;grind
    have:(F k).m=false:=h
    grind
  have N:qO (F k) (gV F k)=false:=by grind
  rw[aH he];refine⟨?_,λn=>?_,λ_=>⟨ξ,?_,?_,?_⟩,λh=>?_⟩
  . rw[oN,ih.good,ju];simp only[l6,cV,fF,jg,iP];refine⟨⟨⟨ω,ω,ω⟩,hF.gh k⟩,?_⟩;by_cases h0:G.length=0
    . simp[h0]
    simp only[D3,Hg,h0,false_or];by_cases hl:(gV F k).m=true
    . grind [jH,S8,Zt.yes]
    rcases ih.no Γ with h | h | h
    . omega
    . grind [jH]
    omega
  . rw[xq];by_cases c:(bE G n).2=true
    . rw[aQ c,ih.look n]
      grind
    rw[aH c];have c':(bE G n).2=false:=by grind
    by_cases d:n=k
    . subst d;rw[aQ (by grind [NL]),aQ ω];show dg.mk true (F n).p (F n).z=F n;rw[<- r]
    rw[aH (by grind [NL])];have hl:=ih.look n
    grind [jB]
  . rw[lI];rfl
  . rw[lI];rfl
  . rw[lI];rfl
  have:(F k).m=false:=h
  grind
theorem Hb (hF:nI F):nE (gH F)=true:=(yH F hF 256 (aJ _)).good
theorem G9 (hF:nI F) (n:Nat) (hn:n<256):jB (gH F) n=F n:=by
 have:=(yH F hF 256 (aJ _)).look n;rw[aQ hn] at this;exact this
theorem xo (l:List aU):∀(m:Nat) (G:List aU),G.length=m->nE G=true->∀n:Nat,jB G n=cH G G.length n
 | 0,G,hm,_,n=>by
  have e:G=[]:=mR hm;subst e;rfl
 | m+1,G,hm,hg,n=>by
  rcases D9 G with rfl | ⟨H,a,rfl⟩
  . rfl
  rw[D8] at *;rw[oN,cV] at hg;have ih:=xo l m H Γ hg.1 n;have hs:∀k,k<=H.length->cH (H++[a]) k=cH H k:=by
   intro k;induction k with
   | zero=>intro _;rfl
   | succ k ihk=>grind [cH,s7]
  rw[gM];show _=cH (H++[a]) (H.length+1) n;simp only[cH];rw[hs H.length (aJ _),xw,xq];simp only[js];by_cases c:(bE H n).2=true
  . rw[aQ c,ih];have hb:=qE _ H rfl hg.1 n c
    grind [l6,bE,jH]
  grind [jB,gW]
theorem DV (h:bf l=0):nE l=true:=by
 grind [bf]
theorem DU (l:List aU) (hc:bf l=0):∀k,k<=l.length->(cH l k 0).m=false/\(∀n,(cH l k n).m=false->cH l k n=iE)/\(∀n,0<=(cH l k n).p/\(cH l k n).p<=3)
 | 0,_=>⟨rfl,λn _=>rfl,λn=>by simp[cH,iE]⟩
 | k+1,hk=>by
  have ih:=DU l hc k ω;have ho:=gB l k (gp l hc k ω);refine⟨?_,λn=>?_,λn=>?_⟩
  . simp only[cH,js];grind
  . simp only[cH,js]
    grind
  simp only[cH,js]
  grind
theorem xt (hc:bf l=0):nI (dA l):=by
 have h:=DU l hc l.length (aJ _);exact⟨h.1,h.2.1,h.2.2⟩
theorem Bo (hF:nI F) (how:dg->dg×Int) (page t:Int) (hp:1<=page)
  (hn:∀s,(s.m=false->s=iE)->((how s).1.m=false->(how s).1=iE)) (hq:∀s,0<=s.p/\s.p<=3->0<=(how s).1.p/\(how s).1.p<=3):nI (ez F how page t):=by
 refine⟨?_,λn=>?_,λn=>?_⟩
 . grind [ez,nI.zero]
 . simp only[ez];split
   . simp_all [nI.none]
   exact hF.none n
 simp only[ez];split
 . simp_all [nI.gh]
 exact hF.gh n
theorem Ha (F:Nat->dg) (h0:(F 0).m=false):∀k,(cj F (k+1)).length<=k
 | 0=>by grind [cj]
 | k+1=>by
  have ih:=Ha F h0 k
  grind [cj,tQ]
theorem sF (hF:nI F):bf (gH F)=0:=by
 grind [gH,Ha,Hb,bf,nI.zero]
theorem Fz (hc:bf l=0) (F:Nat->dg) (p:Nat) (h:jB l p=F p):(bc l p).2=(F p).m/\(bc l p).1.gh=(F p).p/\(bc l p).1.zero=(F p).z:=by
 grind [bc,jB,DX,vB,iE]
theorem Bq (hF:nI F) (p:Nat) (hp:p<256):(bc (gH F) p).2=(F p).m/\(bc (gH F) p).1.gh=(F p).p/\(bc (gH F) p).1.zero=(F p).z :=
 Fz _ (sF F hF) F p (G9 F hF p hp)
theorem Bp (hc:bf l=0) (p:Nat):(bc l p).2=(dA l p).m/\(bc l p).1.gh=(dA l p).p/\(bc l p).1.zero=(dA l p).z :=
 Fz l hc (dA l) p (xo l _ l rfl (DV l hc) p)
theorem kH (hc:bf l=0):(∀i,i<l.length->Ag (bw l i))/\l.length<=140737488351232:=by
 refine⟨λi hi=>?_,by grind [mK]⟩;have ho:=gB l i (gp l hc i hi)
 grind [Ag]
theorem He (F:Nat->dg) (how:dg->dg×Int):∀(c n:Nat),gI F how n c=0->∀k,n<=k->k<n+c->(how (F k)).2=0
 | 0,n,_,k,h1,h2=>by omega
 | c+1,n,h,k,h1,h2=>by
  simp only[gI] at h;split at h
  . rename_i h0
    by_cases e:k=n
    . grind
    exact He F how c (n+1) h k ω ω
  omega
end Go.Proofs.YtlgoihmkgaaemaaGreat
