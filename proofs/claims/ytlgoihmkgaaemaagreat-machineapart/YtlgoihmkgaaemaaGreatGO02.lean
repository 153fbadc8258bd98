import Derived.Test.YtlgoihmkgaaemaaGreatGO01
import Derived.Lib.Hide
import Derived.Deep.CutBlock
import Derived.Deep.DeepCutAuto
set_option maxHeartbeats 20000000
set_option linter.unusedVariables false
set_option maxRecDepth 100000
set_option linter.unusedSimpArgs false
namespace Go.Proofs.YtlgoihmkgaaemaaGreat
open Go.RowKit
def eU (q:Int) (s:dx):dx×Int:=if s.m then (s,5) else (⟨true,q,true⟩,0)
def bK (s:dx):dx×Int:=(jn,0)
def cC (q:Int) (s:dx):dx×Int:=if s.m then (⟨s.m,q,s.z⟩,0) else (s,6)
def Df (s:dx):Value:=.agg #[.bool s.m,I s.p,.bool s.z]
theorem aaI (s:dx) (q:Int) (P:Nat) (w:World) (hP:w.cell? (Ad P 0)=some (I q)) :
  Calls Tryz.prog 173 #[.agg #[.bool s.m,I s.p,.bool s.z],.pointer (some (Ad P 0))] w fun e w'=>e=.returned (.tuple #[Df (eU q s).1,I (eU q s).2])/\Below w.heap.size w w':=by
 have hPl:P<w.heap.size:=nW w _ hP;obtain⟨m,p,z⟩:=s;cases m
 · go_enter Tryz.func173,Tryz.ntmps173;go_wp2;exact bI (v:=.tuple #[.agg #[.bool true,I q,.bool true],I 0]) (by simp[results,Tryz.results173,go_sem]) rfl ⟨rfl,((aK _ _).alloc (aD _) _).alloc (by simp) _⟩
 · go_enter Tryz.func173,Tryz.ntmps173;go_wp2;exact bI (v:=.tuple #[.agg #[.bool true,I p,.bool z],I 5]) (by simp[results,Tryz.results173,go_sem]) rfl ⟨rfl,((aK _ _).alloc (aD _) _).alloc (by simp) _⟩
theorem Uh (s:dx) (w:World) :
  Calls Tryz.prog 287 #[.agg #[.bool s.m,I s.p,.bool s.z]] w fun e w'=>e=.returned (.tuple #[Df (bK s).1,I (bK s).2])/\Below w.heap.size w w':=by
 go_enter Tryz.func287,Tryz.ntmps287;go_wp2;exact bI (v:=.tuple #[.agg #[.bool false,I 0,.bool false],I 0]) (by simp[results,Tryz.results287,go_sem]) rfl ⟨rfl,((aK _ _).alloc (aD _) _).alloc (by simp) _⟩
theorem O7 (s:dx) (q:Int) (P:Nat) (w:World) (hP:w.cell? (Ad P 0)=some (I q)) :
  Calls Tryz.prog 286 #[.agg #[.bool s.m,I s.p,.bool s.z],.pointer (some (Ad P 0))] w fun e w'=>e=.returned (.tuple #[Df (cC q s).1,I (cC q s).2])/\Below w.heap.size w w':=by
 have hPl:P<w.heap.size:=nW w _ hP;obtain⟨m,p,z⟩:=s;cases m
 · go_enter Tryz.func286,Tryz.ntmps286;go_wp2;exact bI (v:=.tuple #[.agg #[.bool false,I p,.bool z],I 6]) (by simp[results,Tryz.results286,go_sem]) rfl ⟨rfl,((aK _ _).alloc (aD _) _).alloc (by simp) _⟩
 · go_enter Tryz.func286,Tryz.ntmps286;go_wp2;exact bI (v:=.tuple #[.agg #[.bool true,I q,.bool z],I 0]) (by simp[results,Tryz.results286,go_sem]) rfl ⟨rfl,((aK _ _).alloc (aD _) _).alloc (by simp) _⟩
theorem gD.below {w w':World} {v:Value} {l:List aY} (h:gD w v l) (hb:Below w.heap.size w w'):gD w' v l:=by
 obtain⟨ao,cap,rfl,h⟩:=h;rcases h with rfl | ⟨b,off,rfl,hl⟩
 · exact⟨ao,cap,rfl,.inl rfl⟩
 · exact⟨_,cap,rfl,.inr ⟨b,off,rfl,hl.below hb⟩⟩
def dO (l:List aY):Prop:=(∀i,i<l.length->Ca (bC l i))/\l.length<=140737488351232
theorem jF (l:List aY) (v:Value) (w:World) (h:gD w v l) (hf:dO l) :
  Calls Tryz.prog 117 #[v] w fun e w'=>e=.returned (I (bj l))/\Below w.heap.size w w':=by
 obtain⟨ao,cap,rfl,h⟩:=h;rcases h with rfl | ⟨b,off,rfl,hl⟩
 · exact EG ao cap w
 · exact uO l b off cap w hl hf.1 hf.2
theorem wQ (l:List aY) (v:Value) (w:World) (h:gD w v l) (hf:dO l) :
  Calls Tryz.prog 70 #[v] w fun e w'=>e=.returned (I (bh l))/\Below w.heap.size w w':=by
 obtain⟨ao,cap,rfl,h⟩:=h;rcases h with rfl | ⟨b,off,rfl,hl⟩
 · exact Yc ao cap w
 · exact Ui l b off cap w hl hf.1 hf.2
theorem vH (l:List aY) (v:Value) (p:Int) (w:World) (h:gD w v l) (hf:dO l) :
  Calls Tryz.prog 77 #[v,I p] w fun e w'=>e=.returned (.tuple #[.agg (nK (aV l p).1),.bool (aV l p).2])/\Below w.heap.size w w':=by
 obtain⟨ao,cap,rfl,h⟩:=h;rcases h with rfl | ⟨b,off,rfl,hl⟩
 · exact aaK ao cap p w
 · exact Ye l b off cap p w hl hf.1 hf.2
theorem CF (l:List aY) (v:Value) (w:World) (h:gD w v l) (hc:bj l=0) :
  Calls Tryz.prog 210 #[v] w fun e w'=>e=.returned (.agg (cJ (fI l)))/\Below w.heap.size w w':=by
 obtain⟨ao,cap,rfl,h⟩:=h;rcases h with rfl | ⟨b,off,rfl,hl⟩
 · exact Uj ao cap w
 · exact Sk l b off cap w hl hc
open Go.RowKit
theorem ai {p:Prop} (h:p):Hid p:=h
theorem bH {w w1 w2:World} (h1:Below w.heap.size w w1) (h2:Below w1.heap.size w1 w2):Below w.heap.size w w2:=h1.trans (h2.mono h1.size)
def ui (way:Int):Int:=if way=1 then 1 else if way=2 then 2 else 0
theorem LZ (way:Int) (w:World):Calls Tryz.prog 289 #[I way] w fun e w'=>e=.returned (I (ui way))/\w=w':=by
 unfold ui;by_cases h1:way=1
 · subst h1;go_enter Tryz.func289,Tryz.ntmps289;go_wp2;go_ret
   simp_all
 · rw[au h1];have h1i:(way==1)=false:=by grind
   by_cases h2:way=2
   · subst h2;go_enter Tryz.func289,Tryz.ntmps289;go_wp2;go_ret
     simp_all
   · rw[au h2];have h2i:(way==2)=false:=by grind
     clear h1 h2;go_enter Tryz.func289,Tryz.ntmps289;go_wp2;go_ret
     simp_all
theorem Ja (p way:Int) (h0:0<=p) (h3:p<=3):(bits BinOp.and IntKind.i64 p (ui way)==ui way)=!(nJ p way):=by
 have hp:p=0∨p=1∨p=2∨p=3:=by omega
 unfold ui nJ;by_cases h1:way=1
 · subst h1;rcases hp with rfl | rfl | rfl | rfl <;> decide
 · by_cases h2:way=2
   · subst h2;rcases hp with rfl | rfl | rfl | rfl <;> decide
   · rw[au h1,au h2];simp only[h1,h2,false_and,or_self,decide_false,Bool.not_false];rcases hp with rfl | rfl | rfl | rfl <;> decide
open Go.RowKit
def dZ (F:Nat->dx) (how:dx->dx×Int) (page t:Int):Nat->dx:=fun k=>if page<=(k:Int)/\(k:Int)<t then (how (F k)).1 else F k
def gF (F:Nat->dx) (how:dx->dx×Int):Nat->Nat->Int
 | _,0=>0
 | n,c+1=>if (how (F n)).2=0 then gF F how (n+1) c else (how (F n)).2
def dQ (l:List aY) (page aQ jL:Int) (how:dx->dx×Int):List aY×Int :=
 if bj l=0 then
  if fX page aQ&&kx jL then
   if gF (fI l) how page.toNat aQ.toNat=0 then (kE (dZ (fI l) how page (page+aQ)),0)
   else ([],gF (fI l) how page.toNat aQ.toNat)
  else ([],3)
 else ([],bj l)
theorem yV (F:Nat->dx) (how:dx->dx×Int) (page:Int):dZ F how page page=F:=by
 grind [dZ]
theorem EH (F:Nat->dx) (how:dx->dx×Int) (page:Int) (n:Nat):dZ F how page n n=F n:=by
 grind [dZ]
theorem Ax (F:Nat->dx) (how:dx->dx×Int) (page:Int) (n:Nat) (h:page<=(n:Int)):GY (dZ F how page n) n (how (F n)).1=dZ F how page ((n:Int)+1):=by
 grind [GY,dZ]
theorem vd (F:Nat->dx) (how:dx->dx×Int):∀(c n:Nat),(∀k,n<=k->k<n+c->(how (F k)).2=0)->gF F how n c=0
 | 0,_,_=>rfl
 | c+1,n,h=>by
  simp only[gF];rw[aB (h n (by omega) (by omega))];exact vd F how c (n+1) (fun k h1 h2=>h k (by omega) (by omega))
theorem yj (F:Nat->dx) (how:dx->dx×Int):∀(c n m:Nat),n<=m->m<n+c->(∀k,n<=k->k<m->(how (F k)).2=0)->(how (F m)).2≠0->gF F how n c=(how (F m)).2
 | 0,n,m,h1,h2,_,_=>by omega
 | c+1,n,m,h1,h2,h,hm=>by
  simp only[gF];by_cases e:n=m
  · grind
  · rw[aB (h n (by omega) (by omega))];exact yj F how c (n+1) m (by omega) (by omega) (fun k h1 h2=>h k (by omega) h2) hm
theorem ow (p n:Int):fX p n=true↔1<=p/\1<=n/\n<=256-p:=by simp[fX]
open Go.RowKit
theorem O6 (l:List aY) (v:Value) (page aQ q:Int) (P:Nat) (w:World) (h:gD w v l) (hf:dO l) (hp:-9223372036854775808<=page/\page<=9223372036854775807) (hn:-9223372036854775808<=aQ/\aQ<=9223372036854775807) (hP:w.cell? (Ad P 0)=some (I q)) :
  Calls Tryz.prog 172 #[v,I page,I aQ,I q,.func (.func 173) #[] #[.pointer (some (Ad P 0))]] w fun e w'=>∃r,e=.returned (.tuple #[r,I (dQ l page aQ q (eU q)).2])/\ez w.heap.size w' r (dQ l page aQ q (eU q)).1/\Below w.heap.size w w':=by
 by_cases hc:bj l=0
 · by_cases Fh:fX page aQ=true
   · by_cases hqq:kx q=true
     · have HT:Hid (dQ l page aQ q (eU q)=if gF (fI l) (eU q) page.toNat aQ.toNat=0 then (kE (dZ (fI l) (eU q) page (page+aQ)),0) else ([],gF (fI l) (eU q) page.toNat aQ.toNat)):=by
        show _=_;grind [dQ]
       have hpb:=(ow page aQ).1 Fh;obtain⟨Z,hZ⟩:=ex (cJ (fun _=>jn));have hz:=Mb;rw[<- hZ] at hz;have hZs:Z.size=768:=by grind [gq]
       clear hZ;go_enter Tryz.func172,Tryz.ntmps172;go_wp2_with fail
       refine(jF l v _ h hf).mono ?_;rintro e w1 ⟨rfl,hb1⟩;rw[hc];have HC:Hid (bj l=0):=hc;clear hc;go_wp2_with fail
       refine(fQ _ _ _ hp hn).mono ?_;rintro e w' ⟨rfl,rfl⟩;go_wp2_with fail
       refine(js _ _).mono ?_;rintro e w' ⟨rfl,rfl⟩;go_wp2_with fail
       refine(CF l v _ (h.below hb1) HC.o).mono ?_;rintro e w2 ⟨rfl,hb2⟩;have gK:Hid (Below w.heap.size w w2):=hb1.trans (hb2.mono hb1.size);obtain⟨F,hF⟩:=ex (fI l);rw[<- hF] at HT ⊢;obtain⟨C,hC⟩:=ex (cJ F);have hCs:C.size=768:=by grind [gq]
       have Yo:Hid (C=cJ F):=hC;rw[<- hC];clear hb1 hb2 hF hC Fh hqq;have Hh:Hid ((w2.alloc (.cells Z 332)).heap[w2.heap.size]?=some (.cells Z 332 (0,0))):=bB w2 Z 332;go_wp2_with (refine JZ rfl 332 _ _ rfl w2.heap.size C rfl rfl 332 Z Hh.out (by rw[hCs];exact oJ) (by omega) (by grind [uP,Hid.o]) ?_)
       have HA0:Hid (((w2.alloc (.cells Z 332)).setRow w2.heap.size C).heap[w2.heap.size]?=some (.cells C 332 (0,0))):=tM _ _ _ _ 332 (0,0) Hh.out;have mQ:Hid (Below w.heap.size w ((w2.alloc (.cells Z 332)).setRow w2.heap.size C)):=below_setRow (gK.o.alloc gK.o.size _) gK.o.size _;have Mm:=gK.o.size;go_loopw [14] (fun t wr=>∃n:Nat,page<=(n:Int)/\(n:Int)<=page+aQ/\t=I n/\(∀k:Nat,page.toNat<=k->k<n->((eU q) (F k)).2=0)/\wr.heap[w2.heap.size]?=some (.cells (cJ (dZ F (eU q) page n)) 332 (0,0))/\Below w.heap.size w wr) (fun t _=>(page+aQ-intOf t).toNat)
       case atStart =>
        grind [yV,Hid.o]
       case round =>
        obtain⟨n,Ur,hn3,rfl,hno,hA,hb⟩:=hrel;have HN:Hid (∀k:Nat,page.toNat<=k->k<n->((eU q) (F k)).2=0):=hno;have HA:Hid (wr.heap[w2.heap.size]?=some (.cells (cJ (dZ F (eU q) page n)) 332 (0,0))):=hA;have HB:Hid (Below w.heap.size w wr):=hb;have hAl:w2.heap.size<wr.heap.size:=aJ hA;have hPw:wr.cell? (Ad P 0)=some (I q):=(hb.cell (p:=(Ad P 0)) (nW w _ hP)).trans hP;by_cases hin:(n:Int)<page+aQ
        · have z0:=aq hA (n*3) (ng _ n (by omega));have z1:=aq hA (n*3+1) (m9 _ n (by omega));have z2:=aq hA (n*3+2) (m8 _ n (by omega));rw[EH] at z0 z1 z2;have afp:(n:Int)<256:=by omega
          clear hno hA hb;obtain⟨s,hs⟩:=ex (F n);rw[<- hs] at z0 z1 z2;have HS:Hid (s=F n):=hs;clear hs;go_wp2_with fail
          refine(aaI s q P _ hPw).mono ?_;rintro e w3 ⟨rfl,hb3⟩;have bA:=aN HA.o hb3 hAl;have y0:=aq bA (n*3) (ng _ n (by omega));have y1:=aq bA (n*3+1) (m9 _ n (by omega));have y2:=aq bA (n*3+2) (m8 _ n (by omega));have yf:=aO bA;have Cw:Hid (w3.heap[w2.heap.size]?=some (.cells (cJ (dZ F (eU q) page n)) 332 (0,0))):=bA;have HBB:Hid (Below w.heap.size w w3):=HB.o.trans (hb3.mono HB.o.size);have ajw:w2.heap.size<w3.heap.size:=aJ bA;clear bA hb3 z0 z1 z2;obtain⟨r,hr⟩:=ex ((eU q) s);rw[<- hr];have HR:Hid (r=(eU q) s):=hr;clear hr;unfold Df;by_cases he:r.2=0
          · have he':(r.2 != 0)=false:=by simp[he]
            have HE:Hid (r.2=0):=he;clear he;go_wp2;go_roundw
            case rel =>
             have su:=fP (fP (fP Cw.o (n*3) (.bool r.1.m)) (n*3+1) (I r.1.p)) (n*3+2) (.bool r.1.z);have est:=Ax F (eU q) page n Ur;rw[<- HS.o,<- HR.o] at est;rw[yl (dZ F (eU q) page n) n r.1 (by omega),est] at su;refine⟨n+1,by omega,by omega,by go_num,fun k h1 h2=>if e:k=n then by rw[e,<- HS.o,<- HR.o];exact HE.o else HN.o k h1 (by omega),?_,?_⟩
             · rw[show((n+1:Nat):Int)=(n:Int)+1 from by omega];exact bk su _
             · have hb4:=((HBB.o.setCell (p:=(Ad w2.heap.size (n*3))) Mm (.bool r.1.m)).setCell (p:=(Ad w2.heap.size (n*3+1))) Mm (I r.1.p)).setCell (p:=(Ad w2.heap.size (n*3+2))) Mm (.bool r.1.z);exact hb4.alloc hb4.size _
            case measure=>simp[intOf];omega
          · have he':(r.2 != 0)=true:=by simpa using he
            have HE:Hid (r.2≠0):=he;clear he;have ht:Hid (dQ l page aQ q (eU q)=([],r.2)):=by
             have Qe:gF F (eU q) page.toNat aQ.toNat=r.2:=by
              rw[HR.o,HS.o];exact yj F (eU q) _ _ n (by omega) (by omega) HN.o (by rw[<- HS.o,<- HR.o];exact HE.o)
             show _=_;rw[HT.o,Qe,au HE.o]
            go_wp2
            go_ret2
            exact⟨Nl,by rw[ht.out];rfl,by rw[ht.out];exact ez.nil _ _,HBB.o.alloc HBB.o.size _⟩
        · have hend:Hid ((n:Int)=page+aQ):=by show _=_;omega
          have ht:Hid (dQ l page aQ q (eU q)=(kE (dZ F (eU q) page n),0)):=by
           have Qe:gF F (eU q) page.toNat aQ.toNat=0:=vd F (eU q) _ _ (fun k h1 h2=>HN.o k h1 (by omega));show _=_;rw[HT.o,Qe,aB rfl,hend.out]
          clear hno hA hb;go_wp2_with (refine Ds rfl 332 _ rfl w2.heap.size rfl 332 _ (0,0) _ HA.o Tryz.underlying332 rfl (by rw[gq];exact oJ) ?_)
          refine(CG _ _).mono ?_;rintro e w4 ⟨r,rfl,hr,hb4⟩;go_wp2
          go_ret2
          exact⟨r,by rw[ht.out];rfl,by rw[ht.out];exact hr.mono HB.o.size,HB.o.trans (hb4.mono HB.o.size)⟩
     · have alQ:kx q=false:=by grind
       have HT:Hid (dQ l page aQ q (eU q)=([],3)):=by show _=_;grind [dQ]
       clear hqq;go_enter Tryz.func172,Tryz.ntmps172;go_wp2_with fail
       refine(jF l v _ h hf).mono ?_;rintro e w1 ⟨rfl,hb1⟩;rw[hc];clear hc;go_wp2_with fail
       refine(fQ _ _ _ hp hn).mono ?_;rintro e w' ⟨rfl,rfl⟩;go_wp2_with fail
       refine(js _ _).mono ?_;rintro e w' ⟨rfl,rfl⟩;go_wp2
       go_ret2
       exact⟨Nl,by rw[HT.o];rfl,by grind [ez.nil,Hid.o],hb1⟩
   · have alR:fX page aQ=false:=by grind
     have HT:Hid (dQ l page aQ q (eU q)=([],3)):=by show _=_;grind [dQ]
     clear Fh;go_enter Tryz.func172,Tryz.ntmps172;go_wp2_with fail
     refine(jF l v _ h hf).mono ?_;rintro e w1 ⟨rfl,hb1⟩;rw[hc];clear hc;go_wp2_with fail
     refine(fQ _ _ _ hp hn).mono ?_;rintro e w' ⟨rfl,rfl⟩;go_wp2
     go_ret2
     exact⟨Nl,by rw[HT.o];rfl,by grind [ez.nil,Hid.o],hb1⟩
 · have HT:Hid (dQ l page aQ q (eU q)=([],bj l)):=by show _=_;grind [dQ]
   have hc':(bj l != 0)=true:=by grind
   go_enter Tryz.func172,Tryz.ntmps172;go_wp2_with fail
   refine(jF l v _ h hf).mono ?_;rintro e w1 ⟨rfl,hb1⟩;go_wp2
   go_ret2
   exact⟨Nl,by rw[HT.o];rfl,by grind [ez.nil,Hid.o],hb1⟩
open Go.RowKit
theorem Mc (l:List aY) (v:Value) (page aQ q:Int) (w:World) (h:gD w v l) (hf:dO l) (hp:-9223372036854775808<=page/\page<=9223372036854775807) (hn:-9223372036854775808<=aQ/\aQ<=9223372036854775807) :
  Calls Tryz.prog 172 #[v,I page,I aQ,I q,.func (.func 287) #[] #[]] w fun e w'=>∃r,e=.returned (.tuple #[r,I (dQ l page aQ q bK).2])/\ez w.heap.size w' r (dQ l page aQ q bK).1/\Below w.heap.size w w':=by
 by_cases hc:bj l=0
 · by_cases Fh:fX page aQ=true
   · by_cases hqq:kx q=true
     · have HT:Hid (dQ l page aQ q bK=if gF (fI l) bK page.toNat aQ.toNat=0 then (kE (dZ (fI l) bK page (page+aQ)),0) else ([],gF (fI l) bK page.toNat aQ.toNat)):=by
        show _=_;grind [dQ]
       have hpb:=(ow page aQ).1 Fh;obtain⟨Z,hZ⟩:=ex (cJ (fun _=>jn));have hz:=Mb;rw[<- hZ] at hz;have hZs:Z.size=768:=by grind [gq]
       clear hZ;go_enter Tryz.func172,Tryz.ntmps172;go_wp2_with fail
       refine(jF l v _ h hf).mono ?_;rintro e w1 ⟨rfl,hb1⟩;rw[hc];have HC:Hid (bj l=0):=hc;clear hc;go_wp2_with fail
       refine(fQ _ _ _ hp hn).mono ?_;rintro e w' ⟨rfl,rfl⟩;go_wp2_with fail
       refine(js _ _).mono ?_;rintro e w' ⟨rfl,rfl⟩;go_wp2_with fail
       refine(CF l v _ (h.below hb1) HC.o).mono ?_;rintro e w2 ⟨rfl,hb2⟩;have gK:Hid (Below w.heap.size w w2):=hb1.trans (hb2.mono hb1.size);obtain⟨F,hF⟩:=ex (fI l);rw[<- hF] at HT ⊢;obtain⟨C,hC⟩:=ex (cJ F);have hCs:C.size=768:=by grind [gq]
       have Yo:Hid (C=cJ F):=hC;rw[<- hC];clear hb1 hb2 hF hC Fh hqq;have Hh:Hid ((w2.alloc (.cells Z 332)).heap[w2.heap.size]?=some (.cells Z 332 (0,0))):=bB w2 Z 332;go_wp2_with (refine JZ rfl 332 _ _ rfl w2.heap.size C rfl rfl 332 Z Hh.out (by rw[hCs];exact oJ) (by omega) (by grind [uP,Hid.o]) ?_)
       have HA0:Hid (((w2.alloc (.cells Z 332)).setRow w2.heap.size C).heap[w2.heap.size]?=some (.cells C 332 (0,0))):=tM _ _ _ _ 332 (0,0) Hh.out;have mQ:Hid (Below w.heap.size w ((w2.alloc (.cells Z 332)).setRow w2.heap.size C)):=below_setRow (gK.o.alloc gK.o.size _) gK.o.size _;have Mm:=gK.o.size;go_loopw [14] (fun t wr=>∃n:Nat,page<=(n:Int)/\(n:Int)<=page+aQ/\t=I n/\(∀k:Nat,page.toNat<=k->k<n->(bK (F k)).2=0)/\wr.heap[w2.heap.size]?=some (.cells (cJ (dZ F bK page n)) 332 (0,0))/\Below w.heap.size w wr) (fun t _=>(page+aQ-intOf t).toNat)
       case atStart =>
        grind [yV,Hid.o]
       case round =>
        obtain⟨n,Ur,hn3,rfl,hno,hA,hb⟩:=hrel;have HN:Hid (∀k:Nat,page.toNat<=k->k<n->(bK (F k)).2=0):=hno;have HA:Hid (wr.heap[w2.heap.size]?=some (.cells (cJ (dZ F bK page n)) 332 (0,0))):=hA;have HB:Hid (Below w.heap.size w wr):=hb;have hAl:w2.heap.size<wr.heap.size:=aJ hA;by_cases hin:(n:Int)<page+aQ
        · have z0:=aq hA (n*3) (ng _ n (by omega));have z1:=aq hA (n*3+1) (m9 _ n (by omega));have z2:=aq hA (n*3+2) (m8 _ n (by omega));rw[EH] at z0 z1 z2;have afp:(n:Int)<256:=by omega
          clear hno hA hb;obtain⟨s,hs⟩:=ex (F n);rw[<- hs] at z0 z1 z2;have HS:Hid (s=F n):=hs;clear hs;go_wp2_with fail
          refine(Uh s _).mono ?_;rintro e w3 ⟨rfl,hb3⟩;have bA:=aN HA.o hb3 hAl;have y0:=aq bA (n*3) (ng _ n (by omega));have y1:=aq bA (n*3+1) (m9 _ n (by omega));have y2:=aq bA (n*3+2) (m8 _ n (by omega));have yf:=aO bA;have Cw:Hid (w3.heap[w2.heap.size]?=some (.cells (cJ (dZ F bK page n)) 332 (0,0))):=bA;have HBB:Hid (Below w.heap.size w w3):=HB.o.trans (hb3.mono HB.o.size);have ajw:w2.heap.size<w3.heap.size:=aJ bA;clear bA hb3 z0 z1 z2;obtain⟨r,hr⟩:=ex (bK s);rw[<- hr];have HR:Hid (r=bK s):=hr;clear hr;unfold Df;by_cases he:r.2=0
          · have he':(r.2 != 0)=false:=by simp[he]
            have HE:Hid (r.2=0):=he;clear he;go_wp2;go_roundw
            case rel =>
             have su:=fP (fP (fP Cw.o (n*3) (.bool r.1.m)) (n*3+1) (I r.1.p)) (n*3+2) (.bool r.1.z);have est:=Ax F bK page n Ur;rw[<- HS.o,<- HR.o] at est;rw[yl (dZ F bK page n) n r.1 (by omega),est] at su;refine⟨n+1,by omega,by omega,by go_num,fun k h1 h2=>if e:k=n then by rw[e,<- HS.o,<- HR.o];exact HE.o else HN.o k h1 (by omega),?_,?_⟩
             · rw[show((n+1:Nat):Int)=(n:Int)+1 from by omega];exact bk su _
             · have hb4:=((HBB.o.setCell (p:=(Ad w2.heap.size (n*3))) Mm (.bool r.1.m)).setCell (p:=(Ad w2.heap.size (n*3+1))) Mm (I r.1.p)).setCell (p:=(Ad w2.heap.size (n*3+2))) Mm (.bool r.1.z);exact hb4.alloc hb4.size _
            case measure=>simp[intOf];omega
          · have he':(r.2 != 0)=true:=by simpa using he
            have HE:Hid (r.2≠0):=he;clear he;have ht:Hid (dQ l page aQ q bK=([],r.2)):=by
             have Qe:gF F bK page.toNat aQ.toNat=r.2:=by
              rw[HR.o,HS.o];exact yj F bK _ _ n (by omega) (by omega) HN.o (by rw[<- HS.o,<- HR.o];exact HE.o)
             show _=_;rw[HT.o,Qe,au HE.o]
            go_wp2
            go_ret2
            exact⟨Nl,by rw[ht.out];rfl,by rw[ht.out];exact ez.nil _ _,HBB.o.alloc HBB.o.size _⟩
        · have hend:Hid ((n:Int)=page+aQ):=by show _=_;omega
          have ht:Hid (dQ l page aQ q bK=(kE (dZ F bK page n),0)):=by
           have Qe:gF F bK page.toNat aQ.toNat=0:=vd F bK _ _ (fun k h1 h2=>HN.o k h1 (by omega));show _=_;rw[HT.o,Qe,aB rfl,hend.out]
          clear hno hA hb;go_wp2_with (refine Ds rfl 332 _ rfl w2.heap.size rfl 332 _ (0,0) _ HA.o Tryz.underlying332 rfl (by rw[gq];exact oJ) ?_)
          refine(CG _ _).mono ?_;rintro e w4 ⟨r,rfl,hr,hb4⟩;go_wp2
          go_ret2
          exact⟨r,by rw[ht.out];rfl,by rw[ht.out];exact hr.mono HB.o.size,HB.o.trans (hb4.mono HB.o.size)⟩
     · have alQ:kx q=false:=by grind
       have HT:Hid (dQ l page aQ q bK=([],3)):=by show _=_;grind [dQ]
       clear hqq;go_enter Tryz.func172,Tryz.ntmps172;go_wp2_with fail
       refine(jF l v _ h hf).mono ?_;rintro e w1 ⟨rfl,hb1⟩;rw[hc];clear hc;go_wp2_with fail
       refine(fQ _ _ _ hp hn).mono ?_;rintro e w' ⟨rfl,rfl⟩;go_wp2_with fail
       refine(js _ _).mono ?_;rintro e w' ⟨rfl,rfl⟩;go_wp2
       go_ret2
       exact⟨Nl,by rw[HT.o];rfl,by grind [ez.nil,Hid.o],hb1⟩
   · have alR:fX page aQ=false:=by grind
     have HT:Hid (dQ l page aQ q bK=([],3)):=by show _=_;grind [dQ]
     clear Fh;go_enter Tryz.func172,Tryz.ntmps172;go_wp2_with fail
     refine(jF l v _ h hf).mono ?_;rintro e w1 ⟨rfl,hb1⟩;rw[hc];clear hc;go_wp2_with fail
     refine(fQ _ _ _ hp hn).mono ?_;rintro e w' ⟨rfl,rfl⟩;go_wp2
     go_ret2
     exact⟨Nl,by rw[HT.o];rfl,by grind [ez.nil,Hid.o],hb1⟩
 · have HT:Hid (dQ l page aQ q bK=([],bj l)):=by show _=_;grind [dQ]
   have hc':(bj l != 0)=true:=by grind
   go_enter Tryz.func172,Tryz.ntmps172;go_wp2_with fail
   refine(jF l v _ h hf).mono ?_;rintro e w1 ⟨rfl,hb1⟩;go_wp2
   go_ret2
   exact⟨Nl,by rw[HT.o];rfl,by grind [ez.nil,Hid.o],hb1⟩
open Go.RowKit
theorem Ib (l:List aY) (v:Value) (page aQ q:Int) (P:Nat) (w:World) (h:gD w v l) (hf:dO l) (hp:-9223372036854775808<=page/\page<=9223372036854775807) (hn:-9223372036854775808<=aQ/\aQ<=9223372036854775807) (hP:w.cell? (Ad P 0)=some (I q)) :
  Calls Tryz.prog 172 #[v,I page,I aQ,I q,.func (.func 286) #[] #[.pointer (some (Ad P 0))]] w fun e w'=>∃r,e=.returned (.tuple #[r,I (dQ l page aQ q (cC q)).2])/\ez w.heap.size w' r (dQ l page aQ q (cC q)).1/\Below w.heap.size w w':=by
 by_cases hc:bj l=0
 · by_cases Fh:fX page aQ=true
   · by_cases hqq:kx q=true
     · have HT:Hid (dQ l page aQ q (cC q)=if gF (fI l) (cC q) page.toNat aQ.toNat=0 then (kE (dZ (fI l) (cC q) page (page+aQ)),0) else ([],gF (fI l) (cC q) page.toNat aQ.toNat)):=by
        show _=_;grind [dQ]
       have hpb:=(ow page aQ).1 Fh;obtain⟨Z,hZ⟩:=ex (cJ (fun _=>jn));have hz:=Mb;rw[<- hZ] at hz;have hZs:Z.size=768:=by grind [gq]
       clear hZ;go_enter Tryz.func172,Tryz.ntmps172;go_wp2_with fail
       refine(jF l v _ h hf).mono ?_;rintro e w1 ⟨rfl,hb1⟩;rw[hc];have HC:Hid (bj l=0):=hc;clear hc;go_wp2_with fail
       refine(fQ _ _ _ hp hn).mono ?_;rintro e w' ⟨rfl,rfl⟩;go_wp2_with fail
       refine(js _ _).mono ?_;rintro e w' ⟨rfl,rfl⟩;go_wp2_with fail
       refine(CF l v _ (h.below hb1) HC.o).mono ?_;rintro e w2 ⟨rfl,hb2⟩;have gK:Hid (Below w.heap.size w w2):=hb1.trans (hb2.mono hb1.size);obtain⟨F,hF⟩:=ex (fI l);rw[<- hF] at HT ⊢;obtain⟨C,hC⟩:=ex (cJ F);have hCs:C.size=768:=by grind [gq]
       have Yo:Hid (C=cJ F):=hC;rw[<- hC];clear hb1 hb2 hF hC Fh hqq;have Hh:Hid ((w2.alloc (.cells Z 332)).heap[w2.heap.size]?=some (.cells Z 332 (0,0))):=bB w2 Z 332;go_wp2_with (refine JZ rfl 332 _ _ rfl w2.heap.size C rfl rfl 332 Z Hh.out (by rw[hCs];exact oJ) (by omega) (by grind [uP,Hid.o]) ?_)
       have HA0:Hid (((w2.alloc (.cells Z 332)).setRow w2.heap.size C).heap[w2.heap.size]?=some (.cells C 332 (0,0))):=tM _ _ _ _ 332 (0,0) Hh.out;have mQ:Hid (Below w.heap.size w ((w2.alloc (.cells Z 332)).setRow w2.heap.size C)):=below_setRow (gK.o.alloc gK.o.size _) gK.o.size _;have Mm:=gK.o.size;go_loopw [14] (fun t wr=>∃n:Nat,page<=(n:Int)/\(n:Int)<=page+aQ/\t=I n/\(∀k:Nat,page.toNat<=k->k<n->((cC q) (F k)).2=0)/\wr.heap[w2.heap.size]?=some (.cells (cJ (dZ F (cC q) page n)) 332 (0,0))/\Below w.heap.size w wr) (fun t _=>(page+aQ-intOf t).toNat)
       case atStart =>
        grind [yV,Hid.o]
       case round =>
        obtain⟨n,Ur,hn3,rfl,hno,hA,hb⟩:=hrel;have HN:Hid (∀k:Nat,page.toNat<=k->k<n->((cC q) (F k)).2=0):=hno;have HA:Hid (wr.heap[w2.heap.size]?=some (.cells (cJ (dZ F (cC q) page n)) 332 (0,0))):=hA;have HB:Hid (Below w.heap.size w wr):=hb;have hAl:w2.heap.size<wr.heap.size:=aJ hA;have hPw:wr.cell? (Ad P 0)=some (I q):=(hb.cell (p:=(Ad P 0)) (nW w _ hP)).trans hP;by_cases hin:(n:Int)<page+aQ
        · have z0:=aq hA (n*3) (ng _ n (by omega));have z1:=aq hA (n*3+1) (m9 _ n (by omega));have z2:=aq hA (n*3+2) (m8 _ n (by omega));rw[EH] at z0 z1 z2;have afp:(n:Int)<256:=by omega
          clear hno hA hb;obtain⟨s,hs⟩:=ex (F n);rw[<- hs] at z0 z1 z2;have HS:Hid (s=F n):=hs;clear hs;go_wp2_with fail
          refine(O7 s q P _ hPw).mono ?_;rintro e w3 ⟨rfl,hb3⟩;have bA:=aN HA.o hb3 hAl;have y0:=aq bA (n*3) (ng _ n (by omega));have y1:=aq bA (n*3+1) (m9 _ n (by omega));have y2:=aq bA (n*3+2) (m8 _ n (by omega));have yf:=aO bA;have Cw:Hid (w3.heap[w2.heap.size]?=some (.cells (cJ (dZ F (cC q) page n)) 332 (0,0))):=bA;have HBB:Hid (Below w.heap.size w w3):=HB.o.trans (hb3.mono HB.o.size);have ajw:w2.heap.size<w3.heap.size:=aJ bA;clear bA hb3 z0 z1 z2;obtain⟨r,hr⟩:=ex ((cC q) s);rw[<- hr];have HR:Hid (r=(cC q) s):=hr;clear hr;unfold Df;by_cases he:r.2=0
          · have he':(r.2 != 0)=false:=by simp[he]
            have HE:Hid (r.2=0):=he;clear he;go_wp2;go_roundw
            case rel =>
             have su:=fP (fP (fP Cw.o (n*3) (.bool r.1.m)) (n*3+1) (I r.1.p)) (n*3+2) (.bool r.1.z);have est:=Ax F (cC q) page n Ur;rw[<- HS.o,<- HR.o] at est;rw[yl (dZ F (cC q) page n) n r.1 (by omega),est] at su;refine⟨n+1,by omega,by omega,by go_num,fun k h1 h2=>if e:k=n then by rw[e,<- HS.o,<- HR.o];exact HE.o else HN.o k h1 (by omega),?_,?_⟩
             · rw[show((n+1:Nat):Int)=(n:Int)+1 from by omega];exact bk su _
             · have hb4:=((HBB.o.setCell (p:=(Ad w2.heap.size (n*3))) Mm (.bool r.1.m)).setCell (p:=(Ad w2.heap.size (n*3+1))) Mm (I r.1.p)).setCell (p:=(Ad w2.heap.size (n*3+2))) Mm (.bool r.1.z);exact hb4.alloc hb4.size _
            case measure=>simp[intOf];omega
          · have he':(r.2 != 0)=true:=by simpa using he
            have HE:Hid (r.2≠0):=he;clear he;have ht:Hid (dQ l page aQ q (cC q)=([],r.2)):=by
             have Qe:gF F (cC q) page.toNat aQ.toNat=r.2:=by
              rw[HR.o,HS.o];exact yj F (cC q) _ _ n (by omega) (by omega) HN.o (by rw[<- HS.o,<- HR.o];exact HE.o)
             show _=_;rw[HT.o,Qe,au HE.o]
            go_wp2
            go_ret2
            exact⟨Nl,by rw[ht.out];rfl,by rw[ht.out];exact ez.nil _ _,HBB.o.alloc HBB.o.size _⟩
        · have hend:Hid ((n:Int)=page+aQ):=by show _=_;omega
          have ht:Hid (dQ l page aQ q (cC q)=(kE (dZ F (cC q) page n),0)):=by
           have Qe:gF F (cC q) page.toNat aQ.toNat=0:=vd F (cC q) _ _ (fun k h1 h2=>HN.o k h1 (by omega));show _=_;rw[HT.o,Qe,aB rfl,hend.out]
          clear hno hA hb;go_wp2_with (refine Ds rfl 332 _ rfl w2.heap.size rfl 332 _ (0,0) _ HA.o Tryz.underlying332 rfl (by rw[gq];exact oJ) ?_)
          refine(CG _ _).mono ?_;rintro e w4 ⟨r,rfl,hr,hb4⟩;go_wp2
          go_ret2
          exact⟨r,by rw[ht.out];rfl,by rw[ht.out];exact hr.mono HB.o.size,HB.o.trans (hb4.mono HB.o.size)⟩
     · have alQ:kx q=false:=by grind
       have HT:Hid (dQ l page aQ q (cC q)=([],3)):=by show _=_;grind [dQ]
       clear hqq;go_enter Tryz.func172,Tryz.ntmps172;go_wp2_with fail
       refine(jF l v _ h hf).mono ?_;rintro e w1 ⟨rfl,hb1⟩;rw[hc];clear hc;go_wp2_with fail
       refine(fQ _ _ _ hp hn).mono ?_;rintro e w' ⟨rfl,rfl⟩;go_wp2_with fail
       refine(js _ _).mono ?_;rintro e w' ⟨rfl,rfl⟩;go_wp2
       go_ret2
       exact⟨Nl,by rw[HT.o];rfl,by grind [ez.nil,Hid.o],hb1⟩
   · have alR:fX page aQ=false:=by grind
     have HT:Hid (dQ l page aQ q (cC q)=([],3)):=by show _=_;grind [dQ]
     clear Fh;go_enter Tryz.func172,Tryz.ntmps172;go_wp2_with fail
     refine(jF l v _ h hf).mono ?_;rintro e w1 ⟨rfl,hb1⟩;rw[hc];clear hc;go_wp2_with fail
     refine(fQ _ _ _ hp hn).mono ?_;rintro e w' ⟨rfl,rfl⟩;go_wp2
     go_ret2
     exact⟨Nl,by rw[HT.o];rfl,by grind [ez.nil,Hid.o],hb1⟩
 · have HT:Hid (dQ l page aQ q (cC q)=([],bj l)):=by show _=_;grind [dQ]
   have hc':(bj l != 0)=true:=by grind
   go_enter Tryz.func172,Tryz.ntmps172;go_wp2_with fail
   refine(jF l v _ h hf).mono ?_;rintro e w1 ⟨rfl,hb1⟩;go_wp2
   go_ret2
   exact⟨Nl,by rw[HT.o];rfl,by grind [ez.nil,Hid.o],hb1⟩
open Go.RowKit
def dK (l:List aY) (page aQ q:Int):List aY×Int:=dQ l page aQ q (eU q)
def cQ (l:List aY) (page aQ:Int):List aY×Int:=dQ l page aQ 0 bK
def bT (l:List aY) (page aQ q:Int):List aY×Int:=dQ l page aQ q (cC q)
def ux (n:Int):Prop:=-9223372036854775808<=n/\n<=9223372036854775807
theorem Sm (l:List aY) (v:Value) (page aQ q:Int) (w:World) (h:gD w v l) (hf:dO l) (hp:ux page) (hn:ux aQ) :
  Calls Tryz.prog 115 #[v,I page,I aQ,I q] w fun e w'=>∃r,e=.returned (.tuple #[r,I (dK l page aQ q).2])/\ez w.heap.size w' r (dK l page aQ q).1/\Below w.heap.size w w':=by
 have hb0:Below w.heap.size w (w.alloc (.cells #[I q] 3)):=(aK _ _).alloc (aD _) _;have hP:=aq (bB w #[I q] 3) 0 rfl;have H:=h.below hb0;have HP:Hid ((w.alloc (.cells #[I q] 3)).cell? (Ad w.heap.size 0)=some (I q)):=hP;clear hP;go_enter Tryz.func115,Tryz.ntmps115;go_wp2_with fail
 refine(O6 l v page aQ q w.heap.size _ H hf hp hn HP.o).mono ?_;rintro e w1 ⟨r,rfl,hr,hb1⟩;go_wp2
 go_ret2
 exact⟨r,rfl,hr.mono hb0.size,hb0.trans (hb1.mono hb0.size)⟩
theorem Yb (l:List aY) (v:Value) (page aQ:Int) (w:World) (h:gD w v l) (hf:dO l) (hp:ux page) (hn:ux aQ) :
  Calls Tryz.prog 280 #[v,I page,I aQ] w fun e w'=>∃r,e=.returned (.tuple #[r,I (cQ l page aQ).2])/\ez w.heap.size w' r (cQ l page aQ).1/\Below w.heap.size w w':=by
 go_enter Tryz.func280,Tryz.ntmps280;go_wp2_with fail
 refine(Mc l v page aQ 0 _ h hf hp hn).mono ?_;rintro e w1 ⟨r,rfl,hr,hb1⟩;go_wp2
 go_ret2
 exact⟨r,rfl,hr,hb1⟩
theorem Sl (l:List aY) (v:Value) (page aQ q:Int) (w:World) (h:gD w v l) (hf:dO l) (hp:ux page) (hn:ux aQ) :
  Calls Tryz.prog 277 #[v,I page,I aQ,I q] w fun e w'=>∃r,e=.returned (.tuple #[r,I (bT l page aQ q).2])/\ez w.heap.size w' r (bT l page aQ q).1/\Below w.heap.size w w':=by
 have hb0:Below w.heap.size w (w.alloc (.cells #[I q] 3)):=(aK _ _).alloc (aD _) _;have hP:=aq (bB w #[I q] 3) 0 rfl;have H:=h.below hb0;have HP:Hid ((w.alloc (.cells #[I q] 3)).cell? (Ad w.heap.size 0)=some (I q)):=hP;clear hP;go_enter Tryz.func277,Tryz.ntmps277;go_wp2_with fail
 refine(Ib l v page aQ q w.heap.size _ H hf hp hn HP.o).mono ?_;rintro e w1 ⟨r,rfl,hr,hb1⟩;go_wp2
 go_ret2
 exact⟨r,rfl,hr.mono hb0.size,hb0.trans (hb1.mono hb0.size)⟩
open Go.RowKit
theorem acQ {l:List aY} (h:∀a∈l,Ca a) (hn:l.length<=140737488351232):dO l:=by
 refine⟨fun i hi=>?_,hn⟩
 grind [bC]
theorem EF:dO []:=acQ (fun a h=>by simp at h) (by simp)
open Go.RowKit
def uZ (l:List aY) (n:Nat):dx:=let r:=bW l n;if r.2 then ⟨true,r.1.jL,r.1.zero⟩ else jn
def um (G:List aY):aY:=bC G (G.length-1)
def xJ (G:List aY) (a:aY):Bool:=fX a.page a.aQ&&kx a.jL&&(G.length==0 || mz (um G) a)
theorem Nb (p n q:Int) (z:Bool) (x:Int):iU ⟨p,n,q,z⟩ x=decide (p<=x/\x<p+n):=rfl
theorem JP (a:aY) (x:Int):iU a x=true↔a.page<=x/\x<a.page+a.aQ:=⟨fun h=>o5 h,fun h=>ic h⟩
theorem m7 (G:List aY) (a:aY):um (G++[a])=a:=by simp[um,bC]
theorem Di (G H:List aY):∀k,k<=G.length->kR (G++H) k=kR G k
 | 0,_=>rfl
 | k+1,h=>by
  simp only[kR,Di G H k (by omega)]
  grind [nH,sP]
theorem wR (G:List aY) (a:aY):uo (G++[a])=(uo G&&xJ G a):=by
 unfold uo;rw[fM];show kR (G++[a]) (G.length+1)=_
 grind [kR,Di,nH,xJ,um,wT,sP]
theorem xL:∀(G:List aY) (a:aY) (p:Int),bW (G++[a]) p=if (bW G p).2 then bW G p else if iU a p then (a,true) else (xK,false)
 | [],a,p=>by rfl
 | b::r,a,p=>by
  simp only[Dt,bW];by_cases h:iU b p=true
  · simp[h]
  · simp[h,xL r a p]
theorem Dj:∀(G:List aY) (p:Int),(bW G p).2=false->bW G p=(xK,false)
 | [],p,_=>rfl
 | b::r,p,h=>by
  simp only[bW] at h ⊢;by_cases c:iU b p=true
  · grind
  · simp only[c] at h ⊢;exact Dj r p h
theorem EI (G:List aY) (a:aY) (n:Nat):uZ (G++[a]) n=if (bW G n).2 then uZ G n else if iU a n then ⟨true,a.jL,a.zero⟩ else jn:=by
 grind [uZ,xL]
theorem CH:∀(m:Nat) (G:List aY),G.length=m->uo G=true->∀p:Int,(bW G p).2=true->1<=p/\p<(um G).wX
 | 0,G,hm,_,p,h=>by
  grind [bW]
 | m+1,G,hm,hg,p,h=>by
  rcases Px G with rfl | ⟨H,a,rfl⟩
  · grind
  · rw[Pw] at *;rw[wR,eO] at hg;obtain⟨hgH,hok⟩:=hg;rw[m7];simp only[xJ,eO,fX,lh] at hok;obtain⟨⟨hpa,_⟩,hfo⟩:=hok;rw[xL] at h;by_cases c:(bW H p).2=true
    · have ih:=CH m H (by grind) hgH p c
      grind [bW,mz,aY.wX]
    grind [iU]
structure qp (F:Nat->dx):Prop where
 zero:(F 0).m=false
 none:∀n,(F n).m=false->F n=jn
 jL:∀n,0<=(F n).p/\(F n).p<=3
theorem Yf (H:List aY) (a:aY):B6 (H++[a])=H++[⟨a.page,a.aQ+1,a.jL,a.zero⟩]:=by
 grind [B6,bC]
structure Yg (F:Nat->dx) (k:Nat) (G:List aY):Prop where
 good:uo G=true
 look:∀n:Nat,uZ G n=if n<k then F n else jn
 yes:(iE F k).m=true->0<G.length/\(um G).wX=k/\(um G).jL=(iE F k).p/\(um G).zero=(iE F k).z
 no:(iE F k).m=false->G.length=0∨(um G).wX<k∨k=0
theorem aaL (G:List aY) (n:Nat) (h:uZ G n=jn):(bW G n).2=false:=by
 grind [uZ,jn]
theorem CJ (F:Nat->dx) (hF:qp F):∀k,k<=256->Yg F k (cW F k)
 | 0,_=>⟨rfl,fun n=>rfl,fun h=>by grind [iE,jn],fun _=>.inl rfl⟩
 | k+1,hk=>by
  have ih:=CJ F hF k (by omega);obtain⟨G,hG⟩:=ex (cW F k);rw[<- hG] at ih;simp only[cW];rw[<- hG];by_cases hm:(F k).m=false
  · rw[aB hm];refine⟨ih.good,fun n=>?_,fun h=>?_,fun _=>?_⟩
    · rw[ih.look n];by_cases h1:n<k
      · grind
      · rw[au h1];by_cases h2:n<k+1
        · obtain rfl:n=k:=by omega
          rw[aB h2,hF.none n hm]
        grind
    · have:(F k).m=true:=h
      grind
    · by_cases hl:(iE F k).m=true
      · grind [Yg.yes]
      · rcases ih.no (by grind) with h | h | h
        · omega
        · omega
        · subst h;have:G=[]:=hG
          grind
  · have hm':(F k).m=true:=by grind
    rw[au hm];have hk1:1<=k:=by
     grind [qp.zero]
    have Nh:=aaL G k (by rw[ih.look k,au (by omega)]);by_cases he:yi (F k) (iE F k)=true
    · rw[aB he];have hst:=Sr _ _ he;obtain⟨h0,h1,h2,h3⟩:=ih.yes (by grind);rcases Px G with hnil | ⟨H,a,hH⟩
      · grind
      · rw[Pw] at hH;rw[hH,m7] at h1 h2 h3;have hg:=ih.good;rw[hH,wR,eO] at hg;obtain⟨hgH,hok⟩:=hg;have alU:=hok;simp only[xJ,eO,fX,lh] at alU;obtain⟨⟨hpa,hpr⟩,hfo⟩:=alU;rw[hH,Yf];unfold aY.wX at h1;refine⟨?_,fun n=>?_,fun _=>⟨by simp,?_,?_,?_⟩,fun h=>?_⟩
        · rw[wR,hgH,tN];simp only[xJ,eO,fX,lh];exact⟨⟨⟨hpa.1,by omega,by omega⟩,hpr⟩,hfo⟩
        · have hl:=ih.look n;rw[hH] at hl;rw[EI] at hl ⊢;by_cases c:(bW H n).2=true
          · rw[aB c] at hl ⊢;rw[hl];have hb:=CH _ H rfl hgH n c
            grind [bW,mz]
          · rw[au c] at hl ⊢;by_cases d:n=k
            · subst d;rw[aB (by grind [Nb]),aB (by omega)];show dx.mk true a.jL a.zero=F n;rw[h2,h3,<- hst,<- hm']
            grind [JP]
        · rw[m7];show a.page+(a.aQ+1)=_;omega
        · rw[m7];show a.jL=(F k).p;grind
        · rw[m7];show a.zero=(F k).z;grind
        · have:(F k).m=false:=h
          grind
    · have he':yi (F k) (iE F k)=false:=by grind
      rw[au he];refine⟨?_,fun n=>?_,fun _=>⟨by simp,?_,?_,?_⟩,fun h=>?_⟩
      · rw[wR,ih.good,tN];simp only[xJ,eO,fX,kx,lh];refine⟨⟨⟨by omega,by omega,by omega⟩,hF.jL k⟩,?_⟩;by_cases h0:G.length=0
        · simp[h0]
        · simp only[Ve,beq_iff_eq,h0,false_or];by_cases hl:(iE F k).m=true
          · grind [mz,Sq,Yg.yes]
          · rcases ih.no (by grind) with h | h | h
            · omega
            · grind [mz]
            · omega
      · rw[EI];by_cases c:(bW G n).2=true
        · rw[aB c,ih.look n]
          grind
        · rw[au c];have c':(bW G n).2=false:=by grind
          by_cases d:n=k
          · subst d;rw[aB (by grind [Nb]),aB (by omega)];show dx.mk true (F n).p (F n).z=F n;rw[<- hm']
          · rw[au (by grind [Nb])];have hl:=ih.look n
            grind [uZ]
      · rw[m7];rfl
      · rw[m7];rfl
      · rw[m7];rfl
      · have:(F k).m=false:=h
        grind
theorem Sw (F:Nat->dx) (hF:qp F):uo (kE F)=true:=(CJ F hF 256 (aD _)).good
theorem Sv (F:Nat->dx) (hF:qp F) (n:Nat) (hn:n<256):uZ (kE F) n=F n:=by
 have:=(CJ F hF 256 (aD _)).look n;rw[aB hn] at this;exact this
theorem G0 (l:List aY):∀(m:Nat) (G:List aY),G.length=m->uo G=true->∀n:Nat,uZ G n=ft G G.length n
 | 0,G,hm,_,n=>by
  have e:G=[]:=lj hm;subst e;rfl
 | m+1,G,hm,hg,n=>by
  rcases Px G with rfl | ⟨H,a,rfl⟩
  · rfl
  · rw[Pw] at *;rw[wR,eO] at hg;have ih:=G0 l m H (by grind) hg.1 n;have hs:∀k,k<=H.length->ft (H++[a]) k=ft H k:=by
     intro k;induction k with
     | zero=>intro _;rfl
     | succ k ihk=>grind [ft,sP]
    rw[fM];show _=ft (H++[a]) (H.length+1) n;simp only[ft];rw[hs H.length (aD _),wT,EI];simp only[nT];by_cases c:(bW H n).2=true
    · rw[aB c,ih];have hb:=CH _ H rfl hg.1 n c
      grind [xJ,bW,mz]
    grind [uZ,iU]
open Go.RowKit
theorem Nf (l:List aY) (h:bj l=0):uo l=true:=by
 grind [bj]
theorem Dh (l:List aY) (hc:bj l=0):∀k,k<=l.length->(ft l k 0).m=false/\(∀n,(ft l k n).m=false->ft l k n=jn)/\(∀n,0<=(ft l k n).p/\(ft l k n).p<=3)
 | 0,_=>⟨rfl,fun n _=>rfl,fun n=>by simp[ft,jn]⟩
 | k+1,hk=>by
  have ih:=Dh l hc k (by omega);have ho:=iy l k (gZ l hc k (by omega));refine⟨?_,fun n=>?_,fun n=>?_⟩
  · simp only[ft,nT];grind
  · simp only[ft,nT]
    grind
  · simp only[ft,nT]
    grind
theorem Az (l:List aY) (hc:bj l=0):qp (fI l):=by
 have h:=Dh l hc l.length (aD _);exact⟨h.1,h.2.1,h.2.2⟩
theorem Ay (F:Nat->dx) (hF:qp F) (how:dx->dx×Int) (page t:Int) (hp:1<=page)
  (hn:∀s,(s.m=false->s=jn)->((how s).1.m=false->(how s).1=jn)) (hq:∀s,0<=s.p/\s.p<=3->0<=(how s).1.p/\(how s).1.p<=3):qp (dZ F how page t):=by
 refine⟨?_,fun n=>?_,fun n=>?_⟩
 · grind [dZ,qp.zero]
 · simp only[dZ];split
   · simp_all [qp.none]
   · exact hF.none n
 · simp only[dZ];split
   · simp_all [qp.jL]
   · exact hF.jL n
theorem G3 (F:Nat->dx) (h0:(F 0).m=false):∀k,(cW F (k+1)).length<=k
 | 0=>by grind [cW]
 | k+1=>by
  have ih:=G3 F h0 k
  grind [cW,wS]
theorem ve (F:Nat->dx) (hF:qp F):bj (kE F)=0:=by
 grind [kE,G3,Sw,bj,qp.zero]
theorem E5 (l:List aY) (hc:bj l=0) (F:Nat->dx) (p:Nat) (h:uZ l p=F p):(aV l p).2=(F p).m/\(aV l p).1.jL=(F p).p/\(aV l p).1.zero=(F p).z:=by
 grind [aV,uZ,Dj,xK,jn]
theorem AE (F:Nat->dx) (hF:qp F) (p:Nat) (hp:p<256):(aV (kE F) p).2=(F p).m/\(aV (kE F) p).1.jL=(F p).p/\(aV (kE F) p).1.zero=(F p).z :=
 E5 _ (ve F hF) F p (Sv F hF p hp)
theorem AA (l:List aY) (hc:bj l=0) (p:Nat):(aV l p).2=(fI l p).m/\(aV l p).1.jL=(fI l p).p/\(aV l p).1.zero=(fI l p).z :=
 E5 l hc (fI l) p (G0 l _ l rfl (Nf l hc) p)
theorem lO (l:List aY) (hc:bj l=0):(∀i,i<l.length->Ca (bC l i))/\l.length<=140737488351232:=by
 refine⟨fun i hi=>?_,by grind [oC]⟩;have ho:=iy l i (gZ l hc i hi)
 grind [Ca]
theorem G5 (F:Nat->dx) (how:dx->dx×Int):∀(c n:Nat),gF F how n c=0->∀k,n<=k->k<n+c->(how (F k)).2=0
 | 0,n,_,k,h1,h2=>by omega
 | c+1,n,h,k,h1,h2=>by
  simp only[gF] at h;split at h
  · rename_i h0
    by_cases e:k=n
    · grind
    · exact G5 F how c (n+1) h k (by omega) (by omega)
  omega
end Go.Proofs.YtlgoihmkgaaemaaGreat
