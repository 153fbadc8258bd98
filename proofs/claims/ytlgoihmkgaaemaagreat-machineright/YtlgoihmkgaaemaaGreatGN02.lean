import Derived.Test.YtlgoihmkgaaemaaGreatGN01
import Derived.Lib.Hide
import Derived.Deep.CutBlock
import Derived.Deep.DeepCutAuto
set_option maxHeartbeats 20000000
set_option linter.unusedVariables false
set_option maxRecDepth 100000
set_option linter.unusedSimpArgs false
namespace Go.Proofs.YtlgoihmkgaaemaaGreat
open Go.RowKit
def eW (q:Int) (s:dm):dm×Int:=if s.m then (s,5) else (⟨true,q,true⟩,0)
def bM (s:dm):dm×Int:=(ji,0)
def cE (q:Int) (s:dm):dm×Int:=if s.m then (⟨s.m,q,s.z⟩,0) else (s,6)
def C9 (s:dm):Value:=.agg #[.bool s.m,I s.p,.bool s.z]
theorem aaA (s:dm) (q:Int) (P:Nat) (w:World) (hP:w.cell? (Ad P 0)=some (I q)) :
  Calls Tryz.prog 173 #[.agg #[.bool s.m,I s.p,.bool s.z],.pointer (some (Ad P 0))] w fun e w'=>e=.returned (.tuple #[C9 (eW q s).1,I (eW q s).2])/\Below w.heap.size w w':=by
 have hPl:P<w.heap.size:=oQ w _ hP;obtain⟨m,p,z⟩:=s;cases m
 · go_enter Tryz.func173,Tryz.ntmps173;go_wp2;exact bO (v:=.tuple #[.agg #[.bool true,I q,.bool true],I 0]) (by simp[results,Tryz.results173,go_sem]) rfl ⟨rfl,((aK _ _).alloc (aI _) _).alloc (by simp) _⟩
 · go_enter Tryz.func173,Tryz.ntmps173;go_wp2;exact bO (v:=.tuple #[.agg #[.bool true,I p,.bool z],I 5]) (by simp[results,Tryz.results173,go_sem]) rfl ⟨rfl,((aK _ _).alloc (aI _) _).alloc (by simp) _⟩
theorem TS (s:dm) (w:World) :
  Calls Tryz.prog 287 #[.agg #[.bool s.m,I s.p,.bool s.z]] w fun e w'=>e=.returned (.tuple #[C9 (bM s).1,I (bM s).2])/\Below w.heap.size w w':=by
 go_enter Tryz.func287,Tryz.ntmps287;go_wp2;exact bO (v:=.tuple #[.agg #[.bool false,I 0,.bool false],I 0]) (by simp[results,Tryz.results287,go_sem]) rfl ⟨rfl,((aK _ _).alloc (aI _) _).alloc (by simp) _⟩
theorem OQ (s:dm) (q:Int) (P:Nat) (w:World) (hP:w.cell? (Ad P 0)=some (I q)) :
  Calls Tryz.prog 286 #[.agg #[.bool s.m,I s.p,.bool s.z],.pointer (some (Ad P 0))] w fun e w'=>e=.returned (.tuple #[C9 (cE q s).1,I (cE q s).2])/\Below w.heap.size w w':=by
 have hPl:P<w.heap.size:=oQ w _ hP;obtain⟨m,p,z⟩:=s;cases m
 · go_enter Tryz.func286,Tryz.ntmps286;go_wp2;exact bO (v:=.tuple #[.agg #[.bool false,I p,.bool z],I 6]) (by simp[results,Tryz.results286,go_sem]) rfl ⟨rfl,((aK _ _).alloc (aI _) _).alloc (by simp) _⟩
 · go_enter Tryz.func286,Tryz.ntmps286;go_wp2;exact bO (v:=.tuple #[.agg #[.bool true,I q,.bool z],I 0]) (by simp[results,Tryz.results286,go_sem]) rfl ⟨rfl,((aK _ _).alloc (aI _) _).alloc (by simp) _⟩
theorem fZ.below {w w':World} {v:Value} {l:List aX} (h:fZ w v l) (hb:Below w.heap.size w w'):fZ w' v l:=by
 obtain⟨ao,cap,rfl,h⟩:=h;rcases h with rfl | ⟨b,off,rfl,hl⟩
 · exact⟨ao,cap,rfl,.inl rfl⟩
 · exact⟨_,cap,rfl,.inr ⟨b,off,rfl,hl.below hb⟩⟩
def dO (l:List aX):Prop:=(∀i,i<l.length->B0 (bC l i))/\l.length<=140737488351232
theorem jB (l:List aX) (v:Value) (w:World) (h:fZ w v l) (hf:dO l) :
  Calls Tryz.prog 117 #[v] w fun e w'=>e=.returned (I (bk l))/\Below w.heap.size w w':=by
 obtain⟨ao,cap,rfl,h⟩:=h;rcases h with rfl | ⟨b,off,rfl,hl⟩
 · exact EC ao cap w
 · exact uF l b off cap w hl hf.1 hf.2
theorem wM (l:List aX) (v:Value) (w:World) (h:fZ w v l) (hf:dO l) :
  Calls Tryz.prog 70 #[v] w fun e w'=>e=.returned (I (bh l))/\Below w.heap.size w w':=by
 obtain⟨ao,cap,rfl,h⟩:=h;rcases h with rfl | ⟨b,off,rfl,hl⟩
 · exact XG ao cap w
 · exact TT l b off cap w hl hf.1 hf.2
theorem yI (l:List aX) (v:Value) (p:Int) (w:World) (h:fZ w v l) (hf:dO l) :
  Calls Tryz.prog 77 #[v,I p] w fun e w'=>e=.returned (.tuple #[.agg (ru (aY l p).1),.bool (aY l p).2])/\Below w.heap.size w w':=by
 obtain⟨ao,cap,rfl,h⟩:=h;rcases h with rfl | ⟨b,off,rfl,hl⟩
 · exact aaC ao cap p w
 · exact XJ l b off cap p w hl hf.1 hf.2
theorem CC (l:List aX) (v:Value) (w:World) (h:fZ w v l) (hc:bk l=0) :
  Calls Tryz.prog 210 #[v] w fun e w'=>e=.returned (.agg (cK (fD l)))/\Below w.heap.size w w':=by
 obtain⟨ao,cap,rfl,h⟩:=h;rcases h with rfl | ⟨b,off,rfl,hl⟩
 · exact TU ao cap w
 · exact RT l b off cap w hl hc
open Go.RowKit
theorem ai {p:Prop} (h:p):Hid p:=h
theorem bX {w w1 w2:World} (h1:Below w.heap.size w w1) (h2:Below w1.heap.size w1 w2):Below w.heap.size w w2:=h1.trans (h2.mono h1.size)
def ua (way:Int):Int:=if way=1 then 1 else if way=2 then 2 else 0
theorem LN (way:Int) (w:World):Calls Tryz.prog 289 #[I way] w fun e w'=>e=.returned (I (ua way))/\w=w':=by
 unfold ua;by_cases h1:way=1
 · subst h1;go_enter Tryz.func289,Tryz.ntmps289;go_wp2;go_ret
   simp_all
 · rw[aA h1];have h1i:(way==1)=false:=by grind
   by_cases h2:way=2
   · subst h2;go_enter Tryz.func289,Tryz.ntmps289;go_wp2;go_ret
     simp_all
   · rw[aA h2];have h2i:(way==2)=false:=by grind
     clear h1 h2;go_enter Tryz.func289,Tryz.ntmps289;go_wp2;go_ret
     simp_all
theorem I4 (p way:Int) (h0:0<=p) (h3:p<=3):(bits BinOp.and IntKind.i64 p (ua way)==ua way)=!(nM p way):=by
 have hp:p=0∨p=1∨p=2∨p=3:=by omega
 unfold ua nM;by_cases h1:way=1
 · subst h1;rcases hp with rfl | rfl | rfl | rfl <;> decide
 · by_cases h2:way=2
   · subst h2;rcases hp with rfl | rfl | rfl | rfl <;> decide
   · rw[aA h1,aA h2];simp only[h1,h2,false_and,or_self,decide_false,Bool.not_false];rcases hp with rfl | rfl | rfl | rfl <;> decide
open Go.RowKit
def dY (F:Nat->dm) (how:dm->dm×Int) (page t:Int):Nat->dm:=fun k=>if page<=(k:Int)/\(k:Int)<t then (how (F k)).1 else F k
def gz (F:Nat->dm) (how:dm->dm×Int):Nat->Nat->Int
 | _,0=>0
 | n,c+1=>if (how (F n)).2=0 then gz F how (n+1) c else (how (F n)).2
def dQ (l:List aX) (page aQ jG:Int) (how:dm->dm×Int):List aX×Int :=
 if bk l=0 then
  if fT page aQ&&kr jG then
   if gz (fD l) how page.toNat aQ.toNat=0 then (kx (dY (fD l) how page (page+aQ)),0)
   else ([],gz (fD l) how page.toNat aQ.toNat)
  else ([],3)
 else ([],bk l)
theorem yT (F:Nat->dm) (how:dm->dm×Int) (page:Int):dY F how page page=F:=by
 grind [dY]
theorem ED (F:Nat->dm) (how:dm->dm×Int) (page:Int) (n:Nat):dY F how page n n=F n:=by
 grind [dY]
theorem Aq (F:Nat->dm) (how:dm->dm×Int) (page:Int) (n:Nat) (h:page<=(n:Int)):GM (dY F how page n) n (how (F n)).1=dY F how page ((n:Int)+1):=by
 grind [GM,dY]
theorem uU (F:Nat->dm) (how:dm->dm×Int):∀(c n:Nat),(∀k,n<=k->k<n+c->(how (F k)).2=0)->gz F how n c=0
 | 0,_,_=>rfl
 | c+1,n,h=>by
  simp only[gz];rw[aC (h n (by omega) (by omega))];exact uU F how c (n+1) (fun k h1 h2=>h k (by omega) (by omega))
theorem yi (F:Nat->dm) (how:dm->dm×Int):∀(c n m:Nat),n<=m->m<n+c->(∀k,n<=k->k<m->(how (F k)).2=0)->(how (F m)).2≠0->gz F how n c=(how (F m)).2
 | 0,n,m,h1,h2,_,_=>by omega
 | c+1,n,m,h1,h2,h,hm=>by
  simp only[gz];by_cases e:n=m
  · grind
  · rw[aC (h n (by omega) (by omega))];exact yi F how c (n+1) m (by omega) (by omega) (fun k h1 h2=>h k (by omega) h2) hm
theorem oo (p n:Int):fT p n=true↔1<=p/\1<=n/\n<=256-p:=by simp[fT]
open Go.RowKit
theorem OP (l:List aX) (v:Value) (page aQ q:Int) (P:Nat) (w:World) (h:fZ w v l) (hf:dO l) (hp:-9223372036854775808<=page/\page<=9223372036854775807) (hn:-9223372036854775808<=aQ/\aQ<=9223372036854775807) (hP:w.cell? (Ad P 0)=some (I q)) :
  Calls Tryz.prog 172 #[v,I page,I aQ,I q,.func (.func 173) #[] #[.pointer (some (Ad P 0))]] w fun e w'=>∃r,e=.returned (.tuple #[r,I (dQ l page aQ q (eW q)).2])/\eu w.heap.size w' r (dQ l page aQ q (eW q)).1/\Below w.heap.size w w':=by
 by_cases hc:bk l=0
 · by_cases Hb:fT page aQ=true
   · by_cases hqq:kr q=true
     · have HT:Hid (dQ l page aQ q (eW q)=if gz (fD l) (eW q) page.toNat aQ.toNat=0 then (kx (dY (fD l) (eW q) page (page+aQ)),0) else ([],gz (fD l) (eW q) page.toNat aQ.toNat)):=by
        show _=_;grind [dQ]
       have hpb:=(oo page aQ).1 Hb;obtain⟨Z,hZ⟩:=ex (cK (fun _=>ji));have hz:=LX;rw[<- hZ] at hz;have hZs:Z.size=768:=by grind [gh]
       clear hZ;go_enter Tryz.func172,Tryz.ntmps172;go_wp2_with fail
       refine(jB l v _ h hf).mono ?_;rintro e w1 ⟨rfl,hb1⟩;rw[hc];have HC:Hid (bk l=0):=hc;clear hc;go_wp2_with fail
       refine(fN _ _ _ hp hn).mono ?_;rintro e w' ⟨rfl,rfl⟩;go_wp2_with fail
       refine(jn _ _).mono ?_;rintro e w' ⟨rfl,rfl⟩;go_wp2_with fail
       refine(CC l v _ (h.below hb1) HC.o).mono ?_;rintro e w2 ⟨rfl,hb2⟩;have gQ:Hid (Below w.heap.size w w2):=hb1.trans (hb2.mono hb1.size);obtain⟨F,hF⟩:=ex (fD l);rw[<- hF] at HT ⊢;obtain⟨C,hC⟩:=ex (cK F);have hCs:C.size=768:=by grind [gh]
       have HCF:Hid (C=cK F):=hC;rw[<- hC];clear hb1 hb2 hF hC Hb hqq;have E3:Hid ((w2.alloc (.cells Z 332)).heap[w2.heap.size]?=some (.cells Z 332 (0,0))):=bE w2 Z 332;go_wp2_with (refine JP rfl 332 _ _ rfl w2.heap.size C rfl rfl 332 Z E3.out (by rw[hCs];exact oD) (by omega) (by grind [uG,Hid.o]) ?_)
       have HA0:Hid (((w2.alloc (.cells Z 332)).setRow w2.heap.size C).heap[w2.heap.size]?=some (.cells C 332 (0,0))):=tJ _ _ _ _ 332 (0,0) E3.out;have mO:Hid (Below w.heap.size w ((w2.alloc (.cells Z 332)).setRow w2.heap.size C)):=below_setRow (gQ.o.alloc gQ.o.size _) gQ.o.size _;have L9:=gQ.o.size;go_loopw [14] (fun t wr=>∃n:Nat,page<=(n:Int)/\(n:Int)<=page+aQ/\t=I n/\(∀k:Nat,page.toNat<=k->k<n->((eW q) (F k)).2=0)/\wr.heap[w2.heap.size]?=some (.cells (cK (dY F (eW q) page n)) 332 (0,0))/\Below w.heap.size w wr) (fun t _=>(page+aQ-intOf t).toNat)
       case atStart =>
        grind [yT,Hid.o]
       case round =>
        obtain⟨n,Sk,hn3,rfl,hno,hA,hb⟩:=hrel;have HN:Hid (∀k:Nat,page.toNat<=k->k<n->((eW q) (F k)).2=0):=hno;have HA:Hid (wr.heap[w2.heap.size]?=some (.cells (cK (dY F (eW q) page n)) 332 (0,0))):=hA;have HB:Hid (Below w.heap.size w wr):=hb;have hAl:w2.heap.size<wr.heap.size:=aJ hA;have hPw:wr.cell? (Ad P 0)=some (I q):=(hb.cell (p:=(Ad P 0)) (oQ w _ hP)).trans hP;by_cases hin:(n:Int)<page+aQ
        · have z0:=au hA (n*3) (m9 _ n (by omega));have z1:=au hA (n*3+1) (m8 _ n (by omega));have z2:=au hA (n*3+2) (m7 _ n (by omega));rw[ED] at z0 z1 z2;have afs:(n:Int)<256:=by omega
          clear hno hA hb;obtain⟨s,hs⟩:=ex (F n);rw[<- hs] at z0 z1 z2;have HS:Hid (s=F n):=hs;clear hs;go_wp2_with fail
          refine(aaA s q P _ hPw).mono ?_;rintro e w3 ⟨rfl,hb3⟩;have bA:=aO HA.o hb3 hAl;have y0:=au bA (n*3) (m9 _ n (by omega));have y1:=au bA (n*3+1) (m8 _ n (by omega));have y2:=au bA (n*3+2) (m7 _ n (by omega));have yf:=aR bA;have Cu:Hid (w3.heap[w2.heap.size]?=some (.cells (cK (dY F (eW q) page n)) 332 (0,0))):=bA;have HBB:Hid (Below w.heap.size w w3):=HB.o.trans (hb3.mono HB.o.size);have aj0:w2.heap.size<w3.heap.size:=aJ bA;clear bA hb3 z0 z1 z2;obtain⟨r,hr⟩:=ex ((eW q) s);rw[<- hr];have HR:Hid (r=(eW q) s):=hr;clear hr;unfold C9;by_cases he:r.2=0
          · have he':(r.2 != 0)=false:=by simp[he]
            have HE:Hid (r.2=0):=he;clear he;go_wp2;go_roundw
            case rel =>
             have rY:=fh (fh (fh Cu.o (n*3) (.bool r.1.m)) (n*3+1) (I r.1.p)) (n*3+2) (.bool r.1.z);have est:=Aq F (eW q) page n Sk;rw[<- HS.o,<- HR.o] at est;rw[yj (dY F (eW q) page n) n r.1 (by omega),est] at rY;refine⟨n+1,by omega,by omega,by go_num,fun k h1 h2=>if e:k=n then by rw[e,<- HS.o,<- HR.o];exact HE.o else HN.o k h1 (by omega),?_,?_⟩
             · rw[show((n+1:Nat):Int)=(n:Int)+1 from by omega];exact br rY _
             · have hb4:=((HBB.o.setCell (p:=(Ad w2.heap.size (n*3))) L9 (.bool r.1.m)).setCell (p:=(Ad w2.heap.size (n*3+1))) L9 (I r.1.p)).setCell (p:=(Ad w2.heap.size (n*3+2))) L9 (.bool r.1.z);exact hb4.alloc hb4.size _
            case measure=>simp[intOf];omega
          · have he':(r.2 != 0)=true:=by simpa using he
            have HE:Hid (r.2≠0):=he;clear he;have ht:Hid (dQ l page aQ q (eW q)=([],r.2)):=by
             have PY:gz F (eW q) page.toNat aQ.toNat=r.2:=by
              rw[HR.o,HS.o];exact yi F (eW q) _ _ n (by omega) (by omega) HN.o (by rw[<- HS.o,<- HR.o];exact HE.o)
             show _=_;rw[HT.o,PY,aA HE.o]
            go_wp2
            go_ret2
            exact⟨Nl,by rw[ht.out];rfl,by rw[ht.out];exact eu.nil _ _,HBB.o.alloc HBB.o.size _⟩
        · have hend:Hid ((n:Int)=page+aQ):=by show _=_;omega
          have ht:Hid (dQ l page aQ q (eW q)=(kx (dY F (eW q) page n),0)):=by
           have PY:gz F (eW q) page.toNat aQ.toNat=0:=uU F (eW q) _ _ (fun k h1 h2=>HN.o k h1 (by omega));show _=_;rw[HT.o,PY,aC rfl,hend.out]
          clear hno hA hb;go_wp2_with (refine Dm rfl 332 _ rfl w2.heap.size rfl 332 _ (0,0) _ HA.o Tryz.underlying332 rfl (by rw[gh];exact oD) ?_)
          refine(CE _ _).mono ?_;rintro e w4 ⟨r,rfl,hr,hb4⟩;go_wp2
          go_ret2
          exact⟨r,by rw[ht.out];rfl,by rw[ht.out];exact hr.mono HB.o.size,HB.o.trans (hb4.mono HB.o.size)⟩
     · have amg:kr q=false:=by grind
       have HT:Hid (dQ l page aQ q (eW q)=([],3)):=by show _=_;grind [dQ]
       clear hqq;go_enter Tryz.func172,Tryz.ntmps172;go_wp2_with fail
       refine(jB l v _ h hf).mono ?_;rintro e w1 ⟨rfl,hb1⟩;rw[hc];clear hc;go_wp2_with fail
       refine(fN _ _ _ hp hn).mono ?_;rintro e w' ⟨rfl,rfl⟩;go_wp2_with fail
       refine(jn _ _).mono ?_;rintro e w' ⟨rfl,rfl⟩;go_wp2
       go_ret2
       exact⟨Nl,by rw[HT.o];rfl,by grind [eu.nil,Hid.o],hb1⟩
   · have amh:fT page aQ=false:=by grind
     have HT:Hid (dQ l page aQ q (eW q)=([],3)):=by show _=_;grind [dQ]
     clear Hb;go_enter Tryz.func172,Tryz.ntmps172;go_wp2_with fail
     refine(jB l v _ h hf).mono ?_;rintro e w1 ⟨rfl,hb1⟩;rw[hc];clear hc;go_wp2_with fail
     refine(fN _ _ _ hp hn).mono ?_;rintro e w' ⟨rfl,rfl⟩;go_wp2
     go_ret2
     exact⟨Nl,by rw[HT.o];rfl,by grind [eu.nil,Hid.o],hb1⟩
 · have HT:Hid (dQ l page aQ q (eW q)=([],bk l)):=by show _=_;grind [dQ]
   have hc':(bk l != 0)=true:=by grind
   go_enter Tryz.func172,Tryz.ntmps172;go_wp2_with fail
   refine(jB l v _ h hf).mono ?_;rintro e w1 ⟨rfl,hb1⟩;go_wp2
   go_ret2
   exact⟨Nl,by rw[HT.o];rfl,by grind [eu.nil,Hid.o],hb1⟩
open Go.RowKit
theorem LY (l:List aX) (v:Value) (page aQ q:Int) (w:World) (h:fZ w v l) (hf:dO l) (hp:-9223372036854775808<=page/\page<=9223372036854775807) (hn:-9223372036854775808<=aQ/\aQ<=9223372036854775807) :
  Calls Tryz.prog 172 #[v,I page,I aQ,I q,.func (.func 287) #[] #[]] w fun e w'=>∃r,e=.returned (.tuple #[r,I (dQ l page aQ q bM).2])/\eu w.heap.size w' r (dQ l page aQ q bM).1/\Below w.heap.size w w':=by
 by_cases hc:bk l=0
 · by_cases Hb:fT page aQ=true
   · by_cases hqq:kr q=true
     · have HT:Hid (dQ l page aQ q bM=if gz (fD l) bM page.toNat aQ.toNat=0 then (kx (dY (fD l) bM page (page+aQ)),0) else ([],gz (fD l) bM page.toNat aQ.toNat)):=by
        show _=_;grind [dQ]
       have hpb:=(oo page aQ).1 Hb;obtain⟨Z,hZ⟩:=ex (cK (fun _=>ji));have hz:=LX;rw[<- hZ] at hz;have hZs:Z.size=768:=by grind [gh]
       clear hZ;go_enter Tryz.func172,Tryz.ntmps172;go_wp2_with fail
       refine(jB l v _ h hf).mono ?_;rintro e w1 ⟨rfl,hb1⟩;rw[hc];have HC:Hid (bk l=0):=hc;clear hc;go_wp2_with fail
       refine(fN _ _ _ hp hn).mono ?_;rintro e w' ⟨rfl,rfl⟩;go_wp2_with fail
       refine(jn _ _).mono ?_;rintro e w' ⟨rfl,rfl⟩;go_wp2_with fail
       refine(CC l v _ (h.below hb1) HC.o).mono ?_;rintro e w2 ⟨rfl,hb2⟩;have gQ:Hid (Below w.heap.size w w2):=hb1.trans (hb2.mono hb1.size);obtain⟨F,hF⟩:=ex (fD l);rw[<- hF] at HT ⊢;obtain⟨C,hC⟩:=ex (cK F);have hCs:C.size=768:=by grind [gh]
       have HCF:Hid (C=cK F):=hC;rw[<- hC];clear hb1 hb2 hF hC Hb hqq;have E3:Hid ((w2.alloc (.cells Z 332)).heap[w2.heap.size]?=some (.cells Z 332 (0,0))):=bE w2 Z 332;go_wp2_with (refine JP rfl 332 _ _ rfl w2.heap.size C rfl rfl 332 Z E3.out (by rw[hCs];exact oD) (by omega) (by grind [uG,Hid.o]) ?_)
       have HA0:Hid (((w2.alloc (.cells Z 332)).setRow w2.heap.size C).heap[w2.heap.size]?=some (.cells C 332 (0,0))):=tJ _ _ _ _ 332 (0,0) E3.out;have mO:Hid (Below w.heap.size w ((w2.alloc (.cells Z 332)).setRow w2.heap.size C)):=below_setRow (gQ.o.alloc gQ.o.size _) gQ.o.size _;have L9:=gQ.o.size;go_loopw [14] (fun t wr=>∃n:Nat,page<=(n:Int)/\(n:Int)<=page+aQ/\t=I n/\(∀k:Nat,page.toNat<=k->k<n->(bM (F k)).2=0)/\wr.heap[w2.heap.size]?=some (.cells (cK (dY F bM page n)) 332 (0,0))/\Below w.heap.size w wr) (fun t _=>(page+aQ-intOf t).toNat)
       case atStart =>
        grind [yT,Hid.o]
       case round =>
        obtain⟨n,Sk,hn3,rfl,hno,hA,hb⟩:=hrel;have HN:Hid (∀k:Nat,page.toNat<=k->k<n->(bM (F k)).2=0):=hno;have HA:Hid (wr.heap[w2.heap.size]?=some (.cells (cK (dY F bM page n)) 332 (0,0))):=hA;have HB:Hid (Below w.heap.size w wr):=hb;have hAl:w2.heap.size<wr.heap.size:=aJ hA;by_cases hin:(n:Int)<page+aQ
        · have z0:=au hA (n*3) (m9 _ n (by omega));have z1:=au hA (n*3+1) (m8 _ n (by omega));have z2:=au hA (n*3+2) (m7 _ n (by omega));rw[ED] at z0 z1 z2;have afs:(n:Int)<256:=by omega
          clear hno hA hb;obtain⟨s,hs⟩:=ex (F n);rw[<- hs] at z0 z1 z2;have HS:Hid (s=F n):=hs;clear hs;go_wp2_with fail
          refine(TS s _).mono ?_;rintro e w3 ⟨rfl,hb3⟩;have bA:=aO HA.o hb3 hAl;have y0:=au bA (n*3) (m9 _ n (by omega));have y1:=au bA (n*3+1) (m8 _ n (by omega));have y2:=au bA (n*3+2) (m7 _ n (by omega));have yf:=aR bA;have Cu:Hid (w3.heap[w2.heap.size]?=some (.cells (cK (dY F bM page n)) 332 (0,0))):=bA;have HBB:Hid (Below w.heap.size w w3):=HB.o.trans (hb3.mono HB.o.size);have aj0:w2.heap.size<w3.heap.size:=aJ bA;clear bA hb3 z0 z1 z2;obtain⟨r,hr⟩:=ex (bM s);rw[<- hr];have HR:Hid (r=bM s):=hr;clear hr;unfold C9;by_cases he:r.2=0
          · have he':(r.2 != 0)=false:=by simp[he]
            have HE:Hid (r.2=0):=he;clear he;go_wp2;go_roundw
            case rel =>
             have rY:=fh (fh (fh Cu.o (n*3) (.bool r.1.m)) (n*3+1) (I r.1.p)) (n*3+2) (.bool r.1.z);have est:=Aq F bM page n Sk;rw[<- HS.o,<- HR.o] at est;rw[yj (dY F bM page n) n r.1 (by omega),est] at rY;refine⟨n+1,by omega,by omega,by go_num,fun k h1 h2=>if e:k=n then by rw[e,<- HS.o,<- HR.o];exact HE.o else HN.o k h1 (by omega),?_,?_⟩
             · rw[show((n+1:Nat):Int)=(n:Int)+1 from by omega];exact br rY _
             · have hb4:=((HBB.o.setCell (p:=(Ad w2.heap.size (n*3))) L9 (.bool r.1.m)).setCell (p:=(Ad w2.heap.size (n*3+1))) L9 (I r.1.p)).setCell (p:=(Ad w2.heap.size (n*3+2))) L9 (.bool r.1.z);exact hb4.alloc hb4.size _
            case measure=>simp[intOf];omega
          · have he':(r.2 != 0)=true:=by simpa using he
            have HE:Hid (r.2≠0):=he;clear he;have ht:Hid (dQ l page aQ q bM=([],r.2)):=by
             have PY:gz F bM page.toNat aQ.toNat=r.2:=by
              rw[HR.o,HS.o];exact yi F bM _ _ n (by omega) (by omega) HN.o (by rw[<- HS.o,<- HR.o];exact HE.o)
             show _=_;rw[HT.o,PY,aA HE.o]
            go_wp2
            go_ret2
            exact⟨Nl,by rw[ht.out];rfl,by rw[ht.out];exact eu.nil _ _,HBB.o.alloc HBB.o.size _⟩
        · have hend:Hid ((n:Int)=page+aQ):=by show _=_;omega
          have ht:Hid (dQ l page aQ q bM=(kx (dY F bM page n),0)):=by
           have PY:gz F bM page.toNat aQ.toNat=0:=uU F bM _ _ (fun k h1 h2=>HN.o k h1 (by omega));show _=_;rw[HT.o,PY,aC rfl,hend.out]
          clear hno hA hb;go_wp2_with (refine Dm rfl 332 _ rfl w2.heap.size rfl 332 _ (0,0) _ HA.o Tryz.underlying332 rfl (by rw[gh];exact oD) ?_)
          refine(CE _ _).mono ?_;rintro e w4 ⟨r,rfl,hr,hb4⟩;go_wp2
          go_ret2
          exact⟨r,by rw[ht.out];rfl,by rw[ht.out];exact hr.mono HB.o.size,HB.o.trans (hb4.mono HB.o.size)⟩
     · have amg:kr q=false:=by grind
       have HT:Hid (dQ l page aQ q bM=([],3)):=by show _=_;grind [dQ]
       clear hqq;go_enter Tryz.func172,Tryz.ntmps172;go_wp2_with fail
       refine(jB l v _ h hf).mono ?_;rintro e w1 ⟨rfl,hb1⟩;rw[hc];clear hc;go_wp2_with fail
       refine(fN _ _ _ hp hn).mono ?_;rintro e w' ⟨rfl,rfl⟩;go_wp2_with fail
       refine(jn _ _).mono ?_;rintro e w' ⟨rfl,rfl⟩;go_wp2
       go_ret2
       exact⟨Nl,by rw[HT.o];rfl,by grind [eu.nil,Hid.o],hb1⟩
   · have amh:fT page aQ=false:=by grind
     have HT:Hid (dQ l page aQ q bM=([],3)):=by show _=_;grind [dQ]
     clear Hb;go_enter Tryz.func172,Tryz.ntmps172;go_wp2_with fail
     refine(jB l v _ h hf).mono ?_;rintro e w1 ⟨rfl,hb1⟩;rw[hc];clear hc;go_wp2_with fail
     refine(fN _ _ _ hp hn).mono ?_;rintro e w' ⟨rfl,rfl⟩;go_wp2
     go_ret2
     exact⟨Nl,by rw[HT.o];rfl,by grind [eu.nil,Hid.o],hb1⟩
 · have HT:Hid (dQ l page aQ q bM=([],bk l)):=by show _=_;grind [dQ]
   have hc':(bk l != 0)=true:=by grind
   go_enter Tryz.func172,Tryz.ntmps172;go_wp2_with fail
   refine(jB l v _ h hf).mono ?_;rintro e w1 ⟨rfl,hb1⟩;go_wp2
   go_ret2
   exact⟨Nl,by rw[HT.o];rfl,by grind [eu.nil,Hid.o],hb1⟩
open Go.RowKit
theorem Hy (l:List aX) (v:Value) (page aQ q:Int) (P:Nat) (w:World) (h:fZ w v l) (hf:dO l) (hp:-9223372036854775808<=page/\page<=9223372036854775807) (hn:-9223372036854775808<=aQ/\aQ<=9223372036854775807) (hP:w.cell? (Ad P 0)=some (I q)) :
  Calls Tryz.prog 172 #[v,I page,I aQ,I q,.func (.func 286) #[] #[.pointer (some (Ad P 0))]] w fun e w'=>∃r,e=.returned (.tuple #[r,I (dQ l page aQ q (cE q)).2])/\eu w.heap.size w' r (dQ l page aQ q (cE q)).1/\Below w.heap.size w w':=by
 by_cases hc:bk l=0
 · by_cases Hb:fT page aQ=true
   · by_cases hqq:kr q=true
     · have HT:Hid (dQ l page aQ q (cE q)=if gz (fD l) (cE q) page.toNat aQ.toNat=0 then (kx (dY (fD l) (cE q) page (page+aQ)),0) else ([],gz (fD l) (cE q) page.toNat aQ.toNat)):=by
        show _=_;grind [dQ]
       have hpb:=(oo page aQ).1 Hb;obtain⟨Z,hZ⟩:=ex (cK (fun _=>ji));have hz:=LX;rw[<- hZ] at hz;have hZs:Z.size=768:=by grind [gh]
       clear hZ;go_enter Tryz.func172,Tryz.ntmps172;go_wp2_with fail
       refine(jB l v _ h hf).mono ?_;rintro e w1 ⟨rfl,hb1⟩;rw[hc];have HC:Hid (bk l=0):=hc;clear hc;go_wp2_with fail
       refine(fN _ _ _ hp hn).mono ?_;rintro e w' ⟨rfl,rfl⟩;go_wp2_with fail
       refine(jn _ _).mono ?_;rintro e w' ⟨rfl,rfl⟩;go_wp2_with fail
       refine(CC l v _ (h.below hb1) HC.o).mono ?_;rintro e w2 ⟨rfl,hb2⟩;have gQ:Hid (Below w.heap.size w w2):=hb1.trans (hb2.mono hb1.size);obtain⟨F,hF⟩:=ex (fD l);rw[<- hF] at HT ⊢;obtain⟨C,hC⟩:=ex (cK F);have hCs:C.size=768:=by grind [gh]
       have HCF:Hid (C=cK F):=hC;rw[<- hC];clear hb1 hb2 hF hC Hb hqq;have E3:Hid ((w2.alloc (.cells Z 332)).heap[w2.heap.size]?=some (.cells Z 332 (0,0))):=bE w2 Z 332;go_wp2_with (refine JP rfl 332 _ _ rfl w2.heap.size C rfl rfl 332 Z E3.out (by rw[hCs];exact oD) (by omega) (by grind [uG,Hid.o]) ?_)
       have HA0:Hid (((w2.alloc (.cells Z 332)).setRow w2.heap.size C).heap[w2.heap.size]?=some (.cells C 332 (0,0))):=tJ _ _ _ _ 332 (0,0) E3.out;have mO:Hid (Below w.heap.size w ((w2.alloc (.cells Z 332)).setRow w2.heap.size C)):=below_setRow (gQ.o.alloc gQ.o.size _) gQ.o.size _;have L9:=gQ.o.size;go_loopw [14] (fun t wr=>∃n:Nat,page<=(n:Int)/\(n:Int)<=page+aQ/\t=I n/\(∀k:Nat,page.toNat<=k->k<n->((cE q) (F k)).2=0)/\wr.heap[w2.heap.size]?=some (.cells (cK (dY F (cE q) page n)) 332 (0,0))/\Below w.heap.size w wr) (fun t _=>(page+aQ-intOf t).toNat)
       case atStart =>
        grind [yT,Hid.o]
       case round =>
        obtain⟨n,Sk,hn3,rfl,hno,hA,hb⟩:=hrel;have HN:Hid (∀k:Nat,page.toNat<=k->k<n->((cE q) (F k)).2=0):=hno;have HA:Hid (wr.heap[w2.heap.size]?=some (.cells (cK (dY F (cE q) page n)) 332 (0,0))):=hA;have HB:Hid (Below w.heap.size w wr):=hb;have hAl:w2.heap.size<wr.heap.size:=aJ hA;have hPw:wr.cell? (Ad P 0)=some (I q):=(hb.cell (p:=(Ad P 0)) (oQ w _ hP)).trans hP;by_cases hin:(n:Int)<page+aQ
        · have z0:=au hA (n*3) (m9 _ n (by omega));have z1:=au hA (n*3+1) (m8 _ n (by omega));have z2:=au hA (n*3+2) (m7 _ n (by omega));rw[ED] at z0 z1 z2;have afs:(n:Int)<256:=by omega
          clear hno hA hb;obtain⟨s,hs⟩:=ex (F n);rw[<- hs] at z0 z1 z2;have HS:Hid (s=F n):=hs;clear hs;go_wp2_with fail
          refine(OQ s q P _ hPw).mono ?_;rintro e w3 ⟨rfl,hb3⟩;have bA:=aO HA.o hb3 hAl;have y0:=au bA (n*3) (m9 _ n (by omega));have y1:=au bA (n*3+1) (m8 _ n (by omega));have y2:=au bA (n*3+2) (m7 _ n (by omega));have yf:=aR bA;have Cu:Hid (w3.heap[w2.heap.size]?=some (.cells (cK (dY F (cE q) page n)) 332 (0,0))):=bA;have HBB:Hid (Below w.heap.size w w3):=HB.o.trans (hb3.mono HB.o.size);have aj0:w2.heap.size<w3.heap.size:=aJ bA;clear bA hb3 z0 z1 z2;obtain⟨r,hr⟩:=ex ((cE q) s);rw[<- hr];have HR:Hid (r=(cE q) s):=hr;clear hr;unfold C9;by_cases he:r.2=0
          · have he':(r.2 != 0)=false:=by simp[he]
            have HE:Hid (r.2=0):=he;clear he;go_wp2;go_roundw
            case rel =>
             have rY:=fh (fh (fh Cu.o (n*3) (.bool r.1.m)) (n*3+1) (I r.1.p)) (n*3+2) (.bool r.1.z);have est:=Aq F (cE q) page n Sk;rw[<- HS.o,<- HR.o] at est;rw[yj (dY F (cE q) page n) n r.1 (by omega),est] at rY;refine⟨n+1,by omega,by omega,by go_num,fun k h1 h2=>if e:k=n then by rw[e,<- HS.o,<- HR.o];exact HE.o else HN.o k h1 (by omega),?_,?_⟩
             · rw[show((n+1:Nat):Int)=(n:Int)+1 from by omega];exact br rY _
             · have hb4:=((HBB.o.setCell (p:=(Ad w2.heap.size (n*3))) L9 (.bool r.1.m)).setCell (p:=(Ad w2.heap.size (n*3+1))) L9 (I r.1.p)).setCell (p:=(Ad w2.heap.size (n*3+2))) L9 (.bool r.1.z);exact hb4.alloc hb4.size _
            case measure=>simp[intOf];omega
          · have he':(r.2 != 0)=true:=by simpa using he
            have HE:Hid (r.2≠0):=he;clear he;have ht:Hid (dQ l page aQ q (cE q)=([],r.2)):=by
             have PY:gz F (cE q) page.toNat aQ.toNat=r.2:=by
              rw[HR.o,HS.o];exact yi F (cE q) _ _ n (by omega) (by omega) HN.o (by rw[<- HS.o,<- HR.o];exact HE.o)
             show _=_;rw[HT.o,PY,aA HE.o]
            go_wp2
            go_ret2
            exact⟨Nl,by rw[ht.out];rfl,by rw[ht.out];exact eu.nil _ _,HBB.o.alloc HBB.o.size _⟩
        · have hend:Hid ((n:Int)=page+aQ):=by show _=_;omega
          have ht:Hid (dQ l page aQ q (cE q)=(kx (dY F (cE q) page n),0)):=by
           have PY:gz F (cE q) page.toNat aQ.toNat=0:=uU F (cE q) _ _ (fun k h1 h2=>HN.o k h1 (by omega));show _=_;rw[HT.o,PY,aC rfl,hend.out]
          clear hno hA hb;go_wp2_with (refine Dm rfl 332 _ rfl w2.heap.size rfl 332 _ (0,0) _ HA.o Tryz.underlying332 rfl (by rw[gh];exact oD) ?_)
          refine(CE _ _).mono ?_;rintro e w4 ⟨r,rfl,hr,hb4⟩;go_wp2
          go_ret2
          exact⟨r,by rw[ht.out];rfl,by rw[ht.out];exact hr.mono HB.o.size,HB.o.trans (hb4.mono HB.o.size)⟩
     · have amg:kr q=false:=by grind
       have HT:Hid (dQ l page aQ q (cE q)=([],3)):=by show _=_;grind [dQ]
       clear hqq;go_enter Tryz.func172,Tryz.ntmps172;go_wp2_with fail
       refine(jB l v _ h hf).mono ?_;rintro e w1 ⟨rfl,hb1⟩;rw[hc];clear hc;go_wp2_with fail
       refine(fN _ _ _ hp hn).mono ?_;rintro e w' ⟨rfl,rfl⟩;go_wp2_with fail
       refine(jn _ _).mono ?_;rintro e w' ⟨rfl,rfl⟩;go_wp2
       go_ret2
       exact⟨Nl,by rw[HT.o];rfl,by grind [eu.nil,Hid.o],hb1⟩
   · have amh:fT page aQ=false:=by grind
     have HT:Hid (dQ l page aQ q (cE q)=([],3)):=by show _=_;grind [dQ]
     clear Hb;go_enter Tryz.func172,Tryz.ntmps172;go_wp2_with fail
     refine(jB l v _ h hf).mono ?_;rintro e w1 ⟨rfl,hb1⟩;rw[hc];clear hc;go_wp2_with fail
     refine(fN _ _ _ hp hn).mono ?_;rintro e w' ⟨rfl,rfl⟩;go_wp2
     go_ret2
     exact⟨Nl,by rw[HT.o];rfl,by grind [eu.nil,Hid.o],hb1⟩
 · have HT:Hid (dQ l page aQ q (cE q)=([],bk l)):=by show _=_;grind [dQ]
   have hc':(bk l != 0)=true:=by grind
   go_enter Tryz.func172,Tryz.ntmps172;go_wp2_with fail
   refine(jB l v _ h hf).mono ?_;rintro e w1 ⟨rfl,hb1⟩;go_wp2
   go_ret2
   exact⟨Nl,by rw[HT.o];rfl,by grind [eu.nil,Hid.o],hb1⟩
open Go.RowKit
def dK (l:List aX) (page aQ q:Int):List aX×Int:=dQ l page aQ q (eW q)
def cR (l:List aX) (page aQ:Int):List aX×Int:=dQ l page aQ 0 bM
def bV (l:List aX) (page aQ q:Int):List aX×Int:=dQ l page aQ q (cE q)
def uo (n:Int):Prop:=-9223372036854775808<=n/\n<=9223372036854775807
theorem RV (l:List aX) (v:Value) (page aQ q:Int) (w:World) (h:fZ w v l) (hf:dO l) (hp:uo page) (hn:uo aQ) :
  Calls Tryz.prog 115 #[v,I page,I aQ,I q] w fun e w'=>∃r,e=.returned (.tuple #[r,I (dK l page aQ q).2])/\eu w.heap.size w' r (dK l page aQ q).1/\Below w.heap.size w w':=by
 have hb0:Below w.heap.size w (w.alloc (.cells #[I q] 3)):=(aK _ _).alloc (aI _) _;have hP:=au (bE w #[I q] 3) 0 rfl;have H:=h.below hb0;have HP:Hid ((w.alloc (.cells #[I q] 3)).cell? (Ad w.heap.size 0)=some (I q)):=hP;clear hP;go_enter Tryz.func115,Tryz.ntmps115;go_wp2_with fail
 refine(OP l v page aQ q w.heap.size _ H hf hp hn HP.o).mono ?_;rintro e w1 ⟨r,rfl,hr,hb1⟩;go_wp2
 go_ret2
 exact⟨r,rfl,hr.mono hb0.size,hb0.trans (hb1.mono hb0.size)⟩
theorem XF (l:List aX) (v:Value) (page aQ:Int) (w:World) (h:fZ w v l) (hf:dO l) (hp:uo page) (hn:uo aQ) :
  Calls Tryz.prog 280 #[v,I page,I aQ] w fun e w'=>∃r,e=.returned (.tuple #[r,I (cR l page aQ).2])/\eu w.heap.size w' r (cR l page aQ).1/\Below w.heap.size w w':=by
 go_enter Tryz.func280,Tryz.ntmps280;go_wp2_with fail
 refine(LY l v page aQ 0 _ h hf hp hn).mono ?_;rintro e w1 ⟨r,rfl,hr,hb1⟩;go_wp2
 go_ret2
 exact⟨r,rfl,hr,hb1⟩
theorem RU (l:List aX) (v:Value) (page aQ q:Int) (w:World) (h:fZ w v l) (hf:dO l) (hp:uo page) (hn:uo aQ) :
  Calls Tryz.prog 277 #[v,I page,I aQ,I q] w fun e w'=>∃r,e=.returned (.tuple #[r,I (bV l page aQ q).2])/\eu w.heap.size w' r (bV l page aQ q).1/\Below w.heap.size w w':=by
 have hb0:Below w.heap.size w (w.alloc (.cells #[I q] 3)):=(aK _ _).alloc (aI _) _;have hP:=au (bE w #[I q] 3) 0 rfl;have H:=h.below hb0;have HP:Hid ((w.alloc (.cells #[I q] 3)).cell? (Ad w.heap.size 0)=some (I q)):=hP;clear hP;go_enter Tryz.func277,Tryz.ntmps277;go_wp2_with fail
 refine(Hy l v page aQ q w.heap.size _ H hf hp hn HP.o).mono ?_;rintro e w1 ⟨r,rfl,hr,hb1⟩;go_wp2
 go_ret2
 exact⟨r,rfl,hr.mono hb0.size,hb0.trans (hb1.mono hb0.size)⟩
open Go.RowKit
theorem acN {l:List aX} (h:∀a∈l,B0 a) (hn:l.length<=140737488351232):dO l:=by
 refine⟨fun i hi=>?_,hn⟩
 grind [bC]
theorem EA:dO []:=acN (fun a h=>by simp at h) (by simp)
open Go.RowKit
def uT (l:List aX) (n:Nat):dm:=let r:=bY l n;if r.2 then ⟨true,r.1.jG,r.1.zero⟩ else ji
def ue (G:List aX):aX:=bC G (G.length-1)
def xH (G:List aX) (a:aX):Bool:=fT a.page a.aQ&&kr a.jG&&(G.length==0 || mq (ue G) a)
theorem MS (p n q:Int) (z:Bool) (x:Int):iQ ⟨p,n,q,z⟩ x=decide (p<=x/\x<p+n):=rfl
theorem JH (a:aX) (x:Int):iQ a x=true↔a.page<=x/\x<a.page+a.aQ:=⟨fun h=>oP h,fun h=>gZ h⟩
theorem m6 (G:List aX) (a:aX):ue (G++[a])=a:=by simp[ue,bC]
theorem De (G H:List aX):∀k,k<=G.length->kN (G++H) k=kN G k
 | 0,_=>rfl
 | k+1,h=>by
  simp only[kN,De G H k (by omega)]
  grind [nI,sJ]
theorem wN (G:List aX) (a:aX):ug (G++[a])=(ug G&&xH G a):=by
 unfold ug;rw[fK];show kN (G++[a]) (G.length+1)=_
 grind [kN,De,nI,xH,ue,wP,sJ]
theorem xJ:∀(G:List aX) (a:aX) (p:Int),bY (G++[a]) p=if (bY G p).2 then bY G p else if iQ a p then (a,true) else (xI,false)
 | [],a,p=>by rfl
 | b::r,a,p=>by
  simp only[Dn,bY];by_cases h:iQ b p=true
  · simp[h]
  · simp[h,xJ r a p]
theorem Df:∀(G:List aX) (p:Int),(bY G p).2=false->bY G p=(xI,false)
 | [],p,_=>rfl
 | b::r,p,h=>by
  simp only[bY] at h ⊢;by_cases c:iQ b p=true
  · grind
  · simp only[c] at h ⊢;exact Df r p h
theorem EE (G:List aX) (a:aX) (n:Nat):uT (G++[a]) n=if (bY G n).2 then uT G n else if iQ a n then ⟨true,a.jG,a.zero⟩ else ji:=by
 grind [uT,xJ]
theorem CF:∀(m:Nat) (G:List aX),G.length=m->ug G=true->∀p:Int,(bY G p).2=true->1<=p/\p<(ue G).wU
 | 0,G,hm,_,p,h=>by
  grind [bY]
 | m+1,G,hm,hg,p,h=>by
  rcases Pm G with rfl | ⟨H,a,rfl⟩
  · grind
  · rw[Pk] at *;rw[wN,eQ] at hg;obtain⟨hgH,hok⟩:=hg;rw[m6];simp only[xH,eQ,fT,kX] at hok;obtain⟨⟨hpa,_⟩,hfo⟩:=hok;rw[xJ] at h;by_cases c:(bY H p).2=true
    · have ih:=CF m H (by grind) hgH p c
      grind [bY,mq,aX.wU]
    grind [iQ]
structure qg (F:Nat->dm):Prop where
 zero:(F 0).m=false
 none:∀n,(F n).m=false->F n=ji
 jG:∀n,0<=(F n).p/\(F n).p<=3
theorem XK (H:List aX) (a:aX):BW (H++[a])=H++[⟨a.page,a.aQ+1,a.jG,a.zero⟩]:=by
 grind [BW,bC]
structure XL (F:Nat->dm) (k:Nat) (G:List aX):Prop where
 good:ug G=true
 look:∀n:Nat,uT G n=if n<k then F n else ji
 yes:(iD F k).m=true->0<G.length/\(ue G).wU=k/\(ue G).jG=(iD F k).p/\(ue G).zero=(iD F k).z
 no:(iD F k).m=false->G.length=0∨(ue G).wU<k∨k=0
theorem aaD (G:List aX) (n:Nat) (h:uT G n=ji):(bY G n).2=false:=by
 grind [uT,ji]
theorem CH (F:Nat->dm) (hF:qg F):∀k,k<=256->XL F k (cW F k)
 | 0,_=>⟨rfl,fun n=>rfl,fun h=>by grind [iD,ji],fun _=>.inl rfl⟩
 | k+1,hk=>by
  have ih:=CH F hF k (by omega);obtain⟨G,hG⟩:=ex (cW F k);rw[<- hG] at ih;simp only[cW];rw[<- hG];by_cases hm:(F k).m=false
  · rw[aC hm];refine⟨ih.good,fun n=>?_,fun h=>?_,fun _=>?_⟩
    · rw[ih.look n];by_cases h1:n<k
      · grind
      · rw[aA h1];by_cases h2:n<k+1
        · obtain rfl:n=k:=by omega
          rw[aC h2,hF.none n hm]
        grind
    · have:(F k).m=true:=h
      grind
    · by_cases hl:(iD F k).m=true
      · grind [XL.yes]
      · rcases ih.no (by grind) with h | h | h
        · omega
        · omega
        · subst h;have:G=[]:=hG
          grind
  · have hm':(F k).m=true:=by grind
    rw[aA hm];have hk1:1<=k:=by
     grind [qg.zero]
    have MW:=aaD G k (by rw[ih.look k,aA (by omega)]);by_cases he:yh (F k) (iD F k)=true
    · rw[aC he];have hst:=R4 _ _ he;obtain⟨h0,h1,h2,h3⟩:=ih.yes (by grind);rcases Pm G with hnil | ⟨H,a,hH⟩
      · grind
      · rw[Pk] at hH;rw[hH,m6] at h1 h2 h3;have hg:=ih.good;rw[hH,wN,eQ] at hg;obtain⟨hgH,hok⟩:=hg;have amk:=hok;simp only[xH,eQ,fT,kX] at amk;obtain⟨⟨hpa,hpr⟩,hfo⟩:=amk;rw[hH,XK];unfold aX.wU at h1;refine⟨?_,fun n=>?_,fun _=>⟨by simp,?_,?_,?_⟩,fun h=>?_⟩
        · rw[wN,hgH,tK];simp only[xH,eQ,fT,kX];exact⟨⟨⟨hpa.1,by omega,by omega⟩,hpr⟩,hfo⟩
        · have hl:=ih.look n;rw[hH] at hl;rw[EE] at hl ⊢;by_cases c:(bY H n).2=true
          · rw[aC c] at hl ⊢;rw[hl];have hb:=CF _ H rfl hgH n c
            grind [bY,mq]
          · rw[aA c] at hl ⊢;by_cases d:n=k
            · subst d;rw[aC (by grind [MS]),aC (by omega)];show dm.mk true a.jG a.zero=F n;rw[h2,h3,<- hst,<- hm']
            grind [JH]
        · rw[m6];show a.page+(a.aQ+1)=_;omega
        · rw[m6];show a.jG=(F k).p;grind
        · rw[m6];show a.zero=(F k).z;grind
        · have:(F k).m=false:=h
          grind
    · have he':yh (F k) (iD F k)=false:=by grind
      rw[aA he];refine⟨?_,fun n=>?_,fun _=>⟨by simp,?_,?_,?_⟩,fun h=>?_⟩
      · rw[wN,ih.good,tK];simp only[xH,eQ,fT,kr,kX];refine⟨⟨⟨by omega,by omega,by omega⟩,hF.jG k⟩,?_⟩;by_cases h0:G.length=0
        · simp[h0]
        · simp only[UJ,beq_iff_eq,h0,false_or];by_cases hl:(iD F k).m=true
          · grind [mq,RZ,XL.yes]
          · rcases ih.no (by grind) with h | h | h
            · omega
            · grind [mq]
            · omega
      · rw[EE];by_cases c:(bY G n).2=true
        · rw[aC c,ih.look n]
          grind
        · rw[aA c];have c':(bY G n).2=false:=by grind
          by_cases d:n=k
          · subst d;rw[aC (by grind [MS]),aC (by omega)];show dm.mk true (F n).p (F n).z=F n;rw[<- hm']
          · rw[aA (by grind [MS])];have hl:=ih.look n
            grind [uT]
      · rw[m6];rfl
      · rw[m6];rfl
      · rw[m6];rfl
      · have:(F k).m=false:=h
        grind
theorem Sa (F:Nat->dm) (hF:qg F):ug (kx F)=true:=(CH F hF 256 (aI _)).good
theorem R9 (F:Nat->dm) (hF:qg F) (n:Nat) (hn:n<256):uT (kx F) n=F n:=by
 have:=(CH F hF 256 (aI _)).look n;rw[aC hn] at this;exact this
theorem GQ (l:List aX):∀(m:Nat) (G:List aX),G.length=m->ug G=true->∀n:Nat,uT G n=ft G G.length n
 | 0,G,hm,_,n=>by
  have e:G=[]:=jY hm;subst e;rfl
 | m+1,G,hm,hg,n=>by
  rcases Pm G with rfl | ⟨H,a,rfl⟩
  · rfl
  · rw[Pk] at *;rw[wN,eQ] at hg;have ih:=GQ l m H (by grind) hg.1 n;have hs:∀k,k<=H.length->ft (H++[a]) k=ft H k:=by
     intro k;induction k with
     | zero=>intro _;rfl
     | succ k ihk=>grind [ft,sJ]
    rw[fK];show _=ft (H++[a]) (H.length+1) n;simp only[ft];rw[hs H.length (aI _),wP,EE];simp only[nU];by_cases c:(bY H n).2=true
    · rw[aC c,ih];have hb:=CF _ H rfl hg.1 n c
      grind [xH,bY,mq]
    grind [uT,iQ]
open Go.RowKit
theorem MT (l:List aX) (h:bk l=0):ug l=true:=by
 grind [bk]
theorem Dd (l:List aX) (hc:bk l=0):∀k,k<=l.length->(ft l k 0).m=false/\(∀n,(ft l k n).m=false->ft l k n=ji)/\(∀n,0<=(ft l k n).p/\(ft l k n).p<=3)
 | 0,_=>⟨rfl,fun n _=>rfl,fun n=>by simp[ft,ji]⟩
 | k+1,hk=>by
  have ih:=Dd l hc k (by omega);have ho:=iw l k (gW l hc k (by omega));refine⟨?_,fun n=>?_,fun n=>?_⟩
  · simp only[ft,nU];grind
  · simp only[ft,nU]
    grind
  · simp only[ft,nU]
    grind
theorem Au (l:List aX) (hc:bk l=0):qg (fD l):=by
 have h:=Dd l hc l.length (aI _);exact⟨h.1,h.2.1,h.2.2⟩
theorem Ar (F:Nat->dm) (hF:qg F) (how:dm->dm×Int) (page t:Int) (hp:1<=page)
  (hn:∀s,(s.m=false->s=ji)->((how s).1.m=false->(how s).1=ji)) (hq:∀s,0<=s.p/\s.p<=3->0<=(how s).1.p/\(how s).1.p<=3):qg (dY F how page t):=by
 refine⟨?_,fun n=>?_,fun n=>?_⟩
 · grind [dY,qg.zero]
 · simp only[dY];split
   · simp_all [qg.none]
   · exact hF.none n
 · simp only[dY];split
   · simp_all [qg.jG]
   · exact hF.jG n
theorem GU (F:Nat->dm) (h0:(F 0).m=false):∀k,(cW F (k+1)).length<=k
 | 0=>by grind [cW]
 | k+1=>by
  have ih:=GU F h0 k
  grind [cW,wO]
theorem uV (F:Nat->dm) (hF:qg F):bk (kx F)=0:=by
 grind [kx,GU,Sa,bk,qg.zero]
theorem E0 (l:List aX) (hc:bk l=0) (F:Nat->dm) (p:Nat) (h:uT l p=F p):(aY l p).2=(F p).m/\(aY l p).1.jG=(F p).p/\(aY l p).1.zero=(F p).z:=by
 grind [aY,uT,Df,xI,ji]
theorem Aw (F:Nat->dm) (hF:qg F) (p:Nat) (hp:p<256):(aY (kx F) p).2=(F p).m/\(aY (kx F) p).1.jG=(F p).p/\(aY (kx F) p).1.zero=(F p).z :=
 E0 _ (uV F hF) F p (R9 F hF p hp)
theorem Av (l:List aX) (hc:bk l=0) (p:Nat):(aY l p).2=(fD l p).m/\(aY l p).1.jG=(fD l p).p/\(aY l p).1.zero=(fD l p).z :=
 E0 l hc (fD l) p (GQ l _ l rfl (MT l hc) p)
theorem lK (l:List aX) (hc:bk l=0):(∀i,i<l.length->B0 (bC l i))/\l.length<=140737488351232:=by
 refine⟨fun i hi=>?_,by grind [oq]⟩;have ho:=iw l i (gW l hc i hi)
 grind [B0]
theorem GV (F:Nat->dm) (how:dm->dm×Int):∀(c n:Nat),gz F how n c=0->∀k,n<=k->k<n+c->(how (F k)).2=0
 | 0,n,_,k,h1,h2=>by omega
 | c+1,n,h,k,h1,h2=>by
  simp only[gz] at h;split at h
  · rename_i h0
    by_cases e:k=n
    · grind
    · exact GV F how c (n+1) h k (by omega) (by omega)
  omega
end Go.Proofs.YtlgoihmkgaaemaaGreat
