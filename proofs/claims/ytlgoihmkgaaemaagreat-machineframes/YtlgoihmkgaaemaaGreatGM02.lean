import Derived.Test.YtlgoihmkgaaemaaGreatGM01
import Derived.Lib.Hide
import Derived.Deep.CutBlock
import Derived.Deep.DeepCutAuto
set_option maxHeartbeats 20000000
set_option linter.unusedVariables false
set_option maxRecDepth 100000
set_option linter.unusedSimpArgs false
namespace Go.Proofs.YtlgoihmkgaaemaaGreat
open Go.RowKit
def eJ (q:Int) (s:dg):dg×Int:=if s.m then (s,5) else (⟨true,q,true⟩,0)
def bI (s:dg):dg×Int:=(jc,0)
def cA (q:Int) (s:dg):dg×Int:=if s.m then (⟨s.m,q,s.z⟩,0) else (s,6)
def CU (s:dg):Value:=.agg #[.bool s.m,I s.p,.bool s.z]
theorem Z2 (s:dg) (q:Int) (P:Nat) (w:World) (hP:w.cell? (Ad P 0)=some (I q)) :
  Calls Tryz.prog 173 #[.agg #[.bool s.m,I s.p,.bool s.z],.pointer (some (Ad P 0))] w fun e w'=>e=.returned (.tuple #[CU (eJ q s).1,I (eJ q s).2])/\Below w.heap.size w w':=by
 have hPl:P<w.heap.size:=oJ w _ hP;obtain⟨m,p,z⟩:=s;cases m
 · go_enter Tryz.func173,Tryz.ntmps173;go_wp2;exact bK (v:=.tuple #[.agg #[.bool true,I q,.bool true],I 0]) (by simp[results,Tryz.results173,go_sem]) rfl ⟨rfl,((aJ _ _).alloc (aH _) _).alloc (by simp) _⟩
 · go_enter Tryz.func173,Tryz.ntmps173;go_wp2;exact bK (v:=.tuple #[.agg #[.bool true,I p,.bool z],I 5]) (by simp[results,Tryz.results173,go_sem]) rfl ⟨rfl,((aJ _ _).alloc (aH _) _).alloc (by simp) _⟩
theorem Tx (s:dg) (w:World) :
  Calls Tryz.prog 287 #[.agg #[.bool s.m,I s.p,.bool s.z]] w fun e w'=>e=.returned (.tuple #[CU (bI s).1,I (bI s).2])/\Below w.heap.size w w':=by
 go_enter Tryz.func287,Tryz.ntmps287;go_wp2;exact bK (v:=.tuple #[.agg #[.bool false,I 0,.bool false],I 0]) (by simp[results,Tryz.results287,go_sem]) rfl ⟨rfl,((aJ _ _).alloc (aH _) _).alloc (by simp) _⟩
theorem Ow (s:dg) (q:Int) (P:Nat) (w:World) (hP:w.cell? (Ad P 0)=some (I q)) :
  Calls Tryz.prog 286 #[.agg #[.bool s.m,I s.p,.bool s.z],.pointer (some (Ad P 0))] w fun e w'=>e=.returned (.tuple #[CU (cA q s).1,I (cA q s).2])/\Below w.heap.size w w':=by
 have hPl:P<w.heap.size:=oJ w _ hP;obtain⟨m,p,z⟩:=s;cases m
 · go_enter Tryz.func286,Tryz.ntmps286;go_wp2;exact bK (v:=.tuple #[.agg #[.bool false,I p,.bool z],I 6]) (by simp[results,Tryz.results286,go_sem]) rfl ⟨rfl,((aJ _ _).alloc (aH _) _).alloc (by simp) _⟩
 · go_enter Tryz.func286,Tryz.ntmps286;go_wp2;exact bK (v:=.tuple #[.agg #[.bool true,I q,.bool z],I 0]) (by simp[results,Tryz.results286,go_sem]) rfl ⟨rfl,((aJ _ _).alloc (aH _) _).alloc (by simp) _⟩
theorem gu.below {w w':World} {v:Value} {l:List aX} (h:gu w v l) (hb:Below w.heap.size w w'):gu w' v l:=by
 obtain⟨ao,cap,rfl,h⟩:=h;rcases h with rfl | ⟨b,off,rfl,hl⟩
 · exact⟨ao,cap,rfl,.inl rfl⟩
 · exact⟨_,cap,rfl,.inr ⟨b,off,rfl,hl.below hb⟩⟩
def dH (l:List aX):Prop:=(∀i,i<l.length->Br (bB l i))/\l.length<=140737488351232
theorem ju (l:List aX) (v:Value) (w:World) (h:gu w v l) (hf:dH l) :
  Calls Tryz.prog 117 #[v] w fun e w'=>e=.returned (I (bj l))/\Below w.heap.size w w':=by
 obtain⟨ao,cap,rfl,h⟩:=h;rcases h with rfl | ⟨b,off,rfl,hl⟩
 · exact Eo ao cap w
 · exact uv l b off cap w hl hf.1 hf.2
theorem wu (l:List aX) (v:Value) (w:World) (h:gu w v l) (hf:dH l) :
  Calls Tryz.prog 70 #[v] w fun e w'=>e=.returned (I (bg l))/\Below w.heap.size w w':=by
 obtain⟨ao,cap,rfl,h⟩:=h;rcases h with rfl | ⟨b,off,rfl,hl⟩
 · exact Xe ao cap w
 · exact Ty l b off cap w hl hf.1 hf.2
theorem yo (l:List aX) (v:Value) (p:Int) (w:World) (h:gu w v l) (hf:dH l) :
  Calls Tryz.prog 77 #[v,I p] w fun e w'=>e=.returned (.tuple #[.agg (qT (aW l p).1),.bool (aW l p).2])/\Below w.heap.size w w':=by
 obtain⟨ao,cap,rfl,h⟩:=h;rcases h with rfl | ⟨b,off,rfl,hl⟩
 · exact Z4 ao cap p w
 · exact Xg l b off cap p w hl hf.1 hf.2
theorem Cm (l:List aX) (v:Value) (w:World) (h:gu w v l) (hc:bj l=0) :
  Calls Tryz.prog 210 #[v] w fun e w'=>e=.returned (.agg (cH (fu l)))/\Below w.heap.size w w':=by
 obtain⟨ao,cap,rfl,h⟩:=h;rcases h with rfl | ⟨b,off,rfl,hl⟩
 · exact Tz ao cap w
 · exact Rs l b off cap w hl hc
open Go.RowKit
theorem ai {p:Prop} (h:p):Hid p:=h
theorem bU {w w1 w2:World} (h1:Below w.heap.size w w1) (h2:Below w1.heap.size w1 w2):Below w.heap.size w w2:=h1.trans (h2.mono h1.size)
def tR (way:Int):Int:=if way=1 then 1 else if way=2 then 2 else 0
theorem Lz (way:Int) (w:World):Calls Tryz.prog 289 #[I way] w fun e w'=>e=.returned (I (tR way))/\w=w':=by
 unfold tR;by_cases h1:way=1
 · subst h1;go_enter Tryz.func289,Tryz.ntmps289;go_wp2;go_ret
   simp_all
 · rw[au h1];have h1i:(way==1)=false:=by grind
   by_cases h2:way=2
   · subst h2;go_enter Tryz.func289,Tryz.ntmps289;go_wp2;go_ret
     simp_all
   · rw[au h2];have h2i:(way==2)=false:=by grind
     clear h1 h2;go_enter Tryz.func289,Tryz.ntmps289;go_wp2;go_ret
     simp_all
theorem IG (p way:Int) (h0:0<=p) (h3:p<=3):(bits BinOp.and IntKind.i64 p (tR way)==tR way)=!(nD p way):=by
 have hp:p=0∨p=1∨p=2∨p=3:=by omega
 unfold tR nD;by_cases h1:way=1
 · subst h1;rcases hp with rfl | rfl | rfl | rfl <;> decide
 · by_cases h2:way=2
   · subst h2;rcases hp with rfl | rfl | rfl | rfl <;> decide
   · rw[au h1,au h2];simp only[h1,h2,false_and,or_self,decide_false,Bool.not_false];rcases hp with rfl | rfl | rfl | rfl <;> decide
open Go.RowKit
def dQ (F:Nat->dg) (how:dg->dg×Int) (page t:Int):Nat->dg:=fun k=>if page<=(k:Int)/\(k:Int)<t then (how (F k)).1 else F k
def gw (F:Nat->dg) (how:dg->dg×Int):Nat->Nat->Int
 | _,0=>0
 | n,c+1=>if (how (F n)).2=0 then gw F how (n+1) c else (how (F n)).2
def dI (l:List aX) (page aO jE:Int) (how:dg->dg×Int):List aX×Int :=
 if bj l=0 then
  if fL page aO&&kj jE then
   if gw (fu l) how page.toNat aO.toNat=0 then (kq (dQ (fu l) how page (page+aO)),0)
   else ([],gw (fu l) how page.toNat aO.toNat)
  else ([],3)
 else ([],bj l)
theorem yE (F:Nat->dg) (how:dg->dg×Int) (page:Int):dQ F how page page=F:=by
 grind [dQ]
theorem Ep (F:Nat->dg) (how:dg->dg×Int) (page:Int) (n:Nat):dQ F how page n n=F n:=by
 grind [dQ]
theorem Ab (F:Nat->dg) (how:dg->dg×Int) (page:Int) (n:Nat) (h:page<=(n:Int)):Gy (dQ F how page n) n (how (F n)).1=dQ F how page ((n:Int)+1):=by
 grind [Gy,dQ]
theorem uK (F:Nat->dg) (how:dg->dg×Int):∀(c n:Nat),(∀k,n<=k->k<n+c->(how (F k)).2=0)->gw F how n c=0
 | 0,_,_=>rfl
 | c+1,n,h=>by
  simp only[gw];rw[aB (h n (by omega) (by omega))];exact uK F how c (n+1) (fun k h1 h2=>h k (by omega) (by omega))
theorem xP (F:Nat->dg) (how:dg->dg×Int):∀(c n m:Nat),n<=m->m<n+c->(∀k,n<=k->k<m->(how (F k)).2=0)->(how (F m)).2≠0->gw F how n c=(how (F m)).2
 | 0,n,m,h1,h2,_,_=>by omega
 | c+1,n,m,h1,h2,h,hm=>by
  simp only[gw];by_cases e:n=m
  · grind
  · rw[aB (h n (by omega) (by omega))];exact xP F how c (n+1) m (by omega) (by omega) (fun k h1 h2=>h k (by omega) h2) hm
theorem nZ (p n:Int):fL p n=true↔1<=p/\1<=n/\n<=256-p:=by simp[fL]
open Go.RowKit
theorem Ov (l:List aX) (v:Value) (page aO q:Int) (P:Nat) (w:World) (h:gu w v l) (hf:dH l) (hp:-9223372036854775808<=page/\page<=9223372036854775807) (hn:-9223372036854775808<=aO/\aO<=9223372036854775807) (hP:w.cell? (Ad P 0)=some (I q)) :
  Calls Tryz.prog 172 #[v,I page,I aO,I q,.func (.func 173) #[] #[.pointer (some (Ad P 0))]] w fun e w'=>∃r,e=.returned (.tuple #[r,I (dI l page aO q (eJ q)).2])/\dV w.heap.size w' r (dI l page aO q (eJ q)).1/\Below w.heap.size w w':=by
 by_cases hc:bj l=0
 · by_cases GR:fL page aO=true
   · by_cases hqq:kj q=true
     · have HT:Hid (dI l page aO q (eJ q)=if gw (fu l) (eJ q) page.toNat aO.toNat=0 then (kq (dQ (fu l) (eJ q) page (page+aO)),0) else ([],gw (fu l) (eJ q) page.toNat aO.toNat)):=by
        show _=_;grind [dI]
       have hpb:=(nZ page aO).1 GR;obtain⟨Z,hZ⟩:=ex (cH (fun _=>jc));have hz:=LK;rw[<- hZ] at hz;have hZs:Z.size=768:=by grind [fU]
       clear hZ;go_enter Tryz.func172,Tryz.ntmps172;go_wp2_with fail
       refine(ju l v _ h hf).mono ?_;rintro e w1 ⟨rfl,hb1⟩;rw[hc];have HC:Hid (bj l=0):=hc;clear hc;go_wp2_with fail
       refine(fG _ _ _ hp hn).mono ?_;rintro e w' ⟨rfl,rfl⟩;go_wp2_with fail
       refine(jg _ _).mono ?_;rintro e w' ⟨rfl,rfl⟩;go_wp2_with fail
       refine(Cm l v _ (h.below hb1) HC.o).mono ?_;rintro e w2 ⟨rfl,hb2⟩;have gP:Hid (Below w.heap.size w w2):=hb1.trans (hb2.mono hb1.size);obtain⟨F,hF⟩:=ex (fu l);rw[<- hF] at HT ⊢;obtain⟨C,hC⟩:=ex (cH F);have hCs:C.size=768:=by grind [fU]
       have HCF:Hid (C=cH F):=hC;rw[<- hC];clear hb1 hb2 hF hC GR hqq;have GU:Hid ((w2.alloc (.cells Z 332)).heap[w2.heap.size]?=some (.cells Z 332 (0,0))):=bD w2 Z 332;go_wp2_with (refine JC rfl 332 _ _ rfl w2.heap.size C rfl rfl 332 Z GU.out (by rw[hCs];exact oo) (by omega) (by grind [uw,Hid.o]) ?_)
       have HA0:Hid (((w2.alloc (.cells Z 332)).setRow w2.heap.size C).heap[w2.heap.size]?=some (.cells C 332 (0,0))):=tu _ _ _ _ 332 (0,0) GU.out;have m7:Hid (Below w.heap.size w ((w2.alloc (.cells Z 332)).setRow w2.heap.size C)):=below_setRow (gP.o.alloc gP.o.size _) gP.o.size _;have LR:=gP.o.size;go_loopw [14] (fun t wr=>∃n:Nat,page<=(n:Int)/\(n:Int)<=page+aO/\t=I n/\(∀k:Nat,page.toNat<=k->k<n->((eJ q) (F k)).2=0)/\wr.heap[w2.heap.size]?=some (.cells (cH (dQ F (eJ q) page n)) 332 (0,0))/\Below w.heap.size w wr) (fun t _=>(page+aO-intOf t).toNat)
       case atStart =>
        grind [yE,Hid.o]
       case round =>
        obtain⟨n,TG,hn3,rfl,hno,hA,hb⟩:=hrel;have HN:Hid (∀k:Nat,page.toNat<=k->k<n->((eJ q) (F k)).2=0):=hno;have HA:Hid (wr.heap[w2.heap.size]?=some (.cells (cH (dQ F (eJ q) page n)) 332 (0,0))):=hA;have HB:Hid (Below w.heap.size w wr):=hb;have hAl:w2.heap.size<wr.heap.size:=aI hA;have hPw:wr.cell? (Ad P 0)=some (I q):=(hb.cell (p:=(Ad P 0)) (oJ w _ hP)).trans hP;by_cases hin:(n:Int)<page+aO
        · have z0:=aq hA (n*3) (m6 _ n (by omega));have z1:=aq hA (n*3+1) (mZ _ n (by omega));have z2:=aq hA (n*3+2) (mY _ n (by omega));rw[Ep] at z0 z1 z2;have aeJ:(n:Int)<256:=by omega
          clear hno hA hb;obtain⟨s,hs⟩:=ex (F n);rw[<- hs] at z0 z1 z2;have HS:Hid (s=F n):=hs;clear hs;go_wp2_with fail
          refine(Z2 s q P _ hPw).mono ?_;rintro e w3 ⟨rfl,hb3⟩;have bA:=aN HA.o hb3 hAl;have y0:=aq bA (n*3) (m6 _ n (by omega));have y1:=aq bA (n*3+1) (mZ _ n (by omega));have y2:=aq bA (n*3+2) (mY _ n (by omega));have yf:=aQ bA;have Ce:Hid (w3.heap[w2.heap.size]?=some (.cells (cH (dQ F (eJ q) page n)) 332 (0,0))):=bA;have HBB:Hid (Below w.heap.size w w3):=HB.o.trans (hb3.mono HB.o.size);have aiF:w2.heap.size<w3.heap.size:=aI bA;clear bA hb3 z0 z1 z2;obtain⟨r,hr⟩:=ex ((eJ q) s);rw[<- hr];have HR:Hid (r=(eJ q) s):=hr;clear hr;unfold CU;by_cases he:r.2=0
          · have he':(r.2 != 0)=false:=by simp[he]
            have HE:Hid (r.2=0):=he;clear he;go_wp2;go_roundw
            case rel =>
             have rK:=fF (fF (fF Ce.o (n*3) (.bool r.1.m)) (n*3+1) (I r.1.p)) (n*3+2) (.bool r.1.z);have est:=Ab F (eJ q) page n TG;rw[<- HS.o,<- HR.o] at est;rw[xQ (dQ F (eJ q) page n) n r.1 (by omega),est] at rK;refine⟨n+1,by omega,by omega,by go_num,fun k h1 h2=>if e:k=n then by rw[e,<- HS.o,<- HR.o];exact HE.o else HN.o k h1 (by omega),?_,?_⟩
             · rw[show((n+1:Nat):Int)=(n:Int)+1 from by omega];exact bl rK _
             · have hb4:=((HBB.o.setCell (p:=(Ad w2.heap.size (n*3))) LR (.bool r.1.m)).setCell (p:=(Ad w2.heap.size (n*3+1))) LR (I r.1.p)).setCell (p:=(Ad w2.heap.size (n*3+2))) LR (.bool r.1.z);exact hb4.alloc hb4.size _
            case measure=>simp[intOf];omega
          · have he':(r.2 != 0)=true:=by simpa using he
            have HE:Hid (r.2≠0):=he;clear he;have ht:Hid (dI l page aO q (eJ q)=([],r.2)):=by
             have PE:gw F (eJ q) page.toNat aO.toNat=r.2:=by
              rw[HR.o,HS.o];exact xP F (eJ q) _ _ n (by omega) (by omega) HN.o (by rw[<- HS.o,<- HR.o];exact HE.o)
             show _=_;rw[HT.o,PE,au HE.o]
            go_wp2
            go_ret2
            exact⟨Nl,by rw[ht.out];rfl,by rw[ht.out];exact dV.nil _ _,HBB.o.alloc HBB.o.size _⟩
        · have hend:Hid ((n:Int)=page+aO):=by show _=_;omega
          have ht:Hid (dI l page aO q (eJ q)=(kq (dQ F (eJ q) page n),0)):=by
           have PE:gw F (eJ q) page.toNat aO.toNat=0:=uK F (eJ q) _ _ (fun k h1 h2=>HN.o k h1 (by omega));show _=_;rw[HT.o,PE,aB rfl,hend.out]
          clear hno hA hb;go_wp2_with (refine C7 rfl 332 _ rfl w2.heap.size rfl 332 _ (0,0) _ HA.o Tryz.underlying332 rfl (by rw[fU];exact oo) ?_)
          refine(Cn _ _).mono ?_;rintro e w4 ⟨r,rfl,hr,hb4⟩;go_wp2
          go_ret2
          exact⟨r,by rw[ht.out];rfl,by rw[ht.out];exact hr.mono HB.o.size,HB.o.trans (hb4.mono HB.o.size)⟩
     · have akO:kj q=false:=by grind
       have HT:Hid (dI l page aO q (eJ q)=([],3)):=by show _=_;grind [dI]
       clear hqq;go_enter Tryz.func172,Tryz.ntmps172;go_wp2_with fail
       refine(ju l v _ h hf).mono ?_;rintro e w1 ⟨rfl,hb1⟩;rw[hc];clear hc;go_wp2_with fail
       refine(fG _ _ _ hp hn).mono ?_;rintro e w' ⟨rfl,rfl⟩;go_wp2_with fail
       refine(jg _ _).mono ?_;rintro e w' ⟨rfl,rfl⟩;go_wp2
       go_ret2
       exact⟨Nl,by rw[HT.o];rfl,by grind [dV.nil,Hid.o],hb1⟩
   · have akP:fL page aO=false:=by grind
     have HT:Hid (dI l page aO q (eJ q)=([],3)):=by show _=_;grind [dI]
     clear GR;go_enter Tryz.func172,Tryz.ntmps172;go_wp2_with fail
     refine(ju l v _ h hf).mono ?_;rintro e w1 ⟨rfl,hb1⟩;rw[hc];clear hc;go_wp2_with fail
     refine(fG _ _ _ hp hn).mono ?_;rintro e w' ⟨rfl,rfl⟩;go_wp2
     go_ret2
     exact⟨Nl,by rw[HT.o];rfl,by grind [dV.nil,Hid.o],hb1⟩
 · have HT:Hid (dI l page aO q (eJ q)=([],bj l)):=by show _=_;grind [dI]
   have hc':(bj l != 0)=true:=by grind
   go_enter Tryz.func172,Tryz.ntmps172;go_wp2_with fail
   refine(ju l v _ h hf).mono ?_;rintro e w1 ⟨rfl,hb1⟩;go_wp2
   go_ret2
   exact⟨Nl,by rw[HT.o];rfl,by grind [dV.nil,Hid.o],hb1⟩
open Go.RowKit
theorem LL (l:List aX) (v:Value) (page aO q:Int) (w:World) (h:gu w v l) (hf:dH l) (hp:-9223372036854775808<=page/\page<=9223372036854775807) (hn:-9223372036854775808<=aO/\aO<=9223372036854775807) :
  Calls Tryz.prog 172 #[v,I page,I aO,I q,.func (.func 287) #[] #[]] w fun e w'=>∃r,e=.returned (.tuple #[r,I (dI l page aO q bI).2])/\dV w.heap.size w' r (dI l page aO q bI).1/\Below w.heap.size w w':=by
 by_cases hc:bj l=0
 · by_cases GR:fL page aO=true
   · by_cases hqq:kj q=true
     · have HT:Hid (dI l page aO q bI=if gw (fu l) bI page.toNat aO.toNat=0 then (kq (dQ (fu l) bI page (page+aO)),0) else ([],gw (fu l) bI page.toNat aO.toNat)):=by
        show _=_;grind [dI]
       have hpb:=(nZ page aO).1 GR;obtain⟨Z,hZ⟩:=ex (cH (fun _=>jc));have hz:=LK;rw[<- hZ] at hz;have hZs:Z.size=768:=by grind [fU]
       clear hZ;go_enter Tryz.func172,Tryz.ntmps172;go_wp2_with fail
       refine(ju l v _ h hf).mono ?_;rintro e w1 ⟨rfl,hb1⟩;rw[hc];have HC:Hid (bj l=0):=hc;clear hc;go_wp2_with fail
       refine(fG _ _ _ hp hn).mono ?_;rintro e w' ⟨rfl,rfl⟩;go_wp2_with fail
       refine(jg _ _).mono ?_;rintro e w' ⟨rfl,rfl⟩;go_wp2_with fail
       refine(Cm l v _ (h.below hb1) HC.o).mono ?_;rintro e w2 ⟨rfl,hb2⟩;have gP:Hid (Below w.heap.size w w2):=hb1.trans (hb2.mono hb1.size);obtain⟨F,hF⟩:=ex (fu l);rw[<- hF] at HT ⊢;obtain⟨C,hC⟩:=ex (cH F);have hCs:C.size=768:=by grind [fU]
       have HCF:Hid (C=cH F):=hC;rw[<- hC];clear hb1 hb2 hF hC GR hqq;have GU:Hid ((w2.alloc (.cells Z 332)).heap[w2.heap.size]?=some (.cells Z 332 (0,0))):=bD w2 Z 332;go_wp2_with (refine JC rfl 332 _ _ rfl w2.heap.size C rfl rfl 332 Z GU.out (by rw[hCs];exact oo) (by omega) (by grind [uw,Hid.o]) ?_)
       have HA0:Hid (((w2.alloc (.cells Z 332)).setRow w2.heap.size C).heap[w2.heap.size]?=some (.cells C 332 (0,0))):=tu _ _ _ _ 332 (0,0) GU.out;have m7:Hid (Below w.heap.size w ((w2.alloc (.cells Z 332)).setRow w2.heap.size C)):=below_setRow (gP.o.alloc gP.o.size _) gP.o.size _;have LR:=gP.o.size;go_loopw [14] (fun t wr=>∃n:Nat,page<=(n:Int)/\(n:Int)<=page+aO/\t=I n/\(∀k:Nat,page.toNat<=k->k<n->(bI (F k)).2=0)/\wr.heap[w2.heap.size]?=some (.cells (cH (dQ F bI page n)) 332 (0,0))/\Below w.heap.size w wr) (fun t _=>(page+aO-intOf t).toNat)
       case atStart =>
        grind [yE,Hid.o]
       case round =>
        obtain⟨n,TG,hn3,rfl,hno,hA,hb⟩:=hrel;have HN:Hid (∀k:Nat,page.toNat<=k->k<n->(bI (F k)).2=0):=hno;have HA:Hid (wr.heap[w2.heap.size]?=some (.cells (cH (dQ F bI page n)) 332 (0,0))):=hA;have HB:Hid (Below w.heap.size w wr):=hb;have hAl:w2.heap.size<wr.heap.size:=aI hA;by_cases hin:(n:Int)<page+aO
        · have z0:=aq hA (n*3) (m6 _ n (by omega));have z1:=aq hA (n*3+1) (mZ _ n (by omega));have z2:=aq hA (n*3+2) (mY _ n (by omega));rw[Ep] at z0 z1 z2;have aeJ:(n:Int)<256:=by omega
          clear hno hA hb;obtain⟨s,hs⟩:=ex (F n);rw[<- hs] at z0 z1 z2;have HS:Hid (s=F n):=hs;clear hs;go_wp2_with fail
          refine(Tx s _).mono ?_;rintro e w3 ⟨rfl,hb3⟩;have bA:=aN HA.o hb3 hAl;have y0:=aq bA (n*3) (m6 _ n (by omega));have y1:=aq bA (n*3+1) (mZ _ n (by omega));have y2:=aq bA (n*3+2) (mY _ n (by omega));have yf:=aQ bA;have Ce:Hid (w3.heap[w2.heap.size]?=some (.cells (cH (dQ F bI page n)) 332 (0,0))):=bA;have HBB:Hid (Below w.heap.size w w3):=HB.o.trans (hb3.mono HB.o.size);have aiF:w2.heap.size<w3.heap.size:=aI bA;clear bA hb3 z0 z1 z2;obtain⟨r,hr⟩:=ex (bI s);rw[<- hr];have HR:Hid (r=bI s):=hr;clear hr;unfold CU;by_cases he:r.2=0
          · have he':(r.2 != 0)=false:=by simp[he]
            have HE:Hid (r.2=0):=he;clear he;go_wp2;go_roundw
            case rel =>
             have rK:=fF (fF (fF Ce.o (n*3) (.bool r.1.m)) (n*3+1) (I r.1.p)) (n*3+2) (.bool r.1.z);have est:=Ab F bI page n TG;rw[<- HS.o,<- HR.o] at est;rw[xQ (dQ F bI page n) n r.1 (by omega),est] at rK;refine⟨n+1,by omega,by omega,by go_num,fun k h1 h2=>if e:k=n then by rw[e,<- HS.o,<- HR.o];exact HE.o else HN.o k h1 (by omega),?_,?_⟩
             · rw[show((n+1:Nat):Int)=(n:Int)+1 from by omega];exact bl rK _
             · have hb4:=((HBB.o.setCell (p:=(Ad w2.heap.size (n*3))) LR (.bool r.1.m)).setCell (p:=(Ad w2.heap.size (n*3+1))) LR (I r.1.p)).setCell (p:=(Ad w2.heap.size (n*3+2))) LR (.bool r.1.z);exact hb4.alloc hb4.size _
            case measure=>simp[intOf];omega
          · have he':(r.2 != 0)=true:=by simpa using he
            have HE:Hid (r.2≠0):=he;clear he;have ht:Hid (dI l page aO q bI=([],r.2)):=by
             have PE:gw F bI page.toNat aO.toNat=r.2:=by
              rw[HR.o,HS.o];exact xP F bI _ _ n (by omega) (by omega) HN.o (by rw[<- HS.o,<- HR.o];exact HE.o)
             show _=_;rw[HT.o,PE,au HE.o]
            go_wp2
            go_ret2
            exact⟨Nl,by rw[ht.out];rfl,by rw[ht.out];exact dV.nil _ _,HBB.o.alloc HBB.o.size _⟩
        · have hend:Hid ((n:Int)=page+aO):=by show _=_;omega
          have ht:Hid (dI l page aO q bI=(kq (dQ F bI page n),0)):=by
           have PE:gw F bI page.toNat aO.toNat=0:=uK F bI _ _ (fun k h1 h2=>HN.o k h1 (by omega));show _=_;rw[HT.o,PE,aB rfl,hend.out]
          clear hno hA hb;go_wp2_with (refine C7 rfl 332 _ rfl w2.heap.size rfl 332 _ (0,0) _ HA.o Tryz.underlying332 rfl (by rw[fU];exact oo) ?_)
          refine(Cn _ _).mono ?_;rintro e w4 ⟨r,rfl,hr,hb4⟩;go_wp2
          go_ret2
          exact⟨r,by rw[ht.out];rfl,by rw[ht.out];exact hr.mono HB.o.size,HB.o.trans (hb4.mono HB.o.size)⟩
     · have akO:kj q=false:=by grind
       have HT:Hid (dI l page aO q bI=([],3)):=by show _=_;grind [dI]
       clear hqq;go_enter Tryz.func172,Tryz.ntmps172;go_wp2_with fail
       refine(ju l v _ h hf).mono ?_;rintro e w1 ⟨rfl,hb1⟩;rw[hc];clear hc;go_wp2_with fail
       refine(fG _ _ _ hp hn).mono ?_;rintro e w' ⟨rfl,rfl⟩;go_wp2_with fail
       refine(jg _ _).mono ?_;rintro e w' ⟨rfl,rfl⟩;go_wp2
       go_ret2
       exact⟨Nl,by rw[HT.o];rfl,by grind [dV.nil,Hid.o],hb1⟩
   · have akP:fL page aO=false:=by grind
     have HT:Hid (dI l page aO q bI=([],3)):=by show _=_;grind [dI]
     clear GR;go_enter Tryz.func172,Tryz.ntmps172;go_wp2_with fail
     refine(ju l v _ h hf).mono ?_;rintro e w1 ⟨rfl,hb1⟩;rw[hc];clear hc;go_wp2_with fail
     refine(fG _ _ _ hp hn).mono ?_;rintro e w' ⟨rfl,rfl⟩;go_wp2
     go_ret2
     exact⟨Nl,by rw[HT.o];rfl,by grind [dV.nil,Hid.o],hb1⟩
 · have HT:Hid (dI l page aO q bI=([],bj l)):=by show _=_;grind [dI]
   have hc':(bj l != 0)=true:=by grind
   go_enter Tryz.func172,Tryz.ntmps172;go_wp2_with fail
   refine(ju l v _ h hf).mono ?_;rintro e w1 ⟨rfl,hb1⟩;go_wp2
   go_ret2
   exact⟨Nl,by rw[HT.o];rfl,by grind [dV.nil,Hid.o],hb1⟩
open Go.RowKit
theorem Hk (l:List aX) (v:Value) (page aO q:Int) (P:Nat) (w:World) (h:gu w v l) (hf:dH l) (hp:-9223372036854775808<=page/\page<=9223372036854775807) (hn:-9223372036854775808<=aO/\aO<=9223372036854775807) (hP:w.cell? (Ad P 0)=some (I q)) :
  Calls Tryz.prog 172 #[v,I page,I aO,I q,.func (.func 286) #[] #[.pointer (some (Ad P 0))]] w fun e w'=>∃r,e=.returned (.tuple #[r,I (dI l page aO q (cA q)).2])/\dV w.heap.size w' r (dI l page aO q (cA q)).1/\Below w.heap.size w w':=by
 by_cases hc:bj l=0
 · by_cases GR:fL page aO=true
   · by_cases hqq:kj q=true
     · have HT:Hid (dI l page aO q (cA q)=if gw (fu l) (cA q) page.toNat aO.toNat=0 then (kq (dQ (fu l) (cA q) page (page+aO)),0) else ([],gw (fu l) (cA q) page.toNat aO.toNat)):=by
        show _=_;grind [dI]
       have hpb:=(nZ page aO).1 GR;obtain⟨Z,hZ⟩:=ex (cH (fun _=>jc));have hz:=LK;rw[<- hZ] at hz;have hZs:Z.size=768:=by grind [fU]
       clear hZ;go_enter Tryz.func172,Tryz.ntmps172;go_wp2_with fail
       refine(ju l v _ h hf).mono ?_;rintro e w1 ⟨rfl,hb1⟩;rw[hc];have HC:Hid (bj l=0):=hc;clear hc;go_wp2_with fail
       refine(fG _ _ _ hp hn).mono ?_;rintro e w' ⟨rfl,rfl⟩;go_wp2_with fail
       refine(jg _ _).mono ?_;rintro e w' ⟨rfl,rfl⟩;go_wp2_with fail
       refine(Cm l v _ (h.below hb1) HC.o).mono ?_;rintro e w2 ⟨rfl,hb2⟩;have gP:Hid (Below w.heap.size w w2):=hb1.trans (hb2.mono hb1.size);obtain⟨F,hF⟩:=ex (fu l);rw[<- hF] at HT ⊢;obtain⟨C,hC⟩:=ex (cH F);have hCs:C.size=768:=by grind [fU]
       have HCF:Hid (C=cH F):=hC;rw[<- hC];clear hb1 hb2 hF hC GR hqq;have GU:Hid ((w2.alloc (.cells Z 332)).heap[w2.heap.size]?=some (.cells Z 332 (0,0))):=bD w2 Z 332;go_wp2_with (refine JC rfl 332 _ _ rfl w2.heap.size C rfl rfl 332 Z GU.out (by rw[hCs];exact oo) (by omega) (by grind [uw,Hid.o]) ?_)
       have HA0:Hid (((w2.alloc (.cells Z 332)).setRow w2.heap.size C).heap[w2.heap.size]?=some (.cells C 332 (0,0))):=tu _ _ _ _ 332 (0,0) GU.out;have m7:Hid (Below w.heap.size w ((w2.alloc (.cells Z 332)).setRow w2.heap.size C)):=below_setRow (gP.o.alloc gP.o.size _) gP.o.size _;have LR:=gP.o.size;go_loopw [14] (fun t wr=>∃n:Nat,page<=(n:Int)/\(n:Int)<=page+aO/\t=I n/\(∀k:Nat,page.toNat<=k->k<n->((cA q) (F k)).2=0)/\wr.heap[w2.heap.size]?=some (.cells (cH (dQ F (cA q) page n)) 332 (0,0))/\Below w.heap.size w wr) (fun t _=>(page+aO-intOf t).toNat)
       case atStart =>
        grind [yE,Hid.o]
       case round =>
        obtain⟨n,TG,hn3,rfl,hno,hA,hb⟩:=hrel;have HN:Hid (∀k:Nat,page.toNat<=k->k<n->((cA q) (F k)).2=0):=hno;have HA:Hid (wr.heap[w2.heap.size]?=some (.cells (cH (dQ F (cA q) page n)) 332 (0,0))):=hA;have HB:Hid (Below w.heap.size w wr):=hb;have hAl:w2.heap.size<wr.heap.size:=aI hA;have hPw:wr.cell? (Ad P 0)=some (I q):=(hb.cell (p:=(Ad P 0)) (oJ w _ hP)).trans hP;by_cases hin:(n:Int)<page+aO
        · have z0:=aq hA (n*3) (m6 _ n (by omega));have z1:=aq hA (n*3+1) (mZ _ n (by omega));have z2:=aq hA (n*3+2) (mY _ n (by omega));rw[Ep] at z0 z1 z2;have aeJ:(n:Int)<256:=by omega
          clear hno hA hb;obtain⟨s,hs⟩:=ex (F n);rw[<- hs] at z0 z1 z2;have HS:Hid (s=F n):=hs;clear hs;go_wp2_with fail
          refine(Ow s q P _ hPw).mono ?_;rintro e w3 ⟨rfl,hb3⟩;have bA:=aN HA.o hb3 hAl;have y0:=aq bA (n*3) (m6 _ n (by omega));have y1:=aq bA (n*3+1) (mZ _ n (by omega));have y2:=aq bA (n*3+2) (mY _ n (by omega));have yf:=aQ bA;have Ce:Hid (w3.heap[w2.heap.size]?=some (.cells (cH (dQ F (cA q) page n)) 332 (0,0))):=bA;have HBB:Hid (Below w.heap.size w w3):=HB.o.trans (hb3.mono HB.o.size);have aiF:w2.heap.size<w3.heap.size:=aI bA;clear bA hb3 z0 z1 z2;obtain⟨r,hr⟩:=ex ((cA q) s);rw[<- hr];have HR:Hid (r=(cA q) s):=hr;clear hr;unfold CU;by_cases he:r.2=0
          · have he':(r.2 != 0)=false:=by simp[he]
            have HE:Hid (r.2=0):=he;clear he;go_wp2;go_roundw
            case rel =>
             have rK:=fF (fF (fF Ce.o (n*3) (.bool r.1.m)) (n*3+1) (I r.1.p)) (n*3+2) (.bool r.1.z);have est:=Ab F (cA q) page n TG;rw[<- HS.o,<- HR.o] at est;rw[xQ (dQ F (cA q) page n) n r.1 (by omega),est] at rK;refine⟨n+1,by omega,by omega,by go_num,fun k h1 h2=>if e:k=n then by rw[e,<- HS.o,<- HR.o];exact HE.o else HN.o k h1 (by omega),?_,?_⟩
             · rw[show((n+1:Nat):Int)=(n:Int)+1 from by omega];exact bl rK _
             · have hb4:=((HBB.o.setCell (p:=(Ad w2.heap.size (n*3))) LR (.bool r.1.m)).setCell (p:=(Ad w2.heap.size (n*3+1))) LR (I r.1.p)).setCell (p:=(Ad w2.heap.size (n*3+2))) LR (.bool r.1.z);exact hb4.alloc hb4.size _
            case measure=>simp[intOf];omega
          · have he':(r.2 != 0)=true:=by simpa using he
            have HE:Hid (r.2≠0):=he;clear he;have ht:Hid (dI l page aO q (cA q)=([],r.2)):=by
             have PE:gw F (cA q) page.toNat aO.toNat=r.2:=by
              rw[HR.o,HS.o];exact xP F (cA q) _ _ n (by omega) (by omega) HN.o (by rw[<- HS.o,<- HR.o];exact HE.o)
             show _=_;rw[HT.o,PE,au HE.o]
            go_wp2
            go_ret2
            exact⟨Nl,by rw[ht.out];rfl,by rw[ht.out];exact dV.nil _ _,HBB.o.alloc HBB.o.size _⟩
        · have hend:Hid ((n:Int)=page+aO):=by show _=_;omega
          have ht:Hid (dI l page aO q (cA q)=(kq (dQ F (cA q) page n),0)):=by
           have PE:gw F (cA q) page.toNat aO.toNat=0:=uK F (cA q) _ _ (fun k h1 h2=>HN.o k h1 (by omega));show _=_;rw[HT.o,PE,aB rfl,hend.out]
          clear hno hA hb;go_wp2_with (refine C7 rfl 332 _ rfl w2.heap.size rfl 332 _ (0,0) _ HA.o Tryz.underlying332 rfl (by rw[fU];exact oo) ?_)
          refine(Cn _ _).mono ?_;rintro e w4 ⟨r,rfl,hr,hb4⟩;go_wp2
          go_ret2
          exact⟨r,by rw[ht.out];rfl,by rw[ht.out];exact hr.mono HB.o.size,HB.o.trans (hb4.mono HB.o.size)⟩
     · have akO:kj q=false:=by grind
       have HT:Hid (dI l page aO q (cA q)=([],3)):=by show _=_;grind [dI]
       clear hqq;go_enter Tryz.func172,Tryz.ntmps172;go_wp2_with fail
       refine(ju l v _ h hf).mono ?_;rintro e w1 ⟨rfl,hb1⟩;rw[hc];clear hc;go_wp2_with fail
       refine(fG _ _ _ hp hn).mono ?_;rintro e w' ⟨rfl,rfl⟩;go_wp2_with fail
       refine(jg _ _).mono ?_;rintro e w' ⟨rfl,rfl⟩;go_wp2
       go_ret2
       exact⟨Nl,by rw[HT.o];rfl,by grind [dV.nil,Hid.o],hb1⟩
   · have akP:fL page aO=false:=by grind
     have HT:Hid (dI l page aO q (cA q)=([],3)):=by show _=_;grind [dI]
     clear GR;go_enter Tryz.func172,Tryz.ntmps172;go_wp2_with fail
     refine(ju l v _ h hf).mono ?_;rintro e w1 ⟨rfl,hb1⟩;rw[hc];clear hc;go_wp2_with fail
     refine(fG _ _ _ hp hn).mono ?_;rintro e w' ⟨rfl,rfl⟩;go_wp2
     go_ret2
     exact⟨Nl,by rw[HT.o];rfl,by grind [dV.nil,Hid.o],hb1⟩
 · have HT:Hid (dI l page aO q (cA q)=([],bj l)):=by show _=_;grind [dI]
   have hc':(bj l != 0)=true:=by grind
   go_enter Tryz.func172,Tryz.ntmps172;go_wp2_with fail
   refine(ju l v _ h hf).mono ?_;rintro e w1 ⟨rfl,hb1⟩;go_wp2
   go_ret2
   exact⟨Nl,by rw[HT.o];rfl,by grind [dV.nil,Hid.o],hb1⟩
open Go.RowKit
def dD (l:List aX) (page aO q:Int):List aX×Int:=dI l page aO q (eJ q)
def cN (l:List aX) (page aO:Int):List aX×Int:=dI l page aO 0 bI
def bR (l:List aX) (page aO q:Int):List aX×Int:=dI l page aO q (cA q)
def ub (n:Int):Prop:=-9223372036854775808<=n/\n<=9223372036854775807
theorem Ru (l:List aX) (v:Value) (page aO q:Int) (w:World) (h:gu w v l) (hf:dH l) (hp:ub page) (hn:ub aO) :
  Calls Tryz.prog 115 #[v,I page,I aO,I q] w fun e w'=>∃r,e=.returned (.tuple #[r,I (dD l page aO q).2])/\dV w.heap.size w' r (dD l page aO q).1/\Below w.heap.size w w':=by
 have hb0:Below w.heap.size w (w.alloc (.cells #[I q] 3)):=(aJ _ _).alloc (aH _) _;have hP:=aq (bD w #[I q] 3) 0 rfl;have H:=h.below hb0;have HP:Hid ((w.alloc (.cells #[I q] 3)).cell? (Ad w.heap.size 0)=some (I q)):=hP;clear hP;go_enter Tryz.func115,Tryz.ntmps115;go_wp2_with fail
 refine(Ov l v page aO q w.heap.size _ H hf hp hn HP.o).mono ?_;rintro e w1 ⟨r,rfl,hr,hb1⟩;go_wp2
 go_ret2
 exact⟨r,rfl,hr.mono hb0.size,hb0.trans (hb1.mono hb0.size)⟩
theorem Xd (l:List aX) (v:Value) (page aO:Int) (w:World) (h:gu w v l) (hf:dH l) (hp:ub page) (hn:ub aO) :
  Calls Tryz.prog 280 #[v,I page,I aO] w fun e w'=>∃r,e=.returned (.tuple #[r,I (cN l page aO).2])/\dV w.heap.size w' r (cN l page aO).1/\Below w.heap.size w w':=by
 go_enter Tryz.func280,Tryz.ntmps280;go_wp2_with fail
 refine(LL l v page aO 0 _ h hf hp hn).mono ?_;rintro e w1 ⟨r,rfl,hr,hb1⟩;go_wp2
 go_ret2
 exact⟨r,rfl,hr,hb1⟩
theorem Rt (l:List aX) (v:Value) (page aO q:Int) (w:World) (h:gu w v l) (hf:dH l) (hp:ub page) (hn:ub aO) :
  Calls Tryz.prog 277 #[v,I page,I aO,I q] w fun e w'=>∃r,e=.returned (.tuple #[r,I (bR l page aO q).2])/\dV w.heap.size w' r (bR l page aO q).1/\Below w.heap.size w w':=by
 have hb0:Below w.heap.size w (w.alloc (.cells #[I q] 3)):=(aJ _ _).alloc (aH _) _;have hP:=aq (bD w #[I q] 3) 0 rfl;have H:=h.below hb0;have HP:Hid ((w.alloc (.cells #[I q] 3)).cell? (Ad w.heap.size 0)=some (I q)):=hP;clear hP;go_enter Tryz.func277,Tryz.ntmps277;go_wp2_with fail
 refine(Hk l v page aO q w.heap.size _ H hf hp hn HP.o).mono ?_;rintro e w1 ⟨r,rfl,hr,hb1⟩;go_wp2
 go_ret2
 exact⟨r,rfl,hr.mono hb0.size,hb0.trans (hb1.mono hb0.size)⟩
open Go.RowKit
theorem ab9 {l:List aX} (h:∀a∈l,Br a) (hn:l.length<=140737488351232):dH l:=by
 refine⟨fun i hi=>?_,hn⟩
 grind [bB]
theorem En:dH []:=ab9 (fun a h=>by simp at h) (by simp)
open Go.RowKit
def uJ (l:List aX) (n:Nat):dg:=let r:=bV l n;if r.2 then ⟨true,r.1.jE,r.1.zero⟩ else jc
def tU (G:List aX):aX:=bB G (G.length-1)
def xo (G:List aX) (a:aX):Bool:=fL a.page a.aO&&kj a.jE&&(G.length==0 || mi (tU G) a)
theorem ME (p n q:Int) (z:Bool) (x:Int):iJ ⟨p,n,q,z⟩ x=decide (p<=x/\x<p+n):=rfl
theorem Jt (a:aX) (x:Int):iJ a x=true↔a.page<=x/\x<a.page+a.aO:=⟨fun h=>oI h,fun h=>gU h⟩
theorem mX (G:List aX) (a:aX):tU (G++[a])=a:=by simp[tU,bB]
theorem CX (G H:List aX):∀k,k<=G.length->kK (G++H) k=kK G k
 | 0,_=>rfl
 | k+1,h=>by
  simp only[kK,CX G H k (by omega)]
  grind [nB,rZ]
theorem wy (G:List aX) (a:aX):tV (G++[a])=(tV G&&xo G a):=by
 unfold tV;rw[fD];show kK (G++[a]) (G.length+1)=_
 grind [kK,CX,nB,xo,tU,wB,rZ]
theorem xq:∀(G:List aX) (a:aX) (p:Int),bV (G++[a]) p=if (bV G p).2 then bV G p else if iJ a p then (a,true) else (xp,false)
 | [],a,p=>by rfl
 | b::r,a,p=>by
  simp only[C8,bV];by_cases h:iJ b p=true
  · simp[h]
  · simp[h,xq r a p]
theorem CY:∀(G:List aX) (p:Int),(bV G p).2=false->bV G p=(xp,false)
 | [],p,_=>rfl
 | b::r,p,h=>by
  simp only[bV] at h ⊢;by_cases c:iJ b p=true
  · grind
  · simp only[c] at h ⊢;exact CY r p h
theorem Er (G:List aX) (a:aX) (n:Nat):uJ (G++[a]) n=if (bV G n).2 then uJ G n else if iJ a n then ⟨true,a.jE,a.zero⟩ else jc:=by
 grind [uJ,xq]
theorem Co:∀(m:Nat) (G:List aX),G.length=m->tV G=true->∀p:Int,(bV G p).2=true->1<=p/\p<(tU G).wH
 | 0,G,hm,_,p,h=>by
  grind [bV]
 | m+1,G,hm,hg,p,h=>by
  rcases O0 G with rfl | ⟨H,a,rfl⟩
  · grind
  · rw[OZ] at *;rw[wy,eG] at hg;obtain⟨hgH,hok⟩:=hg;rw[mX];simp only[xo,eG,fL,kR] at hok;obtain⟨⟨hpa,_⟩,hfo⟩:=hok;rw[xq] at h;by_cases c:(bV H p).2=true
    · have ih:=Co m H (by grind) hgH p c
      grind [bV,mi,aX.wH]
    grind [iJ]
structure pU (F:Nat->dg):Prop where
 zero:(F 0).m=false
 none:∀n,(F n).m=false->F n=jc
 jE:∀n,0<=(F n).p/\(F n).p<=3
theorem Xh (H:List aX) (a:aX):Bq (H++[a])=H++[⟨a.page,a.aO+1,a.jE,a.zero⟩]:=by
 grind [Bq,bB]
structure Xi (F:Nat->dg) (k:Nat) (G:List aX):Prop where
 good:tV G=true
 look:∀n:Nat,uJ G n=if n<k then F n else jc
 yes:(iy F k).m=true->0<G.length/\(tU G).wH=k/\(tU G).jE=(iy F k).p/\(tU G).zero=(iy F k).z
 no:(iy F k).m=false->G.length=0∨(tU G).wH<k∨k=0
theorem Z5 (G:List aX) (n:Nat) (h:uJ G n=jc):(bV G n).2=false:=by
 grind [uJ,jc]
theorem Cr (F:Nat->dg) (hF:pU F):∀k,k<=256->Xi F k (cT F k)
 | 0,_=>⟨rfl,fun n=>rfl,fun h=>by grind [iy,jc],fun _=>.inl rfl⟩
 | k+1,hk=>by
  have ih:=Cr F hF k (by omega);obtain⟨G,hG⟩:=ex (cT F k);rw[<- hG] at ih;simp only[cT];rw[<- hG];by_cases hm:(F k).m=false
  · rw[aB hm];refine⟨ih.good,fun n=>?_,fun h=>?_,fun _=>?_⟩
    · rw[ih.look n];by_cases h1:n<k
      · grind
      · rw[au h1];by_cases h2:n<k+1
        · obtain rfl:n=k:=by omega
          rw[aB h2,hF.none n hm]
        grind
    · have:(F k).m=true:=h
      grind
    · by_cases hl:(iy F k).m=true
      · grind [Xi.yes]
      · rcases ih.no (by grind) with h | h | h
        · omega
        · omega
        · subst h;have:G=[]:=hG
          grind
  · have hm':(F k).m=true:=by grind
    rw[au hm];have hk1:1<=k:=by
     grind [pU.zero]
    have MI:=Z5 G k (by rw[ih.look k,au (by omega)]);by_cases he:xO (F k) (iy F k)=true
    · rw[aB he];have hst:=Ry _ _ he;obtain⟨h0,h1,h2,h3⟩:=ih.yes (by grind);rcases O0 G with hnil | ⟨H,a,hH⟩
      · grind
      · rw[OZ] at hH;rw[hH,mX] at h1 h2 h3;have hg:=ih.good;rw[hH,wy,eG] at hg;obtain⟨hgH,hok⟩:=hg;have akS:=hok;simp only[xo,eG,fL,kR] at akS;obtain⟨⟨hpa,hpr⟩,hfo⟩:=akS;rw[hH,Xh];unfold aX.wH at h1;refine⟨?_,fun n=>?_,fun _=>⟨by simp,?_,?_,?_⟩,fun h=>?_⟩
        · rw[wy,hgH,tv];simp only[xo,eG,fL,kR];exact⟨⟨⟨hpa.1,by omega,by omega⟩,hpr⟩,hfo⟩
        · have hl:=ih.look n;rw[hH] at hl;rw[Er] at hl ⊢;by_cases c:(bV H n).2=true
          · rw[aB c] at hl ⊢;rw[hl];have hb:=Co _ H rfl hgH n c
            grind [bV,mi]
          · rw[au c] at hl ⊢;by_cases d:n=k
            · subst d;rw[aB (by grind [ME]),aB (by omega)];show dg.mk true a.jE a.zero=F n;rw[h2,h3,<- hst,<- hm']
            grind [Jt]
        · rw[mX];show a.page+(a.aO+1)=_;omega
        · rw[mX];show a.jE=(F k).p;grind
        · rw[mX];show a.zero=(F k).z;grind
        · have:(F k).m=false:=h
          grind
    · have he':xO (F k) (iy F k)=false:=by grind
      rw[au he];refine⟨?_,fun n=>?_,fun _=>⟨by simp,?_,?_,?_⟩,fun h=>?_⟩
      · rw[wy,ih.good,tv];simp only[xo,eG,fL,kj,kR];refine⟨⟨⟨by omega,by omega,by omega⟩,hF.jE k⟩,?_⟩;by_cases h0:G.length=0
        · simp[h0]
        · simp only[Un,beq_iff_eq,h0,false_or];by_cases hl:(iy F k).m=true
          · grind [mi,Rx,Xi.yes]
          · rcases ih.no (by grind) with h | h | h
            · omega
            · grind [mi]
            · omega
      · rw[Er];by_cases c:(bV G n).2=true
        · rw[aB c,ih.look n]
          grind
        · rw[au c];have c':(bV G n).2=false:=by grind
          by_cases d:n=k
          · subst d;rw[aB (by grind [ME]),aB (by omega)];show dg.mk true (F n).p (F n).z=F n;rw[<- hm']
          · rw[au (by grind [ME])];have hl:=ih.look n
            grind [uJ]
      · rw[mX];rfl
      · rw[mX];rfl
      · rw[mX];rfl
      · have:(F k).m=false:=h
        grind
theorem RG (F:Nat->dg) (hF:pU F):tV (kq F)=true:=(Cr F hF 256 (aH _)).good
theorem RD (F:Nat->dg) (hF:pU F) (n:Nat) (hn:n<256):uJ (kq F) n=F n:=by
 have:=(Cr F hF 256 (aH _)).look n;rw[aB hn] at this;exact this
theorem GA (l:List aX):∀(m:Nat) (G:List aX),G.length=m->tV G=true->∀n:Nat,uJ G n=eW G G.length n
 | 0,G,hm,_,n=>by
  have e:G=[]:=kT hm;subst e;rfl
 | m+1,G,hm,hg,n=>by
  rcases O0 G with rfl | ⟨H,a,rfl⟩
  · rfl
  · rw[OZ] at *;rw[wy,eG] at hg;have ih:=GA l m H (by grind) hg.1 n;have hs:∀k,k<=H.length->eW (H++[a]) k=eW H k:=by
     intro k;induction k with
     | zero=>intro _;rfl
     | succ k ihk=>grind [eW,rZ]
    rw[fD];show _=eW (H++[a]) (H.length+1) n;simp only[eW];rw[hs H.length (aH _),wB,Er];simp only[nK];by_cases c:(bV H n).2=true
    · rw[aB c,ih];have hb:=Co _ H rfl hg.1 n c
      grind [xo,bV,mi]
    grind [uJ,iJ]
open Go.RowKit
theorem MF (l:List aX) (h:bj l=0):tV l=true:=by
 grind [bj]
theorem CW (l:List aX) (hc:bj l=0):∀k,k<=l.length->(eW l k 0).m=false/\(∀n,(eW l k n).m=false->eW l k n=jc)/\(∀n,0<=(eW l k n).p/\(eW l k n).p<=3)
 | 0,_=>⟨rfl,fun n _=>rfl,fun n=>by simp[eW,jc]⟩
 | k+1,hk=>by
  have ih:=CW l hc k (by omega);have ho:=il l k (gQ l hc k (by omega));refine⟨?_,fun n=>?_,fun n=>?_⟩
  · simp only[eW,nK];grind
  · simp only[eW,nK]
    grind
  · simp only[eW,nK]
    grind
theorem Ae (l:List aX) (hc:bj l=0):pU (fu l):=by
 have h:=CW l hc l.length (aH _);exact⟨h.1,h.2.1,h.2.2⟩
theorem Ac (F:Nat->dg) (hF:pU F) (how:dg->dg×Int) (page t:Int) (hp:1<=page)
  (hn:∀s,(s.m=false->s=jc)->((how s).1.m=false->(how s).1=jc)) (hq:∀s,0<=s.p/\s.p<=3->0<=(how s).1.p/\(how s).1.p<=3):pU (dQ F how page t):=by
 refine⟨?_,fun n=>?_,fun n=>?_⟩
 · grind [dQ,pU.zero]
 · simp only[dQ];split
   · simp_all [pU.none]
   · exact hF.none n
 · simp only[dQ];split
   · simp_all [pU.jE]
   · exact hF.jE n
theorem GD (F:Nat->dg) (h0:(F 0).m=false):∀k,(cT F (k+1)).length<=k
 | 0=>by grind [cT]
 | k+1=>by
  have ih:=GD F h0 k
  grind [cT,wA]
theorem uL (F:Nat->dg) (hF:pU F):bj (kq F)=0:=by
 grind [kq,GD,RG,bj,pU.zero]
theorem EK (l:List aX) (hc:bj l=0) (F:Nat->dg) (p:Nat) (h:uJ l p=F p):(aW l p).2=(F p).m/\(aW l p).1.jE=(F p).p/\(aW l p).1.zero=(F p).z:=by
 grind [aW,uJ,CY,xp,jc]
theorem Ag (F:Nat->dg) (hF:pU F) (p:Nat) (hp:p<256):(aW (kq F) p).2=(F p).m/\(aW (kq F) p).1.jE=(F p).p/\(aW (kq F) p).1.zero=(F p).z :=
 EK _ (uL F hF) F p (RD F hF p hp)
theorem Af (l:List aX) (hc:bj l=0) (p:Nat):(aW l p).2=(fu l p).m/\(aW l p).1.jE=(fu l p).p/\(aW l p).1.zero=(fu l p).z :=
 EK l hc (fu l) p (GA l _ l rfl (MF l hc) p)
theorem lC (l:List aX) (hc:bj l=0):(∀i,i<l.length->Br (bB l i))/\l.length<=140737488351232:=by
 refine⟨fun i hi=>?_,by grind [oa]⟩;have ho:=il l i (gQ l hc i hi)
 grind [Br]
theorem GF (F:Nat->dg) (how:dg->dg×Int):∀(c n:Nat),gw F how n c=0->∀k,n<=k->k<n+c->(how (F k)).2=0
 | 0,n,_,k,h1,h2=>by omega
 | c+1,n,h,k,h1,h2=>by
  simp only[gw] at h;split at h
  · rename_i h0
    by_cases e:k=n
    · grind
    · exact GF F how c (n+1) h k (by omega) (by omega)
  omega
end Go.Proofs.YtlgoihmkgaaemaaGreat
