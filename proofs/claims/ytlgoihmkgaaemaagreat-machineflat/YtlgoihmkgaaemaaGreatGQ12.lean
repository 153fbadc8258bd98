import Derived.Test.YtlgoihmkgaaemaaGreatGQ11
set_option maxHeartbeats 20000000
set_option linter.unusedVariables false
set_option maxRecDepth 100000
set_option linter.unusedSimpArgs false
namespace Go.Proofs.YtlgoihmkgaaemaaGreat
open Go.RowKit Tryz
def UA (w:World) (b off:Nat) (l:List bT):Prop:=∀i,i<l.length->w.cell? (Ad b (off+i*13))=some (I ((aO l i).r 0))/\w.cell? (Ad b (off+i*13+1))=some (I ((aO l i).r 1))/\w.cell? (Ad b (off+i*13+2))=some (I ((aO l i).r 2))/\w.cell? (Ad b (off+i*13+3))=some (I ((aO l i).r 3))/\w.cell? (Ad b (off+i*13+4))=some (I ((aO l i).r 4))/\w.cell? (Ad b (off+i*13+5))=some (I ((aO l i).r 5))/\w.cell? (Ad b (off+i*13+6))=some (I ((aO l i).r 6))/\w.cell? (Ad b (off+i*13+7))=some (I ((aO l i).r 7))/\w.cell? (Ad b (off+i*13+8))=some (I (aO l i).pc)/\w.cell? (Ad b (off+i*13+9))=some (I (aO l i).st)/\w.cell? (Ad b (off+i*13+10))=some (I (aO l i).cd)/\w.cell? (Ad b (off+i*13+11))=some (I (aO l i).fk)/\w.cell? (Ad b (off+i*13+12))=some (I (aO l i).fa)
theorem apl {w w':World} {b off:Nat} {l:List bT} (hb:Below w.heap.size w w') (hlt:b<w.heap.size) (h:UA w b off l):UA w' b off l:=λi hi=>by
 obtain⟨c0,c1,c2,c3,c4,c5,c6,c7,c8,c9,c10,c11,c12⟩:=h i hi;exact⟨(cJ hb hlt).trans c0,(cJ hb hlt).trans c1,(cJ hb hlt).trans c2,(cJ hb hlt).trans c3,(cJ hb hlt).trans c4,(cJ hb hlt).trans c5,(cJ hb hlt).trans c6,(cJ hb hlt).trans c7,(cJ hb hlt).trans c8,(cJ hb hlt).trans c9,(cJ hb hlt).trans c10,(cJ hb hlt).trans c11,(cJ hb hlt).trans c12⟩
def xK (w:World) (ao:Option Addr) (l:List bT):Prop:=dG UA w ao l
theorem xK.below {w w':World} {ao:Option Addr} {l:List bT} (h:xK w ao l) (hb:Below w.heap.size w w'):xK w' ao l:=dG.below (lie:=UA) (λhb hlt h=>apl hb hlt h) h hb
def Uy (w:World) (b off:Nat) (l:List uN):Prop:=∀i,i<l.length->w.cell? (Ad b (off+i*2))=some (I (qM l i).proc)/\w.cell? (Ad b (off+i*2+1))=some (I (qM l i).value)
theorem apj {w w':World} {b off:Nat} {l:List uN} (hb:Below w.heap.size w w') (hlt:b<w.heap.size) (h:Uy w b off l):Uy w' b off l:=λi hi=>by
 obtain⟨c0,c1⟩:=h i hi;exact⟨(cJ hb hlt).trans c0,(cJ hb hlt).trans c1⟩
def zj (w:World) (ao:Option Addr) (l:List uN):Prop:=dG Uy w ao l
theorem zj.below {w w':World} {ao:Option Addr} {l:List uN} (h:zj w ao l) (hb:Below w.heap.size w w'):zj w' ao l:=dG.below (lie:=Uy) (λhb hlt h=>apj hb hlt h) h hb
theorem Ke (F:FuncId) (hF:F=181\/F=89) (l:List bT) (o:List uN) (lv:Nat->Bool) (ar ao:Option Addr) (cr co P:Nat) (w:World) (h:xK w ar l) (ho:zj w ao o) (hn:l.length<=140737488351232) (hno:o.length<=140737488351232)
  (hlv:∀k,k<l.length->∀V,Below w.heap.size w V->Calls prog F #[I (k:Int),.pointer (some (Ad P 0))] V λe w'=>e=.returned (.bool (lv k))/\Below V.heap.size V w') :
  Calls prog 88 #[.slice ar l.length cr,.slice ao o.length co,.func (.func F) #[] #[.pointer (some (Ad P 0))]] w λe w'=>e=.returned (.bool (iO l o lv))/\Below w.heap.size w w':=by
 have HH:=ai h;have HO:=ai ho;have a7:=ai hlv;have a0:Hid (∀k,nV l lv (k+1)=(nV l lv k&&yo l lv k)):=λk=>rfl
 have U:Hid (∀k,k<=l.length->nV l lv k=false->iO l o lv=false):=λk hk e=>by
  unfold iO;rw[Ki e _ hk,yw]
 have a5:Hid (∀k,k<=o.length->lZ o l.length k=false->iO l o lv=false):=λk hk e=>by
  unfold iO;rw[Kg e _ hk,TS]
 have Q:Hid (nV l lv l.length=true->lZ o l.length o.length=true->iO l o lv=true):=λh1 h2=>by
  unfold iO;rw[h1,h2];rfl
 generalize iO l o lv=A at U a5 Q ⊢;clear h ho hlv;go_enter func88,ntmps88;go_wp2;go_loopw [13] (λiv wr=>∃k:Nat,k<=l.length/\iv=I (k:Int)/\nV l lv k=true/\Below w.heap.size w wr) (λiv _=>l.length-(intOf iv).toNat)
 case atStart=>exact⟨0,ω,rfl,rfl,aN _ _⟩
 case round =>
  obtain⟨k,hk,rfl,B,hb⟩:=hrel;have HB:=ai hb;have QW:=ai B;clear B;by_cases hlt:k<l.length
  . obtain⟨b,off,R,aa,di⟩:=(HH.o.below hb) ω;subst R;obtain⟨c0,c1,c2,c3,c4,c5,c6,c7,c8,c9,a2,a3,a6⟩:=di k hlt;have Px:Hid (nV l lv (k+1)=(eV (aO l k)&&lv k==((aO l k).st==1))):=by
     show _=_;rw[a0.o,QW.o,tE];unfold yo;congr 2
    have a9:=ai (U.o (k+1) ω);generalize aO l k=q at Px c0 c1 c2 c3 c4 c5 c6 c7 c8 c9 a2 a3 a6;have N:Hid (∀V,Calls prog 146 #[.agg #[I (q.r 0),I (q.r 1),I (q.r 2),I (q.r 3),I (q.r 4),I (q.r 5),I (q.r 6),I (q.r 7),I q.pc,I q.st,I q.cd,I q.fk,I q.fa]] V λe w'=>e=.returned (.bool (eV q))/\Below V.heap.size V w'):=λV=>Q9 q V
    have K8:=ai (a7.o k hlt);generalize lv k=L at Px K8;generalize eV q=T at Px N;clear di hb;have iQ:=ai (HB.o.alloc HB.o.size (.cells #[I (q.r 0),I (q.r 1),I (q.r 2),I (q.r 3),I (q.r 4),I (q.r 5),I (q.r 6),I (q.r 7),I q.pc,I q.st,I q.cd,I q.fk,I q.fa] 77));go_wp2_with fail;obtain⟨W,hW⟩:=ex (wr.alloc (.cells #[I (q.r 0),I (q.r 1),I (q.r 2),I (q.r 3),I (q.r 4),I (q.r 5),I (q.r 6),I (q.r 7),I q.pc,I q.st,I q.cd,I q.fk,I q.fa] 77));have HW:=ai hW;have hs:W.heap.size=wr.heap.size+1:=by rw[hW];simp
    have Fs:=kf W;have a1:=@fJ W;have e:∀(n:Nat) v,#[I (q.r 0),I (q.r 1),I (q.r 2),I (q.r 3),I (q.r 4),I (q.r 5),I (q.r 6),I (q.r 7),I q.pc,I q.st,I q.cd,I q.fk,I q.fa][n]?=some v->∀x:ed W.heap.size W,x.world.cell? (Ad wr.heap.size n)=some v:=λn v hn x=>by rw[a1 x _ _ ω,hW];exact aA (bH wr _ _) n hn
    have e0:=e 0 _ rfl;have e1:=e 1 _ rfl;have e2:=e 2 _ rfl;have e3:=e 3 _ rfl;have e4:=e 4 _ rfl;have e5:=e 5 _ rfl;have e6:=e 6 _ rfl;have e7:=e 7 _ rfl;have e8:=e 8 _ rfl;have e9:=e 9 _ rfl;have ae:=e 10 _ rfl;have ad:=e 11 _ rfl;have ac:=e 12 _ rfl;have EC:Hid (Below w.heap.size w W):=by show Below _ _ _;rw[hW];exact iQ.o
    clear e hW hs a1 c0 c1 c2 c3 c4 c5 c6 c7 c8 c9 a2 a3 a6;rw[<- HW.o];have Fm:Hid (∀x:ed W.heap.size W,Calls prog 146 #[.agg #[I (q.r 0),I (q.r 1),I (q.r 2),I (q.r 3),I (q.r 4),I (q.r 5),I (q.r 6),I (q.r 7),I q.pc,I q.st,I q.cd,I q.fk,I q.fa]] x.world λe w'=>e=.returned (.bool T)/\∃y:ed W.heap.size W,w'=y.world):=λx=>iP N.o x
    have DW:Hid (∀x:ed W.heap.size W,Calls prog F #[I (k:Int),.pointer (some (Ad P 0))] x.world λe w'=>e=.returned (.bool L)/\∃y:ed W.heap.size W,w'=y.world):=λx=>(K8.o x.world (bq EC.o x.keeps)).mono λe w'' ⟨he,hb⟩=>⟨he,⟨w'',x.keeps.trans (hb.mono x.keeps.size)⟩,rfl⟩
    clear N K8;obtain⟨S,hS⟩:∃S,(q.st==1)=S:=⟨_,rfl⟩;rw[hS] at Px;rcases(show T=false\/T=true/\(L=true\/L=false)/\(S=true\/S=false) by cases T <;> cases L <;> cases S <;> simp) with rfl | ⟨rfl,rfl | rfl,rfl | rfl⟩ <;> rcases hF with rfl | rfl
    all_goals
     refine eT κ κ ?_
     repeat (first | go_big_quiet_step ((first | (go_at_call 146;exact Fm.o _) | exact DW.o _)) | quiet_step ((first | (go_at_call 146;exact Fm.o _) | exact DW.o _)))
     refine mM ?_;intro _ a8;obtain⟨x,a4⟩:=a8;subst a4;go_wp2
     first
      | (go_ret;exact⟨gq (a9.o Px.o).symm,bq EC.o x.keeps⟩)
      | (go_roundw
         case rel=>exact⟨k+1,ω,by go_num,Px.o,bq EC.o x.keeps⟩
         case measure=>simp[intOf];omega)
  obtain rfl:k=l.length:=by omega
  have ab:=ai (Q.o QW.o);clear hb Q U a0 a7 QW;go_wp2;go_loopw [33] (λiv wq=>∃j:Nat,j<=o.length/\iv=I (j:Int)/\lZ o l.length j=true/\Below w.heap.size w wq) (λiv _=>o.length-(intOf iv).toNat)
  case atStart=>exact⟨0,ω,rfl,rfl,HB.o⟩
  case round =>
   obtain⟨j,hj,rfl,B,K⟩:=hrel;have Z:=ai K;have O:=ai B;clear B HB;by_cases IG:j<o.length
   . obtain⟨b,off,R,aa,di⟩:=(HO.o.below K) ω;subst R;obtain⟨c0,c1⟩:=di j IG;have Y:Hid (lZ o l.length (j+1)=decide (0<=(qM o j).proc/\(qM o j).proc<(l.length:Int))):=by
      show(lZ o l.length j&&_)=_;rw[O.o,tE];rfl
     have J:=ai (a5.o (j+1) ω);obtain⟨⟨wp,wv⟩,hq⟩:∃q,q=qM o j:=⟨_,rfl⟩;rw[<- hq] at Y c0 c1;simp only at c0 c1;have G:Hid (lZ o l.length (j+1)=decide (0<=wp/\wp<(l.length:Int))):=Y;clear hq di K O Y;have iQ:=ai (Z.o.alloc Z.o.size (.cells #[I wp,I wv] 91));by_cases h0:wp<0
     . have X:=ai (J.o (by rw[G.o];simp;omega));clear G J;go_wp2;go_ret;exact⟨gq X.o.symm,iQ.o⟩
     by_cases h1:(l.length:Int)<=wp
     . have X:=ai (J.o (by rw[G.o];simp;omega));clear G J;go_wp2;go_ret;exact⟨gq X.o.symm,iQ.o⟩
     have M:Hid (lZ o l.length (j+1)=true):=by show _=_;rw[G.o];simp;omega
     clear G J;go_wp2;go_roundw
     case rel=>exact⟨j+1,ω,by go_num,M.o,iQ.o⟩
     case measure=>simp[intOf];omega
   obtain rfl:j=o.length:=by omega
   have M:=ai (ab.o O.o);clear K;go_wp2;go_ret;exact⟨gq M.o.symm,Z.o⟩
open Go.RowKit
theorem Zo (l:List ek) (az:Option Addr) (cs P k:Nat) (w:World) (h:CO w az l) (hk:k<l.length) (hn:l.length<=140737488351232) (hP:w.cell? (Ad P 1)=some (.slice az l.length cs)) :
  Calls prog 181 #[I (k:Int),.pointer (some (Ad P 0))] w λe w'=>e=.returned (.bool (aI l k).live)/\Below w.heap.size w w':=by
 obtain⟨b,off,q,y,di⟩:=h ω;subst q;obtain⟨va,ap,cp,c0,c1,c2,c3,c4,c5⟩:=di k hk;clear di c1 c2 c3 c4 c5 h;generalize (aI l k).live=lv at c0 ⊢;go_enter func181,ntmps181;go_wp2;go_ret;exact⟨rfl,aN _ _⟩
structure qF (w:World) (f:ky) (az ar ao:Option Addr):Prop where
 aj:CO w az f.aj
 procs:xK w ar f.procs
 out:zj w ao f.out
theorem qF.below {w w':World} {f:ky} {az ar ao:Option Addr} (h:qF w f az ar ao) (hb:Below w.heap.size w w'):qF w' f az ar ao:=⟨h.aj.below hb,h.procs.below hb,h.out.below hb⟩
structure F8 (f:ky):Prop where
 slots:cH f.slots
 aj:Kf f.aj
 procs:bD f.procs.length
 out:bD f.out.length
def kZ (f:ky) (az ar ao:Option Addr) (cs cr co:Nat):Array Value:=#[I f.slots,.slice az f.aj.length cs,.slice ar f.procs.length cr,.slice ao f.out.length co]
theorem PW (f:ky) (az ar ao:Option Addr) (cs cr co:Nat) (w:World) (h:qF w f az ar ao) (hf:F8 f) :
  Calls prog 125 #[.agg (kZ f az ar ao cs cr co)] w λe w'=>e=.returned (I (fQ f))/\Below w.heap.size w w':=by
 have HH:=ai h;have HF:=ai hf;obtain⟨sl,ss,ps,os⟩:=f;unfold kZ;simp only;have HK:Hid (fQ ⟨sl,ss,ps,os⟩=if (decide (1<=ss.length/\ss.length<=4)&&(decide (ps.length=ss.length)&&(decide (0<=sl/\sl<=512)&&decide (os.length<=2000))))=false then 2 else if (ss.all bW&&decide (fu ss<=sl))&&iO ps os (λk=>(aI ss k).live) then 0 else 1):=by
  show _=_;rw[<- Zt ⟨sl,ss,ps,os⟩];rfl
 generalize fQ ⟨sl,ss,ps,os⟩=A at HK ⊢;have Y6:=ai (λV=>Zn sl az ar ao ss.length ps.length os.length cs cr co V);have Ir:Hid (ss.length<=4->∀V,Below w.heap.size w V->Calls prog 180 #[.agg #[I sl,.slice az ss.length cs,.slice ar ps.length cr,.slice ao os.length co]] V λe w'=>e=.returned (.bool (ss.all bW&&decide (fu ss<=sl)))/\Below V.heap.size V w'):=λhn V hV=>Nj ss sl az ar ao ps.length os.length cs cr co V (h.aj.below hV) hf.aj ω
 have Xy:Hid (ps.length=ss.length->∀P V,Below w.heap.size w V->V.heap[P]?=some (.cells #[I sl,.slice az ss.length cs,.slice ar ps.length cr,.slice ao os.length co] 62 (0,0))->Calls prog 88 #[.slice ar ps.length cr,.slice ao os.length co,.func (.func 181) #[] #[.pointer (some (Ad P 0))]] V λe w'=>e=.returned (.bool (iO ps os (λk=>(aI ss k).live)))/\Below V.heap.size V w'):=λhn P V hV hP =>
  Ke _ (.inl rfl) ps os (λk=>(aI ss k).live) ar ao cr co P V (h.procs.below hV) (h.out.below hV) hf.procs hf.out (λk hk U hU=>Zo ss az cs P k U (h.aj.below (bq hV hU)) ω hf.aj.1 ((hU.cell (p:=(Ad P 1)) (aQ hP)).trans (aA hP 1 rfl)))
 have fU:=ai ((aN w.heap.size w).alloc (aK _) (.cells #[I sl,.slice az ss.length cs,.slice ar ps.length cr,.slice ao os.length co] 62));have X0:=ai (bH w #[I sl,.slice az ss.length cs,.slice ar ps.length cr,.slice ao os.length co] 62);have HQ:Hid ((decide (1<=ss.length/\ss.length<=4)&&(decide (ps.length=ss.length)&&(decide (0<=sl/\sl<=512)&&decide (os.length<=2000))))=true->ss.length<=4/\ps.length=ss.length):=λg=>by
  simp only[cK,fX] at g;exact⟨g.1.2,g.2.1⟩
 generalize (decide (1<=ss.length/\ss.length<=4)&&(decide (ps.length=ss.length)&&(decide (0<=sl/\sl<=512)&&decide (os.length<=2000))))=C at HK Y6 HQ;generalize (ss.all bW&&decide (fu ss<=sl))=D at HK Ir;generalize iO ps os (λk=>(aI ss k).live)=E at HK Xy;clear h hf HH HF;obtain⟨nr,G⟩:=ex ps.length;obtain⟨no,J⟩:=ex os.length;generalize ss.length=ns at Y6 Ir Xy fU X0 HQ ⊢;rw[<- G] at Y6 Ir Xy fU X0 HQ ⊢;rw[<- J] at Y6 Ir Xy fU X0 ⊢;clear G J;cases C with
 | false =>
  have qO:Hid (A=2):=HK;clear HK Ir Xy HQ;go_enter func125,ntmps125;go_wp2_with (go_at_call 179;refine(Y6.o _).mono ?_;rintro e w1 ⟨rfl,b⟩;have cD:=ai (bq fU.o b);clear b);go_ret;exact⟨by rw[qO.o];rfl,cD.o⟩
 | true =>
  have F:=ai (Ir.o (HQ.o rfl).1);have B:=ai (Xy.o (HQ.o rfl).2);clear Ir Xy HQ;cases D with
  | false =>
   have qO:Hid (A=1):=HK;clear HK B;go_enter func125,ntmps125;go_wp2_with (first
    | (go_at_call 179;refine(Y6.o _).mono ?_;rintro e w1 ⟨rfl,b⟩;have cD:=ai (bq fU.o b);have X1:=ai (aU X0.o b (aQ X0.o));clear b;obtain⟨x0,x1,x2,x3⟩:=TD X1.o)
    | (go_at_call 180;refine(F.o _ cD.o).mono ?_;rintro e w2 ⟨rfl,q⟩;have iJ:=ai (bq cD.o q);clear q))
   go_ret;exact⟨by rw[qO.o];rfl,iJ.o⟩
  | true =>
   cases E with
   | false =>
    have qO:Hid (A=1):=HK;clear HK;go_enter func125,ntmps125;go_wp2_with (first
    | (go_at_call 179;refine(Y6.o _).mono ?_;rintro e w1 ⟨rfl,b⟩;have cD:=ai (bq fU.o b);have X1:=ai (aU X0.o b (aQ X0.o));clear b;obtain⟨x0,x1,x2,x3⟩:=TD X1.o)
    | (go_at_call 180;refine(F.o _ cD.o).mono ?_;rintro e w2 ⟨rfl,q⟩;have iJ:=ai (bq cD.o q);have X2:=ai (aU X1.o q (aQ X1.o));clear q;obtain⟨y0,y1,y2,y3⟩:=TD X2.o)
    | (go_at_call 88;refine(B.o _ _ iJ.o X2.o).mono ?_;rintro e w3 ⟨rfl,y⟩;have ou:=ai (bq iJ.o y);clear y))
    go_ret;exact⟨by rw[qO.o];rfl,ou.o⟩
   | true =>
    have qO:Hid (A=0):=HK;clear HK;go_enter func125,ntmps125;go_wp2_with (first
    | (go_at_call 179;refine(Y6.o _).mono ?_;rintro e w1 ⟨rfl,b⟩;have cD:=ai (bq fU.o b);have X1:=ai (aU X0.o b (aQ X0.o));clear b;obtain⟨x0,x1,x2,x3⟩:=TD X1.o)
    | (go_at_call 180;refine(F.o _ cD.o).mono ?_;rintro e w2 ⟨rfl,q⟩;have iJ:=ai (bq cD.o q);have X2:=ai (aU X1.o q (aQ X1.o));clear q;obtain⟨y0,y1,y2,y3⟩:=TD X2.o)
    | (go_at_call 88;refine(B.o _ _ iJ.o X2.o).mono ?_;rintro e w3 ⟨rfl,y⟩;have ou:=ai (bq iJ.o y);clear y))
    go_ret;exact⟨by rw[qO.o];rfl,ou.o⟩
open Go.RowKit
def Bi (p:bT) (x:Int×Int):bT:={ p with st:=3,fk:=x.1,fa:=x.2 }
def jK (pc:Int):bT:=⟨λ_=>0,pc,1,0,0,0⟩
theorem PX (pc:Int) (w:World):Calls prog 31 #[I pc] w λe w'=>e=.returned (jK pc).val/\Below w.heap.size w w':=by
 unfold bT.val jK bT.row;simp only;go_enter func31,ntmps31;go_wp2;exact b9 (v:=.agg #[I 0,I 0,I 0,I 0,I 0,I 0,I 0,I 0,I pc,I 1,I 0,I 0,I 0]) (by simp[results,results31,go_sem]) rfl ⟨rfl,(aN _ _).alloc (aK _) _⟩
open Go.RowKit
structure lK (σ:Type) where
 load:σ->Nat->Int->Int->Int->(ByteArray×(Int×Int))×σ
 store:σ->Nat->Int->ByteArray->(Int×Int)×σ
 map:σ->Nat->Int->Int->Int->Int×σ
 qX:σ->Nat->Int->Int->Int×σ
 ko:σ->Nat->Int->Int->Int->Int×σ
 fork:σ->Nat->Int×σ
 drop:σ->Nat->σ
structure dB (σ:Type) where
 mem:σ
 ps:List bT
 out:List uN
variable {σ:Type}
def CK (s:ByteArray):Int:=if 1<=s.size/\s.size<=8 then wrap64 (Lib.leNat s.data.toList:Nat) else 0
def oJ (v n:Int):ByteArray:=⟨(Lib.leBytes n.toNat (kz v)).toArray⟩
def iH (o:lK σ) (st:dB σ) (k:Nat) (c:Int):Int×dB σ :=
 if c=1 then (0,{ st with out:=st.out++[⟨(k:Int),(aO st.ps k).r 0⟩] })
 else if c=2 then ((o.map st.mem k ((aO st.ps k).r 0) ((aO st.ps k).r 1) ((aO st.ps k).r 2)).1,{ st with mem:=(o.map st.mem k ((aO st.ps k).r 0) ((aO st.ps k).r 1) ((aO st.ps k).r 2)).2 })
 else if c=3 then ((o.qX st.mem k ((aO st.ps k).r 0) ((aO st.ps k).r 1)).1,{ st with mem:=(o.qX st.mem k ((aO st.ps k).r 0) ((aO st.ps k).r 1)).2 })
 else if c=4 then ((o.ko st.mem k ((aO st.ps k).r 0) ((aO st.ps k).r 1) ((aO st.ps k).r 2)).1,{ st with mem:=(o.ko st.mem k ((aO st.ps k).r 0) ((aO st.ps k).r 1) ((aO st.ps k).r 2)).2 })
 else if c=5 then (if (o.fork st.mem k).1=0 then ((st.ps.length:Int),{ st with mem:=(o.fork st.mem k).2,ps:=st.ps++[aO st.ps k] }) else (-1,{ st with mem:=(o.fork st.mem k).2 }))
 else if c=6 then (0,{ st with mem:=o.drop st.mem k })
 else (0,st)
def gS (o:lK σ) (st:dB σ) (k:Nat) (i:eu):(Int×(Int×Int))×dB σ :=
 if i.bad then ((0,(4,(aO st.ps k).pc)),st)
 else if i.op=9 then
  ((CK (o.load st.mem k (wrap64 ((aO st.ps k).r i.b.toNat+i.m)) i.c 0).1.1,(o.load st.mem k (wrap64 ((aO st.ps k).r i.b.toNat+i.m)) i.c 0).1.2),{ st with mem:=(o.load st.mem k (wrap64 ((aO st.ps k).r i.b.toNat+i.m)) i.c 0).2 })
 else if i.op=10 then
  ((0,(o.store st.mem k (wrap64 ((aO st.ps k).r i.b.toNat+i.m)) (oJ ((aO st.ps k).r i.a.toNat) i.c)).1),{ st with mem:=(o.store st.mem k (wrap64 ((aO st.ps k).r i.b.toNat+i.m)) (oJ ((aO st.ps k).r i.a.toNat) i.c)).2 })
 else if i.op=16 then (((iH o st k i.m).1,(0,0)),(iH o st k i.m).2)
 else ((0,(0,0)),st)
def qV (i:eu) (n:Nat) (ps:List bT):List bT:=ps.take n++(ps.drop n).map (λp=>eN p i 0)
def oh (o:lK σ) (st:dB σ) (k:Nat):(Int×Int)×dB σ :=
 let x:=o.load st.mem k (aO st.ps k).pc 8 2
 let s1:dB σ:={ st with mem:=x.2 }
 if ¬x.1.2.1=0 then (x.1.2,s1) else
 let i:=iC x.1.1
 let y:=gS o s1 k i
 if ¬y.1.2.1=0 then (y.1.2,y.2) else
 ((0,0),{ y.2 with ps:=qV i st.ps.length (y.2.ps.set k (eN (aO y.2.ps k) i y.1.1)) })
def gN (o:lK σ) (st:dB σ) (pick:Int):Int×dB σ :=
 if ¬(0<=pick/\pick<(st.ps.length:Int)) then (6,st)
 else if ¬(aO st.ps pick.toNat).st=1 then (0,st)
 else if 2000<=st.out.length then (2,st)
 else
  let r:=oh o st pick.toNat
  if r.1.1=0 then (0,r.2) else (0,{ r.2 with mem:=o.drop r.2.mem pick.toNat,ps:=r.2.ps.set pick.toNat (Bi (aO r.2.ps pick.toNat) r.1) })
def fq (o:lK σ) (picks:List Int):Nat->Option (dB σ)->Option (dB σ)
 | 0,st=>st
 | n+1,st=>match fq o picks n st with
  | none=>none
  | some s=>if (gN o s (picks.getD n 0)).1=2 then none else some (gN o s (picks.getD n 0)).2
def qc (o:lK σ) (st:dB σ) (picks:List Int):Int×Option (dB σ) :=
 if 2000<picks.length then (2,none) else match fq o picks picks.length (some st) with
  | none=>(2,none)
  | some s=>(0,some s)
structure tj (o:lK σ) (Ok:σ->List Bool->Prop):Prop where
 load:∀s fl k a n way,Ok s fl->fl.getD k false=true->Ok (o.load s k a n way).2 fl
 size:∀s fl k a n way,Ok s fl->fl.getD k false=true->1<=n->n<=8->(o.load s k a n way).1.2.1=0->((o.load s k a n way).1.1.size:Int)=n
 fault:∀s fl k a n way,Ok s fl->fl.getD k false=true->0<=(o.load s k a n way).1.2.1/\(o.load s k a n way).1.2.1<=4/\((o.load s k a n way).1.2.1=0->(o.load s k a n way).1.2=(0,0))
 none:∀s fl k a n way,Ok s fl->fl.getD k false=true->¬(o.load s k a n way).1.2.1=0->(o.load s k a n way).1.1=⟨#[]⟩
 store:∀s fl k a d,Ok s fl->fl.getD k false=true->1<=d.size->d.size<=8->Ok (o.store s k a d).2 fl
 UN:∀s fl k a d,Ok s fl->fl.getD k false=true->0<=(o.store s k a d).1.1/\(o.store s k a d).1.1<=4/\((o.store s k a d).1.1=0->(o.store s k a d).1=(0,0))
 map:∀s fl k p n q,Ok s fl->fl.getD k false=true->Ok (o.map s k p n q).2 fl
 qX:∀s fl k p n,Ok s fl->fl.getD k false=true->Ok (o.qX s k p n).2 fl
 ko:∀s fl k p n q,Ok s fl->fl.getD k false=true->Ok (o.ko s k p n q).2 fl
 UM:∀s fl k,Ok s fl->fl.getD k false=true->¬(o.fork s k).1=0->Ok (o.fork s k).2 fl
 NV:∀s fl k,Ok s fl->fl.getD k false=true->(o.fork s k).1=0->Ok (o.fork s k).2 (fl++[true])
 alP:∀s fl k p n q,Ok s fl->fl.getD k false=true->0<=(o.map s k p n q).1/\(o.map s k p n q).1<=10
 UD:∀s fl k p n,Ok s fl->fl.getD k false=true->0<=(o.qX s k p n).1/\(o.qX s k p n).1<=10
 IP:∀s fl k p n q,Ok s fl->fl.getD k false=true->0<=(o.ko s k p n q).1/\(o.ko s k p n q).1<=10
 few:∀s fl,Ok s fl->fl.length<=4
 drop:∀s fl k,Ok s fl->fl.getD k false=true->Ok (o.drop s k) (fl.set k false)
def bY (ps:List bT):List Bool:=ps.map (λp=>decide (p.st=1))
theorem Mm (ps:List bT) (k:Nat):(bY ps).getD k false=(decide (k<ps.length)&&decide ((aO ps k).st=1)):=by
 unfold bY aO;rw[cB,cB,vQ];by_cases h:k<ps.length
 . rw[fF h,fD h];simp
 rw[Gr ω,fE h];rfl
theorem DF (ps:List bT) (k:Nat) (p:bT):bY (ps.set k p)=(bY ps).set k (decide (p.st=1)):=by
 unfold bY;rw[Ny]
theorem TA (ps:List bT) (p:bT):bY (ps++[p])=bY ps++[decide (p.st=1)]:=by
 unfold bY;rw[tF];rfl
open Go.RowKit
variable {σ:Type}
theorem sD (n:Int):cH (wrap64 n):=by
 unfold cH wrap64;have:=T9 n;omega
theorem af4 (n:Int):cH (IntKind.i64.wrap n):=by
 unfold cH;have:=T9 n;omega
def tY (p:bT):Prop:=(∀j,j<8->cH (p.r j))/\cH p.pc
theorem aiE {p:bT} (h:tY p) (j:Nat) {v:Int} (hv:cH v):tY (p.set j v):=by
 refine⟨λq hq=>?_,h.2⟩;show cH (if q=j then v else p.r q);split
 . exact hv
 exact h.1 q hq
theorem QZ {p:bT} (h:tY p) {v:Int} (hv:cH v):tY { p with pc:=v }:=⟨h.1,hv⟩
theorem pD {α:Type} (P:α->Prop) {c:Prop} [Decidable c] {a b:α} (h1:c->P a) (h2:¬c->P b):P (if c then a else b):=by
 by_cases h:c
 . rw[aC h];exact h1 h
 rw[aB h];exact h2 h
theorem ac6 {i:eu} (hb:i.bad=false):1<=i.op/\i.op<=16:=by
 unfold eu.bad at hb;by_cases h12:i.op=12
 . omega
 by_cases Xw:i.op=16
 . omega
 rw[aB h12,aB Xw] at hb;by_cases c1:i.op=1\/i.op=11\/i.op=15
 . omega
 rw[aB c1] at hb;by_cases c2:2<=i.op/\i.op<=7
 . omega
 rw[aB c2] at hb;by_cases c3:i.op=8\/i.op=13\/i.op=14
 . omega
 rw[aB c3] at hb;by_cases c4:i.op=9\/i.op=10
 . omega
 rw[aB c4] at hb;cases hb
theorem af7 {i:eu} (hb:i.bad=false) (hf:i.fits):(i.op=15->i.a.toNat<8)/\(2<=i.op/\i.op<=7->i.b.toNat<8):=by
 obtain⟨_,⟨a0,a1⟩,⟨b0,b1⟩,_⟩:=hf;unfold eu.bad at hb;constructor
 . intro h;simp[h] at hb;omega
 intro h;rw[aB ω,aB ω,aB ω,aC h,decide_eq_false_iff_not] at hb;omega
theorem J3 (P:bT->Prop) (p:bT) (i:eu) (v:Int) (hb:i.bad=false)
  (h0:P { p with pc:=wrap64 (p.pc+8) }) (hs:∀j x,(x=i.m\/x=v\/(∃y,x=wrap64 y)\/(2<=i.op/\i.op<=7/\x=Ru i.op (p.r i.b.toNat) (p.r i.c.toNat)))->P (({ p with pc:=wrap64 (p.pc+8) }:bT).set j x))
  (hp:∀y,P { p with pc:=wrap64 y }) (hg:i.op=15->P { p with pc:=p.r i.a.toNat }) (he:i.op=16->i.m=6->P { p with pc:=wrap64 (p.pc+8),st:=2,cd:=p.r 0 }):P (eN p i v):=by
 have hr:=ac6 hb;unfold eN;simp only;refine pD P (λ_=>hs _ _ (.inl rfl)) (λn1=>?_);refine pD P (λg=>hs _ _ (.inr (.inr (.inr ⟨g.1,g.2,rfl⟩)))) (λn2=>?_);refine pD P (λ_=>hs _ _ (.inr (.inr (.inl ⟨_,rfl⟩)))) (λn3=>?_);refine pD P (λ_=>hs _ _ (.inr (.inl rfl))) (λn4=>?_);refine pD P (λ_=>h0) (λn5=>?_);refine pD P (λ_=>hs _ _ (.inr (.inr (.inl ⟨_,rfl⟩)))) (λn6=>?_);refine pD P (λ_=>hp _) (λn7=>?_);refine pD P (λ_=>pD P (λ_=>hp _) (λ_=>h0)) (λn8=>?_);refine pD P (λ_=>pD P (λ_=>hp _) (λ_=>h0)) (λn9=>?_);refine pD P (λg=>hg g) (λn10=>?_);refine pD P (λg=>he ω g) (λn11=>?_);refine pD P (λ_=>h0) (λn12=>?_);exact hs _ _ (.inr (.inl rfl))
theorem ac3 {p:bT} {i:eu} {v:Int} (h:i.op=16) (h6:i.m=6):eN p i v={ p with pc:=wrap64 (p.pc+8),st:=2,cd:=p.r 0 }:=by
 unfold eN;simp[h,h6]
theorem Nh {p:bT} {i:eu} {v:Int} (hb:i.bad=false) (h:¬(i.op=16/\i.m=6)):(eN p i v).st=p.st :=
 J3 (λq=>q.st=p.st) p i v hb rfl (λ_ _ _=>rfl) (λ_=>rfl) (λ_=>rfl) (λg1 g2=>(h ⟨g1,g2⟩).elim)
theorem Mn {p:bT} {i:eu} {v:Int} (hb:i.bad=false) (h:p.st=1) (hr:eV p=true):eV (eN p i v)=true:=by
 have h2:p.cd=0/\p.fk=0/\p.fa=0:=by
  unfold eV zX at hr;rw[aC h] at hr;simp only[cK,fX] at hr;exact hr
 have b:∀q:bT,q.st=1->q.cd=0->q.fk=0->q.fa=0->eV q=true:=λq e1 e2 e3 e4=>by
  unfold eV zX;rw[aC e1,e2,e3,e4];rfl
 refine J3 (λq=>eV q=true) p i v hb (b _ h h2.1 h2.2.1 h2.2.2) (λ_ _ _=>b _ h h2.1 h2.2.1 h2.2.2) (λ_=>b _ h h2.1 h2.2.1 h2.2.2) (λ_=>b _ h h2.1 h2.2.1 h2.2.2) (λ_ _=>?_);unfold eV zX;simp[h2]
theorem ali (op b c:Int) (hb:cH b):cH (Ru op b c):=by
 have q:∀o,cH (bits o .i64 b c):=λo=>by
  unfold bits;exact af4 _
 unfold Ru
 repeat' split
 all_goals first | exact sD _ | exact q _
theorem SH {p:bT} {i:eu} {v:Int} (h:tY p) (hv:cH v) (hb:i.bad=false) (hf:i.fits):tY (eN p i v):=by
 have hn:tY { p with pc:=wrap64 (p.pc+8) }:=QZ h (sD _);have hm:cH i.m:=by obtain⟨_,_,_,_,m0,m1⟩:=hf;unfold cH;omega
 have b:=af7 hb hf;refine J3 tY p i v hb hn (λj x hx=>aiE hn j ?_) (λ_=>QZ h (sD _)) (λg=>QZ h (h.1 _ (b.1 g))) (λ_ _=>⟨hn.1,hn.2⟩);rcases hx with e | e | ⟨y,e⟩ | ⟨g1,g2,e⟩
 . rw[e];exact hm
 . rw[e];exact hv
 . rw[e];exact sD _
 rw[e];exact ali _ _ _ (h.1 _ (b.2 ⟨g1,g2⟩))
open Go.RowKit
open Go.RowKit
variable {σ:Type}
structure ez (Ok:σ->List Bool->Prop) (st:dB σ):Prop where
 mem:Ok st.mem (bY st.ps)
 fit:∀k,k<st.ps.length->tY (aO st.ps k)
 right:∀k,k<st.ps.length->eV (aO st.ps k)=true
 words:∀x∈st.out,0<=x.proc/\x.proc<(st.ps.length:Int)
 out:st.out.length<=2000
theorem EE (ps:List bT) (k j:Nat) (p:bT) (hk:k<ps.length):aO (ps.set k p) j=if j=k then p else aO ps j:=by
 unfold aO;rw[cB,cB,xt];by_cases h:j=k
 . rw[aC h,aC h.symm];subst h;rw[aC hk];rfl
 rw[aB h,aB (λg=>h g.symm)]
theorem Hr (ps:List bT) (p:bT) (j:Nat):aO (ps++[p]) j=if j<ps.length then aO ps j else if j=ps.length then p else Hz:=by
 unfold aO;rw[cB,cB];by_cases h:j<ps.length
 . rw[aC h,Eb h]
 rw[aB h,yx ω];by_cases h2:j=ps.length
 . rw[aC h2,h2,D4];rfl
 rw[aB h2];obtain⟨d,hd⟩:∃d,j-ps.length=d+1:=⟨j-ps.length-1,ω⟩;rw[hd];rfl
theorem Zd (i:eu) (ps:List bT):qV i ps.length ps=ps:=by
 unfold qV;rw[qJ,aaI];simp
theorem ac5 (i:eu) (ps:List bT) (n:Nat) (h:n=ps.length):qV i n ps=ps:=by rw[h];exact Zd i ps
theorem ac4 (i:eu) (ps:List bT) (p:bT) (n:Nat) (h:n=ps.length):qV i n (ps++[p])=ps++[eN p i 0]:=by
 subst h;unfold qV;rw[List.take_left,List.drop_left];rfl
theorem af5 (ps:List bT) (p q:bT) (k:Nat) (h:k<ps.length):(ps++[p]).set k q=ps.set k q++[p]:=by
 rw[NL _ _ h]
section
variable {Ok:σ->List Bool->Prop}
theorem EF {st:dB σ} {m:σ} (h:ez Ok st) (hm:Ok m (bY st.ps)):ez Ok { st with mem:=m }:=⟨hm,h.fit,h.right,h.words,h.out⟩
theorem lY {st:dB σ} (k:Nat) (hk:k<st.ps.length) (h1:(aO st.ps k).st=1):(bY st.ps).getD k false=true:=by
 rw[Mm,fD hk,fD h1];rfl
theorem WR {st:dB σ} (h:ez Ok st) (k:Nat) (hk:k<st.ps.length) (h1:(aO st.ps k).st=1) {i:eu} {v:Int} (hv:cH v) (hb:i.bad=false) (hf:i.fits) {m:σ} (hm:Ok m (if i.op=16/\i.m=6 then (bY st.ps).set k false else bY st.ps)) :
  ez Ok { st with mem:=m,ps:=st.ps.set k (eN (aO st.ps k) i v) }:=by
 have b:(st.ps.set k (eN (aO st.ps k) i v)).length=st.ps.length:=dE;refine⟨?_,λj hj=>?_,λj hj=>?_,λx hx=>?_,h.out⟩
 . show Ok m (bY (st.ps.set k (eN (aO st.ps k) i v)));rw[DF];by_cases c:i.op=16/\i.m=6
   . rw[aC c] at hm;rw[ac3 c.1 c.2];exact hm
   rw[aB c] at hm;rw[Nh hb c,fD h1];have e:(bY st.ps).set k true=bY st.ps:=by
    apply Af;intro j;rw[xt];by_cases e:k=j
    . subst e;have y:k<(bY st.ps).length:=by unfold bY;rw[fI];exact hk
      have hg:=lY k hk h1;rw[cB,fF y] at hg;rw[aC rfl,aC y,fF y];exact dC some hg.symm
    rw[aB e]
   rw[e];exact hm
 . have q:j<st.ps.length:=b ▸ hj;show tY (aO (st.ps.set k _) j);rw[EE _ _ _ _ hk];split
   . exact SH (h.fit k hk) hv hb hf
   exact h.fit j q
 . have q:j<st.ps.length:=b ▸ hj;show eV (aO (st.ps.set k _) j)=true;rw[EE _ _ _ _ hk];split
   . exact Mn hb h1 (h.right k hk)
   exact h.right j q
 have:=h.words x hx;show 0<=x.proc/\x.proc<((st.ps.set k _).length:Int);rw[b];exact this
theorem aiD {st:dB σ} (h:ez Ok st) {p:bT} (hf:tY p) (hr:eV p=true) {m:σ} (hm:Ok m (bY st.ps++[decide (p.st=1)])):ez Ok { st with mem:=m,ps:=st.ps++[p] }:=by
 have b:(st.ps++[p]).length=st.ps.length+1:=by simp
 refine⟨?_,λj hj=>?_,λj hj=>?_,λx hx=>?_,h.out⟩
 . show Ok m (bY (st.ps++[p]));rw[TA];exact hm
 . have q:j<st.ps.length+1:=b ▸ hj;show tY (aO (st.ps++[p]) j);rw[Hr];by_cases c:j<st.ps.length
   . rw[aC c];exact h.fit j c
   rw[aB c,aC ω];exact hf
 . have q:j<st.ps.length+1:=b ▸ hj;show eV (aO (st.ps++[p]) j)=true;rw[Hr];by_cases c:j<st.ps.length
   . rw[aC c];exact h.right j c
   rw[aB c,aC ω];exact hr
 have:=h.words x hx;show 0<=x.proc/\x.proc<((st.ps++[p]).length:Int);rw[b];omega
theorem af6 (s:ByteArray):cH (CK s):=by
 unfold CK;split
 . exact sD _
 unfold cH;omega
theorem EG {i:eu} (hb:i.bad=false) (h:i.op=9\/i.op=10):1<=i.c/\i.c<=8:=by
 unfold eu.bad at hb;rw[aB ω,aB ω,aB ω,aB ω,aB ω,aC h] at hb;unfold uv at hb;simp at hb;omega
theorem Hq (v n:Int):(oJ v n).size=n.toNat:=by
 unfold oJ;show(Lib.leBytes n.toNat (kz v)).toArray.size=n.toNat
 simp[Lib.leBytes_length]
structure aph (Ok:σ->List Bool->Prop) (st:dB σ) (k:Nat) (i:eu) (y:(Int×(Int×Int))×dB σ):Prop where
 fault:¬y.1.2.1=0->y.2.ps=st.ps/\ez Ok y.2
 plain:y.1.2.1=0->(y.2.ps=st.ps/\Ok y.2.mem (if i.op=16/\i.m=6 then (bY st.ps).set k false else bY st.ps)\/(¬(i.op=16/\i.m=6))/\y.2.ps=st.ps++[aO st.ps k]/\Ok y.2.mem (bY st.ps++[true]))/\cH y.1.1/\i.bad=false
 words:∀x∈y.2.out,0<=x.proc/\x.proc<(st.ps.length:Int)
 out:y.2.out.length<=st.out.length+1
 kind:¬y.1.2.1=0->1<=y.1.2.1/\y.1.2.1<=4
theorem J5 {o:lK σ} (ho:tj o Ok) {st:dB σ} (h:ez Ok st) (k:Nat) (hk:k<st.ps.length) (h1:(aO st.ps k).st=1) (i:eu) (hf:i.fits):aph Ok st k i (gS o st k i):=by
 have hl:=lY k hk h1;have y:cH 0:=by unfold cH;omega
 have h4:=ho.few _ _ h.mem;have B:st.ps.length<=4:=by unfold bY at h4;rw[fI] at h4;exact h4
 unfold gS;by_cases hb:i.bad=true
 . rw[aC hb];exact⟨λ_=>⟨rfl,h⟩,λg=>by simp at g,h.words,qI _,λ_=>ξ⟩
 have q:i.bad=false:=by simpa using hb
 rw[aB hb];by_cases c9:i.op=9
 . rw[aC c9];have hm:=ho.load st.mem _ k (wrap64 ((aO st.ps k).r i.b.toNat+i.m)) i.c 0 h.mem hl;have A:=ho.fault st.mem _ k (wrap64 ((aO st.ps k).r i.b.toNat+i.m)) i.c 0 h.mem hl;exact⟨λ_=>⟨rfl,EF h hm⟩,λg=>⟨.inl ⟨rfl,by rw[aB ω];exact hm⟩,af6 _,q⟩,h.words,qI _,λg=>⟨by have:¬(o.load st.mem k (wrap64 ((aO st.ps k).r i.b.toNat+i.m)) i.c 0).1.2.1=0:=g;show 1<=(o.load st.mem k (wrap64 ((aO st.ps k).r i.b.toNat+i.m)) i.c 0).1.2.1;omega,A.2.1⟩⟩
 rw[aB c9];by_cases c10:i.op=10
 . rw[aC c10];have hm:=ho.store st.mem _ k (wrap64 ((aO st.ps k).r i.b.toNat+i.m)) (oJ ((aO st.ps k).r i.a.toNat) i.c) h.mem hl (by rw[Hq];have:=EG q (.inr c10);omega) (by rw[Hq];have:=EG q (.inr c10);omega);have A:=ho.UN st.mem _ k (wrap64 ((aO st.ps k).r i.b.toNat+i.m)) (oJ ((aO st.ps k).r i.a.toNat) i.c) h.mem hl;exact⟨λ_=>⟨rfl,EF h hm⟩,λg=>⟨.inl ⟨rfl,by rw[aB ω];exact hm⟩,y,q⟩,h.words,qI _,λg=>⟨by have:¬(o.store st.mem k (wrap64 ((aO st.ps k).r i.b.toNat+i.m)) (oJ ((aO st.ps k).r i.a.toNat) i.c)).1.1=0:=g;show 1<=(o.store st.mem k (wrap64 ((aO st.ps k).r i.b.toNat+i.m)) (oJ ((aO st.ps k).r i.a.toNat) i.c)).1.1;omega,A.2.1⟩⟩
 rw[aB c10];by_cases c16:i.op=16
 . rw[aC c16];unfold iH;by_cases d1:i.m=1
   . rw[aC d1];refine⟨λg=>(g rfl).elim,λ_=>⟨.inl ⟨rfl,by rw[aB ω];exact h.mem⟩,y,q⟩,λx hx=>?_,ξ,λg=>(g rfl).elim⟩;rcases kJ.1 hx with g | g
     . exact h.words x g
     rw[List.mem_singleton.1 g];show 0<=(k:Int)/\(k:Int)<_;omega
   rw[aB d1];by_cases d2:i.m=2
   . rw[aC d2];have hm:=ho.map st.mem _ k ((aO st.ps k).r 0) ((aO st.ps k).r 1) ((aO st.ps k).r 2) h.mem hl;have hv:=ho.alP st.mem _ k ((aO st.ps k).r 0) ((aO st.ps k).r 1) ((aO st.ps k).r 2) h.mem hl;exact⟨λg=>(g rfl).elim,λ_=>⟨.inl ⟨rfl,by rw[aB ω];exact hm⟩,by unfold cH;show -9223372036854775808<=(o.map st.mem k ((aO st.ps k).r 0) ((aO st.ps k).r 1) ((aO st.ps k).r 2)).1/\(o.map st.mem k ((aO st.ps k).r 0) ((aO st.ps k).r 1) ((aO st.ps k).r 2)).1<=_;omega,q⟩,h.words,qI _,λg=>(g rfl).elim⟩
   rw[aB d2];by_cases d3:i.m=3
   . rw[aC d3];have hm:=ho.qX st.mem _ k ((aO st.ps k).r 0) ((aO st.ps k).r 1) h.mem hl;have hv:=ho.UD st.mem _ k ((aO st.ps k).r 0) ((aO st.ps k).r 1) h.mem hl;exact⟨λg=>(g rfl).elim,λ_=>⟨.inl ⟨rfl,by rw[aB ω];exact hm⟩,by unfold cH;show -9223372036854775808<=(o.qX st.mem k ((aO st.ps k).r 0) ((aO st.ps k).r 1)).1/\(o.qX st.mem k ((aO st.ps k).r 0) ((aO st.ps k).r 1)).1<=_;omega,q⟩,h.words,qI _,λg=>(g rfl).elim⟩
   rw[aB d3];by_cases d4:i.m=4
   . rw[aC d4];have hm:=ho.ko st.mem _ k ((aO st.ps k).r 0) ((aO st.ps k).r 1) ((aO st.ps k).r 2) h.mem hl;have hv:=ho.IP st.mem _ k ((aO st.ps k).r 0) ((aO st.ps k).r 1) ((aO st.ps k).r 2) h.mem hl;exact⟨λg=>(g rfl).elim,λ_=>⟨.inl ⟨rfl,by rw[aB ω];exact hm⟩,by unfold cH;show -9223372036854775808<=(o.ko st.mem k ((aO st.ps k).r 0) ((aO st.ps k).r 1) ((aO st.ps k).r 2)).1/\(o.ko st.mem k ((aO st.ps k).r 0) ((aO st.ps k).r 1) ((aO st.ps k).r 2)).1<=_;omega,q⟩,h.words,qI _,λg=>(g rfl).elim⟩
   rw[aB d4];by_cases d5:i.m=5
   . rw[aC d5];by_cases f0:(o.fork st.mem k).1=0
     . rw[aC f0];have hm:=ho.NV st.mem _ k h.mem hl f0;exact⟨λg=>(g rfl).elim,λ_=>⟨.inr ⟨ω,rfl,hm⟩,by unfold cH;show -9223372036854775808<=(st.ps.length:Int)/\(st.ps.length:Int)<=_;omega,q⟩,h.words,qI _,λg=>(g rfl).elim⟩
     rw[aB f0];have hm:=ho.UM st.mem _ k h.mem hl f0;exact⟨λg=>(g rfl).elim,λ_=>⟨.inl ⟨rfl,by rw[aB ω];exact hm⟩,by unfold cH;show -9223372036854775808<=(-1:Int)/\(-1:Int)<=_;omega,q⟩,h.words,qI _,λg=>(g rfl).elim⟩
   rw[aB d5];by_cases d6:i.m=6
   . rw[aC d6];have hm:=ho.drop st.mem _ k h.mem hl;exact⟨λg=>(g rfl).elim,λ_=>⟨.inl ⟨rfl,by rw[aC ⟨c16,d6⟩];exact hm⟩,y,q⟩,h.words,qI _,λg=>(g rfl).elim⟩
   rw[aB d6];exact⟨λg=>(g rfl).elim,λ_=>⟨.inl ⟨rfl,by rw[aB ω];exact h.mem⟩,y,q⟩,h.words,qI _,λg=>(g rfl).elim⟩
 rw[aB c16];exact⟨λg=>(g rfl).elim,λ_=>⟨.inl ⟨rfl,by rw[aB ω];exact h.mem⟩,y,q⟩,h.words,qI _,λg=>(g rfl).elim⟩
end
open Go.RowKit
variable {σ:Type} {Ok:σ->List Bool->Prop}
structure alj (Ok:σ->List Bool->Prop) (st:dB σ) (r:(Int×Int)×dB σ):Prop where
 ok:ez Ok r.2
 same:¬r.1.1=0->r.2.ps=st.ps
 kind:¬r.1.1=0->1<=r.1.1/\r.1.1<=4
theorem Ni {o:lK σ} (ho:tj o Ok) {st:dB σ} (h:ez Ok st) (hout:st.out.length<2000) (k:Nat) (hk:k<st.ps.length) (h1:(aO st.ps k).st=1):alj Ok st (oh o st k):=by
 have hl:=lY k hk h1;have hm:=ho.load st.mem _ k (aO st.ps k).pc 8 2 h.mem hl;have K:=ho.fault st.mem _ k (aO st.ps k).pc 8 2 h.mem hl;have J:=ho.size st.mem _ k (aO st.ps k).pc 8 2 h.mem hl ω ω;unfold oh;simp only;generalize o.load st.mem k (aO st.ps k).pc 8 2=x at hm K J ⊢;have g1:ez Ok { st with mem:=x.2 }:=EF h hm;by_cases c:x.1.2.1=0
 . rw[aB (λg=>g c)];have b:(iC x.1.1).fits:=Ec _ (by have:=J c;omega);generalize iC x.1.1=i at b ⊢;have hL:=J5 ho g1 k hk h1 i b;generalize gS o { st with mem:=x.2 } k i=y at hL ⊢;by_cases d:y.1.2.1=0
   . rw[aB (λg=>g d)];obtain⟨hp,hv,hb⟩:=hL.plain d;have hw:∀z∈y.2.out,0<=z.proc/\z.proc<(st.ps.length:Int):=hL.words;have G:y.2.out.length<=2000:=by have:=hL.out;simp only at this;omega
     refine⟨?_,λg=>(g rfl).elim,λg=>(g rfl).elim⟩;rcases hp with⟨e,B⟩ | ⟨A,e,B⟩
     . have e':y.2.ps=st.ps:=e;have q:st.ps.length=(y.2.ps.set k (eN (aO y.2.ps k) i y.1.1)).length:=by rw[dE,e']
       rw[ac5 _ _ _ q,e'];have base:ez Ok { st with out:=y.2.out }:=⟨h.mem,h.fit,h.right,hw,G⟩;exact WR base k hk h1 hv hb b (m:=y.2.mem) B
     have e':y.2.ps=st.ps++[aO st.ps k]:=e;have q:st.ps.length=(st.ps.set k (eN (aO st.ps k) i y.1.1)).length:=by rw[dE]
     have L:aO (st.ps++[aO st.ps k]) k=aO st.ps k:=by rw[Hr,aC hk]
     rw[e',L,af5 _ _ _ _ hk,ac4 _ _ _ _ q];have M:(eN (aO st.ps k) i 0).st=1:=by rw[Nh hb A];exact h1
     have base:ez Ok { st with out:=y.2.out }:=⟨h.mem,h.fit,h.right,hw,G⟩;have hz:cH 0:=by unfold cH;omega
     have d1:=WR base k hk h1 hv hb b (m:=st.mem) (by rw[aB A];exact h.mem);have hr:bY (st.ps.set k (eN (aO st.ps k) i y.1.1))=bY st.ps:=by
      rw[DF,Nh hb A,fD h1];apply Af;intro j;rw[xt];by_cases e:k=j
      . subst e;have F:k<(bY st.ps).length:=by unfold bY;rw[fI];exact hk
        have hg:=lY k hk h1;rw[cB,fF F] at hg;rw[aC rfl,aC F,fF F];exact dC some hg.symm
      rw[aB e]
     exact aiD d1 (SH (h.fit k hk) hz hb b) (Mn hb h1 (h.right k hk)) (m:=y.2.mem) (by
      show Ok y.2.mem (bY (st.ps.set k (eN (aO st.ps k) i y.1.1))++_);rw[hr,M];exact B)
   rw[aC d];obtain⟨e,g2⟩:=hL.fault d;exact⟨g2,λ_=>e,λ_=>hL.kind d⟩
 rw[aC c];exact⟨g1,λ_=>rfl,λ_=>⟨by show 1<=x.1.2.1;omega,K.2.1⟩⟩
theorem Zc {p:bT} {x:Int×Int} (h:p.st=1) (hr:eV p=true) (h1:1<=x.1) (h4:x.1<=4):eV (Bi p x)=true:=by
 have h2:p.cd=0:=by
  unfold eV at hr;rw[aC h] at hr;simp only[cK,fX] at hr;exact hr.1
 unfold eV Bi;simp only;rw[aB Δ,aB Δ,aC trivial,h2,fD (show 1<=x.1/\x.1<=4 from⟨h1,h4⟩)];rfl
theorem aiC {o:lK σ} (ho:tj o Ok) {st:dB σ} (h:ez Ok st) (pick:Int):ez Ok (gN o st pick).2:=by
 unfold gN;by_cases c:0<=pick/\pick<(st.ps.length:Int)
 . rw[aB (λg=>g c)];by_cases c1:(aO st.ps pick.toNat).st=1
   . rw[aB (λg=>g c1)];by_cases c2:2000<=st.out.length
     . rw[aC c2];exact h
     rw[aB c2];have hk:pick.toNat<st.ps.length:=by omega
     have hd:=Ni ho h ω pick.toNat hk c1;simp only;generalize oh o st pick.toNat=r at hd ⊢;by_cases c3:r.1.1=0
     . rw[aC c3];exact hd.ok
     rw[aB c3];have e:=hd.same c3;have q:pick.toNat<r.2.ps.length:=by rw[e];exact hk
     have c4:(aO r.2.ps pick.toNat).st=1:=by rw[e];exact c1
     have b:(r.2.ps.set pick.toNat (Bi (aO r.2.ps pick.toNat) r.1)).length=r.2.ps.length:=dE;refine⟨?_,λj hj=>?_,λj hj=>?_,λx hx=>?_,hd.ok.out⟩
     . show Ok _ (bY (r.2.ps.set _ _));rw[DF];exact ho.drop _ _ _ hd.ok.mem (lY _ q c4)
     . have y:j<r.2.ps.length:=b ▸ hj;show tY (aO (r.2.ps.set _ _) j);rw[EE _ _ _ _ q];split
       . exact hd.ok.fit _ q
       exact hd.ok.fit j y
     . have y:j<r.2.ps.length:=b ▸ hj;show eV (aO (r.2.ps.set _ _) j)=true;rw[EE _ _ _ _ q];split
       . exact Zc c4 (hd.ok.right _ q) (hd.kind c3).1 (hd.kind c3).2
       exact hd.ok.right j y
     have:=hd.ok.words x hx;show 0<=x.proc/\x.proc<((r.2.ps.set _ _).length:Int);rw[b];exact this
   rw[aC c1];exact h
 rw[aC c];exact h
theorem yn {o:lK σ} (ho:tj o Ok) {st:dB σ} (h:ez Ok st) (picks:List Int):∀n s,fq o picks n (some st)=some s->ez Ok s
 | 0,s,e=>by injection e with e;rw[<- e];exact h
 | n+1,s,e=>by
  unfold fq at e;cases hq:fq o picks n (some st) with
  | none=>rw[hq] at e;cases e
  | some q =>
   rw[hq] at e;have hq':=yn ho h picks n q hq;simp only at e;by_cases c:(gN o q (picks.getD n 0)).1=2
   . rw[aC c] at e;cases e
   rw[aB c] at e;injection e with e;rw[<- e];exact aiC ho hq' _
end Go.Proofs.YtlgoihmkgaaemaaGreat
