import Derived.Test.YtlgoihmkgaaemaaGreatGQ04
import Derived.Lib.Repeat
set_option maxHeartbeats 20000000
set_option linter.unusedVariables false
set_option maxRecDepth 100000
set_option linter.unusedSimpArgs false
namespace Go.Proofs.YtlgoihmkgaaemaaGreat
open Go.RowKit Tryz
theorem ad1 (ys:List IH) (k:Nat) (h:k<ys.length):iy (ys.map (·.name)) k=(nu ys k).name:=by
 grind [iy,nu]
theorem XN (L:List ByteArray) (ys:List IH) (hL:L=ys.map (·.name)) (ao:Option Addr) (cap:Nat) (w:World) (h:dG EL w ao ys) (hn:ys.length<=12) :
  Calls prog 163 #[.slice ao ys.length cap] w λe w'=>(∃Fl cap',e=.returned (.slice Fl L.length cap')/\dG Gy w' Fl L)/\Below w.heap.size w w':=by
 subst hL;exact UW ys ao cap w h hn
variable {w w':World} {m:Nat} {D:DataW Value} {all:List fy} (l:List fw)
theorem at0 {b:Nat} {a0 a1 a2 a3 a4 a5:Value} {t:TypeId} (h:w.heap[b]?=some (.cells #[a0,a1,a2,a3,a4,a5] t (0,0))):w.cell? (Ad b 0)=some a0/\w.cell? (Ad b 1)=some a1/\w.cell? (Ad b 2)=some a2/\w.cell? (Ad b 3)=some a3/\w.cell? (Ad b 4)=some a4/\w.cell? (Ad b 5)=some a5:=⟨aA h 0 rfl,aA h 1 rfl,aA h 2 rfl,aA h 3 rfl,aA h 4 rfl,aA h 5 rfl⟩
theorem ad5 (i:sO) (a:II) (w:World) (h:l9 w a i) (hf:BH i):Calls prog 109 #[.agg (gI a i)] w λe w'=>e=.returned (I (gQ i))/\Below w.heap.size w w':=by
 obtain⟨an,cn,ag,cg,ay,cy,ar,cr⟩:=a;obtain⟨nm,ns,gs,ys,rs,en⟩:=i;have HI:=aq h;have HF:=aq hf;have FY:Hid (∀k,k<(ys.map (·.name)).length->bD (iy (ys.map (·.name)) k).size):=λk hk=>by
  have q:k<ys.length:=by grind
  rw[ad1 ys k q];exact(hf.sym k q).1
 obtain⟨L,hL⟩:=ex (ys.map (·.name));rw[<- hL] at FY;have HL:=aq hL;have B:ys.length<=12->bD L.length:=λh=>by grind [bD]
 clear hL;clear h hf;simp only[gI];have HB:=aq ((aN w.heap.size w).alloc (aK _) (.cells #[.string nm,.slice an ns.length cn,.slice ag gs.length cg,.slice ay ys.length cy,.slice ar rs.length cr,I en] 56));have BX:=aq (bH w #[.string nm,.slice an ns.length cn,.slice ag gs.length cg,.slice ay ys.length cy,.slice ar rs.length cr,I en] 56);cases e1:N8 ⟨nm,ns,gs,ys,rs,en⟩;rotate_left 1;cases e2:Fz ⟨nm,ns,gs,ys,rs,en⟩;rotate_left 1;have b:=jY e2;simp only at b;have A:ys.length<=12:=b.2.2.2.1;have G:=B A;clear b B;cases e3:gs.all lM;rotate_left 1;cases e4:C9 gs;rotate_left 1;cases e5:ry ns;rotate_left 1;cases e6:ry L;rotate_left 1;cases e7:ys.all (λy=>eH gs y.pos);rotate_left 1;cases e8:mS ⟨nm,ns,gs,ys,rs,en⟩ rs.length;rotate_left 1;cases e9:Fy ⟨nm,ns,gs,ys,rs,en⟩
 all_goals
  have HR:Hid (∀C,C=gQ ⟨nm,ns,gs,ys,rs,en⟩->Ending.returned (I C)=.returned (I (gQ ⟨nm,ns,gs,ys,rs,en⟩))):=λC h=>by rw[h]
  go_enter func109,ntmps109;go_wp2_with ((first
   | (go_at_call 162;refine(Ro L Fl F _ HY.o G FY.o).mono ?_;rintro e w' ⟨rfl,hb⟩;rw[e6])
   | (go_at_call 158;refine(Qu ⟨nm,ns,gs,ys,rs,en⟩ ⟨an,cn,ag,cg,ay,cy,ar,cr⟩ _ (HI.o.below HB.o) HF.o).mono ?_;rintro e w' ⟨rfl,hb⟩;rw[e1])
   | (go_at_call 159;refine(NY ⟨nm,ns,gs,ys,rs,en⟩ ⟨an,cn,ag,cg,ay,cy,ar,cr⟩ _ HF.o).mono ?_;rintro e w' ⟨rfl,hb⟩;rw[e2])
   | (go_at_call 160;refine(NW gs ag cg _ (HI.o.below HB.o).fA HF.o.fA HF.o.seg).mono ?_;rintro e w' ⟨rfl,hb⟩;rw[e3])
   | (go_at_call 161;refine(XO gs ag cg _ (HI.o.below HB.o).fA HF.o.fA e3).mono ?_;rintro e w' ⟨rfl,hb⟩;rw[e4])
   | (go_at_call 162;refine(Ro ns an cn _ (HI.o.below HB.o).needs HF.o.needs HF.o.need).mono ?_;rintro e w' ⟨rfl,hb⟩;rw[e5])
   | (go_at_call 163;refine(XN L ys HL.o ay cy _ (HI.o.below HB.o).syms A).mono ?_;rintro e w' ⟨⟨Fl,F,rfl,hh⟩,hb⟩;have HY:=aq hh;clear hh)
   | (go_at_call 164;refine(Qt ⟨nm,ns,gs,ys,rs,en⟩ ⟨an,cn,ag,cg,ay,cy,ar,cr⟩ _ (HI.o.below HB.o) HF.o e3).mono ?_;rintro e w' ⟨rfl,hb⟩;rw[e7])
   | (go_at_call 165;refine(Qw ⟨nm,ns,gs,ys,rs,en⟩ ⟨an,cn,ag,cg,ay,cy,ar,cr⟩ _ (HI.o.below HB.o) HF.o e3).mono ?_;rintro e w' ⟨rfl,hb⟩;rw[e8])
   | (go_at_call 166;refine(N4 ⟨nm,ns,gs,ys,rs,en⟩ ⟨an,cn,ag,cg,ay,cy,ar,cr⟩ _ (HI.o.below HB.o) HF.o e3).mono ?_;rintro e w' ⟨rfl,hb⟩;rw[e9]));have HB:=aq (HB.o.trans (hb.mono HB.o.size));have BX:=aq (aU BX.o hb (aQ BX.o));obtain⟨q0,q1,q2,q3,q4,q5⟩:=at0 BX.o;clear hb)
  go_ret;exact⟨HR.o _ (by grind [gQ,KM,N7,CY,Hid.o]),HB.o⟩
open Go.RowKit Go.WideMaps Go.Maps
theorem ahk (w:World):(zeroValue 56).run prog w=.ok KN w:=by rfl
def aoF (l:List fy) (w:World) (e:Ending) (w':World):Prop:=Below w.heap.size w w' /\
 if pN l=0 then ∃m D,e=.returned (.tuple #[.map (some m),I 0])/\w'.ownsMap prog 9 RO m l.length D/\Oz l l.length D
 else e=.returned (.tuple #[.map none,I (pN l)])
theorem X8 (l:List fy) (ao:Option Addr) (cap:Nat) (w:World) (h:Cu w ao l) (hf:Uq l):Calls prog 63 #[.slice ao l.length cap] w (aoF l w):=by
 have HH:=aq h;have HF:=aq hf;have hn:l.length<=140737488351232:=hf.1;clear h hf;have Y:=@run_makeMap prog;go_enter func63,ntmps63;go_wp2;go_loopw [12] (λi wr=>∃k:Nat,k<=l.length/\i=I k/\qq l k=0/\Below w.heap.size w wr) (λi _=>l.length-(intOf i).toNat)
 case atStart=>exact⟨0,ω,rfl,rfl,aN _ _⟩
 case round =>
  obtain⟨k,hk,rfl,hz,hb⟩:=hrel;have HZ:=aq hz;have wQ:=aq hb;clear hz;by_cases hlt:k<l.length
  . obtain⟨b,off,K,R,di⟩:=(HH.o.below hb) ω;subst K;obtain⟨⟨c0,c1,c2,c3,c4,c5⟩,hi⟩:=di k hlt;have Qf:=HF.o.2 k hlt;have HE:Hid (qq l (k+1)=gQ (bV l k).i):=by
     show _=_;simp only[qq];rw[aC HZ.o]
    have A:Hid (gQ (bV l k).i≠0->pN l=gQ (bV l k).i):=λg=>by
     have e1:qq l (k+1)≠0:=by rw[HE.o];exact g
     have e2:=I4 l (k+1) e1 l.length ω;unfold pN;rw[e2,aB e1,HE.o]
    generalize bV l k=x at c0 c1 c2 c3 c4 c5 hi Qf HE A;clear di hb;obtain⟨⟨nm,ns,gs,ys,rs,en⟩,⟨an,cn,ag,cg,ay,cy,ar,cr⟩⟩:=x;simp only at c0 c1 c2 c3 c4 c5;have iQ:=aq (wQ.o.alloc wQ.o.size (.cells #[.string nm,.slice an ns.length cn,.slice ag gs.length cg,.slice ay ys.length cy,.slice ar rs.length cr,I en] 56));have HC:Hid (∀W,Below wr.heap.size wr W->Calls prog 109 #[.agg #[.string nm,.slice an ns.length cn,.slice ag gs.length cg,.slice ay ys.length cy,.slice ar rs.length cr,I en]] W λe w'=>e=.returned (I (gQ ⟨nm,ns,gs,ys,rs,en⟩))/\Below W.heap.size W w'):=λV hb=>ad5 ⟨nm,ns,gs,ys,rs,en⟩ ⟨an,cn,ag,cg,ay,cy,ar,cr⟩ V (hi.below hb) Qf
    clear hi Qf;obtain⟨c,hc⟩:=ex (gQ ⟨nm,ns,gs,ys,rs,en⟩);simp only at HE A;rw[<- hc] at HC HE A;clear hc;by_cases hcz:c=0
    . subst hcz;clear A;go_wp2_with (go_at_call 109;refine(HC.o _ ((aN _ _).alloc (aK _) _)).mono ?_;rintro e w1 ⟨rfl,hb⟩;have iQ:=aq (iQ.o.trans (hb.mono iQ.o.size));clear hb);go_roundw
      case rel=>exact⟨k+1,ω,by go_num,HE.o,iQ.o⟩
      case measure=>simp[intOf];omega
    have F:=aq (A.o hcz);have X:(c==0)=false:=by grind
    clear A HE;go_wp2_with (go_at_call 109;refine(HC.o _ ((aN _ _).alloc (aK _) _)).mono ?_;rintro e w1 ⟨rfl,hb⟩;have iQ:=aq (iQ.o.trans (hb.mono iQ.o.size));clear hb)
    go_ret2
    refine⟨iQ.o,?_⟩;rw[F.o,aB hcz];rfl
  obtain rfl:k=l.length:=by omega
  clear hb;obtain⟨m,hm⟩:=ex wr.heap.size;have O:w.heap.size<=m:=by rw[hm];exact wQ.o.size
  have T:Hid ((wr.alloc (.map #[] 0)).ownsMap prog 9 RO m 0 (.map [])):=by
   rw[hm];exact World.ownsMap_made _ _ _ _
  have HM:=aq hm;clear hm;go_wp2;rw[<- HM.o];go_loopw [25] (λi wi=>∃(k:Nat) (D:DataW Value),k<=l.length/\i=I k/\wi.ownsMap prog 9 RO m k D/\Oz l k D/\Below w.heap.size w wi) (λi _=>l.length-(intOf i).toNat)
  case atStart=>exact⟨0,.map [],yt _,rfl,T.o,aht l,wQ.o.alloc wQ.o.size _⟩
  case round =>
   obtain⟨k,D,hk,rfl,q,NU,hb⟩:=hrel;have HW:=aq q;have HN:=aq NU;have Tw:=aq hb;by_cases hlt:k<l.length
   . obtain⟨b,off,K,R,di⟩:=(HH.o.below hb) ω;subst K;obtain⟨⟨c0,c1,c2,c3,c4,c5⟩,hi⟩:=di k hlt;have Qf:=(HF.o.2 k hlt).name;have M:=aq (ahu hlt q.isMap (q.tidy Rs) NU);generalize bV l k=x at c0 c1 c2 c3 c4 c5 Qf M;clear di hb hi q NU;obtain⟨⟨nm,ns,gs,ys,rs,en⟩,⟨an,cn,ag,cg,ay,cy,ar,cr⟩⟩:=x;simp only at c0 c1 c2 c3 c4 c5 Qf;have L:=Qx Qf;have uR:k<maxLen:=by unfold maxLen;omega
     have iQ:=aq (Tw.o.alloc Tw.o.size (.cells #[.string nm,.slice an ns.length cn,.slice ag gs.length cg,.slice ay ys.length cy,.slice ar rs.length cr,I en] 56));have Au:=aq (HW.o.alloc (.cells #[.string nm,.slice an ns.length cn,.slice ag gs.length cg,.slice ay ys.length cy,.slice ar rs.length cr,I en] 56));go_wp2_with (first | (at_mapUpdate;refine aaU _ rfl _ _ _ 124 rfl 9 56 Rs underlying124 RO m k D rfl Au.o uR _ _ _ rfl rfl L _ [] rfl ?_;intro w1 B y;have Q:=aq B;have cD:=aq (iQ.o.grown y iQ.o.size (λj hj=>by cases hj;exact O));clear B y) | go_in);go_roundw
     case rel=>exact⟨k+1,_,ω,by go_num,Q.o,M.o,cD.o⟩
     case measure=>simp[intOf];omega
   obtain rfl:k=l.length:=by omega
   have J:=q.len underlying124 3;have N:=aq HZ.o;by_cases ho:oM (iz l) l.length=true
   . have G:=NU.all.2 ho;have F:Hid (pN l=0):=by
      show _=_;unfold pN ry;rw[aC N.o,oF,ho];rfl
     rw[G] at J;clear q NU hb G ho;go_wp2
     go_ret2
     refine⟨Tw.o,?_⟩;rw[F.o,aC rfl];exact⟨_,D,rfl,HW.o,HN.o⟩
   have G:Maps.size D<l.length:=by
    have h1:=NU.le;have h2:=NU.all;rcases Nz (Maps.size D) l.length with g | g
    . exact g
    exact(ho (h2.1 ω)).elim
   have F:Hid (pN l=5):=by
    show _=_;unfold pN ry;rw[aC N.o,oF,aB ho]
   generalize Maps.size D=z at J G;have U:(z:Int)<(l.length:Int):=by omega
   clear q NU hb ho;go_wp2
   go_ret2
   refine⟨Tw.o,?_⟩;rw[F.o,aB Δ];rfl
open Go.RowKit
def AQ (l:List fw) (s:ByteArray):Bool:=l.any (λo=>decide (o.i.name=s))
theorem ZV (s:ByteArray) (k:Nat) (hk:k<l.length) (h:(bE l k).i.name=s):AQ l s=true:=by
 grind [AQ,bE]
theorem RA (s:ByteArray) (h:∀k,k<l.length->(bE l k).i.name≠s):AQ l s=false:=by
 grind [AQ,List.getElem_of_mem,bE]
theorem Vi (ao:Option Addr) (cap:Nat) (P:Nat) (s:ByteArray) (w:World) (h:Ei w ao l) (hn:bD l.length) (hsh:∀k,k<l.length->bD (bE l k).i.name.size) (hP:w.cell? (Ad P 0)=some (.string s)) (hs:bD s.size) :
  Calls prog 167 #[.slice ao l.length cap,.func (.func 111) #[] #[.pointer (some (Ad P 0))]] w λe w'=>(∃r:Int,e=.returned (I r)/\decide (0<=r)=AQ l s)/\Below w.heap.size w w':=by
 have HH:=aq h;have G:=aq hsh;have A:P<w.heap.size:=jL w _ hP;have HP:=aq hP;unfold bD at hn;clear h hsh hP;go_enter func167,ntmps167;go_wp2;go_loopw [8] (λi wr=>∃k:Nat,k<=l.length/\i=I k/\(∀j,j<k->(bE l j).i.name≠s)/\Below w.heap.size w wr) (λi _=>l.length-(intOf i).toNat)
 case atStart=>grind [Below.refl]
 case round =>
  obtain⟨k,hk,rfl,q,hb⟩:=hrel;have sk:=aq q;have wQ:=aq hb;clear q;by_cases hlt:k<l.length
  . obtain⟨b,off,B,J,di⟩:=(HH.o.below hb) ω;subst B;obtain⟨⟨c0,c1,c2,c3,c4,c5,c6⟩,-⟩:=di k hlt;have y:=G.o k hlt;have HY:Hid ((bE l k).i.name=s->AQ l s=true):=λe=>ZV l s k hlt e
    have HZ:Hid ((bE l k).i.name≠s->∀j,j<k+1->(bE l j).i.name≠s):=λe j hj=>by
     by_cases g:j=k
     . grind
     exact sk.o j ω
    generalize bE l k=o at c0 c1 c2 c3 c4 c5 c6 y HY HZ;have F:=aq ((hb.cell (p:=(Ad P 0)) A).trans HP.o);have HC:=aq (Vj o P s wr F.o y hs);simp only[iB] at HC;clear di hb;by_cases NU:o.i.name=s
    . have HX:=aq (HY.o NU);rw[fD NU] at HC;clear NU HY HZ;go_wp2_with (go_at_call 111;refine HC.o.mono ?_;rintro e w1 ⟨rfl,hb⟩;have cD:=aq (wQ.o.trans (hb.mono wQ.o.size));clear hb);go_ret;exact⟨⟨_,rfl,by rw[HX.o];simp⟩,cD.o⟩
    have HX:=aq (HZ.o NU);rw[fE NU] at HC;clear NU HY HZ;go_wp2_with (go_at_call 111;refine HC.o.mono ?_;rintro e w1 ⟨rfl,hb⟩;have cD:=aq (wQ.o.trans (hb.mono wQ.o.size));clear hb);go_roundw
    case rel=>exact⟨k+1,ω,by go_num,HX.o,cD.o⟩
    case measure=>simp[intOf];omega
  obtain rfl:k=l.length:=by omega
  have HX:=aq (RA l s sk.o);go_wp2;go_ret;exact⟨⟨_,rfl,by rw[HX.o];rfl⟩,wQ.o⟩
theorem Tc (ao:Option Addr) (cap:Nat) (P:Nat) (s:ByteArray) (w:World) (h:Ei w ao l) (hn:bD l.length) (hsh:∀k,k<l.length->bD (bE l k).i.name.size) (hP:w.cell? (Ad P 0)=some (.string s)) (hs:bD s.size) :
  Calls prog 110 #[.slice ao l.length cap,.func (.func 111) #[] #[.pointer (some (Ad P 0))]] w λe w'=>e=.returned (.bool (AQ l s))/\Below w.heap.size w w':=by
 have HC:=aq (Vi l ao cap P s w h hn hsh hP hs);clear h hsh hP;go_enter func110,ntmps110;go_wp2_with (go_at_call 167;refine HC.o.mono ?_;rintro e w1 ⟨⟨r,rfl,hr⟩,hb⟩;have HR:=aq hr;have HB:=aq hb;clear hr hb);go_ret;exact⟨kO HR.o,HB.o⟩
theorem uT {α:Type} (f:α->List Value) (c:Nat) (hc:∀x,(f x).length=c) (d:α):∀(l:List α) (i j:Nat),i<l.length->j<c->(l.flatMap f)[i*c+j]?=(f (l.getD i d))[j]?
 | a::r,0,j,_,hj=>by
  grind
 | a::r,i+1,j,hi,hj=>by
  rw[o8,yx Γ,hc,show(i+1)*c+j-c=i*c+j by grind];exact uT f c hc d r i j Γ hj
theorem akw:(prog.info? 131).map (λi=>(i.zero,i.size,i.bytes))=some (some (.agg #[.string ⟨#[]⟩,Nl,Nl,Nl,Nl,I 0,I 0]),7,128):=by rfl
theorem ZR {base:Nat} {v:Value} {l:List fw} (h:w.ownsRow base 131 7 v l.length (l.flatMap AU)) (hl:0<l.length) (hi:∀k,k<l.length->l9 w (bE l k).a (bE l k).i) :
  ∃g cap,v=.slice (some (Ad g 0)) l.length cap/\base<=g/\g<w.heap.size/\l.length<=cap/\OD w g 0 l:=by
 rcases h.2 with⟨hv,h0⟩ | ⟨g,cap,B,hv,q,hg,y,F,A,b⟩
 . omega
 subst hv;refine⟨g,cap,rfl,q,aQ hg,y,λk hk=>?_⟩;rw[nj];have hh:∀j,j<7->w.cell? (Ad g (k*7+j))=(AU (bE l k))[j]?:=λj hj=>(h.cellAt _ ω).trans (uT AU 7 (λ_=>rfl) amw l k j hk hj)
 exact⟨⟨hh 0 ω,hh 1 ω,hh 2 ω,hh 3 ω,hh 4 ω,hh 5 ω,hh 6 ω⟩,hi k hk⟩
theorem abl {n:Nat} (h:w.ownsMap prog 9 RO m n D) (hb:Below w.heap.size w w'):w'.ownsMap prog 9 RO m n D:=by
 have q:=h.lt;obtain⟨es,b,h1,h2⟩:=h;exact⟨es,b,(hb.block m q).trans h1,h2⟩
theorem aho (ho:ry (iz all)=true) {ix:List Nat} (hlt:∀j∈ix,j<all.length) {s:ByteArray} {j:Nat} (hj:vZ all s=some j) (b:Int):AQ (bM all b ix) s=ix.contains j:=by
 grind [Co,RA,cC,iU,uX,aep,List.getElem_of_mem,ZV]
def abp (all:List fy) (R:Option (List Nat)) (w:World) (e:Ending) (w':World):Prop:=Below w.heap.size w w'/\match R with
 | none=>e=.returned (.tuple #[Nl,.bool false])
 | some ix=>nk all ix/\∃ao cap,e=.returned (.tuple #[.slice ao ix.length cap,.bool true])/\Ei w' ao (bM all 1 ix)
structure Oj (all:List fy) (m:Nat) (D:DataW Value) (w:World):Prop where
 pos:0<all.length
 few:all.length<=7
 chk:∀j,j<all.length->gQ (bV all j).i=0
 fit:∀j,j<all.length->BH (bV all j).i
 once:ry (iz all)=true
 im:∀j,j<all.length->l9 w (bV all j).a (bV all j).i
 map:w.ownsMap prog 9 RO m all.length D
 nm:Oz all all.length D
theorem Oj.below (h:Oj all m D w) (hb:Below w.heap.size w w'):Oj all m D w' :=
 ⟨h.pos,h.few,h.chk,h.fit,h.once,λj hj=>(h.im j hj).below hb,abl h.map hb,h.nm⟩
theorem Oj.ims (h:Oj all m D w) {ix:List Nat} (hx:nk all ix) (b:Int):∀k,k<(bM all b ix).length->l9 w (bE (bM all b ix) k).a (bE (bM all b ix) k).i:=λk hk=>by
 grind [cC,iU,im,nk.lt]
theorem Oj.look (h:Oj all m D w) {s:ByteArray} (hs:bD s.size):∃x,(Instr.lookup 124 (.map (some m)) (.string s) true).run prog w=.ok (.tuple #[x,.bool (vZ all s).isSome]) w/\match vZ all s with
  | none=>x=KN
  | some j=>x=xz (bV all j):=by
 obtain⟨v,ps,b,hv⟩:=h.map.look_ok Rs underlying124 (ahk w) (zd:=.held KN) (zp:=[]) rfl (Qx hs);have y:DataW.held v=D.atKey (C6 s) (.held KN):=by
  grind [RO]
 have hh:=h.nm.has s;rw[show(iz all).take all.length=iz all from ai7 (by grind [oF])] at hh;cases e:vZ all s with
 | none =>
  grind [abx,Maps.atKey_of_not_has]
 | some j =>
  obtain⟨h1,h2⟩:=Co e;have q:(iz all).contains s=true:=by
   have:=VA all all.length j h1 (aK _)
   grind
  rw[q] at hh;rw[hh] at b;refine⟨v,b,?_⟩;have ho:=h.once;unfold ry at ho;rw[oF] at ho;have:=h.nm.at_ ho j h1
  grind
theorem tL {base:Nat} {e:TypeId} {size:Nat} {v:Value} {n:Nat} {xs:List Value} (h:w.ownsRow base e size v n xs) (hb:Below w.heap.size w w'):w'.ownsRow base e size v n xs:=by
 refine⟨h.1,?_⟩;rcases h.2 with h2 | ⟨g,cap,b,hv,q,hg,rest⟩
 . grind
 exact .inr ⟨g,cap,b,hv,q,(hb.block g (aQ hg)).trans hg,rest⟩
theorem X7 (all:List fy) (m:Nat) (D:DataW Value) (w:World) (hg:Oj all m D w):Calls prog 64 #[xz (bV all 0),.map (some m)] w (abp all (sS all all.length 0 [0]) w):=by
 have HG:=aq hg;have ce:=hg.pos;have co:=hg.few;clear hg;obtain⟨R,hR⟩:=ex (sS all all.length 0 [0]);have HR:=aq hR;rw[<- hR];clear hR;have bm:Hid (nk all [0]):=⟨ξ,ξ,λj hj=>Γ⟩;have ac:Hid ((bM all 1 [0]).flatMap AU=AU ⟨(bV all 0).i,(bV all 0).a,1⟩):=by
  rfl
 obtain⟨x,hx⟩:=ex (bV all 0);rw[<- hx] at ac;rw[<- hx];clear hx;obtain⟨⟨nm,ns,gs,ys,rs,en⟩,⟨an,cn,ag,cg,ay,cy,ar,cr⟩⟩:=x;simp only[xz,gI];simp only at ac;have fU:=aq ((aN w.heap.size w).alloc (aK _) (.cells #[.string nm,.slice an ns.length cn,.slice ag gs.length cg,.slice ay ys.length cy,.slice ar rs.length cr,I en] 56));have cD:=aq (fU.o.alloc fU.o.size (.cells #[.string nm,.slice an ns.length cn,.slice ag gs.length cg,.slice ay ys.length cy,.slice ar rs.length cr,I en,I 1] 131));have c9:Hid (((w.alloc (.cells #[.string nm,.slice an ns.length cn,.slice ag gs.length cg,.slice ay ys.length cy,.slice ar rs.length cr,I en] 56)).alloc (.cells #[.string nm,.slice an ns.length cn,.slice ag gs.length cg,.slice ay ys.length cy,.slice ar rs.length cr,I en,I 1] 131)).ownsRow (w.heap.size+1) 131 7 (.slice (some (Ad (w.heap.size+1) 0)) 1 1) 1 ((bM all 1 [0]).flatMap AU)):=by
  show World.ownsRow _ _ _ _ _ _ _;rw[ac.o];have h:=World.ownsRow_lit (base:=w.heap.size+1) (e:=131) (size:=7) (w.alloc (.cells #[.string nm,.slice an ns.length cn,.slice ag gs.length cg,.slice ay ys.length cy,.slice ar rs.length cr,I en] 56)) #[.string nm,.slice an ns.length cn,.slice ag gs.length cg,.slice ay ys.length cy,.slice ar rs.length cr,I en,I 1] 1 ξ (by grind [maxLen]) rfl;rw[show(w.alloc (.cells #[.string nm,.slice an ns.length cn,.slice ag gs.length cg,.slice ay ys.length cy,.slice ar rs.length cr,I en] 56)).heap.size=w.heap.size+1 by simp] at h;exact h
 clear ac;obtain⟨i0,hi,bz,cb,bt⟩:=kI akw;go_enter func64,ntmps64;go_wp2;go_loopw [7,6] (λnx v wr=>∃(n:Nat) (ix:List Nat),nx=I n/\nk all ix/\n<=ix.length/\sS all (all.length-n) n ix=R/\wr.ownsRow (w.heap.size+1) 131 7 v ix.length ((bM all 1 ix).flatMap AU)/\Below w.heap.size w wr) (λnx _ _=>all.length-(intOf nx).toNat)
 case atStart=>exact⟨0,[0],rfl,bm.o,ξ,HR.o.symm,c9.o,cD.o⟩
 case round =>
  obtain⟨n,ix,rfl,hx,cf,aC,X,hb⟩:=hrel;have HX:=aq hx;have az:=aq aC;have ba:=aq X;have wQ:=aq hb;have cG:=hx.le;have ck:=hx.pos;have bv:=aq (HG.o.below hb);obtain⟨g,cap,hv,d8,c5,bF,di⟩:=ZR (by rw[cC];omega) (by grind [cC]) (bv.o.ims hx 1);rw[cC] at hv bF;subst hv;by_cases hlt:n<ix.length
  . have aw:=iU all ix 1 n hlt;have a7:=hx.lt _ (uX ix n hlt);obtain⟨⟨_,c1,_,_,_,_,_⟩,-⟩:=di n (by grind [cC]);rw[aw.1,aw.2.1,nj] at c1;have Aw:=aq (HG.o.fit _ a7);have aB:=aq (HG.o.im _ a7).needs;obtain⟨f,hf⟩:∃f,all.length-n=f+1:=⟨all.length-n-1,ω⟩;have HF:Hid (all.length-(n+1)=f):=by show _=_;omega
    rw[hf] at az;have al:Hid (∀Lf,mA all ix (bV all (ix.getD n 0)).i.needs (bV all (ix.getD n 0)).i.needs.length=some Lf->sS all f (n+1) Lf=R):=λLf h=>by
     rw[<- az.o];exact(RG all f n ix Lf hlt h).symm
    have av:Hid (mA all ix (bV all (ix.getD n 0)).i.needs (bV all (ix.getD n 0)).i.needs.length=none->R=none):=λh=>by
     rw[<- az.o];exact RI all f n ix hlt h
    obtain⟨q,hq⟩:=ex (bV all (ix.getD n 0));rw[<- hq] at c1 Aw aB al av;clear hq aw a7 hf di aC X hb hx;obtain⟨⟨d9,nd,cl,cW,cS,ci⟩,⟨cP,cq,da,d7,dd,dc,cm,cj⟩⟩:=q;simp only at c1 al av aB;have cF:nd.length<=140737488351232:=Aw.o.needs;have bL:Hid (∀k,k<nd.length->bD (iy nd k).size):=Aw.o.need;clear Aw;go_wp2;go_loopw [28,6] (λkx v wi=>∃(k:Nat) (Lf:List Nat),kx=I k/\k<=nd.length/\mA all ix nd k=some Lf/\nk all Lf/\ix.length<=Lf.length/\wi.ownsRow (w.heap.size+1) 131 7 v Lf.length ((bM all 1 Lf).flatMap AU)/\Below w.heap.size w wi) (λkx _ _=>nd.length-(intOf kx).toNat)
    case atStart=>exact⟨0,ix,rfl,ω,rfl,HX.o,aK _,ba.o,wQ.o⟩
    case round =>
     obtain⟨k,jx,rfl,hk,b5,a6,bA,X,hb⟩:=hrel;have ao:=aq b5;have a1:=aq a6;have am:=aq X;have Tw:=aq hb;have b4:=aq (HG.o.below hb);have cB:=a6.le;have c8:=a6.pos;obtain⟨g2,a8,aF,cI,Y,bS,IQ⟩:=ZR (by rw[cC];omega) (by simp_all [cC]) (b4.o.ims a6 1);rw[cC] at aF bS;subst aF;have aG:=aq IQ;clear b5 X a6 IQ;by_cases hkl:k<nd.length
     . obtain⟨bn,cw,bp,bP,b6⟩:=aB.o ω;subst bp;have cs:=abg hb bP b6 k hkl;have aj:=bL.o k hkl;obtain⟨s,au⟩:=ex (iy nd k);rw[<- au] at cs aj;have b2:=aq au;clear au hb b6;have iQ:=aq (Tw.o.alloc Tw.o.size (.cells #[.string s] 9));have aL:=aq ((aN wr.heap.size wr).alloc (aK _) (.cells #[.string s] 9));obtain⟨x,W,a4⟩:=(b4.o.below aL.out).look aj;cases e:vZ all s with
       | none =>
        rw[e] at W a4;simp only at a4;subst a4;have bs:Hid (R=none):=av.o (ES (LA ao.o (by rw[<- b2.o];exact e)) nd.length ω);simp only[aaP,KN] at W;clear e;go_wp2
        go_ret2
        show abp all R w _ _;rw[bs.o];exact⟨iQ.o.alloc iQ.o.size _,rfl⟩
       | some j =>
        rw[e] at W a4;simp only at a4;subst a4;simp only[aaO] at W;have aa:Hid (mA all ix nd (k+1)=some (yL jx j)):=Lz ao.o (by rw[<- b2.o];exact e);obtain⟨a7,-⟩:=Co e;have b8:=aq (a1.o.add a7);have bx:=aq (aho HG.o.once a1.o.lt e 1);have Tt:Hid (bM all 1 (jx++[j])=bM all 1 jx++[⟨(bV all j).i,(bV all j).a,eQ all 1 jx⟩]):=Bo all j jx 1;generalize bV all j=y at W Tt;clear e;obtain⟨⟨K,O,G,A,M,F⟩,⟨B,T,N,Q,U,J,L,b⟩⟩:=y;simp only[xz,gI] at W;simp only at Tt;have iJ:=aq (iQ.o.alloc iQ.o.size (.cells #[.string K,.slice B O.length T,.slice N G.length Q,.slice U A.length J,.slice L M.length b,I F] 56));have a3:=aq (aL.out.alloc ξ (.cells #[.string K,.slice B O.length T,.slice N G.length Q,.slice U A.length J,.slice L M.length b,I F] 56));have XH:Hid (Calls prog 110 #[.slice (some (Ad g2 0)) jx.length a8,.func (.func 111) #[] #[.pointer (some (Ad wr.heap.size 0))]] ((wr.alloc (.cells #[.string s] 9)).alloc (.cells #[.string K,.slice B O.length T,.slice N G.length Q,.slice U A.length J,.slice L M.length b,I F] 56)) λe w'=>e=.returned (.bool (jx.contains j))/\Below ((wr.alloc (.cells #[.string s] 9)).alloc (.cells #[.string K,.slice B O.length T,.slice N G.length Q,.slice U A.length J,.slice L M.length b,I F] 56)).heap.size ((wr.alloc (.cells #[.string s] 9)).alloc (.cells #[.string K,.slice B O.length T,.slice N G.length Q,.slice U A.length J,.slice L M.length b,I F] 56)) w'):=by
         have h:=Tc (bM all 1 jx) (some (Ad g2 0)) a8 wr.heap.size s ((wr.alloc (.cells #[.string s] 9)).alloc (.cells #[.string K,.slice B O.length T,.slice N G.length Q,.slice U A.length J,.slice L M.length b,I F] 56)) (λ_=>⟨g2,0,rfl,dV Y a3.out.size,aju a3.out Y aG.o⟩) (by unfold bD;rw[cC];omega) (λk hk=>by
          rw[cC] at hk;rw[(iU all jx 1 k hk).1];exact(HG.o.fit _ (a1.o.lt _ (uX jx k hk))).name) (aA (bu (bH wr #[.string s] 9) _) 0 rfl) aj
         rw[cC,bx.o] at h;exact h
        cases hcj:jx.contains j with
        | true =>
         rw[hcj] at XH;have ah:Hid (yL jx j=jx):=by show _=_;simp_all [yL]
         rw[ah.o] at aa;clear hcj;go_wp2_with (go_at_call 110;refine XH.o.mono ?_;rintro e w4 ⟨rfl,hb⟩;have Cc:=aq (iJ.o.trans (hb.mono iJ.o.size));have M7:=aq (tL am.o ((a3.out.trans (hb.mono a3.out.size))));clear hb);go_roundw
         case rel=>exact⟨k+1,jx,by go_num,ω,aa.o,a1.o,bA,M7.o,Cc.o⟩
         case measure=>simp[intOf];omega
        | false =>
         rw[hcj] at XH;have ah:Hid (yL jx j=jx++[j]):=by show _=_;simp_all [yL]
         rw[ah.o] at aa b8;clear hcj;have a9:jx.length-1<jx.length:=by omega
         have aS:jx.length-1<(bM all 1 jx).length:=by simp_all [cC]
         have aR:=iU all jx 1 (jx.length-1) a9;have b3:=a1.o.lt _ (uX jx (jx.length-1) a9);have XM:=pd all HG.o.chk (jx.take (jx.length-1)) 1 (λj hj=>a1.o.lt j (KC hj));have aP:(jx.take (jx.length-1)).length=jx.length-1:=by simp_all
         rw[aP] at XM;have af:=Ij all jx 1 c8;have ym:Hid (gQ (bE (bM all 1 jx) (jx.length-1)).i=0):=by show _=_;rw[aR.1];exact HG.o.chk _ b3
         have ab:0<=(bE (bM all 1 jx) (jx.length-1)).base/\(bE (bM all 1 jx) (jx.length-1)).base<=100000:=by omega
         have ae:=aq (aG.o (jx.length-1) aS);rw[nj] at ae;rw[<- af] at Tt;generalize bE (bM all 1 jx) (jx.length-1)=o at ym ab ae Tt;obtain⟨eo,ap⟩:=ex (kK o);have b9:Hid (∀V,l9 V o.a o.i->Calls prog 65 #[.agg #[.string o.i.name,.slice o.a.an o.i.needs.length o.a.cn,.slice o.a.ag o.i.fA.length o.a.cg,.slice o.a.ay o.i.syms.length o.a.cy,.slice o.a.ar o.i.lV.length o.a.cr,I o.i.entry,I o.base]] V λe w'=>e=.returned (I eo)/\Below V.heap.size V w'):=λV h=>by
          rw[ap];exact Vm o V h ym.o ab.1 ab.2
         rw[<- ap] at Tt;clear ap af aR b3 XM aP ym ab aS;have cz:IntKind.i64.wrap ((jx.length:Int)-1)=((jx.length-1:Nat):Int):=by rw[sJ _ ω];omega
         go_wp2_with (go_at_call 110;refine XH.o.mono ?_;rintro e w4 ⟨rfl,hb⟩;have Cc:=aq (iJ.o.trans (hb.mono iJ.o.size));have Z:=aq (a3.out.trans (hb.mono a3.out.size));have M7:=aq (tL am.o Z.o);have a0:Hid (w4.heap[wr.heap.size+1]?=some (.cells #[.string K,.slice B O.length T,.slice N G.length Q,.slice U A.length J,.slice L M.length b,I F] 56 (0,0))):=(by have h:=bH (wr.alloc (.cells #[.string s] 9)) #[.string K,.slice B O.length T,.slice N G.length Q,.slice U A.length J,.slice L M.length b,I F] 56;rw[show(wr.alloc (.cells #[.string s] 9)).heap.size=wr.heap.size+1 by simp] at h;exact aU h hb (aQ h));have c6:=aq (ae.o.2.below Z.o);have cc:=ae.o.1;clear hb)
         have ad:=aq (X9 w4);obtain⟨l0,l1,l2,l3,l4,l5,l6⟩:=cc;have d0:=(Z.o.cell (p:=(Ad g2 _)) Y).trans l0;have d1:=(Z.o.cell (p:=(Ad g2 _)) Y).trans l1;have d2:=(Z.o.cell (p:=(Ad g2 _)) Y).trans l2;have d3:=(Z.o.cell (p:=(Ad g2 _)) Y).trans l3;have d4:=(Z.o.cell (p:=(Ad g2 _)) Y).trans l4;have d5:=(Z.o.cell (p:=(Ad g2 _)) Y).trans l5;have d6:=(Z.o.cell (p:=(Ad g2 _)) Y).trans l6;have ct:=aA a0.o 0 rfl;have db:=aA a0.o 1 rfl;have cv:=aA a0.o 2 rfl;have cK:=aA a0.o 3 rfl;have cp:=aA a0.o 4 rfl;have cL:=aA a0.o 5 rfl;clear l0 l1 l2 l3 l4 l5 l6
         go_region_law (first
          | (refine step_append_lies _ rfl _ _ 127 rfl (w.heap.size+1) 131 i0 (.agg #[.string ⟨#[]⟩,Nl,Nl,Nl,Nl,I 0,I 0]) 7 128 underlying127 hi bz cb bt rfl Δ _ _ _ rfl aE.o (Ad w5.heap.size 0) 1 1 [.string K,.slice B O.length T,.slice N G.length Q,.slice U A.length J,.slice L M.length b,I F,I eo] rfl rfl (xY cd.o) (by intro u hu;simp at hu;rcases hu with rfl | rfl | rfl | rfl | rfl | rfl | rfl <;> rfl) Δ (by unfold maxLen;omega) ω (by have:=Nu.o.size;simp_all) (w5.heap.size+1) ξ ?_;intro gg dj w6 b0 a5 bb de;have bi:=aq b0;have bd:=aq ((Nu.o.alloc Nu.o.size (.cells #[.string K,.slice B O.length T,.slice N G.length Q,.slice U A.length J,.slice L M.length b,I F,I eo] 131)).grown a5 (by have:=Nu.o.size;simp;omega) (λq hq=>by have:=ca.out _ hq;omega));clear b0 a5 bb)
          | (go_simp;go_at_call 65;refine(b9.o _ (c6.o.below ad.out)).mono ?_;rintro e w5 ⟨rfl,Fu⟩;have Nu:=aq ((Cc.o.trans (ad.out.mono Cc.o.size)).trans (Fu.mono (Cc.o.trans (ad.out.mono Cc.o.size)).size));have b1:=aq (ad.out.trans Fu);have aE:=aq ((tL M7.o b1.o).alloc (.cells #[.string K,.slice B O.length T,.slice N G.length Q,.slice U A.length J,.slice L M.length b,I F,I eo] 131));have ca:Hid (∀q,(Value.slice (some (Ad g2 0)) jx.length a8).ownBlock=some q->w.heap.size+1<=q/\q<(w5.alloc (.cells #[.string K,.slice B O.length T,.slice N G.length Q,.slice U A.length J,.slice L M.length b,I F,I eo] 131)).heap.size):=aE.o.lt;have cd:=aq (bH w5 #[.string K,.slice B O.length T,.slice N G.length Q,.slice U A.length J,.slice L M.length b,I F,I eo] 131);have a2:=aq (aU a0.o b1.o (aQ a0.o));have j0:=aA a2.o 0 rfl;have j1:=aA a2.o 1 rfl;have j2:=aA a2.o 2 rfl;have j3:=aA a2.o 3 rfl;have j4:=aA a2.o 4 rfl;have j5:=aA a2.o 5 rfl;clear Fu;go_simp))
         all_goals
          go_wp2;go_roundw
          case rel=>exact⟨k+1,jx++[j],by go_num,ω,aa.o,b8.o,by rw[ft];omega,by rw[Tt.o,tH,ft];exact bi.o,bd.o⟩
          case measure=>simp[intOf];omega
     obtain rfl:k=nd.length:=by omega
     have HE:=aq (al.o jx ao.o);clear hb;go_wp2;go_roundw
     case rel=>exact⟨n+1,jx,by go_num,a1.o,ω,by rw[HF.o];exact HE.o,am.o,Tw.o⟩
     case measure=>simp[intOf];omega
  obtain rfl:n=ix.length:=by omega
  have HE:Hid (R=some ix):=by
   grind [VD]
  have c7:Hid (Ei wr (some (Ad g 0)) (bM all 1 ix)):=λ_=>⟨g,0,rfl,c5,di⟩
  clear hx aC X hb di;go_wp2
  go_ret2
  show abp all R w _ _;rw[HE.o];exact⟨wQ.o,HX.o,some (Ad g 0),cap,rfl,c7.o⟩
def rX:ByteArray:=⟨(Lib.repeatL [0] 16).toArray⟩
theorem Bn:rX.size=16:=rfl
def pL (s:pV) (n:Nat):ByteArray:=gB rX 0 (s.data.extract (min (n*16) s.data.size) (min (min (n*16) s.data.size+16) s.data.size))
theorem Bp (s:ByteArray) (a b:Nat) (h1:a<=b) (h2:b<=s.size):(s.extract a b).size=b-a:=by
 simp_all
theorem Lx (s:pV) (n:Nat):(pL s n).size=16:=by
 grind [pL,AJ,Bn,Bp]
structure lu where
 pos:Int
 bytes:ByteArray
def ahr:lu:=⟨0,⟨#[]⟩⟩
def Ah (l:List lu) (k:Nat):lu:=l.getD k ahr
def OC (w:World) (b off:Nat) (l:List lu):Prop:=∀i,i<l.length->w.cell? (Ad b (off+i*2))=some (I (Ah l i).pos)/\w.cell? (Ad b (off+i*2+1))=some (.string (Ah l i).bytes)
theorem aoG {b off:Nat} {l:List lu} (hb:Below w.heap.size w w') (hlt:b<w.heap.size) (h:OC w b off l):OC w' b off l:=λi hi=>by
 obtain⟨c0,c1⟩:=h i hi
 grind [cJ]
def OH (w:World) (ao:Option Addr) (l:List lu):Prop:=dG OC w ao l
theorem OH.below {ao:Option Addr} {l:List lu} (h:OH w ao l) (hb:Below w.heap.size w w'):OH w' ao l:=dG.below (lie:=OC) (λhb hlt h=>aoG hb hlt h) h hb
def I6 (p:lu):List Value:=[I p.pos,.string p.bytes]
def FH (f:oa):List Value:=[I f.off,.string f.bytes]
def abD (p:lu):Prop:=0<=p.pos/\p.pos<=1000000/\p.bytes.size=8
def Eh (page:Int) (p:lu):List oa:=if max (page*16) p.pos<min (page*16+16) (p.pos+8) then [⟨max (page*16) p.pos-page*16,p.bytes.extract (max (page*16) p.pos-p.pos).toNat (max (page*16) p.pos-p.pos+(min (page*16+16) (p.pos+8)-max (page*16) p.pos)).toNat⟩] else []
def iM (page:Int) (ps:List lu):List oa:=ps.flatMap (Eh page)
theorem abq {α:Type} (l:List α) (d:α) (k:Nat) (h:k<l.length):l.take (k+1)=l.take k++[l.getD k d]:=by
 simp_all
theorem ahw (page:Int) (p:lu):(Eh page p).length<=1:=by
 grind [Eh]
theorem Cr (page:Int):∀ps:List lu,(iM page ps).length<=ps.length
 | []=>by simp[iM]
 | p::r=>by
  have h1:=Cr page r
  grind [ahw,iM]
theorem VE (page:Int) (l:List lu) (p:lu):iM page (l++[p])=iM page l++Eh page p:=by
 grind [iM]
def au5 (w:World) (q:Int) (F:Nat) (cap:Array Value) (how:cX->cX×Int):Prop :=
 (F=173/\∃P,cap=#[.pointer (some (Ad P 0))]/\w.cell? (Ad P 0)=some (I q)/\how=qW q)\/(F=287/\cap=#[]/\how=dm) \/
 F=286/\∃P,cap=#[.pointer (some (Ad P 0))]/\w.cell? (Ad P 0)=some (I q)/\how=mK q
theorem Kk (l:List aX) (v:Value) (page aD q:Int) {F:Nat} {cap:Array Value} {how:cX->cX×Int} (w:World) (h:gD w v l) (hf:dQ l) (hp:-9223372036854775808<=page/\page<=9223372036854775807) (hn:-9223372036854775808<=aD/\aD<=9223372036854775807) (hh:au5 w q F cap how) :
  Calls prog 172 #[v,I page,I aD,I q,.func (.func F) #[] cap] w λe w'=>∃r,e=.returned (.tuple #[r,I (jU l page aD q how).2])/\eB w.heap.size w' r (jU l page aD q how).1/\Below w.heap.size w w':=by
 obtain⟨Z,hZ⟩:=ex (dU (λ_=>iL));have hz:=ads;rw[<- hZ] at hz;have a4:Z.size=768:=by grind [lj]
 clear hZ;rcases hh with⟨rfl,P,rfl,hm,e⟩ | ⟨rfl,rfl,e⟩ | ⟨rfl,P,rfl,hr,e⟩
 all_goals
  have HW:Hid _:=e;clear e;go_enter func172,ntmps172;go_wp2_with fail;refine(CR l v _ h hf).mono ?_;rintro e w1 ⟨rfl,b⟩;by_cases hc:bj l=0
  . rw[hc];go_wp2_with fail;refine(pE _ _ _ hp hn).mono ?_;rintro e w' ⟨rfl,rfl⟩;by_cases Rj:gW page aD=true
    . go_wp2_with fail
      refine(tv _ _).mono ?_;rintro e w' ⟨rfl,rfl⟩;by_cases hqq:ni q=true
      . have HT:Hid (jU l page aD q how=if km (iK l) how page.toNat aD.toNat=0 then (ic (gV (iK l) how page (page+aD)),0) else ([],km (iK l) how page.toNat aD.toNat)):=by
         show _=_;grind [jU]
        have a0:=(sH page aD).1 Rj;go_wp2_with fail;refine(ZF l v _ (h.below b) hc).mono ?_;rintro e w2 ⟨rfl,M⟩;have iJ:Hid (Below w.heap.size w w2):=b.trans (M.mono b.size);generalize iK l=F at HT ⊢;obtain⟨C,hC⟩:=ex (dU F);have T:C.size=768:=by grind [lj]
        have Y:Hid (C=dU F):=hC;rw[<- hC];clear b M hC hc Rj hqq;have KI:Hid ((w2.alloc (.cells Z 332)).heap[w2.heap.size]?=some (.cells Z 332 (0,0))):=bH w2 Z 332;go_wp2_with (refine aaJ rfl 332 _ _ rfl w2.heap.size C rfl rfl 332 Z KI.out (by rw[T];exact wH) ω (by grind [Fj,Hid.o]) ?_);have a2:Hid (((w2.alloc (.cells Z 332)).setRow w2.heap.size C).heap[w2.heap.size]?=some (.cells C 332 (0,0))):=xo _ _ _ _ 332 (0,0) KI.out;have ou:Hid (Below w.heap.size w ((w2.alloc (.cells Z 332)).setRow w2.heap.size C)):=below_setRow (iJ.o.alloc iJ.o.size _) iJ.o.size _;have A:=iJ.o.size;go_loopw [14] (λt wr=>∃n:Nat,page<=(n:Int)/\(n:Int)<=page+aD/\t=I n/\(∀k:Nat,page.toNat<=k->k<n->(how (F k)).2=0)/\wr.heap[w2.heap.size]?=some (.cells (dU (gV F how page n)) 332 (0,0))/\Below w.heap.size w wr) (λt _=>(page+aD-intOf t).toNat)
        case atStart =>
         grind [TJ,Hid.o]
        case round =>
         obtain⟨n,UJ,W,rfl,G,hA,hb⟩:=hrel;have HN:Hid (∀k:Nat,page.toNat<=k->k<n->(how (F k)).2=0):=G;have HA:Hid (wr.heap[w2.heap.size]?=some (.cells (dU (gV F how page n)) 332 (0,0))):=hA;have HB:Hid (Below w.heap.size w wr):=hb;have U:w2.heap.size<wr.heap.size:=aQ hA;by_cases hin:(n:Int)<page+aD
         . have z0:=aA hA (n*3) (zw _ n ω);have z1:=aA hA (n*3+1) (zu _ n ω);have z2:=aA hA (n*3+2) (zt _ n ω);rw[adw] at z0 z1 z2;have a3:(n:Int)<256:=by omega
           clear G hA hb;obtain⟨s,hs⟩:=ex (F n);rw[<- hs] at z0 z1 z2;have HS:Hid (s=F n):=hs;clear hs;go_wp2_with fail
           first
            | refine(agr s q P _ ((HB.o.cell (p:=(Ad P 0)) (jL w _ hm)).trans hm)).mono ?_
            | refine(TF s q P _ ((HB.o.cell (p:=(Ad P 0)) (jL w _ hr)).trans hr)).mono ?_
            | refine(ZB s _).mono ?_
           rintro e w3 ⟨rfl,J⟩;rw[<- HW.o];have bA:=aU HA.o J U;have y0:=aA bA (n*3) (zw _ n ω);have y1:=aA bA (n*3+1) (zu _ n ω);have y2:=aA bA (n*3+2) (zt _ n ω);have yf:=bG bA;have CF:Hid (w3.heap[w2.heap.size]?=some (.cells (dU (gV F how page n)) 332 (0,0))):=bA;have B:Hid (Below w.heap.size w w3):=HB.o.trans (J.mono HB.o.size);have a1:w2.heap.size<w3.heap.size:=aQ bA;clear bA J z0 z1 z2;obtain⟨r,K⟩:=ex (how s);rw[<- K];have HR:Hid (r=how s):=K;clear K;unfold Qd;by_cases he:r.2=0
           . have R:(r.2 != 0)=false:=by simp[he]
             have HE:Hid (r.2=0):=he;clear he;go_wp2;go_roundw
             case rel =>
              have uQ:=gH (gH (gH CF.o (n*3) (.bool r.1.m)) (n*3+1) (I r.1.p)) (n*3+2) (.bool r.1.z);have O:=Xm F how page n UJ;rw[<- HS.o,<- HR.o] at O;rw[My (gV F how page n) n r.1 ω,O] at uQ;refine⟨n+1,ω,ω,by go_num,λk h1 h2=>if e:k=n then by rw[e,<- HS.o,<- HR.o];exact HE.o else HN.o k h1 ω,?_,?_⟩
              . rw[show((n+1:Nat):Int)=(n:Int)+1 from by omega];exact bu uQ _
              have y:=((B.o.setCell (p:=(Ad w2.heap.size (n*3))) A (.bool r.1.m)).setCell (p:=(Ad w2.heap.size (n*3+1))) A (I r.1.p)).setCell (p:=(Ad w2.heap.size (n*3+2))) A (.bool r.1.z);exact y.alloc y.size _
             case measure=>simp[intOf];omega
           have R:(r.2 != 0)=true:=by simpa using he
           have HE:Hid (r.2≠0):=he;clear he;have ht:Hid (jU l page aD q how=([],r.2)):=by
            have L:km F how page.toNat aD.toNat=r.2:=by
             rw[HR.o,HS.o];exact Mx F how _ _ n ω ω HN.o (by rw[<- HS.o,<- HR.o];exact HE.o)
            show _=_;rw[HT.o,L,aB HE.o]
           go_wp2
           go_ret2
           exact⟨Nl,by rw[ht.out];rfl,by rw[ht.out];exact eB.nil _ _,B.o.alloc B.o.size _⟩
         have N:Hid ((n:Int)=page+aD):=by show _=_;omega
         have ht:Hid (jU l page aD q how=(ic (gV F how page n),0)):=by
          have L:km F how page.toNat aD.toNat=0:=BG F how _ _ (λk h1 h2=>HN.o k h1 ω);show _=_;rw[HT.o,L,aC rfl,N.out]
         clear G hA hb;go_wp2_with (refine NK rfl 332 _ rfl w2.heap.size rfl 332 _ (0,0) _ HA.o underlying332 rfl (by rw[lj];exact wH) ?_);refine(ZG _ _).mono ?_;rintro e w4 ⟨r,rfl,hr,y⟩;go_wp2
         go_ret2
         exact⟨r,by rw[ht.out];rfl,by rw[ht.out];exact hr.mono HB.o.size,HB.o.trans (y.mono HB.o.size)⟩
      have Q:ni q=false:=by grind
      have HT:Hid (jU l page aD q how=([],3)):=by show _=_;grind [jU]
      go_wp2
      go_ret2
      exact⟨Nl,by rw[HT.o];rfl,by grind [eB.nil,Hid.o],b⟩
    have Q:gW page aD=false:=by grind
    have HT:Hid (jU l page aD q how=([],3)):=by show _=_;grind [jU]
    go_wp2
    go_ret2
    exact⟨Nl,by rw[HT.o];rfl,by grind [eB.nil,Hid.o],b⟩
  have X:(bj l != 0)=true:=by grind
  have HT:Hid (jU l page aD q how=([],bj l)):=by show _=_;grind [jU]
  go_wp2
  go_ret2
  exact⟨Nl,by rw[HT.o];rfl,by grind [eB.nil,Hid.o],b⟩
end Go.Proofs.YtlgoihmkgaaemaaGreat
