import Derived.Test.YtlgoihmkgaaemaaGreatGQ06
import Derived.Test.YtlgoihmkgaaemaaGreatGQ07
import Derived.StillTailTactics
set_option maxHeartbeats 20000000
set_option linter.unusedVariables false
set_option maxRecDepth 100000
set_option linter.unusedSimpArgs false
namespace Go.Proofs.YtlgoihmkgaaemaaGreat
open Go.RowKit Tryz
theorem Gz (w:World):Calls prog 170 #[.string ⟨#[0]⟩,I 16] w λe w'=>e=.returned (.string rX)/\Below w.heap.size w w' :=
 strings_Repeat_main ⟨#[0]⟩ 16 w Δ Δ Δ Δ
theorem X5 (s:pV) (n:Nat) (w:World) (hn:n<=1000) (hs:s.data.size<=100000) :
  Calls prog 113 #[.agg #[I s.page,I s.aD,.string s.data,.bool s.wr,.bool s.ex],I n] w λe w'=>e=.returned (.string (pL s n))/\Below w.heap.size w w':=by
 obtain⟨pg,pn,dt,wr,q⟩:=s;simp only at hs;obtain⟨b,hb⟩:∃b:Nat,b=min (n*16) dt.size:=⟨_,rfl⟩;obtain⟨e,he⟩:∃e:Nat,e=min (b+16) dt.size:=⟨_,rfl⟩;have G:Hid (pL ⟨pg,pn,dt,wr,q⟩ n=gB rX 0 (dt.extract b e)):=by
  show _=_
  grind [pL]
 have J:min ((n:Int)*16) (dt.size:Int)=(b:Int):=by omega
 have K:min ((b:Int)+16) (dt.size:Int)=(e:Int):=by omega
 have h1:b<=e:=by omega
 have h2:e<=dt.size:=by omega
 have h3:e<=b+16:=by omega
 have y:Hid (∀V,Calls prog 124 #[.string rX,I 0,.string (dt.extract b e)] V λe w'=>e=.returned (.tuple #[.string (pL ⟨pg,pn,dt,wr,q⟩ n),I 0])/\Below V.heap.size V w'):=λV=>by
  rw[G.o];exact H9 rX (dt.extract b e) 0 V (by grind [Bn]) (by grind [Bn,Bp])
 have BX:=aq (bH w #[I pg,I pn,.string dt,.bool wr,.bool q] 166);have HB:=aq ((aN w.heap.size w).alloc (aK _) (.cells #[I pg,I pn,.string dt,.bool wr,.bool q] 166));obtain⟨W,hW⟩:=ex (w.alloc (.cells #[I pg,I pn,.string dt,.bool wr,.bool q] 166));rw[<- hW] at BX HB;have HW:=aq hW;clear hW hb he;have Ul:=aQ BX.o;have Fs:=kf W;have B:=@fJ W;have e2:∀x:ed W.heap.size W,x.world.cell? (Ad w.heap.size 2)=some (.string dt):=λx=>by grind [aA,Hid.o]
 have HZ:Hid (∀V,Below W.heap.size W V->Calls prog 170 #[.string ⟨#[0]⟩,I 16] V λe w'=>e=.returned (.string rX)/\Below V.heap.size V w'):=λV _=>Gz V
 have DW:Hid (∀V,Below W.heap.size W V->Calls prog 124 #[.string rX,I 0,.string (dt.extract b e)] V λe w'=>e=.returned (.tuple #[.string (pL ⟨pg,pn,dt,wr,q⟩ n),I 0])/\Below V.heap.size V w'):=λV _=>y.o V
 clear B y;go_enter func113,ntmps113;go_wp2;rw[<- HW.o];refine eT ρ κ ?_
 repeat (first | go_big_quiet_step ((first | (go_at_call 170;exact vV _ HZ.o) | (go_at_call 124;exact vV _ DW.o))) | quiet_step ((first | (go_at_call 170;exact vV _ HZ.o) | (go_at_call 124;exact vV _ DW.o))))
 refine mM ?_;intro _ F;obtain⟨x,A⟩:=F;subst A;go_wp2;go_ret;exact⟨rfl,HB.o.trans (x.keeps.mono HB.o.size)⟩
theorem aky:(prog.info? 226).map (λi=>(i.zero,i.size,i.bytes))=some (some (.agg #[I 0,.string ⟨#[]⟩]),2,24):=by rfl
theorem Vl (page:Int) (ps:List lu) (ao:Option Addr) (cap:Nat) (w:World) (h0:0<=page) (h1:page<=3000) (h:OH w ao ps) (hn:ps.length<=1000) (hf:∀k,k<ps.length->abD (Ah ps k)) :
  Calls prog 114 #[I page,.slice ao ps.length cap] w λe w'=>(∃v,e=.returned v/\w'.ownsRow w.heap.size 226 2 v (iM page ps).length ((iM page ps).flatMap FH))/\Below w.heap.size w w':=by
 have HH:=aq h;have HF:=aq hf;clear h hf;obtain⟨i0,hi,a2,Y,W⟩:=kI aky;go_enter func114,ntmps114;go_wp2;go_loopw [17,6] (λi v wr=>∃k:Nat,k<=ps.length/\i=I k/\wr.ownsRow w.heap.size 226 2 v (iM page (ps.take k)).length ((iM page (ps.take k)).flatMap FH)/\Below w.heap.size w wr) (λi _ _=>ps.length-(intOf i).toNat)
 case atStart=>exact⟨0,ω,rfl,pT _ _ _ _,aN _ _⟩
 case round =>
  obtain⟨k,hk,rfl,B,hb⟩:=hrel;have y:=aq B;have wQ:=aq hb;by_cases hlt:k<ps.length
  . obtain⟨b,off,a0,a4,di⟩:=(HH.o.below hb) ω;subst a0;obtain⟨c0,c1⟩:=di k hlt;obtain⟨f1,f2,f3⟩:=HF.o k hlt;have HT:Hid (iM page (ps.take (k+1))=iM page (ps.take k)++Eh page (Ah ps k)):=by
     show _=_;rw[abq ps ahr k hlt,VE];rfl
    have L:=Cr page (ps.take k);rw[o7] at L;generalize iM page (ps.take k)=G at y HT L;generalize Ah ps k=p at c0 c1 f1 f2 f3 HT;clear di hb B;obtain⟨P,by_⟩:=p;simp only at c0 c1 f1 f2 f3;have iQ:=aq (wQ.o.alloc wQ.o.size (.cells #[I P,.string by_] 282));have Qi:=aq ((aN wr.heap.size wr).alloc (aK _) (.cells #[I P,.string by_] 282));obtain⟨A,hA⟩:=ex (max (page*16) P);obtain⟨E,hE⟩:=ex (min (page*16+16) (P+8));have a6:page*16<=A/\P<=A/\A<=1000000:=by omega
    have a3:E<=page*16+16/\E<=P+8:=by omega
    have Z:max (page*16) P=A:=hA.symm;have a1:min (page*16+16) (P+8)=E:=hE.symm;have K:Hid (Eh page ⟨P,by_⟩=if A<E then [⟨A-page*16,by_.extract (A-P).toNat (A-P+(E-A)).toNat⟩] else []):=by
     show _=_;unfold Eh;simp only;rw[Z,a1]
    clear hA hE;by_cases hAE:A<E
    . rw[K.o,aC hAE] at HT;obtain⟨u,hu⟩:∃u:Nat,A-P=(u:Int):=⟨(A-P).toNat,ω⟩;obtain⟨n,hn⟩:∃n:Nat,E-A=(n:Int):=⟨(E-A).toNat,ω⟩;have Q:(A-P+(E-A)).toNat=u+n:=by omega
      have N:(A-P).toNat=u:=by omega
      rw[Q,N] at HT;have O:Hid (∀V,Calls prog 171 #[.string by_,I (A-P),I (E-A)] V λe w'=>e=.returned (.tuple #[.string (by_.extract u (u+n)),I 0])/\Below V.heap.size V w'):=λV=>by
       rw[hu,hn];exact Bj by_ u n V ω ω
      generalize by_.extract u (u+n)=s at O HT;clear hu hn Q N K;have T:¬E<=A:=by omega
      go_wp2_with (first
       | (go_at_call 171;refine(O.o _).mono ?_;rintro e w1 ⟨rfl,hb⟩;have cD:=aq (iQ.o.trans (hb.mono iQ.o.size));have M:=aq ((tL y.o (Qi.o.trans (hb.mono Qi.o.size))).alloc (.cells #[I (A-page*16),.string s] 226));have X:=M.o.lt;have Tv:=aq (bH w1 #[I (A-page*16),.string s] 226);have BP:=aq (aU (bH wr #[I P,.string by_] 282) hb ξ);clear hb)
       | (at_builtin;refine Kz _ rfl _ _ 143 rfl w.heap.size 226 i0 (.agg #[I 0,.string ⟨#[]⟩]) 2 24 underlying143 hi a2 Y W rfl Δ _ _ _ rfl M.o (Ad w1.heap.size 0) 1 1 [I (A-page*16),.string s] rfl rfl (xY Tv.o) (by intro u hu;simp at hu;rcases hu with rfl | rfl <;> rfl) Δ (by unfold maxLen;omega) ω (by have:=cD.o.size;simp;omega) (w1.heap.size+1) ξ ?_;intro gg a5 w2 J F R IG;have U:=aq J;have iJ:=aq ((cD.o.alloc cD.o.size (.cells #[I (A-page*16),.string s] 226)).grown F (by have:=cD.o.size;simp;omega) (λq hq=>(X _ hq).1));clear J F R))
      go_roundw
      case rel=>exact⟨k+1,ω,by go_num,by rw[HT.o,ft,tH];exact U.o,iJ.o⟩
      case measure=>simp[intOf];omega
    rw[K.o,aB hAE,Ch] at HT;have T:E<=A:=by omega
    clear K;go_wp2;go_roundw
    case rel=>exact⟨k+1,ω,by go_num,by rw[HT.o];exact y.o.alloc _,iQ.o⟩
    case measure=>simp[intOf];omega
  obtain rfl:k=ps.length:=by omega
  rw[qJ] at y;clear B hb;go_wp2;go_ret;exact⟨⟨_,rfl,y.o⟩,wQ.o⟩
open Go.RowKit
def uU (l:List IH) (s:ByteArray):Option Nat:=l.findIdx? (λy=>decide (y.name=s))
theorem RD (l:List IH) (j:Nat) (h:j<l.length):nu l j=l[j]:=by
 grind [nu]
theorem aej {l:List IH} {s:ByteArray} {k:Nat} (hk:k<l.length) (h:(nu l k).name=s) (hno:∀j,j<k->(nu l j).name≠s):uU l s=some k:=by
 grind [uU,List.findIdx?_eq_some_iff_getElem,RD]
theorem Yb {l:List IH} {s:ByteArray} (h:∀j,j<l.length->(nu l j).name≠s):uU l s=none:=by
 grind [uU,List.getElem_of_mem,RD]
theorem aei {l:List IH} {s:ByteArray} {k:Nat} (h:uU l s=some k):k<l.length:=by
 grind [uU,List.findIdx?_eq_some_iff_getElem]
def GC (o:fw) (s:ByteArray):Option Int:=match uU o.i.syms s with
 | none=>none
 | some k=>some (ow o (nu o.i.syms k).pos)
def yD (l:List fw) (s:ByteArray):Nat->Option Int
 | 0=>none
 | k+1=>match yD l s k with
  | some t=>some t
  | none=>GC (bE l k) s
def vW (l:List fw) (o:fw) (s:ByteArray):Option Int:=if s=⟨#[]⟩ then some (ow o 0) else yD l s l.length
theorem Lv {l:List fw} {s:ByteArray} {k:Nat} {t:Int} (h:yD l s k=some t):∀n,k<=n->yD l s n=some t
 | 0,hn=>by grind
 | n+1,hn=>by
  by_cases e:k=n+1
  . grind
  simp only[yD];rw[Lv h n ω]
variable {w:World} {l:List oa} {i:sO} {w':World} {v:Value} {rb:Option Nat} {lo:Nat} {hs:List bC}
theorem GG (hc:gQ i=0):CY i=true:=by
 grind [gQ]
theorem Oq:∀{l:List pV} {a:Int} {s:pV},vT l a=some s->(∃k,k<l.length/\cQ l k=s)/\uJ s a=true
 | [],a,s,h=>by cases h
 | x::r,a,s,h=>by
  simp only[vT] at h;split at h
  . rename_i hi
    injection h with h;subst h;exact⟨⟨0,ξ,rfl⟩,hi⟩
  obtain⟨⟨k,hk,e⟩,hi⟩:=Oq h;exact⟨⟨k+1,Γ,by grind [cQ]⟩,hi⟩
theorem vX (hc:gQ i=0) {a:Int} (h:eH i.fA a=true):0<=a/\a<4080:=by
 unfold eH at h;obtain⟨s,hs⟩:=NQ.1 h;obtain⟨⟨k,hk,e⟩,hi⟩:=Oq hs;have hb:=mz hc k hk
 grind [uJ]
theorem Ya (hc:gQ i=0) (k:Nat) (hk:k<i.syms.length):0<=(nu i.syms k).pos/\(nu i.syms k).pos<4080:=by
 have h:=GG hc;unfold CY at h;simp only[cK] at h;exact vX hc (N9 (λy=>eH i.fA y.pos) U5 i.syms k hk h.1)
theorem Ov (i:sO):∀n,mS i n=true->∀k,k<n->tK i k=true
 | 0,_,k,hk=>by omega
 | n+1,h,k,hk=>by
  simp only[mS,cK] at h;by_cases e:k=n
  . grind
  exact Ov i n h.1 k ω
theorem ZW (hc:gQ i=0) (k:Nat) (hk:k<i.lV.length):tK i k=true:=by
 have h:=GG hc
 grind [CY,Ov]
theorem EO (hc:gQ i=0) (k:Nat) (hk:k<i.lV.length):0<=(ji i.lV k).pos/\(ji i.lV k).pos+7<4080:=by
 have h:=ZW hc k hk;unfold tK wV at h;simp only[cK] at h;have h0:=vX hc h.2.1;have h7:=vX hc h.2.2.2.2.2.2.2.2;omega
theorem Ik (hc:gQ i=0):0<=i.entry/\i.entry<4080:=by
 have h:=GG hc;unfold CY at h;simp only[cK] at h;have he:=h.2.2;unfold Fy at he;refine vX hc ?_
 grind [eH]
def KO (o:fw) (r:abh) (t:Int):lu:=⟨ow o r.pos,⟨(Lib.leBytes 8 (kz (t+r.add))).toArray⟩⟩
def jQ (l:List fw) (o:fw):Nat->Option (List lu)
 | 0=>some []
 | k+1=>match jQ l o k with
  | none=>none
  | some ps=>match vW l o (ji o.i.lV k).name with
   | none=>none
   | some t=>some (ps++[KO o (ji o.i.lV k) t])
def uK (l:List fw) (o:fw):Option (List lu):=jQ l o o.i.lV.length
theorem EP {l:List fw} {o:fw} {k:Nat} (h:jQ l o k=none):∀n,k<=n->jQ l o n=none
 | 0,hn=>by grind
 | n+1,hn=>by
  by_cases e:k=n+1
  . grind
  simp only[jQ];rw[EP h n ω]
theorem yF {l:List fw} {o:fw}:∀{k:Nat} {ps:List lu},jQ l o k=some ps->ps.length=k
 | 0,ps,h=>by grind [jQ]
 | k+1,ps,h=>by
  simp only[jQ] at h;cases e:jQ l o k with
  | none=>grind
  | some qs =>
   rw[e] at h;simp only at h;cases g:vW l o (ji o.i.lV k).name with
   | none=>grind
   | some t =>
    rw[g] at h;simp only at h;injection h with h;subst h;rw[ft,yF e];rfl
theorem aer (n:Int):kz (wrap64 n)=kz n:=by
 grind [kz,wrap64]
theorem aea (y:IH) (P:Nat) (s:ByteArray) (w:World) (hP:w.cell? (Ad P 0)=some (.string s)) :
  Calls prog 222 #[.agg #[.string y.name,I y.pos],.pointer (some (Ad P 0))] w λe w'=>e=.returned (.bool (decide (y.name=s)))/\Below w.heap.size w w':=by
 have b:P<w.heap.size:=jL w _ hP;obtain⟨nm,ps⟩:=y;go_enter func222,ntmps222;go_wp2;go_ret;simp[ZQ,aN,sI]
def Vf:Option Nat->Int
 | none=>-1
 | some k=>k
theorem Vh (l:List IH) (ao:Option Addr) (cap:Nat) (P:Nat) (s:ByteArray) (w:World) (h:dG EL w ao l) (hn:bD l.length) (hP:w.cell? (Ad P 0)=some (.string s)) :
  Calls prog 221 #[.slice ao l.length cap,.func (.func 222) #[] #[.pointer (some (Ad P 0))]] w λe w'=>e=.returned (I (Vf (uU l s)))/\Below w.heap.size w w':=by
 have HH:=aq h;have A:P<w.heap.size:=jL w _ hP;have HP:=aq hP;unfold bD at hn;clear h hP;go_enter func221,ntmps221;go_wp2;go_loopw [8] (λi wr=>∃k:Nat,k<=l.length/\i=I k/\(∀j,j<k->(nu l j).name≠s)/\Below w.heap.size w wr) (λi _=>l.length-(intOf i).toNat)
 case atStart=>grind [Below.refl]
 case round =>
  obtain⟨k,hk,rfl,q,hb⟩:=hrel;have sk:=aq q;have wQ:=aq hb;clear q;by_cases hlt:k<l.length
  . obtain⟨b,off,B,G,di⟩:=(dG.below (lie:=EL) (λhb hlt h=>Qy hb hlt h) HH.o hb) ω;subst B;obtain⟨c0,c1⟩:=di k hlt;have HY:Hid ((nu l k).name=s->uU l s=some k):=λe=>aej hlt e sk.o
    have HZ:Hid ((nu l k).name≠s->∀j,j<k+1->(nu l j).name≠s):=λe j hj=>by
     by_cases g:j=k
     . grind
     exact sk.o j ω
    generalize nu l k=y at c0 c1 HY HZ;have F:=aq ((hb.cell (p:=(Ad P 0)) A).trans HP.o);have HC:=aq (aea y P s wr F.o);clear di hb;by_cases NU:y.name=s
    . have HX:=aq (HY.o NU);rw[fD NU] at HC;clear NU HY HZ;go_wp2_with (go_at_call 222;refine HC.o.mono ?_;rintro e w1 ⟨rfl,hb⟩;have cD:=aq (wQ.o.trans (hb.mono wQ.o.size));clear hb);go_ret;exact⟨by rw[HX.o];rfl,cD.o⟩
    have HX:=aq (HZ.o NU);rw[fE NU] at HC;clear NU HY HZ;go_wp2_with (go_at_call 222;refine HC.o.mono ?_;rintro e w1 ⟨rfl,hb⟩;have cD:=aq (wQ.o.trans (hb.mono wQ.o.size));clear hb);go_roundw
    case rel=>exact⟨k+1,ω,by go_num,HX.o,cD.o⟩
    case measure=>simp[intOf];omega
  obtain rfl:k=l.length:=by omega
  have HX:=aq (Yb sk.o);go_wp2;go_ret;exact⟨by rw[HX.o];rfl,wQ.o⟩
def Cn (t:Option Int):Value:=.tuple #[I (t.getD 0),.bool t.isSome]
theorem XZ (o:fw) (s:ByteArray) (w:World) (h:l9 w o.a o.i) (hc:gQ o.i=0) (h0:0<=o.base) (h1:o.base<=100000) :
  Calls prog 202 #[.agg (iB o),.string s] w λe w'=>e=.returned (Cn (GC o s))/\Below w.heap.size w w':=by
 have hn:=(pX hc).2.2.2.1;have YQ:=aq (Ya hc);have QQ:=aq h.syms;have A:Hid (∀Li,0<=Li->Li<=100000->∀V,Calls prog 68 #[.agg (iB o),I Li] V λe w'=>e=.returned (I (ow o Li))/\Below V.heap.size V w'):=λa h2 h3 V=>yC o a V h0 h1 h2 h3
 have Tt:Hid (GC o s=match uU o.i.syms s with
  | none=>none
  | some k=>some (ow o (nu o.i.syms k).pos)):=rfl
 obtain⟨⟨nm,ns,gs,ys,rs,en⟩,⟨an,cn,ag,cg,ay,cy,ar,cr⟩,ba⟩:=o;simp only[iB] at A;simp only[iB];simp only at hn Tt QQ YQ;clear h hc;have BX:=aq (bH w #[.string nm,.slice an ns.length cn,.slice ag gs.length cg,.slice ay ys.length cy,.slice ar rs.length cr,I en,I ba] 131);have HB:=aq ((aN w.heap.size w).alloc (aK _) (.cells #[.string nm,.slice an ns.length cn,.slice ag gs.length cg,.slice ay ys.length cy,.slice ar rs.length cr,I en,I ba] 131));have iJ:=aq (HB.o.alloc HB.o.size (.cells #[.string s] 9));obtain⟨W,hW⟩:=ex ((w.alloc (.cells #[.string nm,.slice an ns.length cn,.slice ag gs.length cg,.slice ay ys.length cy,.slice ar rs.length cr,I en,I ba] 131)).alloc (.cells #[.string s] 9));have B:Hid (W.heap[w.heap.size]?=some (.cells #[.string nm,.slice an ns.length cn,.slice ag gs.length cg,.slice ay ys.length cy,.slice ar rs.length cr,I en,I ba] 131 (0,0))):=by
  grind [bu,Hid.o]
 have K:Hid (W.cell? (Ad (w.heap.size+1) 0)=some (.string s)):=by
  grind [aA,World.alloc]
 rw[<- hW] at iJ;have G:=aq hW;clear hW HB BX;have Mj:=aq (Vh ys ay cy (w.heap.size+1) s W (dG.below (lie:=EL) (λhb hlt h=>Qy hb hlt h) QQ.o iJ.o) (by grind [bD]) K.o);cases e:uU ys s with
 | none =>
  rw[e] at Mj Tt;simp only[Vf] at Mj Tt;rw[Tt.o];clear e;go_enter func202,ntmps202;go_wp2_with (go_at_call 221;rw[<- G.o];refine Mj.o.mono ?_;rintro e w1 ⟨rfl,hb⟩;have ou:=aq (iJ.o.trans (hb.mono iJ.o.size));clear hb)
  go_ret2
  exact⟨rfl,ou.o⟩
 | some k =>
  have hk:=aei e;rw[e] at Mj Tt;simp only[Vf] at Mj Tt;rw[Tt.o];have Bl:=YQ.o k hk;obtain⟨by_,off,M,F,di⟩:=QQ.o ω;subst M;obtain⟨-,c1⟩:=di k hk;generalize (nu ys k).pos=q at c1 Bl ⊢;have qO:=aq (A.o q Bl.1 ω);clear e di YQ Tt A;go_enter func202,ntmps202;go_wp2_with (go_at_call 221;rw[<- G.o];refine Mj.o.mono ?_;rintro e w1 ⟨rfl,hb⟩;have ou:=aq (iJ.o.trans (hb.mono iJ.o.size));have SQ:=aq (aU B.o hb (aQ B.o));clear hb);have y:=aQ SQ.o;have L:by_<w1.heap.size:=dV F ou.o.size;have Fs:=kf w1;have b:=@fJ w1;have x0:∀x:ed w1.heap.size w1,x.world.cell? (Ad w.heap.size 0)=some (.string nm):=λx=>by rw[b x _ _ y];exact aA SQ.o 0 rfl
  have x1:∀x:ed w1.heap.size w1,x.world.cell? (Ad w.heap.size 1)=some (.slice an ns.length cn):=λx=>by rw[b x _ _ y];exact aA SQ.o 1 rfl
  have x2:∀x:ed w1.heap.size w1,x.world.cell? (Ad w.heap.size 2)=some (.slice ag gs.length cg):=λx=>by rw[b x _ _ y];exact aA SQ.o 2 rfl
  have x3:∀x:ed w1.heap.size w1,x.world.cell? (Ad w.heap.size 3)=some (.slice (some (Ad by_ off)) ys.length cy):=λx=>by rw[b x _ _ y];exact aA SQ.o 3 rfl
  have x4:∀x:ed w1.heap.size w1,x.world.cell? (Ad w.heap.size 4)=some (.slice ar rs.length cr):=λx=>by rw[b x _ _ y];exact aA SQ.o 4 rfl
  have x5:∀x:ed w1.heap.size w1,x.world.cell? (Ad w.heap.size 5)=some (I en):=λx=>by rw[b x _ _ y];exact aA SQ.o 5 rfl
  have x6:∀x:ed w1.heap.size w1,x.world.cell? (Ad w.heap.size 6)=some (I ba):=λx=>by rw[b x _ _ y];exact aA SQ.o 6 rfl
  have y1:∀x:ed w1.heap.size w1,x.world.cell? (Ad by_ (off+k*2+1))=some (I q):=λx=>by rw[b x _ _ L,ou.o.cell (p:=(Ad by_ _)) F];exact c1
  have CF:Hid (∀V,Below w1.heap.size w1 V->Calls prog 68 #[.agg #[.string nm,.slice an ns.length cn,.slice ag gs.length cg,.slice (some (Ad by_ off)) ys.length cy,.slice ar rs.length cr,I en,I ba],I q] V λe w'=>e=.returned (I (ow ⟨⟨nm,ns,gs,ys,rs,en⟩,⟨an,cn,ag,cg,some (Ad by_ off),cy,ar,cr⟩,ba⟩ q))/\Below V.heap.size V w'):=λV _=>qO.o V
  clear b qO;refine eT κ κ ?_
  repeat (first | go_big_quiet_step ((go_at_call 68;exact vV _ CF.o)) | quiet_step ((go_at_call 68;exact vV _ CF.o)))
  refine mM ?_;intro _ N;obtain⟨x,J⟩:=N;subst J;go_wp2
  go_ret2
  exact⟨rfl,ou.o.trans (x.keeps.mono ou.o.size)⟩
structure Oi (l:List fw) (ao:Option Addr) (w:World):Prop where
 has:Ei w ao l
 few:l.length<=1000
 chk:∀k,k<l.length->gQ (bE l k).i=0
 fit:∀k,k<l.length->BH (bE l k).i
 base:∀k,k<l.length->1<=(bE l k).base/\(bE l k).base<=2000
theorem Oi.below {l:List fw} {ao:Option Addr} (h:Oi l ao w) (hb:Below w.heap.size w w'):Oi l ao w':=⟨h.has.below hb,h.few,h.chk,h.fit,h.base⟩
theorem XY (l:List fw) (ao:Option Addr) (cap:Nat) (o:fw) (s:ByteArray) (w:World) (h:Oi l ao w) (h0:0<=o.base) (h1:o.base<=100000) :
  Calls prog 168 #[.agg (iB o),.slice ao l.length cap,.string s] w λe w'=>e=.returned (Cn (vW l o s))/\Below w.heap.size w w':=by
 have HO:=aq h;have hn:=h.few;clear h;have F:=aq (λV=>yC o 0 V h0 h1 ω ω);have y:Hid (vW l o s=if s=⟨#[]⟩ then some (ow o 0) else yD l s l.length):=rfl;generalize ow o 0=a0 at F y;generalize vW l o s=R at y ⊢;obtain⟨⟨nm,ns,gs,ys,rs,en⟩,⟨an,cn,ag,cg,ay,cy,ar,cr⟩,ba⟩:=o;simp only[iB] at F;simp only[iB];have HB:=aq ((aN w.heap.size w).alloc (aK _) (.cells #[.string nm,.slice an ns.length cn,.slice ag gs.length cg,.slice ay ys.length cy,.slice ar rs.length cr,I en,I ba] 131));by_cases hs:s=⟨#[]⟩
 . subst hs;rw[aC rfl] at y;go_enter func168,ntmps168;go_wp2_with (go_at_call 68;refine(F.o _).mono ?_;rintro e w1 ⟨rfl,hb⟩;have cD:=aq (HB.o.trans (hb.mono HB.o.size));clear hb)
   go_ret2
   exact⟨by rw[y.o];rfl,cD.o⟩
 rw[aB hs] at y;have K:¬s.toList=[]:=λe=>hs (by
  rw[Lib.toList_data] at e;cases s
  simp_all)
 have O:s.toList.isEmpty=false:=by grind
 clear hs K;go_enter func168,ntmps168;go_wp2;go_loopw [18] (λi wr=>∃k:Nat,k<=l.length/\i=I k/\yD l s k=none/\Below w.heap.size w wr) (λi _=>l.length-(intOf i).toNat)
 case atStart=>exact⟨0,ω,rfl,rfl,HB.o⟩
 case round =>
  obtain⟨k,hk,rfl,hz,hb⟩:=hrel;have HZ:=aq hz;have wQ:=aq hb;clear hz;by_cases hlt:k<l.length
  . have L:=aq (HO.o.below hb);obtain⟨b,off,J,N,di⟩:=L.o.has ω;subst J;obtain⟨⟨c0,c1,c2,c3,c4,c5,c6⟩,G⟩:=di k hlt;have M:=HO.o.base k hlt;have A:Hid (yD l s (k+1)=GC (bE l k) s):=by
     show _=_;simp only[yD];rw[HZ.o]
    have B:Hid (∀t,GC (bE l k) s=some t->R=some t):=λt g=>by
     rw[y.o];exact Lv (by rw[A.o];exact g) l.length ω
    have QQ:Hid (∀V,Below wr.heap.size wr V->Calls prog 202 #[.agg (iB (bE l k)),.string s] V λe w'=>e=.returned (Cn (GC (bE l k) s))/\Below V.heap.size V w'):=λV hb=>XZ (bE l k) s V (G.below hb) (HO.o.chk k hlt) ω ω
    generalize bE l k=q at c0 c1 c2 c3 c4 c5 c6 A B QQ;simp only[iB] at QQ;clear di hb G M;have iQ:=aq (wQ.o.alloc wQ.o.size (.cells #[.string q.i.name,.slice q.a.an q.i.needs.length q.a.cn,.slice q.a.ag q.i.fA.length q.a.cg,.slice q.a.ay q.i.syms.length q.a.cy,.slice q.a.ar q.i.lV.length q.a.cr,I q.i.entry,I q.base] 131));cases e:GC q s with
    | none =>
     rw[e] at QQ A;simp only[Cn,Option.getD_none,aaP] at QQ;clear e B;go_wp2_with (go_at_call 202;refine(QQ.o _ ((aN _ _).alloc (aK _) _)).mono ?_;rintro e w1 ⟨rfl,hb⟩;have iQ:=aq (iQ.o.trans (hb.mono iQ.o.size));clear hb);go_roundw
     case rel=>exact⟨k+1,ω,by go_num,A.o,iQ.o⟩
     case measure=>simp[intOf];omega
    | some t =>
     have Xy:=aq (B.o t e);rw[e] at QQ;simp only[Cn,Option.getD_some,aaO] at QQ;clear e B A;go_wp2_with (go_at_call 202;refine(QQ.o _ ((aN _ _).alloc (aK _) _)).mono ?_;rintro e w1 ⟨rfl,hb⟩;have iQ:=aq (iQ.o.trans (hb.mono iQ.o.size));clear hb)
     go_ret2
     exact⟨by rw[Xy.o];rfl,iQ.o⟩
  obtain rfl:k=l.length:=by omega
  clear hb;go_wp2
  go_ret2
  exact⟨by rw[y.o,HZ.o];rfl,wQ.o⟩
theorem xy (all:List fy) (hc:∀j,j<all.length->gQ (bV all j).i=0):∀(ix:List Nat) (b:Int) (k:Nat),(∀j∈ix,j<all.length)->eQ all b (ix.take k)<=eQ all b ix
 | [],b,k,_=>by simp
 | j::r,b,0,h=>by
  have:=(pd all hc (j::r) b h).1;simpa [eQ] using this
 | j::r,b,k+1,h=>by
  have:=xy all hc r (kK ⟨(bV all j).i,(bV all j).a,b⟩) k (λq hq=>h q (Gp _ hq));simpa [eQ] using this
theorem GA (ix:List Nat) (k:Nat) (h:k<ix.length):ix.take (k+1)=ix.take k++[ix.getD k 0]:=by
 rw[ai9,cB,fF h];rfl
theorem akv:(prog.info? 282).map (λi=>(i.zero,i.size,i.bytes))=some (some (.agg #[I 0,.string ⟨#[]⟩]),2,24):=by rfl
theorem aeb {base base':Nat} {e:TypeId} {size:Nat} {n:Nat} {xs:List Value} (h:w.ownsRow base e size v n xs) (hl:base'<=base):w.ownsRow base' e size v n xs:=by
 refine⟨h.1,?_⟩;rcases h.2 with h2 | ⟨g,cap,b,hv,q,rest⟩
 . grind
 exact .inr ⟨g,cap,b,hv,eJ hl q,rest⟩
def Oh (R:Option (List lu)) (w:World) (e:Ending) (w':World):Prop:=Below w.heap.size w w'/\match R with
 | none=>e=.returned (.tuple #[Nl,.bool false])
 | some ps=>∃v,e=.returned (.tuple #[v,.bool true])/\w'.ownsRow w.heap.size 282 2 v ps.length (ps.flatMap I6)
theorem Qz (l:List fw) (ao:Option Addr) (cap:Nat) (o:fw) (w:World) (h:Oi l ao w) (hi:l9 w o.a o.i) (hc:gQ o.i=0) (hfo:BH o.i) (h0:1<=o.base) (h1:o.base<=2000) :
  Calls prog 112 #[.agg (iB o),.slice ao l.length cap] w (Oh (uK l o) w):=by
 have hn:=(pX hc).2.2.2.2;have Pw:=aq (EO hc);have K5:=aq hfo.rel;have a5:=aq hi.lV;have F:Hid (∀Li,0<=Li->Li<=100000->∀V,Calls prog 68 #[.agg (iB o),I Li] V λe w'=>e=.returned (I (ow o Li))/\Below V.heap.size V w'):=λa h2 h3 V=>yC o a V ω ω h2 h3
 have J:Hid (∀s V,Below w.heap.size w V->Calls prog 168 #[.agg (iB o),.slice ao l.length cap,.string s] V λe w'=>e=.returned (Cn (vW l o s))/\Below V.heap.size V w'):=λs V hb=>XY l ao cap o s V (h.below hb) ω ω
 obtain⟨R,hR⟩:=ex (uK l o);have HR:Hid (R=jQ l o o.i.lV.length):=hR;rw[<- hR];clear hR h hi hc hfo;obtain⟨i0,aj,av,au,am⟩:=kI akv;obtain⟨og,M⟩:=ex o;have W:=aq M;rw[<- M] at HR Pw K5 a5 J F hn;simp only[iB] at J F;rw[M] at J F;clear M;have U:Hid (∀s V,Below w.heap.size w V->Calls prog 168 #[.agg #[.string o.i.name,.slice o.a.an o.i.needs.length o.a.cn,.slice o.a.ag o.i.fA.length o.a.cg,.slice o.a.ay o.i.syms.length o.a.cy,.slice o.a.ar o.i.lV.length o.a.cr,I o.i.entry,I o.base],.slice ao l.length cap,.string s] V λe w'=>e=.returned (Cn (vW l og s))/\Below V.heap.size V w'):=by
  rw[W.o];exact J
 have N:Hid (∀Li,0<=Li->Li<=100000->∀V,Calls prog 68 #[.agg #[.string o.i.name,.slice o.a.an o.i.needs.length o.a.cn,.slice o.a.ag o.i.fA.length o.a.cg,.slice o.a.ay o.i.syms.length o.a.cy,.slice o.a.ar o.i.lV.length o.a.cr,I o.i.entry,I o.base],I Li] V λe w'=>e=.returned (I (ow og Li))/\Below V.heap.size V w'):=by
  rw[W.o];exact F
 have X:Hid (dG MJ w o.a.ar og.i.lV):=by
  grind [Hid.o]
 have O:o.i.lV.length=og.i.lV.length:=by rw[W.o]
 clear J F a5;simp only[iB];obtain⟨⟨nm,ns,gs,ys,rs,en⟩,⟨an,cn,ag,cg,ay,cy,ar,cr⟩,ba⟩:=o;simp only at U N X O h0 h1;simp only;rw[O] at U N;rw[O];clear O W;obtain⟨L,hL⟩:=ex og.i.lV;rw[<- hL] at U N X hn HR Pw K5;rw[<- hL];have HL:=aq hL;clear hL;have HB:=aq ((aN w.heap.size w).alloc (aK _) (.cells #[.string nm,.slice an ns.length cn,.slice ag gs.length cg,.slice ay ys.length cy,.slice ar L.length cr,I en,I ba] 131));have BX:=aq (bH w #[.string nm,.slice an ns.length cn,.slice ag gs.length cg,.slice ay ys.length cy,.slice ar L.length cr,I en,I ba] 131);go_enter func112,ntmps112;go_wp2;go_loopw [17,6] (λi v wr=>∃(k:Nat) (ps:List lu),k<=L.length/\i=I k/\jQ l og k=some ps/\wr.ownsRow (w.heap.size+1) 282 2 v ps.length (ps.flatMap I6)/\Below w.heap.size w wr/\wr.heap[w.heap.size]?=some (.cells #[.string nm,.slice an ns.length cn,.slice ag gs.length cg,.slice ay ys.length cy,.slice ar L.length cr,I en,I ba] 131 (0,0))) (λi _ _=>L.length-(intOf i).toNat)
 case atStart=>exact⟨0,[],ω,rfl,rfl,pT _ _ _ _,HB.o,BX.o⟩
 case round =>
  obtain⟨k,ps,hk,rfl,T,B,hb,Ul⟩:=hrel;have a2:=aq T;have a1:=aq B;have wQ:=aq hb;have a4:=aq Ul;have a6:=aQ Ul;have az:ps.length<=16:=by have:=yF T;omega
  have x0:=aA Ul 0 rfl;have x1:=aA Ul 1 rfl;have x2:=aA Ul 2 rfl;have x3:=aA Ul 3 rfl;have x4:=aA Ul 4 rfl;have x5:=aA Ul 5 rfl;have x6:=aA Ul 6 rfl;by_cases hlt:k<L.length
  . obtain⟨b,off,a0,aB,di⟩:=(dG.below (lie:=MJ) (λhb hlt h=>U9 hb hlt h) X.o hb) ω;obtain⟨c0,c1,c2⟩:=di k hlt;have Lg:=Pw.o k hlt;have G:Hid (∀t,vW l og (ji L k).name=some t->jQ l og (k+1)=some (ps++[KO og (ji L k) t])):=λt g=>by
     rw[HL.o] at g ⊢;simp only[jQ,a2.o,g]
    have pK:Hid (vW l og (ji L k).name=none->R=none):=λg=>by
     rw[HR.o];refine EP (k:=k+1) ?_ L.length ω;rw[HL.o] at g;simp only[jQ,a2.o,g]
    generalize ji L k=r at c0 c1 c2 Lg G pK;clear di T B Ul;obtain⟨rp,rn,ra⟩:=r;simp only at c0 c1 c2 Lg G pK;have iQ:=aq (wQ.o.alloc wQ.o.size (.cells #[I rp,.string rn,I ra] 278));have Qi:=aq ((aN wr.heap.size wr).alloc (aK _) (.cells #[I rp,.string rn,I ra] 278));have ad:=aq (bH wr #[I rp,.string rn,I ra] 278);have A:=aq (U.o rn);cases e:vW l og rn with
    | none =>
     have ae:=aq (pK.o e);rw[e] at A;simp only[Cn,Option.getD_none,aaP] at A;clear e pK G hb;subst a0;go_wp2_with (go_at_call 168;refine(A.o _ iQ.o).mono ?_;rintro e w1 ⟨rfl,hb⟩;have cD:=aq (iQ.o.trans (hb.mono iQ.o.size));clear hb)
     go_ret2
     show Oh R w _ _;rw[ae.o];exact⟨cD.o,rfl⟩
    | some t =>
     have Z:=aq (G.o t e);rw[e] at A;simp only[Cn,Option.getD_some,aaO] at A;have qO:=aq (N.o rp Lg.1 ω);have Q:Hid (KO og ⟨rp,rn,ra⟩ t=⟨ow og rp,⟨(Lib.leBytes 8 (kz (t+ra))).toArray⟩⟩):=rfl;obtain⟨a8,a9⟩:=ex (ow og rp);obtain⟨sb,Bl⟩:∃sb:ByteArray,sb=⟨(Lib.leBytes 8 (kz (t+ra))).toArray⟩:=⟨_,rfl⟩;have af:Hid (∀n,kz n=kz (t+ra)->∀V,Calls prog 169 #[I n,I 8] V λe w'=>e=.returned (.tuple #[.string sb,I 0])/\Below V.heap.size V w'):=λn hn V=>by
      have h:=Xd n 8 V Δ Δ;rw[hn,<- Bl] at h;exact h
     rw[<- a9] at qO Q;rw[<- Bl] at Q;rw[Q.o] at Z;clear e pK G Q a9 Bl hb;subst a0;go_wp2_with (first
      | (go_at_call 168;refine(A.o _ iQ.o).mono ?_;rintro e w1 ⟨rfl,hb⟩;have cD:=aq (iQ.o.trans (hb.mono iQ.o.size));have ac:=aq (Qi.o.trans (hb.mono Qi.o.size));have Iz:=aq (aU ad.o hb (aQ ad.o));have z2:=aA Iz.o 2 rfl;clear hb)
      | (go_at_call 169;refine(af.o _ (by first | rfl | exact aer _) _).mono ?_;rintro e w2 ⟨rfl,hb⟩;have iJ:=aq (cD.o.trans (hb.mono cD.o.size));have Y:=aq (ac.o.trans (hb.mono ac.o.size));have TE:=aq (aU Iz.o hb (aQ Iz.o));have v0:=aA TE.o 0 rfl;have Qb:=aq (aU a4.o Y.o a6);have q0:=aA Qb.o 0 rfl;have q1:=aA Qb.o 1 rfl;have q2:=aA Qb.o 2 rfl;have q3:=aA Qb.o 3 rfl;have q4:=aA Qb.o 4 rfl;have q5:=aA Qb.o 5 rfl;have q6:=aA Qb.o 6 rfl;clear hb)
      | (go_at_call 68;refine(qO.o _).mono ?_;rintro e w3 ⟨rfl,hb⟩;have ou:=aq (iJ.o.trans (hb.mono iJ.o.size));have a7:=aq (Y.o.trans (hb.mono Y.o.size));have aa:=aq (aU a4.o a7.o a6);have ab:=aq ((tL a1.o a7.o).alloc (.cells #[I a8,.string sb] 282));have K:=ab.o.lt;have ap:=aq (bH w3 #[I a8,.string sb] 282);clear hb)
      | (at_builtin;refine Kz _ rfl _ _ 213 rfl (w.heap.size+1) 282 i0 (.agg #[I 0,.string ⟨#[]⟩]) 2 24 underlying213 aj av au am rfl Δ _ _ _ rfl ab.o (Ad w3.heap.size 0) 1 1 [I a8,.string sb] rfl rfl (xY ap.o) (by intro u hu;simp at hu;rcases hu with rfl | rfl <;> rfl) Δ (by unfold maxLen;omega) ω (by have:=aQ aa.o;simp;omega) (w3.heap.size+1) ξ ?_;intro gg aC w4 a3 y ah aw;have M7:=aq a3;have Cc:=aq ((ou.o.alloc ou.o.size (.cells #[I a8,.string sb] 282)).grown y (by have:=ou.o.size;simp;omega) (λq hq=>by have:=K _ hq;omega));have al:=aq (AK (bu aa.o (.cells #[I a8,.string sb] 282)) y (λe=>by have:=K _ e.symm;omega));clear a3 y ah))
     go_roundw
     case rel=>exact⟨k+1,ps++[⟨a8,sb⟩],ω,by go_num,Z.o,by rw[ft,tH];exact M7.o,Cc.o,al.o⟩
     case measure=>simp[intOf];omega
  obtain rfl:k=L.length:=by omega
  have HE:Hid (R=some ps):=by rw[HR.o];omega
  clear T B hb Ul;go_wp2
  go_ret2
  show Oh R w _ _;rw[HE.o];exact⟨wQ.o,_,rfl,aeb a1.o ω⟩
structure yM where
 page:Int
 data:ByteArray
 dR:List oa
def eZ (s:bC):yM:=⟨s.page,s.data,s.dR⟩
def abu (o:fw) (ps:List lu) (s:pV) (m:Nat):yM:=⟨o.base+s.page+(m:Int),pL s m,iM (o.base+s.page+(m:Int)) ps⟩
def sQ (o:fw) (ps:List lu) (s:pV) (n:Nat):List yM:=(List.range n).map (abu o ps s)
def ov (o:fw) (ps:List lu):Nat->List yM
 | 0=>[]
 | k+1=>ov o ps k++sQ o ps (cQ o.i.fA k) (cQ o.i.fA k).aD.toNat
def lN (l:List fw):Nat->Option (List yM)
 | 0=>some []
 | k+1=>match lN l k with
  | none=>none
  | some E=>match uK l (bE l k) with
   | none=>none
   | some ps=>some (E++ov (bE l k) ps (bE l k).i.fA.length)
def oD (l:List fw):Option (List yM):=lN l l.length
theorem Ye (o:fw) (ps:List lu) (s:pV) (n:Nat):sQ o ps s (n+1)=sQ o ps s n++[abu o ps s n]:=by
 grind [sQ,List.range_succ]
theorem wW {l:List fw} {k:Nat} (h:lN l k=none):∀n,k<=n->lN l n=none
 | 0,hn=>by grind
 | n+1,hn=>by
  by_cases e:k=n+1
  . grind
  simp only[lN];rw[wW h n ω]
theorem Vu {l:List fw} {o:fw} (hc:gQ o.i=0) (h0:1<=o.base) (h1:o.base<=2000):∀(k:Nat) (ps:List lu),k<=o.i.lV.length->jQ l o k=some ps->∀j,j<ps.length->abD (Ah ps j)
 | 0,ps,_,h,j,hj=>by grind [jQ]
 | k+1,ps,hk,h,j,hj=>by
  simp only[jQ] at h;cases e:jQ l o k with
  | none=>grind
  | some qs =>
   rw[e] at h;simp only at h;cases g:vW l o (ji o.i.lV k).name with
   | none=>grind
   | some t =>
    rw[g] at h;simp only at h;injection h with h;subst h;rw[ft] at hj;by_cases hjq:j<qs.length
    . have:=Vu hc h0 h1 k qs ω e j hjq
      grind [Ah]
    have hje:j=qs.length:=by grind
    subst hje;unfold Ah;rw[cB,yx (aK _),D4];have hb:=EO hc k ω;refine⟨?_,?_,?_⟩
    . show 0<=o.base*16+(ji o.i.lV k).pos;omega
    . show o.base*16+(ji o.i.lV k).pos<=1000000;omega
    rfl
def ug (rb:Option Nat) (w:World) (ao:Option Addr) (l:List oa):Prop:=0<l.length->∃b off,ao=some (Ad b off)/\b<w.heap.size/\some b≠rb/\GN w b off l
theorem ug.has {ao:Option Addr} (h:ug rb w ao l):xC w ao l:=λhl=>by
 obtain⟨b,off,h1,h2,_,h3⟩:=h hl
 grind
theorem ug.below {ao:Option Addr} (h:ug rb w ao l) (hb:Below w.heap.size w w'):ug rb w' ao l:=λhl=>by
 obtain⟨b,off,h1,h2,h3,h4⟩:=h hl
 grind [Nat.lt_of_lt_of_le,ajw,Below.size]
theorem Yf {b off:Nat} (h:GN w b off l) (hb:w'.heap[b]?=w.heap[b]?):GN w' b off l:=λi hi=>by
 obtain⟨c0,c1⟩:=h i hi
 grind [World.cell?_of_block]
theorem ug.grown {ao:Option Addr} {g:Nat} (h:ug rb w ao l) (hg:w.grownBy w' rb) (hs:w.heap.size<=w'.heap.size) (hat:rb=some g\/g=w.heap.size):ug (some g) w' ao l:=λhl=>by
 obtain⟨b,off,h1,h2,h3,h4⟩:=h hl
 grind [Yf,World.grownBy.block]
def ajy (rb:Option Nat) (w:World) (hs:List bC):Prop:=∀k,k<hs.length->ug rb w (bk hs k).ao (bk hs k).dR
def I7 (s:bC):List Value:=[I s.page,.string s.data,.slice s.ao s.dR.length s.cap]
theorem abr (l:List bC) (x:bC) (k:Nat) (h:k<l.length):bk (l++[x]) k=bk l k:=by
 grind [bk]
theorem abt (l:List bC) (x:bC):bk (l++[x]) l.length=x:=by
 grind [bk]
theorem ZT:(prog.info? 145).map (λi=>(i.zero,i.size,i.bytes))=some (some (.agg #[I 0,.string ⟨#[]⟩,Nl]),3,48):=by rfl
structure Ee (lo:Nat) (w:World) (v:Value) (hs:List bC):Prop where
 row:w.ownsRow lo 145 3 v hs.length (hs.flatMap I7)
 fix:ajy v.ownBlock w hs
theorem Ee.below (h:Ee lo w v hs) (hb:Below w.heap.size w w'):Ee lo w' v hs:=⟨tL h.row hb,λk hk=>(h.fix k hk).below hb⟩
theorem Ee.nil (lo:Nat) (w:World):Ee lo w Nl []:=⟨pT _ _ _ _,λk hk=>Γ⟩
theorem Ee.has (h:Ee lo w v hs):∃ao cap,v=.slice ao hs.length cap/\kq w ao hs/\hs.length<=cap:=by
 have hr:=h.row;rcases hr.2 with⟨hv,h0⟩ | ⟨g,cap,A,hv,F,hg,q,B,y,b⟩
 . exact⟨none,0,Γ,λhl=>ω,ω⟩
 rw[hv] at hr;refine⟨some (Ad g 0),cap,hv,λ_=>⟨g,0,rfl,aQ hg,λk hk=>?_⟩,q⟩;rw[nj];have hh:∀j,j<3->w.cell? (Ad g (k*3+j))=(I7 (bk hs k))[j]?:=λj hj=>(hr.cellAt _ ω).trans (uT I7 3 (λ_=>rfl) GD hs k j hk hj)
 exact⟨hh 0 ω,hh 1 ω,hh 2 ω,(h.fix k hk).has⟩
theorem aks {base:Nat} (h:w.ownsRow base 226 2 v l.length (l.flatMap FH)) (rb:Option Nat) (Lg:∀q,rb=some q->q<base):∃ao cap,v=.slice ao l.length cap/\ug rb w ao l:=by
 rcases h.2 with⟨hv,h0⟩ | ⟨g,cap,A,hv,F,hg,G,B,y,b⟩
 . exact⟨none,0,Γ,λhl=>ω⟩
 subst hv;refine⟨some (Ad g 0),cap,rfl,λhl=>⟨g,0,rfl,aQ hg,λe=>Γ,λk hk=>?_⟩⟩;rw[nj];have hh:∀j,j<2->w.cell? (Ad g (k*2+j))=(FH (nD l k))[j]?:=λj hj=>(h.cellAt _ ω).trans (uT FH 2 (λ_=>rfl) aby l k j hk hj)
 exact⟨hh 0 ω,hh 1 ω⟩
theorem Ee.more {x:bC} {g cap:Nat} (h:ajy v.ownBlock w hs) (hx:ug v.ownBlock w x.ao x.dR) (hown:w'.ownsRow lo 145 3 (.slice (some (Ad g 0)) (hs.length+1) cap) (hs.length+1) (hs.flatMap I7++I7 x)) (hg:w.grownBy w' v.ownBlock) (hs':w.heap.size<=w'.heap.size) (hat:v.ownBlock=some g\/g=w.heap.size) :
  Ee lo w' (.slice (some (Ad g 0)) (hs.length+1) cap) (hs++[x]):=by
 refine⟨Γ,λk hk=>?_⟩;have e:(Value.slice (some (Ad g 0)) (hs.length+1) cap).ownBlock=some g:=rfl;rw[e];rw[ft] at hk;by_cases hkl:k<hs.length
 . rw[abr hs x k hkl];exact(h k hkl).grown hg hs' hat
 grind [abt,ug.grown]
def Og (R:Option (List yM)) (w:World) (e:Ending) (w':World):Prop:=Below w.heap.size w w'/\match R with
 | none=>e=.returned (.tuple #[Nl,.bool false])
 | some E=>∃(hs:List bC) (ao:Option Addr) (cap:Nat),hs.map eZ=E/\e=.returned (.tuple #[.slice ao hs.length cap,.bool true])/\kq w' ao hs/\hs.length<=cap
end Go.Proofs.YtlgoihmkgaaemaaGreat
