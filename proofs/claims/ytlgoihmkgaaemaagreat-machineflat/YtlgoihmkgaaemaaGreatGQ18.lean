import Derived.Test.YtlgoihmkgaaemaaGreatGQ17
import Derived.Lib.AppendZerosOnto
import Derived.Lib.Overlaps
import Derived.Great.Ranges
set_option maxHeartbeats 20000000
set_option linter.unusedVariables false
set_option maxRecDepth 100000
set_option linter.unusedSimpArgs false
namespace Go.Proofs.YtlgoihmkgaaemaaGreat
open Go.RowKit Tryz
theorem OP (fs:List qh) (us:List fC) (aF:Option Addr) (cF mb lo g cap:Nat) (w:World) (hF:eX jH 2 jm w aF fs) (hU:il lo w g fs.length cap us) (yr:w.cell? (Ad mb 2)=some (.slice aF fs.length cF)) (hr:∀i,i<fs.length->0<=(dz us i).refs) (hd:∀i,i<fs.length->bD (bI fs i).data.size) (hn:fs.length<=512) :
  Calls prog 145 #[.pointer (some (Ad mb 0)),.slice (some (Ad g 0)) fs.length cap] w λe w'=>e=.returned (.bool ((List.range fs.length).all λi=>nK (bI fs i) (dz us i)))/\Below w.heap.size w w':=by
 have HH:=ai hF;have HU:=ai hU;have hg:=hU.lt.2;have sk:=ai (λi (hi:i<fs.length)=>@Z7 fs.length (λi=>nK (bI fs i) (dz us i)) i hi);have He:=ai (@VT fs.length (λi=>nK (bI fs i) (dz us i)));have HR:=ai hr;have HD:=ai hd;generalize ((List.range fs.length).all λi=>nK (bI fs i) (dz us i))=A at sk He ⊢;obtain⟨n,B⟩:=ex fs.length;rw[<- B] at HU sk He HR HD yr hn ⊢;have J:=ai B;clear hF hU hr hd B;go_enter func145,ntmps145;go_wp2;go_loopw [14] (λiv wr=>∃k:Nat,k<=n/\iv=I (k:Int)/\Below w.heap.size w wr/\∀i,i<k->nK (bI fs i) (dz us i)=true) (λiv _=>n-(intOf iv).toNat)
 case atStart=>grind [Below.refl]
 case round =>
  obtain⟨k,hk,rfl,hb,Fq⟩:=hrel;have HB:=ai hb;have HP:=ai Fq;clear Fq;by_cases hlt:k<n
  . obtain⟨fb,fo,K,L,di⟩:=HH.o (by rw[<- J.o];omega);subst K;have ce:∀j,j<2->wr.cell? (Ad fb (fo+k*2+j))=(jH (bI fs k))[j]?:=λj hj=>(hb.cell (p:=(Ad fb (fo+k*2+j))) L).trans (di k (by rw[<- J.o];exact hlt) j hj)
    have y0:=ce 0 ω;have y1:=ce 1 ω;rw[lB] at y0;obtain⟨a0,_,_⟩:=HU.o.at k hlt;have z0:=(hb.cell (p:=(Ad g (k*3))) hg).trans a0;have G:=HR.o k hlt;have y:=HD.o k hlt;unfold bD at y;have sk:=ai (sk.o k hlt);have Qj:Hid (nK (bI fs k) (dz us k)=true->∀i,i<k+1->nK (bI fs i) (dz us i)=true):=λg i hi=>by
     by_cases e:i=k
     . rw[e];exact g
     exact HP.o i ω
    unfold nK wu at sk Qj;obtain⟨f,hf⟩:=ex (bI fs k);obtain⟨u,hu⟩:=ex (dz us k);have q:Hid ((if u.refs=0 then decide (f.data.size=0/\f.refs=0) else decide (f.refs=u.refs/\f.data.size=16))=true->∀i,i<k+1->nK (bI fs i) (dz us i)=true):=by rw[hf,hu];exact Qj
    have DZ:Hid ((if u.refs=0 then decide (f.data.size=0/\f.refs=0) else decide (f.refs=u.refs/\f.data.size=16))=false->A=false):=by rw[hf,hu];exact sk
    rw[<- hf] at y0 y1 y;rw[<- hu] at z0 G;obtain⟨d,r⟩:=f;obtain⟨ur,up,uz⟩:=u;simp only at q DZ z0 G y;have x0:wr.cell? (Ad fb (fo+k*2))=some (.string d):=y0;have x1:wr.cell? (Ad fb (fo+k*2+1))=some (I r):=y1;have R:=hb.size;have Q:¬fb=wr.heap.size:=by omega
    have O:¬g=wr.heap.size:=by omega
    have iQ:=ai (HB.o.alloc HB.o.size (.cells #[.string d,I r] 171));have N:(0:Int)<=(k:Int):=by omega
    have M:(k:Int)<(n:Int):=by omega
    have zA:(wr.alloc (.cells #[.string d,I r] 171)).cell? (Ad g (k*3))=some (I ur):=(T4 ((aN wr.heap.size wr).alloc (aK _) _) (p:=(Ad g (k*3))) (by show g<_;omega)).trans z0;clear hf hu y0 y1 ce di hb He Qj sk a0;by_cases c:ur=0
    . subst c;rw[aC rfl] at q DZ;rcases(show(d.toList=[]/\r=0)\/(d.toList=[]/\¬r=0)\/¬d.toList=[] by
       by_cases a:d.toList=[]
       . by_cases b:r=0
         . exact .inl ⟨a,b⟩
         exact .inr (.inl ⟨a,b⟩)
       exact .inr (.inr a)) with⟨g1,g2⟩ | ⟨g1,g2⟩ | g1
      . have F:=ai (q.o (by rw[QF] at g1;exact fD ⟨g1,g2⟩));subst g2;clear q DZ;go_wp2;go_roundw
        case rel=>exact⟨k+1,ω,by go_num,iQ.o,F.o⟩
        case measure=>simp[intOf];omega
      . have HA:=ai (DZ.o (fE (λx=>g2 x.2)));clear q DZ;go_wp2;go_ret;exact⟨dC (λb=>Ending.returned (.bool b)) HA.o.symm,iQ.o⟩
      have HA:=ai (DZ.o (fE (λx=>g1 (by rw[QF];exact x.1))));clear q DZ;go_wp2;go_ret;exact⟨dC (λb=>Ending.returned (.bool b)) HA.o.symm,iQ.o⟩
    rw[aB c] at q DZ;have cb:(ur==0)=false:=by simpa using c
    have cp:0<ur:=by omega
    rcases(show(r=ur/\d.size=16)\/(r=ur/\¬d.size=16)\/¬r=ur by omega) with⟨g1,g2⟩ | ⟨g1,g2⟩ | g1
    . have F:=ai (q.o (fD ⟨g1,g2⟩));have b1:(r != ur)=false:=by simpa using g1
      have b2:((d.size:Int) != 16)=false:=by rw[bne_eq_false_iff_eq];omega
      clear q DZ g1 g2 c;go_wp2;go_roundw
      case rel=>exact⟨k+1,ω,by go_num,iQ.o,F.o⟩
      case measure=>simp[intOf];omega
    . have HA:=ai (DZ.o (fE (λx=>g2 x.2)));have b1:(r != ur)=false:=by simpa using g1
      have b2:((d.size:Int) != 16)=true:=by rw[bne_iff_ne];omega
      clear q DZ g1 g2 c;go_wp2;go_ret;exact⟨dC (λb=>Ending.returned (.bool b)) HA.o.symm,iQ.o⟩
    have HA:=ai (DZ.o (fE (λx=>g1 x.1)));have b1:(r != ur)=true:=by simpa using g1
    clear q DZ g1 c;go_wp2;go_ret;exact⟨dC (λb=>Ending.returned (.bool b)) HA.o.symm,iQ.o⟩
  obtain rfl:k=n:=by omega
  have HA:=ai (He.o HP.o);clear hb;go_wp2;go_ret;exact⟨dC (λb=>Ending.returned (.bool b)) HA.o.symm,HB.o⟩
open Go.RowKit
theorem wE {P:Program} (w:World) (dT sT ty elem:TypeId) (size:Nat) (hu:P.underlying dT=some (.slice elem)) (hsz:∀w,(sizeOf elem).run P w=.ok size w) (g off dLen dCap:Nat) (sp:Option Addr) (sLen sCap:Nat)
  (cur:List Value) (t:TypeId) (hg:w.heap[g]?=some (.cells cur.toArray t (0,0))) (cs:List Value) (hn:cs.length=Nat.min sLen dLen*size) (hsrc:0<cs.length->∃ad,sp=some ad/\∀j v,cs[j]?=some v->w.cell? (ad.add j)=some v)
  (hfit:off+cs.length<=cur.length) (h1:∀v∈cs,v.oneCell'=true) :
  (Builtin.copy_ #[dT,sT] ty #[.slice (some (Ad g off)) dLen dCap,.slice sp sLen sCap]).run P w=.ok (goInt (Nat.min sLen dLen)) (w.setRow g (splice cur off cs).toArray):=by
 have q:=run_storeCells_at (P:=P) g off t cs 0 cur.toArray w hg ω h1;have y:(Builtin.firstCells size (Nat.min sLen dLen) (.slice sp sLen sCap)).run P w=.ok cs.toArray w:=by
  by_cases h0:0<cs.length
  . grind [run_firstCells_some]
  have b:cs=[]:=o9 ω;subst b;cases sp with
  | none=>rfl
  | some ad=>grind [run_firstCells_some]
 simp_all [Builtin.copy_,NG,Builtin.lenOf,splice]
def js (z:List Value):Nat->List Value
 | 0=>[]
 | n+1=>z++js z n
theorem mj (z:List Value):∀n,(js z n).length=n*z.length
 | 0=>by simp[js]
 | n+1=>by rw[js,ft,mj z n,TP,TN]
theorem DB (z:List Value):∀(n j:Nat),j<n*z.length->(js z n)[j]?=z[j%z.length]?
 | 0,j,h=>by omega
 | n+1,j,h=>by
  have hz:0<z.length:=by
   grind
  rw[js];by_cases c:j<z.length
  . grind [Nat.mod_eq_of_lt]
  rw[yx ω,DB z n (j-z.length) Γ,<- Nat.mod_eq_sub_mod ω]
theorem Fa (z:Array Value) (n:Nat) (hz:0<z.size):(Builtin.zeroCells z n).toList=js z.toList n:=by
 apply Af
 grind [DB,Builtin.zeroCells,mj]
theorem J0 (z:List Value) (h:∀u∈z,u.oneCell'=true):∀n,∀u∈js z n,u.oneCell'=true
 | 0,u,hu=>by cases hu
 | n+1,u,hu=>by
  rcases kJ.1 hu with g | g
  . grind
  exact J0 z h n u g
theorem ED {P:Program} (w:World) (t ty elem:TypeId) (z:Value) (hu:P.underlying t=some (.slice elem)) (hv:∀w,(zeroValue elem).run P w=.ok z w) (hz:0<z.cells.size) (h1:∀u∈z.cells.toList,u.oneCell'=true) (g off n c:Nat)
  (cur:List Value) (te:TypeId) (hg:w.heap[g]?=some (.cells cur.toArray te (0,0))) (hfit:off+n*z.cells.size<=cur.length) :
  (Builtin.clear_ #[t] ty #[.slice (some (Ad g off)) n c]).run P w=.ok (.tuple #[]) (w.setRow g (splice cur off (js z.cells.toList n)).toArray):=by
 have q:(js z.cells.toList n).length=n*z.cells.size:=by grind [mj]
 have b:=run_storeCells_at (P:=P) g off te (js z.cells.toList n) 0 cur.toArray w hg Γ (J0 _ h1 n);simp only[lB] at b;cases n with
 | zero =>
  unfold Builtin.clear_;have e:splice cur off (js z.cells.toList 0)=cur:=by simp_all [splice]
  rw[e,setRow_self w g cur.toArray te (0,0) hg];simp[NG hu]
 | succ n =>
  simp_all [Builtin.clear_,NG,Fa,splice]
theorem akK:(prog.info? 302).map (λi=>(i.zero,i.size,i.bytes))=some (some (.agg #[I 0,I 0,.bool false]),3,24):=by rfl
theorem akL (a b c d e:Value):prog.built 158 [(0,.agg #[a,b,c,d,e])]=some (oo a b c d e uZ):=by kernel_rfl
theorem Tj {P:Program} {ops:Array Oper} {rest:List Oper} {o:Oper} {a:Act} {w:World} {Q:Exit->Act->World->Prop} (hg:o.guard=none) (t:TypeId) (x:Operand) (ho:o.op=.build t #[(0,x)]) (v:Value) (hx:a.eval x=v) (cells:Array Value) (hb:P.built t [(0,v)]=some cells) (h:wpList P ops Q rest (a.put o.dst (.agg cells)) w):wpList P ops Q (o::rest) a w :=
 wpList_build hg t #[(0,x)] ho Γ (by simpa [hx,hb] using h)
def zI (n:Nat):Array Value:=madeCells #[I 0,I 0,.bool false] (n*3)
theorem ajA (V:World) (n:Nat) (hn:n<=1000):(Instr.makeSlice 250 (I (n:Int)) (I (n:Int))).run prog V=.ok (.slice (some (Ad V.heap.size 0)) n n) (V.alloc (.cells (zI n) 302)):=by
 obtain⟨i0,hi,b,q,y⟩:=kI akK;have h:=run_make (P:=prog) V 250 302 i0 (.agg #[I 0,I 0,.bool false]) underlying250 hi b .i64 .i64 (n:Int) (n:Int) ω (vM _) Γ ω;rw[q,jW] at h;exact h
theorem aeG:∀n,js [I 0,I 0,.bool false] n=(List.replicate n nJ).flatMap yi
 | 0=>rfl
 | n+1=>by rw[js,aeG n,List.replicate_succ,o8];rfl
theorem aeF (n:Nat):(zI n).toList=(List.replicate n nJ).flatMap yi:=by
 rw[<- aeG];apply Af
 grind [DB,zI,madeCells,mj]
theorem MS (n:Nat):(zI n).size=n*3:=by simp[zI,madeCells]
theorem KV (lo:Nat) (V:World) (n:Nat) (hl:lo<=V.heap.size) (hn:n<=1000):il lo (V.alloc (.cells (zI n) 302)) V.heap.size n n (List.replicate n nJ):=by
 refine⟨xu,?_⟩;rw[<- aeF];refine⟨by grind [MS],.inr ⟨V.heap.size,n,zI n,rfl,hl,bH V (zI n) _,aK _,?_,by rw[MS],?_⟩⟩
 . grind [maxLen]
 grind [Array.length_toList,MS]
def vd (w:World) (a:jC) (k:aT) (e:Ending) (w':World):Prop:=Below w.heap.size w w'/\((gu k=0/\∃mb,e=.returned (.tuple #[.pointer (some (Ad mb 0)),I 0])/\w.heap.size<=mb/\w'.heap[mb]?=some (.cells (oo (.slice a.aS k.aR.length a.cS) (.slice a.aF k.frames.length a.cF) (.slice a.aL k.slots.length a.cL) (.slice a.aP k.aj.length a.cP) (I k.hand) (nI k.aR k.aR.length)) 158 (0,0)))\/(gu k≠0/\e=.returned (.tuple #[.pointer none,I (gu k)])))
theorem Ji {w:World} {mb:Nat} {hs:List bC} {a b c d e:Value} (h:w.heap[mb]?=some (.cells (oo a b c d e (nI hs hs.length)) 158 (0,0))) (hr:iG hs=true):∀n:Nat,n<256->w.cell? (Ad mb (5+n))=some (.string (fG hs n)):=λn hn=>(aA h (5+n) (VR a b c d e _ n hn)).trans (by grind [Jj])
theorem abT (k:aT) (a:jC) (w:World) (hK:ju w a k) (hF:pY k) (hc:pB k=true):Calls prog 87 #[.agg (br a k)] w (vd w a k):=by
 have ao:=jY hc;have sk:Hid (∀w',Below w.heap.size w w'->FL k=false->vd w a k (.returned (.tuple #[.pointer none,I 1])) w'):=λw' hb hf=>by
  have e:gu k=1:=by grind [gu]
  exact⟨hb,.inr ⟨ω,by rw[e]⟩⟩
 have He:Hid (∀w' mb,Below w.heap.size w w'->FL k=true->w.heap.size<=mb->w'.heap[mb]?=some (.cells (oo (.slice a.aS k.aR.length a.cS) (.slice a.aF k.frames.length a.cF) (.slice a.aL k.slots.length a.cL) (.slice a.aP k.aj.length a.cP) (I k.hand) (nI k.aR k.aR.length)) 158 (0,0))->vd w a k (.returned (.tuple #[.pointer (some (Ad mb 0)),I 0])) w'):=λw' mb hb hf hm hh=>by
  have e:gu k=0:=by grind [gu]
  exact⟨hb,.inl ⟨e,mb,rfl,hm,hh⟩⟩
 generalize vd w a k=P at sk He ⊢;unfold br;have HC:Hid (∀V,Calls prog 139 #[.agg #[.slice a.aS k.aR.length a.cS,.slice a.aF k.frames.length a.cF,.slice a.aL k.slots.length a.cL,.slice a.aP k.aj.length a.cP,I k.hand]] V λe w'=>e=.returned (.bool true)/\Below V.heap.size V w'):=λV=>by
  have:=LU a.aS a.aF a.aL a.aP k.aR.length a.cS k.frames.length a.cF k.slots.length a.cL k.aj.length a.cP (I k.hand) V;rw[fD ao] at this;exact this
 have R:=ai (@Yw k);have YQ:=ai (Z9 k.aR k.aj (List.replicate k.frames.length nJ,List.replicate k.slots.length nJ) k.frames.length k.slots.length (Z8 _) (Z8 _));have Z:=ai (OZ k.aR k.aj (List.replicate k.frames.length nJ,List.replicate k.slots.length nJ));obtain⟨aw,aE,ay,b9⟩:=hK;obtain⟨fS,bn,b0,bx,b8,bt,aC,bv⟩:=hF;have XF:=ai aw;have a9:=ai aE;have a5:=ai ay;have Y:=ai b9;have a6:=ai fS;have a4:=ai b0;have Xx:=ai b8;have QU:=ai aC;clear aw aE ay b9 fS b0 b8 aC hc bn bx bt;obtain⟨aS,cS,aF,cF,aL,cL,aP,cP⟩:=a;obtain⟨hs,fs,ls,ss,hd⟩:=k;unfold FL Dp at *;simp only at HC ao sk He R YQ Z XF a9 a5 Y a6 a4 Xx QU bv ⊢;obtain⟨U0,hU⟩:=ex ((List.replicate fs.length nJ,List.replicate ls.length nJ));rw[<- hU] at sk He R YQ Z;have HU:=ai hU;clear hU;have BK:=ai (bH w #[.slice aS hs.length cS,.slice aF fs.length cF,.slice aL ls.length cL,.slice aP ss.length cP,I hd] 30);have PC:=ai ((aN w.heap.size w).alloc (aK _) (.cells #[.slice aS hs.length cS,.slice aF fs.length cF,.slice aL ls.length cL,.slice aP ss.length cP,I hd] 30));go_enter func87,ntmps87;go_upto_region 3 with(go_at_call 139;refine(HC.o _).mono ?_;rintro e w1 ⟨rfl,ah⟩;have ad:=ai (bq PC.o ah);have a1:=ai (aU BK.o ah ξ);clear ah);refine wp_region_lit ?_;refine NK rfl 30 _ rfl w.heap.size rfl 30 _ (0,0) _ a1.o underlying30 rfl ρ ?_;refine Tj rfl 158 _ rfl (.agg #[.slice aS hs.length cS,.slice aF fs.length cF,.slice aL ls.length cL,.slice aP ss.length cP,I hd]) ρ _ (akL _ _ _ _ _) ?_;have HM:=ai (bH w1 (oo (.slice aS hs.length cS) (.slice aF fs.length cF) (.slice aL ls.length cL) (.slice aP ss.length cP) (I hd) uZ) 158);have A:=ai (bu a1.o (.cells (oo (.slice aS hs.length cS) (.slice aF fs.length cF) (.slice aL ls.length cL) (.slice aP ss.length cP) (I hd) uZ) 158));have a0:=ai (ad.o.alloc ad.o.size (.cells (oo (.slice aS hs.length cS) (.slice aF fs.length cF) (.slice aL ls.length cL) (.slice aP ss.length cP) (I hd) uZ) 158));have uR:w.heap.size<w1.heap.size:=aQ a1.o;refine Go.Great.wpList_boxTo rfl 158 _ rfl _ rfl w1.heap.size rfl (oo (.slice aS hs.length cS) (.slice aF fs.length cF) (.slice aL ls.length cL) (.slice aP ss.length cP) (I hd) uZ) ρ ?_;generalize w1.alloc (.cells (oo (.slice aS hs.length cS) (.slice aF fs.length cF) (.slice aL ls.length cL) (.slice aP ss.length cP) (I hd) uZ) 158)=W at HM A a0 ⊢;generalize w1.heap.size=mb at HM uR ⊢;obtain⟨kb,aG⟩:=ex w.heap.size;have b4:w.heap.size<=mb:=by omega
 have c7:w.heap.size<=kb:=by omega
 have bi:¬kb=mb:=by omega
 rw[<- aG] at A ⊢;have d1:W.cell? (Ad kb 1)=some (.slice aF fs.length cF):=aA A.o 1 rfl;have d2:W.cell? (Ad kb 2)=some (.slice aL ls.length cL):=aA A.o 2 rfl;clear aG BK a1 HC PC ad;have KI:fs.length<=1000:=by omega
 have a3:ls.length<=1000:=by omega
 have e2:∀V:World,(Instr.makeSlice 250 (I (fs.length:Int)) (I (fs.length:Int))).run prog V=.ok (.slice (some (Ad V.heap.size 0)) fs.length fs.length) (V.alloc (.cells (zI fs.length) 302)):=λV=>ajA V fs.length KI
 have e3:∀V:World,(Instr.makeSlice 250 (I (ls.length:Int)) (I (ls.length:Int))).run prog V=.ok (.slice (some (Ad V.heap.size 0)) ls.length ls.length) (V.alloc (.cells (zI ls.length) 302)):=λV=>ajA V ls.length a3
 have bp:(W.alloc (.cells (zI ls.length) 302)).cell? (Ad kb 1)=some (.slice aF fs.length cF):=aA (bu A.o _) 1 rfl;have bs:(W.alloc (.cells (zI fs.length) 302)).cell? (Ad kb 2)=some (.slice aL ls.length cL):=aA (bu A.o _) 2 rfl;have q1:=ai (KV W.heap.size W fs.length (aK _) KI);have q2:=ai (KV W.heap.size (W.alloc (.cells (zI fs.length) 302)) ls.length ξ a3);have q3:=ai (KV W.heap.size W ls.length (aK _) a3);have q4:=ai (KV W.heap.size (W.alloc (.cells (zI ls.length) 302)) fs.length ξ KI);rw[fY] at q2 q4;have q5:=ai (((aN W.heap.size W).alloc (aK _) (.cells (zI fs.length) 302)).alloc ξ (.cells (zI ls.length) 302));have q6:=ai (((aN W.heap.size W).alloc (aK _) (.cells (zI ls.length) 302)).alloc ξ (.cells (zI fs.length) 302));go_upto_region 4 with fail;go_cut [5,6] (λx5 x6 wx=>∃gf gs:Nat,x5=.slice (some (Ad gf 0)) fs.length fs.length/\x6=.slice (some (Ad gs 0)) ls.length ls.length/\¬gf=gs/\il W.heap.size wx gf fs.length fs.length (List.replicate fs.length nJ)/\il W.heap.size wx gs ls.length ls.length (List.replicate ls.length nJ)/\Below W.heap.size W wx)
 case first =>
  go_region
  all_goals
   go_wp2_with fail
   go_meet
   case rel=>first | exact⟨_,_,rfl,rfl,ξ,(q1.out.kp (aH.alloc (λ_=>False) _ _) (λx=>x)).d,q2.out.d,q5.out.drew⟩ | exact⟨_,_,rfl,rfl,ξ,q4.out.d,(q3.out.kp (aH.alloc (λ_=>False) _ _) (λx=>x)).d,q6.out.drew⟩
 case rest =>
  obtain⟨gf,gs,rfl,rfl,ba,q,y,Ul⟩:=hcut;clear q1 q2 q3 q4 q5 q6 e2 e3 bp bs d1 d2;have bS:=q.lt;have bP:=y.lt;have X:=ai q;have O:=ai y;have bz:=aQ HM.o;have bd:=aQ A.o;have Nb:=ai (aU HM.o Ul bz);have aB:=ai (aU A.o Ul bd);have jc:=ai (a0.o.trans (Ul.mono a0.o.size));have ac:=ai (OT hs aS cS mb (.slice aF fs.length cF) (.slice aL ls.length cL) (.slice aP ss.length cP) (I hd) w wc XF.o a6.o jc.o b4 Nb.o ω);clear q y Ul HM A a0;have DZ:Hid (∀V,Below w.heap.size w V->(iG hs=false\/hd<0\/(fs.length:Int)<=hd)->P (.returned (.tuple #[.pointer none,I 1])) V):=λV hV g=>sk.o V hV (by
   rcases g with g | g | g
   . rw[g];rfl
   . rw[fE ω];simp
   rw[fE ω];simp)
  obtain⟨RB,al⟩:=ex (iG hs);have Pw:=ai al;rw[<- al] at ac DZ;clear al;go_wp2_with fail;refine ac.o.mono ?_;rintro e w2 ⟨rfl,U,G,hG,hg⟩;have iJ:=ai (U.below jc.o jc.o.size (λb hb=>ω));have a7:=ai (U.keep aB.o bi);have HG:=ai hG;have b3:=ai hg;have af:Hid (il W.heap.size w2 gf fs.length fs.length U0.1):=by rw[HU.o];exact X.o.kp U ω
  have am:Hid (il W.heap.size w2 gs ls.length ls.length U0.2):=by rw[HU.o];exact O.o.kp U ω
  obtain⟨-,m1,-,m3,m4⟩:=o5 a7.o;clear U hG hg ac Nb aB jc X O;rcases(show(RB=false\/(RB=true/\hd<0)\/(RB=true/\0<=hd/\(fs.length:Int)<=hd))\/(RB=true/\0<=hd/\hd<(fs.length:Int)) by cases RB <;> simp <;> omega) with h | ⟨rfl,g1,g2⟩
  . have HE:=ai (show RB=false\/hd<0\/(fs.length:Int)<=hd by grind);rcases h with rfl | ⟨rfl,h⟩ | ⟨rfl,g1,g2⟩
    all_goals
     go_wp2;exact DZ.o _ iJ.o HE.o
  go_wp2;have ag:Hid (w2.heap[mb]?=some (.cells (oo (.slice aS hs.length cS) (.slice aF fs.length cF) (.slice aL ls.length cL) (.slice aP ss.length cP) (I hd) (nI hs hs.length)) 158 (0,0))):=by
   have:=HG.o;rw[b3.o trivial] at this;exact this
  clear DZ HG b3 m4;go_loopw [42] (λiv wr=>∃k:Nat,k<=ss.length/\iv=I (k:Int)/\rC hs ss U0 k=true/\Below w.heap.size w wr/\wr.heap[mb]?=some (.cells (oo (.slice aS hs.length cS) (.slice aF fs.length cF) (.slice aL ls.length cL) (.slice aP ss.length cP) (I hd) (nI hs hs.length)) 158 (0,0))/\wr.heap[kb]?=some (.cells #[.slice aS hs.length cS,.slice aF fs.length cF,.slice aL ls.length cL,.slice aP ss.length cP,I hd] 30 (0,0))/\il W.heap.size wr gf fs.length fs.length (mg ss U0 k).1/\il W.heap.size wr gs ls.length ls.length (mg ss U0 k).2) (λiv _=>ss.length-(intOf iv).toNat)
  case atStart=>exact⟨0,ω,rfl,rfl,iJ.o,ag.o,a7.o,af.o,am.o⟩
  case round =>
   obtain⟨k,hk,rfl,Bl,hb,B,N,q,y⟩:=hrel;have b5:=ai Bl;have HB:=ai hb;have an:=ai B;have av:=ai N;have X:=ai q;have O:=ai y;have m2:wr.cell? (Ad kb 2)=some (.slice aL ls.length cL):=aA N 2 rfl;by_cases hlt:k<ss.length
   . obtain⟨pb,po,bb,ae,di⟩:=Y.o ω;subst bb;obtain⟨va,ap,cp,c0,c1,c2,c3,c4,c5⟩:=di k hlt;obtain⟨aa,ca,Ie,_⟩:=id c3;subst Ie;have Q:=QU.o k hlt;have x0:=(hb.cell (p:=(Ad pb (po+k*3))) ae).trans c0;have x1:=(hb.cell (p:=(Ad pb (po+k*3+1))) ae).trans c1;have x2:=(hb.cell (p:=(Ad pb (po+k*3+2))) ae).trans c2;have bF:=hb.size;have XM:=YQ.o k ω Bl;have ab:Hid (∀V,Below w.heap.size w V->rC hs ss U0 (k+1)=false->P (.returned (.tuple #[.pointer none,I 1])) V):=λV hV g=>sk.o V hV (by rw[Z.o (k+1) ss.length hlt g];simp)
     have Tt:Hid (rC hs ss U0 (k+1)=(rY hs (ak ss k)&&kW (ak ss k).aJ (ak ss k).bh (mg ss U0 k) (ak ss k).bh.length)):=by grind [rC]
     have bm:Hid (mg ss U0 (k+1)=ku (ak ss k).aJ (ak ss k).bh (mg ss U0 k) (ak ss k).bh.length):=rfl;have M:=aQ B;have Tu:=ai (OO hs (ak ss k) (.slice aa (ak ss k).aJ.length ca) ap cp mb (wr.alloc (.cells #[.bool (ak ss k).live,.slice aa (ak ss k).aJ.length ca,.slice ap (ak ss k).bh.length cp] 99)) (c3.below (hb.alloc hb.size _)) Q (by simp;omega) (Ji (bu B _) Pw.o.symm));have uP:Hid (∀V,Below w.heap.size w V->il W.heap.size V gf fs.length fs.length (mg ss U0 k).1->il W.heap.size V gs ls.length ls.length (mg ss U0 k).2->Calls prog 142 #[.agg #[.bool (ak ss k).live,.slice aa (ak ss k).aJ.length ca,.slice ap (ak ss k).bh.length cp],.slice (some (Ad gf 0)) fs.length fs.length,.slice (some (Ad gs 0)) ls.length ls.length] V λx w'=>x=.returned (.bool (kW (ak ss k).aJ (ak ss k).bh (mg ss U0 k) (ak ss k).bh.length))/\aH (λb=>b=gf\/b=gs) V w'/\(kW (ak ss k).aJ (ak ss k).bh (mg ss U0 k) (ak ss k).bh.length=true->il W.heap.size w' gf fs.length fs.length (ku (ak ss k).aJ (ak ss k).bh (mg ss U0 k) (ak ss k).bh.length).1/\il W.heap.size w' gs ls.length ls.length (ku (ak ss k).aJ (ak ss k).bh (mg ss U0 k) (ak ss k).bh.length).2)):=λV hV h1 h2=>Lj (ak ss k) (.slice aa (ak ss k).aJ.length ca) ap cp (mg ss U0 k).1 (mg ss U0 k).2 W.heap.size gf fs.length fs.length gs ls.length ls.length (255*k) w V c3 c4 Q hV ω h1 h2 ba XM.1 XM.2 ω KI a3
     obtain⟨EB,au⟩:=ex (kW (ak ss k).aJ (ak ss k).bh (mg ss U0 k) (ak ss k).bh.length);generalize rY hs (ak ss k)=RS at Tu Tt;rw[<- au] at uP Tt;obtain⟨na,CS⟩:=ex ((ak ss k).aJ.length);obtain⟨ne,a8⟩:=ex ((ak ss k).bh.length);generalize (ak ss k).live=lv at Tu uP x0;rw[<- CS,<- a8] at Tu;rw[<- CS] at uP;rw[<- CS] at x1;rw[<- a8] at x2;rw[<- a8] at uP bm;have iQ:=ai (hb.alloc hb.size (.cells #[.bool lv,.slice aa na ca,.slice ap ne cp] 99));have MA:=ai (bu B (.cells #[.bool lv,.slice aa na ca,.slice ap ne cp] 99));have KA:=ai (bu N (.cells #[.bool lv,.slice aa na ca,.slice ap ne cp] 99));have OA:=ai (q.kp (aH.alloc (λ_=>False) wr (.cells #[.bool lv,.slice aa na ca,.slice ap ne cp] 99)) (λx=>x));have OB:=ai (y.kp (aH.alloc (λ_=>False) wr (.cells #[.bool lv,.slice aa na ca,.slice ap ne cp] 99)) (λx=>x));have SB:=ai (bH wr #[.bool lv,.slice aa na ca,.slice ap ne cp] 99);clear au CS a8 c0 c1 c2 c3 c4 c5 di Q XM Bl hb B N q y YQ Z sk He R XF a9 a5 Y a6 a4 Xx QU an av X O iJ ag a7 af am m1 m3 m2;go_wp2_with fail;refine Tu.o.mono ?_;rintro e w3 ⟨rfl,J⟩;have ou:=ai (bq iQ.o J);have M3:=ai (aU MA.o J (aQ MA.o));have b2:=ai (aU KA.o J (aQ KA.o));have O3:=ai (OA.o.kp (aH.bQ (D:=λ_=>False) J) (λx=>x));have S3:=ai (OB.o.kp (aH.bQ (D:=λ_=>False) J) (λx=>x));obtain⟨v0,v1,v2⟩:=zn (aU SB.o J (aQ SB.o));clear J Tu MA KA OA OB SB iQ;cases RS with
     | false =>
      clear uP;go_wp2;exact ab.o _ ou.o Tt.o
     | true =>
      go_wp2_with fail
      refine(uP.o _ ou.o O3.o S3.out).mono ?_;rintro e w4 ⟨rfl,a2,az⟩;have Cc:=ai (a2.below ou.o ou.o.size (λb hb=>ω));have M4:=ai (a2.keep M3.out ω);have c6:=ai (a2.keep b2.o ω);have c8:=ai az;clear a2 az uP M3 b2 O3 S3 v0 v1 v2 ou;cases EB with
      | false =>
       go_wp2;exact ab.o _ Cc.o Tt.o
      | true =>
       have bA:Hid (rC hs ss U0 (k+1)=true):=Tt;clear Tt ab;go_wp2
       grind [intOf,Hid.o]
   obtain rfl:k=ss.length:=by omega
   have mB:=B;have p1:wr.cell? (Ad mb 1)=some (.slice aF fs.length cF):=aA mB 1 rfl;have p2:wr.cell? (Ad mb 2)=some (.slice aL ls.length cL):=aA mB 2 rfl;have p3:wr.cell? (Ad mb 3)=some (.slice aP ss.length cP):=aA mB 3 rfl;have M:=aQ B;have bL:=aQ N;have XM:=YQ.o ss.length (aK _) Bl;have F:Hid (∀V,Below wr.heap.size wr V->Calls prog 143 #[.pointer (some (Ad mb 0))] V λe w'=>e=.returned (I (eU ss))/\Below V.heap.size V w'):=λV hV=>GY ss aP cP mb V (Y.o.below (hb.trans (hV.mono hb.size))) (λj hj=>(QU.o j hj).aJ) ω ((hV.cell (p:=(Ad mb 3)) M).trans p3)
   have K5:Hid (∀V,Below wr.heap.size wr V->Calls prog 144 #[.pointer (some (Ad mb 0)),.slice (some (Ad gf 0)) fs.length fs.length] V λe w'=>e=.returned (.bool ((List.range fs.length).all λi=>kQ hs (aM fs i) (dz (mg ss U0 ss.length).1 i)))/\Below V.heap.size V w'):=λV hV=>MU hs fs _ aF cF mb W.heap.size gf fs.length V (a9.o.below (hb.trans (hV.mono hb.size))) (q.kp (aH.bQ (D:=λ_=>False) hV) (λx=>x)) (dV M hV.size) ((hV.cell (p:=(Ad mb 1)) M).trans p1) (Ji (aU mB hV M) Pw.o.symm) (λi hi=>R.o Pw.o.symm Bl i hi) (λi hi=>(a4.o i hi).1) ω
   have K:Hid (∀V,Below wr.heap.size wr V->Calls prog 145 #[.pointer (some (Ad mb 0)),.slice (some (Ad gs 0)) ls.length ls.length] V λe w'=>e=.returned (.bool ((List.range ls.length).all λi=>nK (bI ls i) (dz (mg ss U0 ss.length).2 i)))/\Below V.heap.size V w'):=λV hV=>OP ls _ aL cL mb W.heap.size gs ls.length V (a5.o.below (hb.trans (hV.mono hb.size))) (y.kp (aH.bQ (D:=λ_=>False) hV) (λx=>x)) ((hV.cell (p:=(Ad mb 2)) M).trans p2) (λi hi=>(XM.2.2 i hi).1) (λi hi=>(Xx.o i hi).1) ω
   have T:=sk;have L:=He;rw[Pw.o.symm,b5.o,fD (show 0<=hd/\hd<(fs.length:Int) from⟨g1,g2⟩)] at T L;obtain⟨RL,b1⟩:=ex ((List.range ls.length).all λi=>nK (bI ls i) (dz (mg ss U0 ss.length).2 i));obtain⟨RM,b6⟩:=ex (eU ss);generalize ((List.range fs.length).all λi=>kQ hs (aM fs i) (dz (mg ss U0 ss.length).1 i))=RF at K5 T L;rw[<- b1] at K T L;rw[<- b6] at F T L;have Fs:=kf wr;have k2:∀x:ed wr.heap.size wr,x.world.cell? (Ad kb 2)=some (.slice aL ls.length cL):=λx=>by grind [fJ]
   clear b1 b6 XM Bl hb B N q y YQ Z sk He R XF a9 a5 Y a6 a4 Xx QU av X O iJ ag a7 af am m1 m3 m2 p1 p2 p3 mB b5;go_upto_region 13 with fail;rcases(show(¬RM<=(ls.length:Int)\/(RM<=(ls.length:Int)/\RF=false)\/(RM<=(ls.length:Int)/\RF=true/\RL=false))\/(RM<=(ls.length:Int)/\RF=true/\RL=true) by cases RF <;> cases RL <;> simp <;> omega) with h | ⟨c,rfl,rfl⟩
   . clear L;rcases h with c | ⟨c,rfl⟩ | ⟨c,rfl,rfl⟩
     case' inl=>have c2:decide ((ls.length:Int)<RM)=true:=fD ω
     case' inr.inl=>have c2:decide ((ls.length:Int)<RM)=false:=fE ω
     case' inr.inr=>have c2:decide ((ls.length:Int)<RM)=false:=fE ω
     all_goals
      refine eT ρ κ ?_
      repeat (first | go_big_quiet_step ((first | (go_at_call 143;exact ma _ F.o) | (go_at_call 144;exact ma _ K5.o) | (go_at_call 145;exact ma _ K.o))) | quiet_step ((first | (go_at_call 143;exact ma _ F.o) | (go_at_call 144;exact ma _ K5.o) | (go_at_call 145;exact ma _ K.o))))
      refine mM ?_;rintro _ ⟨x,rfl⟩;have jc:=ai (HB.o.trans (x.keeps.mono HB.o.size));clear F K5 K k2;go_wp2;exact T.o _ jc.o (by simp[c];try omega)
   have c2:decide ((ls.length:Int)<RM)=false:=fE ω;refine eT ρ κ ?_
   repeat (first | go_big_quiet_step ((first | (go_at_call 143;exact ma _ F.o) | (go_at_call 144;exact ma _ K5.o) | (go_at_call 145;exact ma _ K.o))) | quiet_step ((first | (go_at_call 143;exact ma _ F.o) | (go_at_call 144;exact ma _ K5.o) | (go_at_call 145;exact ma _ K.o))))
   refine mM ?_;rintro _ ⟨x,rfl⟩;have jc:=ai (HB.o.trans (x.keeps.mono HB.o.size));have MX:=ai (aU an.o x.keeps (aQ an.o));clear F K5 K k2;go_wp2;exact L.o _ mb jc.o (by simp[c]) b4 MX.o
theorem aeJ (k:aT) (a:jC) (w:World) (hc:pB k=false):Calls prog 87 #[.agg (br a k)] w (vd w a k):=by
 have q:=D8 hc;have sk:Hid (∀w',Below w.heap.size w w'->vd w a k (.returned (.tuple #[.pointer none,I 2])) w'):=λw' hb=>by
  have e:gu k=2:=by grind [gu]
  exact⟨hb,.inr ⟨ω,by rw[e]⟩⟩
 generalize vd w a k=P at sk ⊢;unfold br;have HC:Hid (∀V,Calls prog 139 #[.agg #[.slice a.aS k.aR.length a.cS,.slice a.aF k.frames.length a.cF,.slice a.aL k.slots.length a.cL,.slice a.aP k.aj.length a.cP,I k.hand]] V λe w'=>e=.returned (.bool false)/\Below V.heap.size V w'):=λV=>by
  have:=LU a.aS a.aF a.aL a.aP k.aR.length a.cS k.frames.length a.cF k.slots.length a.cL k.aj.length a.cP (I k.hand) V;rw[fE q] at this;exact this
 obtain⟨aS,cS,aF,cF,aL,cL,aP,cP⟩:=a;obtain⟨hs,fs,ls,ss,hd⟩:=k;simp only at HC ⊢;have PC:=ai ((aN w.heap.size w).alloc (aK _) (.cells #[.slice aS hs.length cS,.slice aF fs.length cF,.slice aL ls.length cL,.slice aP ss.length cP,I hd] 30));clear hc q;go_enter func87,ntmps87;go_wp2_with (go_at_call 139;refine(HC.o _).mono ?_;rintro e w1 ⟨rfl,b⟩;have y:=ai (bq PC.o b);clear b);exact sk.o _ y.o
theorem R5 (k:aT) (a:jC) (w:World) (hK:ju w a k) (hF:pY k):Calls prog 87 #[.agg (br a k)] w (vd w a k):=by
 cases hc:pB k with
 | true=>exact abT k a w hK hF hc
 | false=>exact aeJ k a w hc
theorem abY (k:aT) (a:jC) (w:World) (hK:ju w a k) (hF:pY k):Calls prog 40 #[.agg (br a k)] w λe w'=>e=.returned (I (gu k))/\Below w.heap.size w w':=by
 have HL:Hid (∀V,Below w.heap.size w V->Calls prog 87 #[.agg (br a k)] V λe w'=>∃v,e=.returned (.tuple #[v,I (gu k)])/\Below V.heap.size V w'):=λV hV=>(R5 k a V (hK.below hV) hF).mono λe w' ⟨hb,h⟩=>by
  grind
 generalize gu k=C at HL ⊢;unfold br at HL ⊢;obtain⟨aS,cS,aF,cF,aL,cL,aP,cP⟩:=a;obtain⟨hs,fs,ls,ss,hd⟩:=k;simp only at HL ⊢;clear hK hF;have PC:=ai ((aN w.heap.size w).alloc (aK _) (.cells #[.slice aS hs.length cS,.slice aF fs.length cF,.slice aL ls.length cL,.slice aP ss.length cP,I hd] 30));go_enter func40,ntmps40;go_wp2_with (go_at_call 87;refine(HL.o _ PC.o).mono ?_;rintro e w1 ⟨v,rfl,b⟩;have cD:=ai (bq PC.o b);clear b);go_ret;exact⟨rfl,cD.o⟩
def dw (k:aT) (sp:Int):Int:=if gu k=0 then (if 0<=sp/\sp<(k.aj.length:Int)/\(ak k.aj sp.toNat).live=true then 0 else 6) else gu k
def rB (a:jC) (k:aT):Array Value:=oo (.slice a.aS k.aR.length a.cS) (.slice a.aF k.frames.length a.cF) (.slice a.aL k.slots.length a.cL) (.slice a.aP k.aj.length a.cP) (I k.hand) (nI k.aR k.aR.length)
def zN (w:World) (a:jC) (k:aT) (c:Int) (e:Ending) (w':World):Prop:=Below w.heap.size w w'/\((c=0/\∃mb,e=.returned (.tuple #[.pointer (some (Ad mb 0)),I 0])/\w.heap.size<=mb/\w'.heap[mb]?=some (.cells (rB a k) 158 (0,0)))\/(c≠0/\e=.returned (.tuple #[.pointer none,I c])))
theorem yh (k:aT) (a:jC) (sp:Int) (w:World) (hK:ju w a k) (hF:pY k) (hsp:cH sp):Calls prog 76 #[.agg (br a k),I sp] w (zN w a k (dw k sp)):=by
 have HL:=ai (λV (hV:Below w.heap.size w V)=>R5 k a V (hK.below hV) hF);have HE:Hid (∀V c,Below w.heap.size w V->dw k sp=c->c≠0->zN w a k (dw k sp) (.returned (.tuple #[.pointer none,I c])) V):=λV c hV e hc=>⟨hV,.inr ⟨ω,by rw[e]⟩⟩
 have HY:Hid (∀V mb,Below w.heap.size w V->dw k sp=0->w.heap.size<=mb->V.heap[mb]?=some (.cells (rB a k) 158 (0,0))->zN w a k (dw k sp) (.returned (.tuple #[.pointer (some (Ad mb 0)),I 0])) V):=λV mb hV e hm hh=>⟨hV,.inl ⟨e,mb,rfl,hm,hh⟩⟩
 generalize zN w a k (dw k sp)=P at HE HY ⊢;have B:=ai hK.aj;have y:=ai (bH w (br a k) 30);have fU:=ai ((aN w.heap.size w).alloc (aK _) (.cells (br a k) 30));have K8:Hid (dw k sp=if gu k=0 then (if 0<=sp/\sp<(k.aj.length:Int)/\(ak k.aj sp.toNat).live=true then 0 else 6) else gu k):=rfl;have F:Hid (gu k=0->k.aj.length<=4):=λh=>((qa k).1 h).c.2.2.1.2
 clear hK hF;by_cases hc:gu k=0
 . have DW:Hid (∀V,Below w.heap.size w V->Calls prog 87 #[.agg (br a k)] V λe w'=>∃mb,e=.returned (.tuple #[.pointer (some (Ad mb 0)),I 0])/\w.heap.size<=mb/\w'.heap[mb]?=some (.cells (rB a k) 158 (0,0))/\Below V.heap.size V w'):=λV hV=>(HL.o V hV).mono λe w' ⟨hb,h⟩=>by
    rcases h with⟨_,mb,h1,h2,h3⟩ | ⟨h1,_⟩
    . exact⟨mb,h1,eJ hV.size h2,h3,hb⟩
    omega
   have Lm:=F.o hc;have q:Hid (dw k sp=if 0<=sp/\sp<(k.aj.length:Int)/\(ak k.aj sp.toNat).live=true then 0 else 6):=by grind
   clear HL K8 hc F;unfold br at DW y fU ⊢;obtain⟨aS,cS,aF,cF,aL,cL,aP,cP⟩:=a;obtain⟨hs,fs,ls,ss,hd⟩:=k;simp only at DW y fU B q HY Lm ⊢;rcases(show sp<0\/(0<=sp/\(ss.length:Int)<=sp)\/(0<=sp/\sp<(ss.length:Int)) by omega) with g | ⟨g1,g2⟩ | ⟨g1,g2⟩
   . have HX:=ai (λV hV=>HE.o V 6 hV (by grind [Hid.o]) Δ);clear HE HY q B;go_enter func76,ntmps76;go_wp2_with (go_at_call 87;refine(DW.o _ fU.o).mono ?_;rintro e w1 ⟨mb,rfl,yr,A,b⟩;have cD:=ai (bq fU.o b);have K1:=ai (aU y.o b ξ);clear b A);exact HX.o _ cD.o
   . have HX:=ai (λV hV=>HE.o V 6 hV (by grind [Hid.o]) Δ);clear HE HY q B;go_enter func76,ntmps76;go_wp2_with (go_at_call 87;refine(DW.o _ fU.o).mono ?_;rintro e w1 ⟨mb,rfl,yr,A,b⟩;have cD:=ai (bq fU.o b);have K1:=ai (aU y.o b ξ);have c3:w1.cell? (Ad w.heap.size 3)=some (.slice aP ss.length cP):=aA K1.o 3 rfl;clear b A);exact HX.o _ cD.o
   obtain⟨j,rfl⟩:∃j:Nat,sp=(j:Int):=⟨sp.toNat,ω⟩;obtain⟨pb,po,J,G,di⟩:=B.o ω;subst J;obtain⟨va,ap,cp,y0,_,_,_,_,_⟩:=di j ω;rw[jW] at q;generalize (ak ss j).live=lv at y0 q;clear di B;cases lv with
   | false =>
    have HX:=ai (λV hV=>HE.o V 6 hV (by rw[q.o,aB ξ]) Δ);clear HE HY q;go_enter func76,ntmps76;go_wp2_with (go_at_call 87;refine(DW.o _ fU.o).mono ?_;rintro e w1 ⟨mb,rfl,yr,A,b⟩;have cD:=ai (bq fU.o b);have K1:=ai (aU y.o b ξ);have c3:w1.cell? (Ad w.heap.size 3)=some (.slice (some (Ad pb po)) ss.length cP):=aA K1.o 3 rfl;have l0:w1.cell? (Ad pb (po+j*3))=some (.bool false):=(cD.o.cell (p:=(Ad pb (po+j*3))) G).trans y0;clear b A);exact HX.o _ cD.o
   | true =>
    have HX:=ai (λV mb hV hm hh=>HY.o V mb hV (by rw[q.o,aC ⟨g1,g2,rfl⟩]) hm hh);clear HE HY q;go_enter func76,ntmps76;go_wp2_with (go_at_call 87;refine(DW.o _ fU.o).mono ?_;rintro e w1 ⟨mb,rfl,yr,A,b⟩;have XE:=ai A;have cD:=ai (bq fU.o b);have K1:=ai (aU y.o b ξ);have c3:w1.cell? (Ad w.heap.size 3)=some (.slice (some (Ad pb po)) ss.length cP):=aA K1.o 3 rfl;have l0:w1.cell? (Ad pb (po+j*3))=some (.bool true):=(cD.o.cell (p:=(Ad pb (po+j*3))) G).trans y0;clear b A);exact HX.o _ mb cD.o yr XE.o
 have DW:Hid (∀V,Below w.heap.size w V->Calls prog 87 #[.agg (br a k)] V λe w'=>e=.returned (.tuple #[.pointer none,I (gu k)])/\Below V.heap.size V w'):=λV hV=>(HL.o V hV).mono λe w' ⟨hb,h⟩=>by
  grind
 have HX:=ai (λV hV=>HE.o V (gu k) hV (by grind [Hid.o]) hc);generalize gu k=C at DW HX hc;have cb:(C != 0)=true:=by grind
 clear HL K8 HE HY F B;unfold br at DW y fU ⊢;obtain⟨aS,cS,aF,cF,aL,cL,aP,cP⟩:=a;obtain⟨hs,fs,ls,ss,hd⟩:=k;simp only at DW y fU ⊢;clear hc;go_enter func76,ntmps76;go_wp2_with (go_at_call 87;refine(DW.o _ fU.o).mono ?_;rintro e w1 ⟨rfl,b⟩;have cD:=ai (bq fU.o b);clear b);exact HX.o _ cD.o
theorem Yu (p:Int) (e:bJ) (x:Nat) (w:World) (hx:w.cell? (Ad x 0)=some (I p)) :
  Calls prog 187 #[.agg #[I e.page,I e.kind,I e.loc],.pointer (some (Ad x 0))] w λr w'=>r=.returned (.bool (decide (e.page=p)))/\Below w.heap.size w w':=by
 obtain⟨pg,kd,lc⟩:=e;simp only;have b:x<w.heap.size:=jL w _ hx;have xA:(w.alloc (.cells #[I pg,I kd,I lc] 174)).cell? (Ad x 0)=some (I p):=(T4 ((aN w.heap.size w).alloc (aK _) _) (p:=(Ad x 0)) b).trans hx;obtain⟨A,hA⟩:=ex (decide (pg=p));have HA:Hid ((pg==p)=A):=by show _=_;grind
 rw[<- hA];clear hA;have ha:=HA.o;clear HA;go_enter func187,ntmps187;go_wp2;go_ret;simp[aN,sI]
theorem MV (F:FuncId) (hF:F=187\/F=298\/F=300) (P:bJ->Bool) (es:List bJ) (ao:Option Addr) (cap x:Nat) (w:World) (h:eX bZ 3 iD w ao es) (hl:es.length<=1000000)
  (hC:∀V e,Below w.heap.size w V->Calls prog F #[.agg #[I e.page,I e.kind,I e.loc],.pointer (some (Ad x 0))] V λr w'=>r=.returned (.bool (P e))/\Below V.heap.size V w') :
  Calls prog 186 #[.slice ao es.length cap,.func (.func F) #[] #[.pointer (some (Ad x 0))]] w λe w' =>
   Below w.heap.size w w'/\((e=.returned (I (-1))/\∀j,j<es.length->P (bc es j)=false)\/∃i:Nat,i<es.length/\e=.returned (I (i:Int))/\P (bc es i)=true/\∀j,j<i->P (bc es j)=false):=by
 have HH:=ai h;have HC:=ai hC;clear h hC;rcases hF with rfl | rfl | rfl
 all_goals
  go_enter func186,ntmps186;go_wp2;go_loopw [8] (λiv wr=>∃k:Nat,k<=es.length/\iv=I (k:Int)/\(∀j,j<k->P (bc es j)=false)/\Below w.heap.size w wr) (λiv _=>es.length-(intOf iv).toNat)
  case atStart=>grind [Below.refl]
  case round =>
   obtain⟨k,hk,rfl,A,hb⟩:=hrel;have sk:=ai A;have HB:=ai hb;clear A;by_cases hlt:k<es.length
   . have C2:(k:Int)<(es.length:Int):=by omega
     obtain⟨eb,eo,B,y,di⟩:=HH.o ω;subst B;have y0:=(hb.cell (p:=(Ad eb (eo+k*3+0))) y).trans (di k hlt 0 ω);have y1:=(hb.cell (p:=(Ad eb (eo+k*3+1))) y).trans (di k hlt 1 ω);have y2:=(hb.cell (p:=(Ad eb (eo+k*3+2))) y).trans (di k hlt 2 ω);rw[lB] at y0;have uM:=ai (HC.o wr (bc es k) hb);obtain⟨G,hG⟩:=ex (P (bc es k));rw[<- hG] at uM;have HG:=ai hG;obtain⟨E,hE⟩:=ex (bc es k);have x0:wr.cell? (Ad eb (eo+k*3))=some (I E.page):=by rw[hE];exact y0
     have x1:wr.cell? (Ad eb (eo+k*3+1))=some (I E.kind):=by rw[hE];exact y1
     have x2:wr.cell? (Ad eb (eo+k*3+2))=some (I E.loc):=by rw[hE];exact y2
     rw[<- hE] at uM;clear hG hE hb y0 y1 y2 di;cases G with
     | true =>
      go_wp2_with ((first | go_at_call 187 | go_at_call 298 | go_at_call 300);refine uM.o.mono ?_;rintro e w1 ⟨rfl,b⟩;have cD:=ai (HB.o.trans (b.mono HB.o.size));clear b)
      go_ret;exact⟨cD.o,.inr ⟨k,hlt,rfl,HG.o.symm,sk.o⟩⟩
     | false =>
      go_wp2_with ((first | go_at_call 187 | go_at_call 298 | go_at_call 300);refine uM.o.mono ?_;rintro e w1 ⟨rfl,b⟩;have cD:=ai (HB.o.trans (b.mono HB.o.size));clear b)
      go_roundw
      case rel=>exact⟨k+1,ω,by go_num,λj hj=>by
       by_cases q:j=k
       . subst q;exact HG.o.symm
       exact sk.o j ω,cD.o⟩
      case measure=>simp[intOf];omega
   obtain rfl:k=es.length:=by omega
   clear hb;go_wp2;go_ret;exact⟨HB.o,.inl ⟨rfl,sk.o⟩⟩
end Go.Proofs.YtlgoihmkgaaemaaGreat
