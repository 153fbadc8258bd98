import Derived.Test.YtpgifpeohlllfaaGreatGT06
set_option maxHeartbeats 20000000
set_option linter.unusedVariables false
set_option maxRecDepth 100000
set_option linter.unusedSimpArgs false
namespace Go.Proofs.YtpgifpeohlllfaaGreat
namespace LW
open Go.RowKit
open W (ai)
theorem V6 {s t:ByteArray} {a b:Int} (h:s=t) (g:a=b):Ending.returned (.tuple #[.string s,I a])=.returned (.tuple #[.string t,I b]):=by rw[h,g]
theorem qp (s:LM.Sh) (w:World) (h:LM.oc w s.ao s.bg) (hf:LM.DF s) :
  Calls Tryz.prog 148 #[.agg (LM.lW s)] w fun e w'=>e=.returned (.tuple #[.string (LM.pF s).1,I (LM.pF s).2])/\Below w.heap.size w w':=by
 have HR:Hid (∀W,Below w.heap.size w W->Calls Tryz.prog 146 #[.agg (LM.lW s)] W fun e w'=>e=.returned (.bool (LM.bQ s))/\Below W.heap.size W w'):=fun W hb=>pZ s W (h.below hb) hf
 obtain⟨f1,f2,f3,f4⟩:=hf;obtain⟨pg,dt,fs,ao,cap⟩:=s;simp only at f1 f2 f3 f4;unfold M.bD at f2 f3;simp only[LM.lW] at HR;simp only[LM.lW];have hdl:dt.size<=maxLen:=by unfold maxLen;omega
 have F4:=ai f4;have HH:=ai h;clear f4 h f1;have HB:=ai ((Below.refl w.heap.size w).alloc (Nat.le_refl _) (.cells #[I pg,.string dt,.slice ao fs.length cap] 50));have BX:=ai (B.new w #[I pg,.string dt,.slice ao fs.length cap] 50);by_cases hs:LM.bQ ⟨pg,dt,fs,ao,cap⟩=true
 · have HN:Hid (LM.pF ⟨pg,dt,fs,ao,cap⟩=(LM.jZ dt fs fs.length,0)):=by
    show _=_;unfold LM.pF;rw[if_pos hs];rfl
   obtain⟨hd,H7⟩:LM.jK ⟨pg,dt,fs,ao,cap⟩=true/\LM.cH fs fs.length=true:=by
    unfold LM.bQ at hs;simpa using hs
   have h16:dt.size=16:=by
    unfold LM.jK at hd;exact(of_decide_eq_true hd).2.2
   have I9:=ai H7;rw[hs] at HR;clear hs hd H7;go_enter Tryz.func148,Tryz.ntmps148;go_wp2_with (first | (go_at_call 146;refine(HR.o _ HB.o).mono ?_;rintro e w1 ⟨rfl,hb⟩;have HB:=ai (HB.o.trans (hb.mono HB.o.size));have BX:=ai (B.below BX.o hb (B.isLt BX.o));have q0:=B.cell BX.o 0 rfl;have q1:=B.cell BX.o 1 rfl;have q2:=B.cell BX.o 2 rfl;clear hb) | (go_at_call 116;refine(CW.J2 _ _ (by omega)).mono ?_;rintro e w2 ⟨rfl,hb⟩;have HB:=ai (HB.o.trans (hb.mono HB.o.size));have BX:=ai (B.below BX.o hb (B.isLt BX.o));have q0:=B.cell BX.o 0 rfl;have q1:=B.cell BX.o 1 rfl;have q2:=B.cell BX.o 2 rfl;clear hb))
   go_loopw [16,4] (fun i d wr=>∃k:Nat,k<=fs.length/\i=I k/\d=.string (LM.jZ dt fs k)/\Below w.heap.size w wr) (fun i _ _=>fs.length-(intOf i).toNat)
   case atStart=>exact⟨0,by omega,rfl,rfl,HB.o⟩
   case round =>
    obtain⟨k,hk,rfl,rfl,hb⟩:=hrel;have iY:=ai hb;by_cases hlt:k<fs.length
    · obtain⟨b,off,hao,hbl,bN⟩:=(HH.o.below hb) (by omega);subst hao;obtain⟨c0,c1⟩:=bN k hlt;have hok:=(LM.oK _ _).1 (LM.sL fs fs.length I9.o k hlt);have RJ:LM.cH fs k=true:=by
       cases e:LM.cH fs k
       · rw[LM.lq fs k fs.length (by omega) e] at I9;cases I9
       · rfl
      have ZX:=LM.jr fs k RJ;have hsz:=LM.nB dt fs h16 k RJ;have ju:Hid (LM.jZ dt fs (k+1)=CL.over (LM.jZ dt fs k) (LM.mi fs k).off.toNat (LM.mi fs k).bytes):=rfl;obtain⟨f,wu⟩:=ex (LM.mi fs k);rw[<- wu] at c0 c1 hok ju;obtain⟨D,hD⟩:=ex (LM.jZ dt fs k);rw[<- hD] at hsz ju;rw[<- hD];obtain⟨o,ho⟩:∃o:Nat,f.off=(o:Int):=⟨f.off.toNat,by omega⟩;rw[ho] at c0 hok;rw[ho,Int.toNat_natCast] at ju;clear wu hD RJ bN hb;have cQ:=ai (iY.o.alloc iY.o.size (.cells #[I (o:Int),.string f.bytes] 52));go_wp2_with (go_at_call 65;refine(CW.C4 D f.bytes o _ (by omega) (by omega)).mono ?_;rintro e w3 ⟨rfl,hb⟩;have cQ:=ai (cQ.o.trans (hb.mono cQ.o.size));clear hb)
      go_roundw
      case rel=>exact⟨k+1,by omega,by go_num,by rw[ju.o],cQ.o⟩
      case measure=>simp[intOf];omega
    · obtain rfl:k=fs.length:=by omega
      go_wp2
      go_ret2
      exact⟨V6 (by rw[HN.o]) (by rw[HN.o]),iY.o⟩
 · have hs':LM.bQ ⟨pg,dt,fs,ao,cap⟩=false:=by simpa using hs
   have HN:Hid (LM.pF ⟨pg,dt,fs,ao,cap⟩=(⟨#[]⟩,1)):=by
    show _=_;unfold LM.pF;rw[if_neg hs]
   rw[hs'] at HR;clear hs hs';rw[HN.o];go_enter Tryz.func148,Tryz.ntmps148;go_wp2_with (go_at_call 146;refine(HR.o _ HB.o).mono ?_;rintro e w1 ⟨rfl,hb⟩;have HB:=ai (HB.o.trans (hb.mono HB.o.size));clear hb)
   go_ret2
   exact⟨rfl,HB.o⟩
end LW
namespace KW
open Go.RowKit
open FW (ai aD)
def bJ (f:KM.Fr):List Value:=[.string f.data,I f.refs,.bool f.cj,.bool f.seen]
def bI (f:KM.Sl):List Value:=[.string f.data,I f.refs]
def aK (e:KM.En):List Value:=[I e.page,I e.kind,I e.loc]
def aaO {α:Type} (f:α->List Value) (k:Nat) (d:α) (w:World) (b off:Nat) (l:List α):Prop:=∀i,i<l.length->∀j,j<k->w.cell? (Ad b (off+i*k+j))=(f (l.getD i d))[j]?
def aZ {α:Type} (f:α->List Value) (k:Nat) (d:α) (w:World) (ao:Option Addr) (l:List α):Prop:=M.fy (aaO f k d) w ao l
theorem aZ.below {α:Type} {f:α->List Value} {k:Nat} {d:α} {w w':World} {ao:Option Addr} {l:List α} (h:aZ f k d w ao l) (hb:Below w.heap.size w w'):aZ f k d w' ao l :=
 M.fy.below (lie:=aaO f k d) (fun hb hlt h i hi j hj=>(M.br hb hlt).trans (h i hi j hj)) h hb
def Ka (w:World) (b off:Nat) (l:List KM.Sp):Prop:=∀i,i<l.length->∃va ap cp,w.cell? (Ad b (off+i*3))=some (.bool (KM.au l i).live)/\w.cell? (Ad b (off+i*3+1))=some va/\w.cell? (Ad b (off+i*3+2))=some (.slice ap (KM.au l i).aA.length cp)/\AW.Has w va (KM.au l i).aB/\aZ aK 3 KM.js w ap (KM.au l i).aA/\(KM.au l i).aA.length<=cp
theorem Zb {w w':World} {b off:Nat} {l:List KM.Sp} (hb:Below w.heap.size w w') (hlt:b<w.heap.size) (h:Ka w b off l):Ka w' b off l:=fun i hi=>by
 obtain⟨va,ap,cp,c0,c1,c2,c3,c4,c5⟩:=h i hi;exact⟨va,ap,cp,(M.br hb hlt).trans c0,(M.br hb hlt).trans c1,(M.br hb hlt).trans c2,c3.below hb,c4.below hb,c5⟩
def kj (w:World) (ao:Option Addr) (l:List KM.Sp):Prop:=M.fy Ka w ao l
theorem kj.below {w w':World} {ao:Option Addr} {l:List KM.Sp} (h:kj w ao l) (hb:Below w.heap.size w w'):kj w' ao l:=M.fy.below (lie:=Ka) (fun hb hlt h=>Zb hb hlt h) h hb
structure fh where
 aS:Option Addr
 cS:Nat
 aF:Option Addr
 cF:Nat
 aL:Option Addr
 cL:Nat
 aP:Option Addr
 cP:Nat
structure cK (w:World) (a:fh) (k:KM.Kn):Prop where
 ak:LM.jb w a.aS k.ak
 frames:aZ bJ 4 KM.mz w a.aF k.frames
 slots:aZ bI 2 KM.xe w a.aL k.slots
 aj:kj w a.aP k.aj
theorem cK.below {w w':World} {a:fh} {k:KM.Kn} (h:cK w a k) (hb:Below w.heap.size w w'):cK w' a k:=⟨h.ak.below hb,h.frames.below hb,h.slots.below hb,h.aj.below hb⟩
def aI (a:fh) (k:KM.Kn):Array Value:=#[.slice a.aS k.ak.length a.cS,.slice a.aF k.frames.length a.cF,.slice a.aL k.slots.length a.cL,.slice a.aP k.aj.length a.cP,I k.hand]
structure l8 (s:KM.Sp):Prop where
 aB:AW.ft s.aB
 aA:M.bD s.aA.length
 u9:∀i,i<s.aA.length->M.gu (KM.aM s.aA i).page/\M.gu (KM.aM s.aA i).kind/\M.gu (KM.aM s.aA i).loc
structure eB (k:KM.Kn):Prop where
 ak:LM.pH k.ak
 nf:M.bD k.frames.length
 fr:∀i,i<k.frames.length->M.bD (KM.aH k.frames i).data.size/\M.gu (KM.aH k.frames i).refs
 ns:M.bD k.slots.length
 sl:∀i,i<k.slots.length->M.bD (KM.bj k.slots i).data.size/\M.gu (KM.bj k.slots i).refs
 np:M.bD k.aj.length
 sp:∀i,i<k.aj.length->l8 (KM.au k.aj i)
 hand:M.gu k.hand
theorem zL (vS vF vL vP:Option Addr) (nS cS nF cF nL cL nP cP:Nat) (hd:Value) (w:World) :
  Calls Tryz.prog 109 #[.agg #[.slice vS nS cS,.slice vF nF cF,.slice vL nL cL,.slice vP nP cP,hd]] w fun e w'=>e=.returned (.bool (decide ((3<=nF/\nF<=64)/\nL<=512/\(1<=nP/\nP<=4)/\nS<=255)))/\Below w.heap.size w w':=by
 obtain⟨A,hA⟩:=ex (decide ((3<=nF/\nF<=64)/\nL<=512/\(1<=nP/\nP<=4)/\nS<=255));rw[<- hA];have HA:=ai hA;clear hA;rcases(show ¬(3:Int)<=nF∨((3:Int)<=nF/\¬(nF:Int)<=64)∨((3:Int)<=nF/\(nF:Int)<=64/\¬(nL:Int)<=512)∨((3:Int)<=nF/\(nF:Int)<=64/\(nL:Int)<=512/\¬(1:Int)<=nP)∨((3:Int)<=nF/\(nF:Int)<=64/\(nL:Int)<=512/\(1:Int)<=nP/\¬(nP:Int)<=4)∨((3:Int)<=nF/\(nF:Int)<=64/\(nL:Int)<=512/\(1:Int)<=nP/\(nP:Int)<=4/\¬(nS:Int)<=255)∨((3:Int)<=nF/\(nF:Int)<=64/\(nL:Int)<=512/\(1:Int)<=nP/\(nP:Int)<=4/\(nS:Int)<=255) by omega) with g | ⟨g,g1⟩ | ⟨g,g1,g2⟩ | ⟨g,g1,g2,g3⟩ | ⟨g,g1,g2,g3,g4⟩ | ⟨g,g1,g2,g3,g4,g5⟩ | ⟨g,g1,g2,g3,g4,g5⟩
 all_goals
  go_enter Tryz.func109,Tryz.ntmps109;go_wp2;go_ret;exact⟨congrArg (fun b=>Ending.returned (.bool b)) (by rw[HA.o];simp;omega),(Below.refl _ _).alloc (Nat.le_refl _) _⟩
end KW
namespace KW
open Go.RowKit GK
open FW (ai aD)
def r7 (G:Nat->ByteArray):Nat->List Value
 | 0=>[]
 | n+1=>r7 G n++[.string (G n)]
def uC (G:Nat->ByteArray) (n:Nat) (d:ByteArray):Nat->ByteArray:=fun k=>if k=n then d else G k
theorem iB (G:Nat->ByteArray):∀n,(r7 G n).length=n
 | 0=>rfl
 | n+1=>by rw[r7,List.length_append,iB G n];rfl
theorem yr (G:Nat->ByteArray) (n:Nat):∀m,n<m->(r7 G m)[n]?=some (.string (G n))
 | 0,h=>by omega
 | m+1,h=>by
  rw[r7];by_cases c:n<m
  · rw[List.getElem?_append_left (by rw[iB];exact c),yr G n m c]
  · obtain rfl:n=m:=by omega
    rw[List.getElem?_append_right (by rw[iB];exact Nat.le_refl _),iB,Nat.sub_self];rfl
theorem yt (F G:Nat->ByteArray):∀m,(∀k,k<m->F k=G k)->r7 F m=r7 G m
 | 0,_=>rfl
 | m+1,h=>by rw[r7,r7,yt F G m (fun k hk=>h k (by omega)),h m (by omega)]
theorem Es (G:Nat->ByteArray) (n:Nat) (d:ByteArray):∀m,n<m->(r7 G m).set n (.string d)=r7 (uC G n d) m
 | 0,h=>by omega
 | m+1,h=>by
  rw[r7,r7];by_cases c:n<m
  · rw[List.set_append_left _ _ (by rw[iB];exact c),Es G n d m c];congr 2;unfold uC;rw[if_neg (by omega)]
  · obtain rfl:n=m:=by omega
    rw[List.set_append_right _ _ (by rw[iB];exact Nat.le_refl _),iB,Nat.sub_self,yt (uC G n d) G n (fun k hk=>by unfold uC;rw[if_neg (by omega)])];show _++[Value.string d]=_++[Value.string (uC G n d n)];unfold uC;rw[if_pos rfl]
def m9 (a b c d e:Value) (G:Nat->ByteArray):Array Value:=([a,b,c,d,e]++r7 G 256).toArray
theorem Jx (a b c d e:Value) (G:Nat->ByteArray) (n:Nat) (h:n<256):(m9 a b c d e G)[5+n]?=some (.string (G n)):=by
 unfold m9;rw[List.getElem?_toArray,List.getElem?_append_right (by simp),<- yr G n 256 h];congr 1;simp
theorem Oq (a b c d e:Value) (G:Nat->ByteArray) (n:Nat) (x:ByteArray) (h:n<256):(m9 a b c d e G).setIfInBounds (5+n) (.string x)=m9 a b c d e (uC G n x):=by
 unfold m9;rw[List.setIfInBounds_toArray,List.set_append_right _ _ (by simp),<- Es G n x 256 h];congr 3;simp
def nu:Nat->ByteArray:=fun _=>⟨#[]⟩
def j4 (hs:List LM.Sh):Nat->Nat->ByteArray
 | 0=>nu
 | k+1=>uC (j4 hs k) (LM.aY hs k).page.toNat (LM.mQ (LM.aY hs k))
theorem wO (hs:List LM.Sh) (hr:LM.dC hs=true) (n:Nat):j4 hs hs.length n=KM.filled hs n:=by
 have hrise:=LM.vN hs hr;have hat:∀i,i<hs.length->1<=(LM.aY hs i).page:=fun i hi=>by
  have:=(LM.kH hs hs.length hr i hi).1;unfold LM.bQ LM.jK at this;simp only[Bool.and_eq_true,decide_eq_true_eq] at this;exact this.1.1
 have key:∀k,k<=hs.length->(∀i,i<k->(LM.aY hs i).page≠(n:Int))->j4 hs k n=⟨#[]⟩:=fun k=>by
  induction k with
  | zero=>intro _ _;rfl
  | succ k ih =>
   intro hk h;show uC (j4 hs k) _ _ n=_;unfold uC;rw[if_neg (fun e=>h k (by omega) (by have:=hat k (by omega);omega)),ih (by omega) (fun i hi=>h i (by omega))]
 have adp:∀k,k<=hs.length->∀j,j<k->(LM.aY hs j).page=(n:Int)->j4 hs k n=LM.mQ (LM.aY hs j):=fun k=>by
  induction k with
  | zero=>intro _ j hj;omega
  | succ k ih =>
   intro hk j hj e;show uC (j4 hs k) _ _ n=_;unfold uC;by_cases c:j=k
   · subst c;rw[if_pos (by omega)]
   · have hlt:(LM.aY hs j).page<(LM.aY hs k).page:=by
      have:=(List.pairwise_iff_getElem.1 hrise) j k (by rw[List.length_map];omega) (by rw[List.length_map];omega) (by omega);rw[List.getElem_map,List.getElem_map] at this;unfold LM.aY;rw[List.getD_eq_getElem?_getD,List.getD_eq_getElem?_getD,List.getElem?_eq_getElem (by omega),List.getElem?_eq_getElem (by omega)];exact this
     rw[if_neg (by omega)];exact ih (by omega) j (by omega) e
 unfold KM.filled;cases g:KM.bW hs n with
 | none =>
  have h:=List.find?_eq_none.1 g;exact key _ (Nat.le_refl _) (fun i hi e=>by
   have:=h (LM.aY hs i) (KM.dO hi);simp[e] at this)
 | some s =>
  have hm:=List.mem_of_find?_eq_some g;have hp:=List.find?_some g;obtain⟨j,hj,rfl⟩:=KM.fu LM.MP hm;exact adp _ (Nat.le_refl _) j hj (of_decide_eq_true hp)
theorem Mh {s:LM.Sh} (h:LM.bQ s=true):LM.pF s=(LM.mQ s,0):=by unfold LM.pF;rw[if_pos h]
theorem P6 {s:LM.Sh} (h:LM.bQ s=false):LM.pF s=(⟨#[]⟩,1):=by unfold LM.pF;rw[if_neg (by rw[h];simp)]
theorem zy (hs:List LM.Sh) (aS:Option Addr) (cS mb:Nat) (b c d e:Value) (w0 w:World) (h:LM.jb w0 aS hs) (hf:LM.pH hs) (hw:Below w0.heap.size w0 w) (hmb:w0.heap.size<=mb) (hm:w.heap[mb]?=some (.cells (m9 (.slice aS hs.length cS) b c d e nu) 104 (0,0))) (hl:hs.length<=255) :
  Calls Tryz.prog 110 #[.pointer (some (Ad mb 0))] w fun x w'=>x=.returned (.bool (LM.dC hs))/\Kp (fun b=>b=mb) w w'/\∃G,w'.heap[mb]?=some (.cells (m9 (.slice aS hs.length cS) b c d e G) 104 (0,0))/\(LM.dC hs=true->G=j4 hs hs.length):=by
 have HH:=ai h;have HF:=ai hf;have HW:=ai hw;have hlt:=B.isLt hm;have m0:w.cell? (Ad mb 0)=some (.slice aS hs.length cS):=B.cell hm 0 rfl;have HM:=ai hm;have vt:Hid (∀k,k<hs.length->(LM.bQ (LM.aY hs k)=false∨(LM.aY hs k).page<=(if k=0 then 0 else (LM.aY hs (k-1)).page))->LM.dC hs=false):=fun k hk g=>LM.Ez hs k hk (by
  unfold LM.gA;rcases g with g | g
  · rw[g];rfl
  · by_cases c:k=0
    · rw[if_pos c] at g;have:LM.bQ (LM.aY hs k)=false:=by
       unfold LM.bQ LM.jK;rw[decide_eq_false (by omega)];rfl
      rw[this];rfl
    · rw[if_neg c] at g;rw[decide_eq_false (by omega),show(k==0)=false by simpa using c];exact Bool.and_false _)
 have HST:Hid (∀k,k<hs.length->LM.cN hs k=true->LM.bQ (LM.aY hs k)=true->(if k=0 then 0 else (LM.aY hs (k-1)).page)<(LM.aY hs k).page->LM.cN hs (k+1)=true):=fun k hk h1 h2 h3=>by
  rw[LM.cN,h1,h2];unfold LM.gA;by_cases c:k=0
  · simp[c]
  · rw[if_neg c] at h3;simp[h3]
 clear h hf hw hm;go_enter Tryz.func110,Tryz.ntmps110;go_wp2;go_loopw [3,14] (fun lv iv wr=>∃k:Nat,k<=hs.length/\iv=I (k:Int)/\lv=I (if k=0 then 0 else (LM.aY hs (k-1)).page)/\LM.cN hs k=true/\Kp (fun b=>b=mb) w wr/\wr.heap[mb]?=some (.cells (m9 (.slice aS hs.length cS) b c d e (j4 hs k)) 104 (0,0))) (fun _ iv _=>hs.length-(intOf iv).toNat)
 case atStart=>exact⟨0,by omega,rfl,rfl,rfl,Kp.refl _ _,HM.o⟩
 case round =>
  obtain⟨k,hk,rfl,rfl,hr,xL,hmk⟩:=hrel;have FV:=ai xL;have XK:=ai hmk;have HR:=ai hr;clear hr;obtain⟨L,hL⟩:∃L:Int,L=if k=0 then 0 else (LM.aY hs (k-1)).page:=⟨_,rfl⟩
  rw[<- hL];by_cases o6:k<hs.length
  · have hbk:=xL.below HW.o (by have:=HW.o.size;omega) (fun b hb=>by omega);have Sk:=ai hbk;obtain⟨bb,off,hao,hbl,bN⟩:=HH.o (by omega);subst hao;obtain⟨d0,d1,d2,d3⟩:=bN k o6;have akB:¬bb=mb:=by omega
    have hsz:=xL.size;have c0:=(hbk.cell (p:=(Ad bb (off+k*3))) hbl).trans d0;have c1:=(hbk.cell (p:=(Ad bb (off+k*3+1))) hbl).trans d1;have c2:=(hbk.cell (p:=(Ad bb (off+k*3+2))) hbl).trans d2;have rJ:=HF.o.2 k o6;have HC:Hid (∀V,Below w0.heap.size w0 V->Calls Tryz.prog 148 #[.agg (LM.lW (LM.aY hs k))] V fun e w'=>e=.returned (.tuple #[.string (LM.pF (LM.aY hs k)).1,I (LM.pF (LM.aY hs k)).2])/\Below V.heap.size V w'):=fun V hV=>LW.qp _ V (d3.below hV) rJ
    have vt:=ai (vt.o k o6);have HST:=ai (HST.o k o6 HR.o);have Gh:=rJ.page;have Sb:Hid (j4 hs (k+1)=uC (j4 hs k) (LM.aY hs k).page.toNat (LM.mQ (LM.aY hs k))):=rfl;have R9:Hid (LM.bQ (LM.aY hs k)=true->1<=(LM.aY hs k).page/\(LM.aY hs k).page<=255):=fun g=>by
     unfold LM.bQ LM.jK at g;simp only[Bool.and_eq_true,decide_eq_true_eq] at g;exact⟨g.1.1,g.1.2.1⟩
    have FY:=ai (@Mh (LM.aY hs k));have UL:=ai (@P6 (LM.aY hs k));have xH:Hid ((if k+1=0 then 0 else (LM.aY hs (k+1-1)).page)=(LM.aY hs k).page):=by
     show _=_;rw[if_neg (by omega),Nat.add_sub_cancel]
    unfold LM.lW at HC;obtain⟨S,hS⟩:=ex (LM.aY hs k);rw[<- hL] at vt HST;rw[<- hS] at c0 c1 c2 HC vt HST Gh Sb R9 FY UL xH;obtain⟨pg,dt,fx,fo,fc⟩:=S;simp only at c0 c1 c2 HC vt HST Gh Sb R9 FY UL xH;obtain⟨nx,hnx⟩:=ex fx.length;rw[<- hnx] at c2 HC;clear hS hL hnx d0 d1 d2 d3 bN rJ hbk xL hmk;cases pC:LM.bQ ⟨pg,dt,fx,fo,fc⟩ with
    | false =>
     have ru:=ai (vt.o (.inl pC));have DA:=ai (UL.o pC);rw[DA.o] at HC;clear FY UL DA pC vt HST Sb R9 xH;have Wu:¬mb=wr.heap.size:=by omega
     have aab:¬bb=wr.heap.size:=by omega
     have cQ:=ai (Sk.o.alloc (by have:=Sk.o.size;omega) (.cells #[I pg,.string dt,.slice fo nx fc] 50));have KA:=ai ((FV.o.trans (Kp.alloc (fun b=>b=mb) wr (.cells #[I pg,.string dt,.slice fo nx fc] 50)) (fun _ _ g=>g)));have MA:=ai (B.alloc XK.o (.cells #[I pg,.string dt,.slice fo nx fc] 50));have SA:=ai (B.new wr #[I pg,.string dt,.slice fo nx fc] 50);clear HM m0 HH HF;go_wp2_with (go_at_call 148;refine(HC.o _ cQ.o).mono ?_;rintro e w1 ⟨rfl,hb1⟩;have bE:=ai hb1;have S1:=ai (B.below SA.o hb1 (by simp));have s0:w1.cell? (Ad wr.heap.size 0)=some (I pg):=B.cell S1.o 0 rfl;clear hb1)
     go_ret;have hM:=B.below MA.o bE.o (by simp;omega);exact⟨congrArg (fun b=>Ending.returned (.bool b)) ru.o.symm,KA.o.trans (Kp.bc bE.o) (fun _ _ g=>g),_,hM,fun g=>by rw[ru.o] at g;cases g⟩
    | true =>
     have DA:=ai (FY.o pC);rw[DA.o] at HC;have hpb:=R9.o pC;by_cases MS:pg<=L
     · have ru:=ai (vt.o (.inr MS));clear FY UL DA pC vt HST Sb R9 xH;have Wu:¬mb=wr.heap.size:=by omega
       have aab:¬bb=wr.heap.size:=by omega
       have cQ:=ai (Sk.o.alloc (by have:=Sk.o.size;omega) (.cells #[I pg,.string dt,.slice fo nx fc] 50));have KA:=ai ((FV.o.trans (Kp.alloc (fun b=>b=mb) wr (.cells #[I pg,.string dt,.slice fo nx fc] 50)) (fun _ _ g=>g)));have MA:=ai (B.alloc XK.o (.cells #[I pg,.string dt,.slice fo nx fc] 50));have SA:=ai (B.new wr #[I pg,.string dt,.slice fo nx fc] 50);clear HM m0 HH HF;go_wp2_with (go_at_call 148;refine(HC.o _ cQ.o).mono ?_;rintro e w1 ⟨rfl,hb1⟩;have bE:=ai hb1;have S1:=ai (B.below SA.o hb1 (by simp));have s0:w1.cell? (Ad wr.heap.size 0)=some (I pg):=B.cell S1.o 0 rfl;clear hb1)
       go_ret;have hM:=B.below MA.o bE.o (by simp;omega);exact⟨congrArg (fun b=>Ending.returned (.bool b)) ru.o.symm,KA.o.trans (Kp.bc bE.o) (fun _ _ g=>g),_,hM,fun g=>by rw[ru.o] at g;cases g⟩
     · have vr:=ai (HST.o pC (by omega));clear FY UL DA pC vt HST R9;have Wu:¬mb=wr.heap.size:=by omega
       have aab:¬bb=wr.heap.size:=by omega
       have cQ:=ai (Sk.o.alloc (by have:=Sk.o.size;omega) (.cells #[I pg,.string dt,.slice fo nx fc] 50));have KA:=ai ((FV.o.trans (Kp.alloc (fun b=>b=mb) wr (.cells #[I pg,.string dt,.slice fo nx fc] 50)) (fun _ _ g=>g)));have MA:=ai (B.alloc XK.o (.cells #[I pg,.string dt,.slice fo nx fc] 50));have SA:=ai (B.new wr #[I pg,.string dt,.slice fo nx fc] 50);clear HM m0 HH HF;go_wp2_with (go_at_call 148;refine(HC.o _ cQ.o).mono ?_;rintro e w1 ⟨rfl,hb1⟩;have bE:=ai hb1;have S1:=ai (B.below SA.o hb1 (by simp));have s0:w1.cell? (Ad wr.heap.size 0)=some (I pg):=B.cell S1.o 0 rfl;clear hb1)
       obtain⟨n,rfl⟩:∃n:Nat,pg=(n:Int):=⟨pg.toNat,by omega⟩;have hM:=B.below MA.o bE.o (by simp;omega);have wY:=ai hM;have K1:=ai (KA.o.trans (Kp.bc bE.o) (fun _ _ g=>g));have q5:w1.cell? (Ad mb (5+n))=some (.string (j4 hs k n)):=B.cell hM (5+n) (Jx _ _ _ _ _ _ n (by omega));have qf:w1.frozen? (Ad mb (5+n))=false:=B.free hM (5+n);have n0:(0:Int)<=(n:Int):=by omega
       have n1:(n:Int)<256:=by omega
       rw[Int.toNat_natCast] at Sb;obtain⟨FD,Vu⟩:=ex (LM.mQ { page:=(n:Int),data:=dt,bg:=fx,ao:=fo,cap:=fc });rw[<- Vu] at Sb ⊢;clear hM Vu HC c0 c1 c2;go_region;have DZ:=ai ((B.set wY.o (5+n) (.string FD)).trans (by rw[Oq _ _ _ _ _ _ n FD (by omega),<- Sb.o]));have K2:=ai (K1.o.trans ((Kp.set (fun b=>b=mb) w1 (Ad mb (5+n)) (.string FD) rfl).trans (Kp.drew _ _) (fun _ _ g=>g)) (fun _ _ g=>g));have s2:(w1.setCell (Ad mb (5+n)) (.string FD)).drew.cell? (Ad wr.heap.size 0)=some (I (n:Int)):=(cB w1 mb (5+n) wr.heap.size 0 (.string FD) (fun e=>Wu e.symm)).trans s0;obtain⟨W2,hW2⟩:=ex ((w1.setCell (Ad mb (5+n)) (.string FD)).drew);have Ki:Hid (W2.heap[mb]?=some (.cells (m9 (.slice (some (Ad bb off)) hs.length cS) b c d e (j4 hs (k+1))) 104 (0,0))):=by rw[hW2];exact DZ.o
       rw[<- hW2] at K2 s2 ⊢;clear hW2 DZ wY K1 q5 qf s0;go_wp2;go_roundw
       case rel=>exact⟨k+1,by omega,by go_num,by rw[if_neg (by omega),Nat.add_sub_cancel,<- xH.o,if_neg (by omega),Nat.add_sub_cancel],vr.o,K2.o,Ki.o⟩
       case measure=>simp[intOf];omega
  · obtain rfl:k=hs.length:=by omega
    clear xL hmk hL;go_wp2;go_ret;exact⟨congrArg (fun b=>Ending.returned (.bool b)) HR.o.symm,FV.o,_,XK.o,fun _=>rfl⟩
theorem PB {hs:List LM.Sh} {ar:List AM.Ar} {k n:Nat} (hk:k<ar.length) (hn:n<(AM.at_ ar k).aJ.toNat) (hz:(AM.at_ ar k).zero=false) (he:KM.filled hs ((AM.at_ ar k).page+(n:Int))=⟨#[]⟩):KM.pE hs ar=false:=by
 cases q:KM.pE hs ar with
 | false=>rfl
 | true =>
  unfold KM.pE at q;rw[List.all_eq_true] at q;have:=q (AM.at_ ar k) (KM.dO hk);rw[List.all_eq_true] at this;have:=this n (List.mem_range.2 hn);rw[hz,he] at this;cases this
theorem L8 {hs:List LM.Sh} {ar:List AM.Ar} (h:∀k,k<ar.length->∀n,n<(AM.at_ ar k).aJ.toNat->(AM.at_ ar k).zero=true∨KM.filled hs ((AM.at_ ar k).page+(n:Int))≠⟨#[]⟩):KM.pE hs ar=true:=by
 unfold KM.pE;rw[List.all_eq_true];intro a ha;obtain⟨k,hk,rfl⟩:=KM.fu AM.nil ha;rw[List.all_eq_true];intro n hn;rcases h k hk n (List.mem_range.1 hn) with g | g
 · rw[show(ar.getD k AM.nil).zero=true from g];rfl
 · rw[Bool.or_eq_true,decide_eq_true_eq];right;intro e;refine g ?_;have:(KM.filled hs ((AM.at_ ar k).page+(n:Int))).size=0:=e;obtain⟨x,hx⟩:=ex (KM.filled hs ((AM.at_ ar k).page+(n:Int)));rw[<- hx] at this ⊢;obtain⟨⟨l⟩⟩:=x;have:l=[]:=List.eq_nil_of_length_eq_zero this;rw[this]
theorem zn (hs:List LM.Sh) (ar:List AM.Ar) (va:Value) (mb:Nat) (w:World) (ha:AW.Has w va ar) (hc:AM.aW ar=0) (hmb:mb<w.heap.size) (hfl:∀n:Nat,n<256->w.cell? (Ad mb (5+n))=some (.string (KM.filled hs n))) :
  Calls Tryz.prog 149 #[.pointer (some (Ad mb 0)),va] w fun e w'=>e=.returned (.bool (KM.pE hs ar))/\Below w.heap.size w w':=by
 obtain⟨ao,cap,rfl,bN⟩:=ha;have hlen:=AM.gP ar hc;have HL:=ai bN;have Nh:=ai hfl;have HOK:=ai (fun k (hk:k<ar.length)=>AM.dg ar k (AM.cW ar hc k hk));have gv:=ai (fun k n=>@PB hs ar k n);have QL:=ai (@L8 hs ar);obtain⟨A,hA⟩:=ex (KM.pE hs ar);rw[<- hA] at gv QL ⊢;clear bN hfl hA;go_enter Tryz.func149,Tryz.ntmps149;go_wp2;go_loopw [10] (fun iv wr=>∃k:Nat,k<=ar.length/\iv=I (k:Int)/\Below w.heap.size w wr/\∀i,i<k->∀n,n<(AM.at_ ar i).aJ.toNat->(AM.at_ ar i).zero=true∨KM.filled hs ((AM.at_ ar i).page+(n:Int))≠⟨#[]⟩) (fun iv _=>ar.length-(intOf iv).toNat)
 case atStart=>exact⟨0,by omega,rfl,Below.refl _ _,fun i hi=>by omega⟩
 case round =>
  obtain⟨k,hk,rfl,hb,qj⟩:=hrel;have HB:=ai hb;have HP:=ai qj;clear qj;by_cases hlt:k<ar.length
  · obtain⟨b,off,hao,Ah⟩:=HL.o.resolve_left (fun e=>by rw[e] at hlt;cases hlt);subst hao;obtain⟨d0,d1,d2,d3⟩:=Ah k hlt;have hbl:=Ah.lt k hlt;have c0:=(hb.cell (p:=(Ad b (off+k*4))) hbl).trans d0;have c1:=(hb.cell (p:=(Ad b (off+k*4+1))) hbl).trans d1;have c2:=(hb.cell (p:=(Ad b (off+k*4+2))) hbl).trans d2;have c3:=(hb.cell (p:=(Ad b (off+k*4+3))) hbl).trans d3;have hok:=HOK.o k hlt;have gv:=ai (fun n=>gv.o k n hlt);have HS:Hid (∀n,n<(AM.at_ ar k).aJ.toNat->(AM.at_ ar k).zero=true∨KM.filled hs ((AM.at_ ar k).page+(n:Int))≠⟨#[]⟩)->Hid (∀i,i<k+1->∀n,n<(AM.at_ ar i).aJ.toNat->(AM.at_ ar i).zero=true∨KM.filled hs ((AM.at_ ar i).page+(n:Int))≠⟨#[]⟩):=fun g i hi=>by
     by_cases e:i=k
     · rw[e];exact g.out
     · exact HP.o i (by omega)
    obtain⟨a,ha⟩:=ex (AM.at_ ar k);rw[<- ha] at c0 c1 c2 c3 hok gv HS;obtain⟨pg,ps,pt,z⟩:=a;simp only at c0 c1 c2 c3 hok gv HS;obtain⟨pn,rfl⟩:∃pn:Nat,pg=(pn:Int):=⟨pg.toNat,by omega⟩;obtain⟨pm,rfl⟩:∃pm:Nat,ps=(pm:Int):=⟨ps.toNat,by omega⟩;rw[Int.toNat_natCast] at HS gv;have ek:¬b=wr.heap.size:=by have:=hb.size;omega
    have hmw:¬mb=wr.heap.size:=by have:=hb.size;omega
    have cQ:=ai (HB.o.alloc HB.o.size (.cells #[I (pn:Int),I (pm:Int),I pt,.bool z] 47));have SA:=ai (B.new wr #[I (pn:Int),I (pm:Int),I pt,.bool z] 47);clear ha d0 d1 d2 d3 Ah HP QL HOK HL hb;go_wp2;obtain⟨W1,hW1⟩:=ex (wr.alloc (.cells #[I (pn:Int),I (pm:Int),I pt,.bool z] 47));rw[<- hW1] at cQ SA ⊢;obtain⟨sb,pC⟩:=ex wr.heap.size;rw[<- pC] at SA ⊢;clear hW1 pC c0 c1 c2 c3 ek hmw;have s0:W1.cell? (Ad sb 0)=some (I (pn:Int)):=B.cell SA.o 0 rfl;have s3:W1.cell? (Ad sb 3)=some (.bool z):=B.cell SA.o 3 rfl;have HWF:Hid (∀n:Nat,n<256->W1.cell? (Ad mb (5+n))=some (.string (KM.filled hs n))):=fun n hn=>(cQ.o.cell (p:=(Ad mb (5+n))) hmb).trans (Nh.o n hn)
    go_loopw [16] (fun iv wq=>∃n:Nat,n<=pm/\iv=I (n:Int)/\(wq.heap=W1.heap/\Below w.heap.size w wq)/\∀i,i<n->z=true∨KM.filled hs ((pn:Int)+(i:Int))≠⟨#[]⟩) (fun iv _=>pm-(intOf iv).toNat)
    case atStart=>exact⟨0,by omega,rfl,⟨rfl,cQ.o⟩,fun i hi=>by omega⟩
    case round =>
     obtain⟨n,hn,rfl,⟨hD,DL⟩,qj⟩:=hrel;obtain⟨wq,hwq⟩:=ex wr;rw[<- hwq] at hD DL ⊢;clear hwq;have xV:=ai DL;have Ng:=ai hD;have s8:=ai qj;have r0:wq.cell? (Ad sb 0)=some (I (pn:Int)):=(World.cell?_of_block (by rw[hD])).trans s0;have r3:wq.cell? (Ad sb 3)=some (.bool z):=(World.cell?_of_block (by rw[hD])).trans s3;have HWQ:Hid (∀n:Nat,n<256->wq.cell? (Ad mb (5+n))=some (.string (KM.filled hs n))):=fun n hn=>(World.cell?_of_block (by rw[Ng.o])).trans (HWF.o n hn)
     clear hD DL qj;by_cases rI:n<pm
     · have hni:(n:Int)<(pm:Int):=by omega
       have HN:Hid (∀wz:World,wz=wq.drew->(wz.heap=W1.heap/\Below w.heap.size w wz)):=fun wz e=>by rw[e];exact⟨Ng.o,xV.o.drew⟩
       have uk:Hid ((z=true∨KM.filled hs ((pn:Int)+(n:Int))≠⟨#[]⟩)->∀i,i<n+1->z=true∨KM.filled hs ((pn:Int)+(i:Int))≠⟨#[]⟩):=fun g i hi=>by
        by_cases e:i=n
        · rw[e];exact g
        · exact s8.o i (by omega)
       cases z with
       | true =>
        clear gv HS s8;go_wp2;go_region;go_wp2;go_roundw
        case rel=>exact⟨n+1,by omega,by go_num,HN.o _ rfl,uk.o (.inl trivial)⟩
        case measure=>simp[intOf];omega
       | false =>
        have q:=HWQ.o (pn+n) (by omega);have ew:IntKind.i64.wrap ((pn:Int)+(n:Int))=((pn+n:Nat):Int):=by rw[IntKind.wrap_i64];omega
        have ei:((pn+n:Nat):Int)=(pn:Int)+(n:Int):=by omega
        have i0:(0:Int)<=((pn+n:Nat):Int):=by omega
        have i1:((pn+n:Nat):Int)<256:=by omega
        have gv:=ai (gv.o n rI rfl);rw[<- ei] at gv uk;obtain⟨X,hX⟩:=ex (pn+n);obtain⟨D,hD⟩:=ex (KM.filled hs (X:Int));rw[<- hX] at q ew i0 i1 gv uk;rw[<- hD] at q gv uk;clear HS s8 HWQ hX hD ei;by_cases hz:D=⟨#[]⟩
        · have hA:=gv.o hz;subst hA hz;go_wp2;go_region;go_wp2;go_ret;exact⟨rfl,xV.o.drew⟩
        · have hz2:D.toList.isEmpty=false:=by
           rw[Go.ByteArray.toList_eq];cases q2:D.data.toList.isEmpty with
           | false=>rfl
           | true=>exact absurd (by obtain⟨⟨l⟩⟩:=D;have e:l=[]:=List.isEmpty_iff.1 q2;rw[e]) hz
          clear gv;go_wp2;go_region;go_wp2;go_roundw
          case rel=>exact⟨n+1,by omega,by go_num,HN.o _ rfl,uk.o (.inr hz)⟩
          case measure=>simp[intOf];omega
     · obtain rfl:n=pm:=by omega
       have iM:=ai (HS s8);have hni:¬(n:Int)<(n:Int):=by omega
       go_wp2;go_roundw
       case rel=>exact⟨k+1,by omega,by go_num,xV.o,iM.o⟩
       case measure=>simp[intOf];omega
  · obtain rfl:k=ar.length:=by omega
    have hA:=QL.o HP.o;subst hA;clear hb;go_wp2;go_ret;exact⟨rfl,HB.o⟩
theorem yB (hs:List LM.Sh) (s:KM.Sp) (va:Value) (ap:Option Addr) (cp mb:Nat) (w:World) (ha:AW.Has w va s.aB) (hf:l8 s) (hmb:mb<w.heap.size) (hfl:∀n:Nat,n<256->w.cell? (Ad mb (5+n))=some (.string (KM.filled hs n))) :
  Calls Tryz.prog 111 #[.pointer (some (Ad mb 0)),.agg #[.bool s.live,va,.slice ap s.aA.length cp]] w fun e w'=>e=.returned (.bool (KM.ld hs s))/\Below w.heap.size w w':=by
 have uB:=ai (fun V (hV:Below w.heap.size w V)=>AW.gV s.aB va V (ha.below hV) hf.aB);have Yb:Hid (AM.aW s.aB=0->∀V,Below w.heap.size w V->Calls Tryz.prog 149 #[.pointer (some (Ad mb 0)),va] V fun e w'=>e=.returned (.bool (KM.pE hs s.aB))/\Below V.heap.size V w'):=fun hc V hV=>zn hs s.aB va mb V (ha.below hV) hc (Nat.lt_of_lt_of_le hmb hV.size) (fun n hn=>(hV.cell (p:=(Ad mb (5+n))) hmb).trans (hfl n hn))
 obtain⟨A,hA⟩:=ex (KM.ld hs s);rw[<- hA];obtain⟨aa,ca,sI,_⟩:=ha;subst sI;have Gj:=hf.aB.2;have MS:s.aA.length<=140737488351232:=hf.aA;unfold KM.ld at hA;have HA:=ai hA;clear hf hfl hA;obtain⟨na,nZ⟩:=ex s.aB.length;obtain⟨np,rH⟩:=ex s.aA.length;obtain⟨C,hC⟩:=ex (AM.aW s.aB);obtain⟨E,hE⟩:=ex (KM.pE hs s.aB);obtain⟨lv,hlv⟩:=ex s.live;rw[<- nZ] at HA uB Yb Gj ⊢;rw[<- rH] at HA MS ⊢;rw[<- hC] at HA uB Yb;rw[<- hE] at HA Yb;rw[<- hlv] at HA ⊢;clear nZ rH hC hE hlv;have HB:=ai ((Below.refl w.heap.size w).alloc (Nat.le_refl _) (.cells #[.bool lv,.slice aa na ca,.slice ap np cp] 43));have X0:=ai (B.new w #[.bool lv,.slice aa na ca,.slice ap np cp] 43);cases lv with
 | false =>
  have ni:Hid (A=(decide (na=0)&&decide (np=0))):=HA;clear HA uB Yb;rcases(show(na=0/\np=0)∨(na=0/\¬np=0)∨¬na=0 by omega) with⟨g,k⟩ | ⟨g,k⟩ | g
  · have h0:((na:Int)==0)=true:=by rw[beq_iff_eq];omega
    have h1:((np:Int)==0)=true:=by rw[beq_iff_eq];omega
    have pR:Hid (A=true):=by show _=_;rw[ni.o,decide_eq_true g,decide_eq_true k];rfl
    clear ni g k;go_enter Tryz.func111,Tryz.ntmps111;go_wp2;go_ret;exact⟨congrArg (fun b=>Ending.returned (.bool b)) pR.o.symm,HB.o⟩
  · have h0:((na:Int)==0)=true:=by rw[beq_iff_eq];omega
    have h1:((np:Int)==0)=false:=by rw[beq_eq_false_iff_ne];omega
    have pR:Hid (A=false):=by show _=_;rw[ni.o,decide_eq_false k,Bool.and_false]
    clear ni g k;go_enter Tryz.func111,Tryz.ntmps111;go_wp2;go_ret;exact⟨congrArg (fun b=>Ending.returned (.bool b)) pR.o.symm,HB.o⟩
  · have h0:((na:Int)==0)=false:=by rw[beq_eq_false_iff_ne];omega
    have pR:Hid (A=false):=by show _=_;rw[ni.o,decide_eq_false g,Bool.false_and]
    clear ni g;go_enter Tryz.func111,Tryz.ntmps111;go_wp2;go_ret;exact⟨congrArg (fun b=>Ending.returned (.bool b)) pR.o.symm,HB.o⟩
 | true =>
  have ni:Hid (A=(decide (C=0)&&E)):=HA;clear HA;by_cases g:C=0
  · subst g;have HHT:=ai (Yb.o rfl);have pR:Hid (A=E):=ni;clear ni Yb;go_enter Tryz.func111,Tryz.ntmps111;go_wp2_with (first | (go_at_call 98;refine(uB.o _ HB.o).mono ?_;rintro e w1 ⟨rfl,hb1⟩;have bE:=ai (aD HB.o hb1);have X1:=ai (B.below X0.o hb1 (by simp));have x1:w1.cell? (Ad w.heap.size 1)=some (.slice aa na ca):=B.cell X1.o 1 rfl;clear hb1) | (go_at_call 149;refine(HHT.o _ bE.o).mono ?_;rintro e w2 ⟨rfl,hb2⟩;have cM:=ai (aD bE.o hb2);clear hb2))
    go_ret;exact⟨congrArg (fun b=>Ending.returned (.bool b)) pR.o.symm,cM.o⟩
  · have pR:Hid (A=false):=by show _=_;rw[ni.o,decide_eq_false g,Bool.false_and]
    have g0:(C==0)=false:=by rw[beq_eq_false_iff_ne];exact g
    clear ni Yb;go_enter Tryz.func111,Tryz.ntmps111;go_wp2_with (go_at_call 98;refine(uB.o _ HB.o).mono ?_;rintro e w1 ⟨rfl,hb1⟩;have bE:=ai (aD HB.o hb1);clear hb1)
    go_ret;exact⟨congrArg (fun b=>Ending.returned (.bool b)) pR.o.symm,bE.o⟩
theorem jS (l:List AM.Ar):0<=AM.b7 l/\AM.b7 l<=65025:=by
 unfold AM.b7;split
 · rename_i h
   have h1:=AM.gP l h;have h2:=AM.tv l h l.length (Nat.le_refl _);omega
 · omega
theorem qE (l:List KM.Sp):∀k,0<=KM.fp l k/\KM.fp l k<=65025*k
 | 0=>⟨Int.le_refl _,by show(0:Int)<=_;omega⟩
 | k+1=>by
  have h1:=qE l k;have h2:=jS (KM.au l k).aB;show 0<=KM.fp l k+AM.b7 (KM.au l k).aB/\KM.fp l k+AM.b7 (KM.au l k).aB<=_;omega
theorem oC (l:List KM.Sp) (ao:Option Addr) (cap mb:Nat) (w:World) (h:kj w ao l) (hf:∀k,k<l.length->AW.ft (KM.au l k).aB) (hn:l.length<=1000000) (hmb:w.cell? (Ad mb 3)=some (.slice ao l.length cap)) :
  Calls Tryz.prog 83 #[.pointer (some (Ad mb 0))] w fun e w'=>e=.returned (I (KM.room l))/\Below w.heap.size w w':=by
 have HF:=ai hf;have HH:=ai h;have vt:=ai (qE l);have xE:Hid (∀k,KM.fp l (k+1)=KM.fp l k+AM.b7 (KM.au l k).aB):=fun k=>rfl
 clear h hf;go_enter Tryz.func83,Tryz.ntmps83;go_wp2;go_loopw [3,12] (fun sv iv wr=>∃k:Nat,k<=l.length/\iv=I (k:Int)/\sv=I (KM.fp l k)/\Below w.heap.size w wr) (fun _ iv _=>l.length-(intOf iv).toNat)
 case atStart=>exact⟨0,by omega,rfl,rfl,Below.refl _ _⟩
 case round =>
  obtain⟨k,hk,rfl,rfl,hb⟩:=hrel;have HB:=ai hb;have Gg:=vt.o k;by_cases hlt:k<l.length
  · obtain⟨b,off,hao,hbl,bN⟩:=(HH.o.below hb) (by omega);subst hao;obtain⟨va,ap,cp,c0,c1,c2,c3,c4,c5⟩:=bN k hlt;have rJ:=HF.o k hlt;have hst:=xE.o k;have Zq:=jS (KM.au l k).aB;obtain⟨aa,ca,rfl,_⟩:=id c3;have HT:Hid (∀W,Below wr.heap.size wr W->Calls Tryz.prog 54 #[.slice aa (KM.au l k).aB.length ca] W fun e w'=>e=.returned (I (AM.b7 (KM.au l k).aB))/\Below W.heap.size W w'):=fun W hW=>AW.uD _ _ _ (c3.below hW) rJ
    obtain⟨n,hnn⟩:=ex ((KM.au l k).aA.length);obtain⟨na,nZ⟩:=ex ((KM.au l k).aB.length);obtain⟨lv,hlv⟩:=ex ((KM.au l k).live);obtain⟨T,hT⟩:=ex (AM.b7 (KM.au l k).aB);obtain⟨R,hR⟩:=ex (KM.fp l k);rw[<- hnn] at c2 c5;rw[<- nZ] at c1 HT;rw[<- hlv] at c0;rw[<- hT] at HT hst Zq;rw[<- hR] at hst Gg ⊢;have HST:=ai hst;clear hnn nZ hlv hT hR c3 c4 c5 rJ bN hb hst;have cQ:=ai (HB.o.alloc HB.o.size (.cells #[.bool lv,.slice aa na ca,.slice ap n cp] 43));go_wp2_with (go_at_call 54;refine(HT.o _ ((Below.refl _ _).alloc (Nat.le_refl _) _)).mono ?_;rintro e w1 ⟨rfl,hb1⟩;have bE:=ai (aD cQ.o hb1);clear hb1)
    go_roundw
    case rel=>exact⟨k+1,by omega,by go_num,by rw[HST.o],bE.o⟩
    case measure=>simp[intOf];omega
  · obtain rfl:k=l.length:=by omega
    clear hb;go_wp2;go_ret;exact⟨rfl,HB.o⟩
end KW
end Go.Proofs.YtpgifpeohlllfaaGreat
