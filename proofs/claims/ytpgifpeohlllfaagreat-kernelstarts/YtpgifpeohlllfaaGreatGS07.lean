import Derived.Test.YtpgifpeohlllfaaGreatGS00
import Derived.Test.YtpgifpeohlllfaaGreatGS06
import Derived.Test.YtpgifpeohlllfaaGreatGS01
set_option maxHeartbeats 20000000
set_option linter.unusedVariables false
set_option maxRecDepth 100000
set_option linter.unusedSimpArgs false
namespace Go.Proofs.YtpgifpeohlllfaaGreat
namespace LW
open Go.RowKit
open W (ai)
theorem Uz {s t:ByteArray} {a b:Int} (h:s=t) (g:a=b):Ending.returned (.tuple #[.string s,I a])=.returned (.tuple #[.string t,I b]):=by rw[h,g]
theorem pX (s:LM.Sh) (w:World) (h:LM.nE w s.ao s.bh) (hf:LM.De s) :
  Calls Tryz.prog 148 #[.agg (LM.ll s)] w fun e w'=>e=.returned (.tuple #[.string (LM.o8 s).1,I (LM.o8 s).2])/\Below w.heap.size w w':=by
 have HR:Hid (∀W,Below w.heap.size w W->Calls Tryz.prog 146 #[.agg (LM.ll s)] W fun e w'=>e=.returned (.bool (LM.bN s))/\Below W.heap.size W w'):=fun W hb=>pO s W (h.below hb) hf
 obtain⟨f1,f2,f3,f4⟩:=hf
 obtain⟨pg,dt,fs,ao,cap⟩:=s
 simp only at f1 f2 f3 f4
 unfold M.bf at f2 f3
 simp only[LM.ll] at HR
 simp only[LM.ll]
 have hdl:dt.size<=maxLen:=by unfold maxLen;omega
 have F4:=ai f4
 have HH:=ai h
 clear f4 h f1
 have HB:=ai ((Below.refl w.heap.size w).alloc (Nat.le_refl _) (.cells #[I pg,.string dt,.slice ao fs.length cap] 50))
 have BX:=ai (B.new w #[I pg,.string dt,.slice ao fs.length cap] 50)
 by_cases hs:LM.bN ⟨pg,dt,fs,ao,cap⟩=true
 · have HN:Hid (LM.o8 ⟨pg,dt,fs,ao,cap⟩=(LM.jT dt fs fs.length,0)):=by
    show _=_
    unfold LM.o8
    rw[if_pos hs]
    rfl
   obtain⟨hd,Ha⟩:LM.jE ⟨pg,dt,fs,ao,cap⟩=true/\LM.b7 fs fs.length=true:=by
    unfold LM.bN at hs
    simpa using hs
   have h16:dt.size=16:=by
    unfold LM.jE at hd
    exact(of_decide_eq_true hd).2.2
   have Ik:=ai Ha
   rw[hs] at HR
   clear hs hd Ha
   go_enter Tryz.func148,Tryz.ntmps148
   go_wp2_with (first | (go_at_call 146;refine(HR.o _ HB.o).mono ?_;rintro e w1 ⟨rfl,hb⟩;have HB:=ai (HB.o.trans (hb.mono HB.o.size));have BX:=ai (B.below BX.o hb (B.isLt BX.o));have q0:=B.cell BX.o 0 rfl;have q1:=B.cell BX.o 1 rfl;have q2:=B.cell BX.o 2 rfl;clear hb) | (go_at_call 116;refine(CW.Jm _ _ (by omega)).mono ?_;rintro e w2 ⟨rfl,hb⟩;have HB:=ai (HB.o.trans (hb.mono HB.o.size));have BX:=ai (B.below BX.o hb (B.isLt BX.o));have q0:=B.cell BX.o 0 rfl;have q1:=B.cell BX.o 1 rfl;have q2:=B.cell BX.o 2 rfl;clear hb))
   go_loopw [16,4] (fun i d wr=>∃k:Nat,k<=fs.length/\i=I k/\d=.string (LM.jT dt fs k)/\Below w.heap.size w wr) (fun i _ _=>fs.length-(intOf i).toNat)
   case atStart=>exact⟨0,by omega,rfl,rfl,HB.o⟩
   case round =>
    obtain⟨k,hk,rfl,rfl,hb⟩:=hrel
    have fw:=ai hb
    by_cases hlt:k<fs.length
    · obtain⟨b,off,hao,hbl,bM⟩:=(HH.o.below hb) (by omega)
      subst hao
      obtain⟨c0,c1⟩:=bM k hlt
      have hok:=(LM.oc _ _).1 (LM.r7 fs fs.length Ik.o k hlt)
      have P4:LM.b7 fs k=true:=by
       cases e:LM.b7 fs k
       · rw[LM.kO fs k fs.length (by omega) e] at Ik
         cases Ik
       · rfl
      have YE:=LM.jg fs k P4
      have hsz:=LM.mU dt fs h16 k P4
      have ji:Hid (LM.jT dt fs (k+1)=CL.over (LM.jT dt fs k) (LM.lQ fs k).off.toNat (LM.lQ fs k).bytes):=rfl
      obtain⟨f,vw⟩:=ex (LM.lQ fs k)
      rw[<- vw] at c0 c1 hok ji
      obtain⟨D,hD⟩:=ex (LM.jT dt fs k)
      rw[<- hD] at hsz ji
      rw[<- hD]
      obtain⟨o,ho⟩:∃o:Nat,f.off=(o:Int):=⟨f.off.toNat,by omega⟩
      rw[ho] at c0 hok
      rw[ho,Int.toNat_natCast] at ji
      clear vw hD P4 bM hb
      have cJ:=ai (fw.o.alloc fw.o.size (.cells #[I (o:Int),.string f.bytes] 52))
      go_wp2_with (go_at_call 65;refine(CW.CA D f.bytes o _ (by omega) (by omega)).mono ?_;rintro e w3 ⟨rfl,hb⟩;have cJ:=ai (cJ.o.trans (hb.mono cJ.o.size));clear hb)
      go_roundw
      case rel=>exact⟨k+1,by omega,by go_num,by rw[ji.o],cJ.o⟩
      case measure=>simp[intOf];omega
    · obtain rfl:k=fs.length:=by omega
      go_wp2
      go_ret2
      exact⟨Uz (by rw[HN.o]) (by rw[HN.o]),fw.o⟩
 · have hs':LM.bN ⟨pg,dt,fs,ao,cap⟩=false:=by simpa using hs
   have HN:Hid (LM.o8 ⟨pg,dt,fs,ao,cap⟩=(⟨#[]⟩,1)):=by
    show _=_
    unfold LM.o8
    rw[if_neg hs]
   rw[hs'] at HR
   clear hs hs'
   rw[HN.o]
   go_enter Tryz.func148,Tryz.ntmps148
   go_wp2_with (go_at_call 146;refine(HR.o _ HB.o).mono ?_;rintro e w1 ⟨rfl,hb⟩;have HB:=ai (HB.o.trans (hb.mono HB.o.size));clear hb)
   go_ret2
   exact⟨rfl,HB.o⟩
end LW
namespace KW
open Go.RowKit
open FW (ai aB)
def bE (f:KM.Fr):List Value:=[.string f.data,I f.refs,.bool f.b9,.bool f.seen]
def bD (f:KM.Sl):List Value:=[.string f.data,I f.refs]
def aK (e:KM.En):List Value:=[I e.page,I e.kind,I e.loc]
def Zn {α:Type} (f:α->List Value) (k:Nat) (d:α) (w:World) (b off:Nat) (l:List α):Prop:=∀i,i<l.length->∀j,j<k->w.cell? (Ad b (off+i*k+j))=(f (l.getD i d))[j]?
def aZ {α:Type} (f:α->List Value) (k:Nat) (d:α) (w:World) (ao:Option Addr) (l:List α):Prop:=M.fh (Zn f k d) w ao l
theorem aZ.below {α:Type} {f:α->List Value} {k:Nat} {d:α} {w w':World} {ao:Option Addr} {l:List α} (h:aZ f k d w ao l) (hb:Below w.heap.size w w'):aZ f k d w' ao l :=
 M.fh.below (lie:=Zn f k d) (fun hb hlt h i hi j hj=>(M.bk hb hlt).trans (h i hi j hj)) h hb
def Ju (w:World) (b off:Nat) (l:List KM.Sp):Prop:=∀i,i<l.length->∃va ap cp,w.cell? (Ad b (off+i*3))=some (.bool (KM.au l i).live)/\w.cell? (Ad b (off+i*3+1))=some va/\w.cell? (Ad b (off+i*3+2))=some (.slice ap (KM.au l i).aA.length cp)/\AW.Has w va (KM.au l i).aD/\aZ aK 3 KM.jI w ap (KM.au l i).aA/\(KM.au l i).aA.length<=cp
theorem XJ {w w':World} {b off:Nat} {l:List KM.Sp} (hb:Below w.heap.size w w') (hlt:b<w.heap.size) (h:Ju w b off l):Ju w' b off l:=fun i hi=>by
 obtain⟨va,ap,cp,c0,c1,c2,c3,c4,c5⟩:=h i hi
 exact⟨va,ap,cp,(M.bk hb hlt).trans c0,(M.bk hb hlt).trans c1,(M.bk hb hlt).trans c2,c3.below hb,c4.below hb,c5⟩
def jY (w:World) (ao:Option Addr) (l:List KM.Sp):Prop:=M.fh Ju w ao l
theorem jY.below {w w':World} {ao:Option Addr} {l:List KM.Sp} (h:jY w ao l) (hb:Below w.heap.size w w'):jY w' ao l:=M.fh.below (lie:=Ju) (fun hb hlt h=>XJ hb hlt h) h hb
structure fu where
 aS:Option Addr
 cS:Nat
 aF:Option Addr
 cF:Nat
 aL:Option Addr
 cL:Nat
 aP:Option Addr
 cP:Nat
structure cI (w:World) (a:fu) (k:KM.Kn):Prop where
 ak:LM.gT w a.aS k.ak
 frames:aZ bE 4 KM.kY w a.aF k.frames
 slots:aZ bD 2 KM.sS w a.aL k.slots
 aj:jY w a.aP k.aj
theorem cI.below {w w':World} {a:fu} {k:KM.Kn} (h:cI w a k) (hb:Below w.heap.size w w'):cI w' a k:=⟨h.ak.below hb,h.frames.below hb,h.slots.below hb,h.aj.below hb⟩
def aJ (a:fu) (k:KM.Kn):Array Value:=#[.slice a.aS k.ak.length a.cS,.slice a.aF k.frames.length a.cF,.slice a.aL k.slots.length a.cL,.slice a.aP k.aj.length a.cP,I k.hand]
structure lI (s:KM.Sp):Prop where
 aD:AW.ed s.aD
 aA:M.bf s.aA.length
 vW:∀i,i<s.aA.length->M.gj (KM.aN s.aA i).page/\M.gj (KM.aN s.aA i).kind/\M.gj (KM.aN s.aA i).loc
structure eW (k:KM.Kn):Prop where
 ak:LM.lJ k.ak
 nf:M.bf k.frames.length
 fr:∀i,i<k.frames.length->M.bf (KM.aI k.frames i).data.size/\M.gj (KM.aI k.frames i).refs
 ns:M.bf k.slots.length
 sl:∀i,i<k.slots.length->M.bf (KM.bG k.slots i).data.size/\M.gj (KM.bG k.slots i).refs
 np:M.bf k.aj.length
 sp:∀i,i<k.aj.length->lI (KM.au k.aj i)
 hand:M.gj k.hand
theorem za (vS vF vL vP:Option Addr) (nS cS nF cF nL cL nP cP:Nat) (hd:Value) (w:World) :
  Calls Tryz.prog 109 #[.agg #[.slice vS nS cS,.slice vF nF cF,.slice vL nL cL,.slice vP nP cP,hd]] w fun e w'=>e=.returned (.bool (decide ((3<=nF/\nF<=64)/\nL<=512/\(1<=nP/\nP<=4)/\nS<=255)))/\Below w.heap.size w w':=by
 obtain⟨A,hA⟩:=ex (decide ((3<=nF/\nF<=64)/\nL<=512/\(1<=nP/\nP<=4)/\nS<=255))
 rw[<- hA]
 have HA:=ai hA
 clear hA
 rcases(show ¬(3:Int)<=nF∨((3:Int)<=nF/\¬(nF:Int)<=64)∨((3:Int)<=nF/\(nF:Int)<=64/\¬(nL:Int)<=512)∨((3:Int)<=nF/\(nF:Int)<=64/\(nL:Int)<=512/\¬(1:Int)<=nP)∨((3:Int)<=nF/\(nF:Int)<=64/\(nL:Int)<=512/\(1:Int)<=nP/\¬(nP:Int)<=4)∨((3:Int)<=nF/\(nF:Int)<=64/\(nL:Int)<=512/\(1:Int)<=nP/\(nP:Int)<=4/\¬(nS:Int)<=255)∨((3:Int)<=nF/\(nF:Int)<=64/\(nL:Int)<=512/\(1:Int)<=nP/\(nP:Int)<=4/\(nS:Int)<=255) by omega) with g | ⟨g,g1⟩ | ⟨g,g1,g2⟩ | ⟨g,g1,g2,g3⟩ | ⟨g,g1,g2,g3,g4⟩ | ⟨g,g1,g2,g3,g4,g5⟩ | ⟨g,g1,g2,g3,g4,g5⟩
 all_goals
  go_enter Tryz.func109,Tryz.ntmps109
  go_wp2
  go_ret
  exact⟨congrArg (fun b=>Ending.returned (.bool b)) (by rw[HA.o];simp;omega),(Below.refl _ _).alloc (Nat.le_refl _) _⟩
end KW
namespace KW
open Go.RowKit GK
open FW (ai aB)
def rK (G:Nat->ByteArray):Nat->List Value
 | 0=>[]
 | n+1=>rK G n++[.string (G n)]
def ua (G:Nat->ByteArray) (n:Nat) (d:ByteArray):Nat->ByteArray:=fun k=>if k=n then d else G k
theorem iw (G:Nat->ByteArray):∀n,(rK G n).length=n
 | 0=>rfl
 | n+1=>by rw[rK,List.length_append,iw G n];rfl
theorem xP (G:Nat->ByteArray) (n:Nat):∀m,n<m->(rK G m)[n]?=some (.string (G n))
 | 0,h=>by omega
 | m+1,h=>by
  rw[rK]
  by_cases c:n<m
  · rw[List.getElem?_append_left (by rw[iw];exact c),xP G n m c]
  · obtain rfl:n=m:=by omega
    rw[List.getElem?_append_right (by rw[iw];exact Nat.le_refl _),iw,Nat.sub_self];rfl
theorem xQ (F G:Nat->ByteArray):∀m,(∀k,k<m->F k=G k)->rK F m=rK G m
 | 0,_=>rfl
 | m+1,h=>by rw[rK,rK,xQ F G m (fun k hk=>h k (by omega)),h m (by omega)]
theorem DN (G:Nat->ByteArray) (n:Nat) (d:ByteArray):∀m,n<m->(rK G m).set n (.string d)=rK (ua G n d) m
 | 0,h=>by omega
 | m+1,h=>by
  rw[rK,rK]
  by_cases c:n<m
  · rw[List.set_append_left _ _ (by rw[iw];exact c),DN G n d m c]
    congr 2
    unfold ua
    rw[if_neg (by omega)]
  · obtain rfl:n=m:=by omega
    rw[List.set_append_right _ _ (by rw[iw];exact Nat.le_refl _),iw,Nat.sub_self,xQ (ua G n d) G n (fun k hk=>by unfold ua;rw[if_neg (by omega)])]
    show _++[Value.string d]=_++[Value.string (ua G n d n)]
    unfold ua
    rw[if_pos rfl]
def mL (a b c d e:Value) (G:Nat->ByteArray):Array Value:=([a,b,c,d,e]++rK G 256).toArray
theorem IW (a b c d e:Value) (G:Nat->ByteArray) (n:Nat) (h:n<256):(mL a b c d e G)[5+n]?=some (.string (G n)):=by
 unfold mL
 rw[List.getElem?_toArray,List.getElem?_append_right (by simp),<- xP G n 256 h]
 congr 1
 simp
theorem Nv (a b c d e:Value) (G:Nat->ByteArray) (n:Nat) (x:ByteArray) (h:n<256):(mL a b c d e G).setIfInBounds (5+n) (.string x)=mL a b c d e (ua G n x):=by
 unfold mL
 rw[List.setIfInBounds_toArray,List.set_append_right _ _ (by simp),<- DN G n x 256 h]
 congr 3
 simp
def mQ:Nat->ByteArray:=fun _=>⟨#[]⟩
def jU (hs:List LM.Sh):Nat->Nat->ByteArray
 | 0=>mQ
 | k+1=>ua (jU hs k) (LM.aW hs k).page.toNat (LM.mA (LM.aW hs k))
theorem vT (hs:List LM.Sh) (hr:LM.cV hs=true) (n:Nat):jU hs hs.length n=KM.filled hs n:=by
 have hrise:=LM.u5 hs hr
 have hat:∀i,i<hs.length->1<=(LM.aW hs i).page:=fun i hi=>by
  have:=(LM.jz hs hs.length hr i hi).1
  unfold LM.bN LM.jE at this
  simp only[Bool.and_eq_true,decide_eq_true_eq] at this
  exact this.1.1
 have key:∀k,k<=hs.length->(∀i,i<k->(LM.aW hs i).page≠(n:Int))->jU hs k n=⟨#[]⟩:=fun k=>by
  induction k with
  | zero=>intro _ _;rfl
  | succ k ih =>
   intro hk h
   show ua (jU hs k) _ _ n=_
   unfold ua
   rw[if_neg (fun e=>h k (by omega) (by have:=hat k (by omega);omega)),ih (by omega) (fun i hi=>h i (by omega))]
 have abK:∀k,k<=hs.length->∀j,j<k->(LM.aW hs j).page=(n:Int)->jU hs k n=LM.mA (LM.aW hs j):=fun k=>by
  induction k with
  | zero=>intro _ j hj;omega
  | succ k ih =>
   intro hk j hj e
   show ua (jU hs k) _ _ n=_
   unfold ua
   by_cases c:j=k
   · subst c;rw[if_pos (by omega)]
   · have hlt:(LM.aW hs j).page<(LM.aW hs k).page:=by
      have:=(List.pairwise_iff_getElem.1 hrise) j k (by rw[List.length_map];omega) (by rw[List.length_map];omega) (by omega)
      rw[List.getElem_map,List.getElem_map] at this
      unfold LM.aW
      rw[List.getD_eq_getElem?_getD,List.getD_eq_getElem?_getD,List.getElem?_eq_getElem (by omega),List.getElem?_eq_getElem (by omega)]
      exact this
     rw[if_neg (by omega)]
     exact ih (by omega) j (by omega) e
 unfold KM.filled
 cases g:KM.bU hs n with
 | none =>
  have h:=List.find?_eq_none.1 g
  exact key _ (Nat.le_refl _) (fun i hi e=>by
   have:=h (LM.aW hs i) (KM.dX hi)
   simp[e] at this)
 | some s =>
  have hm:=List.mem_of_find?_eq_some g
  have hp:=List.find?_some g
  obtain⟨j,hj,rfl⟩:=KM.eZ LM.L5 hm
  exact abK _ (Nat.le_refl _) j hj (of_decide_eq_true hp)
theorem Ls {s:LM.Sh} (h:LM.bN s=true):LM.o8 s=(LM.mA s,0):=by unfold LM.o8;rw[if_pos h]
theorem OZ {s:LM.Sh} (h:LM.bN s=false):LM.o8 s=(⟨#[]⟩,1):=by unfold LM.o8;rw[if_neg (by rw[h];simp)]
theorem yS (hs:List LM.Sh) (aS:Option Addr) (cS mb:Nat) (b c d e:Value) (w0 w:World) (h:LM.gT w0 aS hs) (hf:LM.lJ hs) (hw:Below w0.heap.size w0 w) (hmb:w0.heap.size<=mb) (hm:w.heap[mb]?=some (.cells (mL (.slice aS hs.length cS) b c d e mQ) 104 (0,0))) (hl:hs.length<=255) :
  Calls Tryz.prog 110 #[.pointer (some (Ad mb 0))] w fun x w'=>x=.returned (.bool (LM.cV hs))/\Kp (fun b=>b=mb) w w'/\∃G,w'.heap[mb]?=some (.cells (mL (.slice aS hs.length cS) b c d e G) 104 (0,0))/\(LM.cV hs=true->G=jU hs hs.length):=by
 have HH:=ai h
 have HF:=ai hf
 have HW:=ai hw
 have hlt:=B.isLt hm
 have m0:w.cell? (Ad mb 0)=some (.slice aS hs.length cS):=B.cell hm 0 rfl
 have HM:=ai hm
 have uQ:Hid (∀k,k<hs.length->(LM.bN (LM.aW hs k)=false∨(LM.aW hs k).page<=(if k=0 then 0 else (LM.aW hs (k-1)).page))->LM.cV hs=false):=fun k hk g=>LM.DY hs k hk (by
  unfold LM.gz
  rcases g with g | g
  · rw[g];rfl
  · by_cases c:k=0
    · rw[if_pos c] at g
      have:LM.bN (LM.aW hs k)=false:=by
       unfold LM.bN LM.jE
       rw[decide_eq_false (by omega)];rfl
      rw[this];rfl
    · rw[if_neg c] at g
      rw[decide_eq_false (by omega),show(k==0)=false by simpa using c]
      exact Bool.and_false _)
 have HST:Hid (∀k,k<hs.length->LM.cB hs k=true->LM.bN (LM.aW hs k)=true->(if k=0 then 0 else (LM.aW hs (k-1)).page)<(LM.aW hs k).page->LM.cB hs (k+1)=true):=fun k hk h1 h2 h3=>by
  rw[LM.cB,h1,h2]
  unfold LM.gz
  by_cases c:k=0
  · simp[c]
  · rw[if_neg c] at h3
    simp[h3]
 clear h hf hw hm
 go_enter Tryz.func110,Tryz.ntmps110
 go_wp2
 go_loopw [3,14] (fun lv iv wr=>∃k:Nat,k<=hs.length/\iv=I (k:Int)/\lv=I (if k=0 then 0 else (LM.aW hs (k-1)).page)/\LM.cB hs k=true/\Kp (fun b=>b=mb) w wr/\wr.heap[mb]?=some (.cells (mL (.slice aS hs.length cS) b c d e (jU hs k)) 104 (0,0))) (fun _ iv _=>hs.length-(intOf iv).toNat)
 case atStart=>exact⟨0,by omega,rfl,rfl,rfl,Kp.refl _ _,HM.o⟩
 case round =>
  obtain⟨k,hk,rfl,rfl,hr,xg,hmk⟩:=hrel
  have Fp:=ai xg
  have Wb:=ai hmk
  have HR:=ai hr
  clear hr
  obtain⟨L,hL⟩:∃L:Int,L=if k=0 then 0 else (LM.aW hs (k-1)).page:=⟨_,rfl⟩
  rw[<- hL]
  by_cases oI:k<hs.length
  · have hbk:=xg.below HW.o (by have:=HW.o.size;omega) (fun b hb=>by omega)
    have Qq:=ai hbk
    obtain⟨bb,off,hao,hbl,bM⟩:=HH.o (by omega)
    subst hao
    obtain⟨d0,d1,d2,d3⟩:=bM k oI
    have aiQ:¬bb=mb:=by omega
    have hsz:=xg.size
    have c0:=(hbk.cell (p:=(Ad bb (off+k*3))) hbl).trans d0
    have c1:=(hbk.cell (p:=(Ad bb (off+k*3+1))) hbl).trans d1
    have c2:=(hbk.cell (p:=(Ad bb (off+k*3+2))) hbl).trans d2
    have ra:=HF.o.2 k oI
    have HC:Hid (∀V,Below w0.heap.size w0 V->Calls Tryz.prog 148 #[.agg (LM.ll (LM.aW hs k))] V fun e w'=>e=.returned (.tuple #[.string (LM.o8 (LM.aW hs k)).1,I (LM.o8 (LM.aW hs k)).2])/\Below V.heap.size V w'):=fun V hV=>LW.pX _ V (d3.below hV) ra
    have uQ:=ai (uQ.o k oI)
    have HST:=ai (HST.o k oI HR.o)
    have Fz:=ra.page
    have Wv:Hid (jU hs (k+1)=ua (jU hs k) (LM.aW hs k).page.toNat (LM.mA (LM.aW hs k))):=rfl
    have Qm:Hid (LM.bN (LM.aW hs k)=true->1<=(LM.aW hs k).page/\(LM.aW hs k).page<=255):=fun g=>by
     unfold LM.bN LM.jE at g
     simp only[Bool.and_eq_true,decide_eq_true_eq] at g
     exact⟨g.1.1,g.1.2.1⟩
    have Al:=ai (@Ls (LM.aW hs k))
    have Ta:=ai (@OZ (LM.aW hs k))
    have Dq:Hid ((if k+1=0 then 0 else (LM.aW hs (k+1-1)).page)=(LM.aW hs k).page):=by
     show _=_
     rw[if_neg (by omega),Nat.add_sub_cancel]
    unfold LM.ll at HC
    obtain⟨S,hS⟩:=ex (LM.aW hs k)
    rw[<- hL] at uQ HST
    rw[<- hS] at c0 c1 c2 HC uQ HST Fz Wv Qm Al Ta Dq
    obtain⟨pg,dt,fx,fo,fc⟩:=S
    simp only at c0 c1 c2 HC uQ HST Fz Wv Qm Al Ta Dq
    obtain⟨nx,hnx⟩:=ex fx.length
    rw[<- hnx] at c2 HC
    clear hS hL hnx d0 d1 d2 d3 bM ra hbk xg hmk
    cases pR:LM.bN ⟨pg,dt,fx,fo,fc⟩ with
    | false =>
     have sH:=ai (uQ.o (.inl pR))
     have C9:=ai (Ta.o pR)
     rw[C9.o] at HC
     clear Al Ta C9 pR uQ HST Wv Qm Dq
     have U0:¬mb=wr.heap.size:=by omega
     have YP:¬bb=wr.heap.size:=by omega
     have cJ:=ai (Qq.o.alloc (by have:=Qq.o.size;omega) (.cells #[I pg,.string dt,.slice fo nx fc] 50))
     have KA:=ai ((Fp.o.trans (Kp.alloc (fun b=>b=mb) wr (.cells #[I pg,.string dt,.slice fo nx fc] 50)) (fun _ _ g=>g)))
     have MA:=ai (B.alloc Wb.o (.cells #[I pg,.string dt,.slice fo nx fc] 50))
     have SA:=ai (B.new wr #[I pg,.string dt,.slice fo nx fc] 50)
     clear HM m0 HH HF
     go_wp2_with (go_at_call 148;refine(HC.o _ cJ.o).mono ?_;rintro e w1 ⟨rfl,hb1⟩;have bI:=ai hb1;have S1:=ai (B.below SA.o hb1 (by simp));have s0:w1.cell? (Ad wr.heap.size 0)=some (I pg):=B.cell S1.o 0 rfl;clear hb1)
     go_ret
     have hM:=B.below MA.o bI.o (by simp;omega)
     exact⟨congrArg (fun b=>Ending.returned (.bool b)) sH.o.symm,KA.o.trans (Kp.aY bI.o) (fun _ _ g=>g),_,hM,fun g=>by rw[sH.o] at g;cases g⟩
    | true =>
     have C9:=ai (Al.o pR)
     rw[C9.o] at HC
     have hpb:=Qm.o pR
     by_cases Rh:pg<=L
     · have sH:=ai (uQ.o (.inr Rh))
       clear Al Ta C9 pR uQ HST Wv Qm Dq
       have U0:¬mb=wr.heap.size:=by omega
       have YP:¬bb=wr.heap.size:=by omega
       have cJ:=ai (Qq.o.alloc (by have:=Qq.o.size;omega) (.cells #[I pg,.string dt,.slice fo nx fc] 50))
       have KA:=ai ((Fp.o.trans (Kp.alloc (fun b=>b=mb) wr (.cells #[I pg,.string dt,.slice fo nx fc] 50)) (fun _ _ g=>g)))
       have MA:=ai (B.alloc Wb.o (.cells #[I pg,.string dt,.slice fo nx fc] 50))
       have SA:=ai (B.new wr #[I pg,.string dt,.slice fo nx fc] 50)
       clear HM m0 HH HF
       go_wp2_with (go_at_call 148;refine(HC.o _ cJ.o).mono ?_;rintro e w1 ⟨rfl,hb1⟩;have bI:=ai hb1;have S1:=ai (B.below SA.o hb1 (by simp));have s0:w1.cell? (Ad wr.heap.size 0)=some (I pg):=B.cell S1.o 0 rfl;clear hb1)
       go_ret
       have hM:=B.below MA.o bI.o (by simp;omega)
       exact⟨congrArg (fun b=>Ending.returned (.bool b)) sH.o.symm,KA.o.trans (Kp.aY bI.o) (fun _ _ g=>g),_,hM,fun g=>by rw[sH.o] at g;cases g⟩
     · have C3:=ai (HST.o pR (by omega))
       clear Al Ta C9 pR uQ HST Qm
       have U0:¬mb=wr.heap.size:=by omega
       have YP:¬bb=wr.heap.size:=by omega
       have cJ:=ai (Qq.o.alloc (by have:=Qq.o.size;omega) (.cells #[I pg,.string dt,.slice fo nx fc] 50))
       have KA:=ai ((Fp.o.trans (Kp.alloc (fun b=>b=mb) wr (.cells #[I pg,.string dt,.slice fo nx fc] 50)) (fun _ _ g=>g)))
       have MA:=ai (B.alloc Wb.o (.cells #[I pg,.string dt,.slice fo nx fc] 50))
       have SA:=ai (B.new wr #[I pg,.string dt,.slice fo nx fc] 50)
       clear HM m0 HH HF
       go_wp2_with (go_at_call 148;refine(HC.o _ cJ.o).mono ?_;rintro e w1 ⟨rfl,hb1⟩;have bI:=ai hb1;have S1:=ai (B.below SA.o hb1 (by simp));have s0:w1.cell? (Ad wr.heap.size 0)=some (I pg):=B.cell S1.o 0 rfl;clear hb1)
       obtain⟨n,rfl⟩:∃n:Nat,pg=(n:Int):=⟨pg.toNat,by omega⟩
       have hM:=B.below MA.o bI.o (by simp;omega)
       have Qi:=ai hM
       have K1:=ai (KA.o.trans (Kp.aY bI.o) (fun _ _ g=>g))
       have q5:w1.cell? (Ad mb (5+n))=some (.string (jU hs k n)):=B.cell hM (5+n) (IW _ _ _ _ _ _ n (by omega))
       have qf:w1.frozen? (Ad mb (5+n))=false:=B.free hM (5+n)
       have n0:(0:Int)<=(n:Int):=by omega
       have n1:(n:Int)<256:=by omega
       rw[Int.toNat_natCast] at Wv
       obtain⟨FD,TU⟩:=ex (LM.mA { page:=(n:Int),data:=dt,bh:=fx,ao:=fo,cap:=fc })
       rw[<- TU] at Wv ⊢
       clear hM TU HC c0 c1 c2
       go_region
       have FO:=ai ((B.set Qi.o (5+n) (.string FD)).trans (by rw[Nv _ _ _ _ _ _ n FD (by omega),<- Wv.o]))
       have K2:=ai (K1.o.trans ((Kp.set (fun b=>b=mb) w1 (Ad mb (5+n)) (.string FD) rfl).trans (Kp.drew _ _) (fun _ _ g=>g)) (fun _ _ g=>g))
       have s2:(w1.setCell (Ad mb (5+n)) (.string FD)).drew.cell? (Ad wr.heap.size 0)=some (I (n:Int)):=(cu w1 mb (5+n) wr.heap.size 0 (.string FD) (fun e=>U0 e.symm)).trans s0
       obtain⟨W2,hW2⟩:=ex ((w1.setCell (Ad mb (5+n)) (.string FD)).drew)
       have Jy:Hid (W2.heap[mb]?=some (.cells (mL (.slice (some (Ad bb off)) hs.length cS) b c d e (jU hs (k+1))) 104 (0,0))):=by rw[hW2];exact FO.o
       rw[<- hW2] at K2 s2 ⊢
       clear hW2 FO Qi K1 q5 qf s0
       go_wp2
       go_roundw
       case rel=>exact⟨k+1,by omega,by go_num,by rw[if_neg (by omega),Nat.add_sub_cancel,<- Dq.o,if_neg (by omega),Nat.add_sub_cancel],C3.o,K2.o,Jy.o⟩
       case measure=>simp[intOf];omega
  · obtain rfl:k=hs.length:=by omega
    clear xg hmk hL
    go_wp2
    go_ret
    exact⟨congrArg (fun b=>Ending.returned (.bool b)) HR.o.symm,Fp.o,_,Wb.o,fun _=>rfl⟩
theorem OC {hs:List LM.Sh} {ar:List AM.Ar} {k n:Nat} (hk:k<ar.length) (hn:n<(AM.at_ ar k).aH.toNat) (hz:(AM.at_ ar k).zero=false) (he:KM.filled hs ((AM.at_ ar k).page+(n:Int))=⟨#[]⟩):KM.o7 hs ar=false:=by
 cases q:KM.o7 hs ar with
 | false=>rfl
 | true =>
  unfold KM.o7 at q
  rw[List.all_eq_true] at q
  have:=q (AM.at_ ar k) (KM.dX hk)
  rw[List.all_eq_true] at this
  have:=this n (List.mem_range.2 hn)
  rw[hz,he] at this
  cases this
theorem Lg {hs:List LM.Sh} {ar:List AM.Ar} (h:∀k,k<ar.length->∀n,n<(AM.at_ ar k).aH.toNat->(AM.at_ ar k).zero=true∨KM.filled hs ((AM.at_ ar k).page+(n:Int))≠⟨#[]⟩):KM.o7 hs ar=true:=by
 unfold KM.o7
 rw[List.all_eq_true]
 intro a ha
 obtain⟨k,hk,rfl⟩:=KM.eZ AM.nil ha
 rw[List.all_eq_true]
 intro n hn
 rcases h k hk n (List.mem_range.1 hn) with g | g
 · rw[show(ar.getD k AM.nil).zero=true from g];rfl
 · rw[Bool.or_eq_true,decide_eq_true_eq]
   right
   intro e
   refine g ?_
   have:(KM.filled hs ((AM.at_ ar k).page+(n:Int))).size=0:=e
   obtain⟨x,hx⟩:=ex (KM.filled hs ((AM.at_ ar k).page+(n:Int)))
   rw[<- hx] at this ⊢
   obtain⟨⟨l⟩⟩:=x
   have:l=[]:=List.eq_nil_of_length_eq_zero this
   rw[this]
theorem yO (hs:List LM.Sh) (ar:List AM.Ar) (va:Value) (mb:Nat) (w:World) (ha:AW.Has w va ar) (hc:AM.aR ar=0) (hmb:mb<w.heap.size) (hfl:∀n:Nat,n<256->w.cell? (Ad mb (5+n))=some (.string (KM.filled hs n))) :
  Calls Tryz.prog 149 #[.pointer (some (Ad mb 0)),va] w fun e w'=>e=.returned (.bool (KM.o7 hs ar))/\Below w.heap.size w w':=by
 obtain⟨ao,cap,rfl,bM⟩:=ha
 have hlen:=AM.gQ ar hc
 have HL:=ai bM
 have Ml:=ai hfl
 have HOK:=ai (fun k (hk:k<ar.length)=>AM.df ar k (AM.cR ar hc k hk))
 have gq:=ai (fun k n=>@OC hs ar k n)
 have PO:=ai (@Lg hs ar)
 obtain⟨A,hA⟩:=ex (KM.o7 hs ar)
 rw[<- hA] at gq PO ⊢
 clear bM hfl hA
 go_enter Tryz.func149,Tryz.ntmps149
 go_wp2
 go_loopw [10] (fun iv wr=>∃k:Nat,k<=ar.length/\iv=I (k:Int)/\Below w.heap.size w wr/\∀i,i<k->∀n,n<(AM.at_ ar i).aH.toNat->(AM.at_ ar i).zero=true∨KM.filled hs ((AM.at_ ar i).page+(n:Int))≠⟨#[]⟩) (fun iv _=>ar.length-(intOf iv).toNat)
 case atStart=>exact⟨0,by omega,rfl,Below.refl _ _,fun i hi=>by omega⟩
 case round =>
  obtain⟨k,hk,rfl,hb,pS⟩:=hrel
  have HB:=ai hb
  have HP:=ai pS
  clear pS
  by_cases hlt:k<ar.length
  · obtain⟨b,off,hao,Dg⟩:=HL.o.resolve_left (fun e=>by rw[e] at hlt;cases hlt)
    subst hao
    obtain⟨d0,d1,d2,d3⟩:=Dg k hlt
    have hbl:=Dg.lt k hlt
    have c0:=(hb.cell (p:=(Ad b (off+k*4))) hbl).trans d0
    have c1:=(hb.cell (p:=(Ad b (off+k*4+1))) hbl).trans d1
    have c2:=(hb.cell (p:=(Ad b (off+k*4+2))) hbl).trans d2
    have c3:=(hb.cell (p:=(Ad b (off+k*4+3))) hbl).trans d3
    have hok:=HOK.o k hlt
    have gq:=ai (fun n=>gq.o k n hlt)
    have HS:Hid (∀n,n<(AM.at_ ar k).aH.toNat->(AM.at_ ar k).zero=true∨KM.filled hs ((AM.at_ ar k).page+(n:Int))≠⟨#[]⟩)->Hid (∀i,i<k+1->∀n,n<(AM.at_ ar i).aH.toNat->(AM.at_ ar i).zero=true∨KM.filled hs ((AM.at_ ar i).page+(n:Int))≠⟨#[]⟩):=fun g i hi=>by
     by_cases e:i=k
     · rw[e];exact g.out
     · exact HP.o i (by omega)
    obtain⟨a,ha⟩:=ex (AM.at_ ar k)
    rw[<- ha] at c0 c1 c2 c3 hok gq HS
    obtain⟨pg,ps,pt,z⟩:=a
    simp only at c0 c1 c2 c3 hok gq HS
    obtain⟨pn,rfl⟩:∃pn:Nat,pg=(pn:Int):=⟨pg.toNat,by omega⟩
    obtain⟨pm,rfl⟩:∃pm:Nat,ps=(pm:Int):=⟨ps.toNat,by omega⟩
    rw[Int.toNat_natCast] at HS gq
    have eK:¬b=wr.heap.size:=by have:=hb.size;omega
    have hmw:¬mb=wr.heap.size:=by have:=hb.size;omega
    have cJ:=ai (HB.o.alloc HB.o.size (.cells #[I (pn:Int),I (pm:Int),I pt,.bool z] 47))
    have SA:=ai (B.new wr #[I (pn:Int),I (pm:Int),I pt,.bool z] 47)
    clear ha d0 d1 d2 d3 Dg HP PO HOK HL hb
    go_wp2
    obtain⟨W1,hW1⟩:=ex (wr.alloc (.cells #[I (pn:Int),I (pm:Int),I pt,.bool z] 47))
    rw[<- hW1] at cJ SA ⊢
    obtain⟨sb,pR⟩:=ex wr.heap.size
    rw[<- pR] at SA ⊢
    clear hW1 pR c0 c1 c2 c3 eK hmw
    have s0:W1.cell? (Ad sb 0)=some (I (pn:Int)):=B.cell SA.o 0 rfl
    have s3:W1.cell? (Ad sb 3)=some (.bool z):=B.cell SA.o 3 rfl
    have HWF:Hid (∀n:Nat,n<256->W1.cell? (Ad mb (5+n))=some (.string (KM.filled hs n))):=fun n hn=>(cJ.o.cell (p:=(Ad mb (5+n))) hmb).trans (Ml.o n hn)
    go_loopw [16] (fun iv wq=>∃n:Nat,n<=pm/\iv=I (n:Int)/\(wq.heap=W1.heap/\Below w.heap.size w wq)/\∀i,i<n->z=true∨KM.filled hs ((pn:Int)+(i:Int))≠⟨#[]⟩) (fun iv _=>pm-(intOf iv).toNat)
    case atStart=>exact⟨0,by omega,rfl,⟨rfl,cJ.o⟩,fun i hi=>by omega⟩
    case round =>
     obtain⟨n,hn,rfl,⟨hD,Dj⟩,pS⟩:=hrel
     obtain⟨wq,hwq⟩:=ex wr
     rw[<- hwq] at hD Dj ⊢
     clear hwq
     have xw:=ai Dj
     have Ql:=ai hD
     have o9:=ai pS
     have r0:wq.cell? (Ad sb 0)=some (I (pn:Int)):=(World.cell?_of_block (by rw[hD])).trans s0
     have r3:wq.cell? (Ad sb 3)=some (.bool z):=(World.cell?_of_block (by rw[hD])).trans s3
     have HWQ:Hid (∀n:Nat,n<256->wq.cell? (Ad mb (5+n))=some (.string (KM.filled hs n))):=fun n hn=>(World.cell?_of_block (by rw[Ql.o])).trans (HWF.o n hn)
     clear hD Dj pS
     by_cases q9:n<pm
     · have hni:(n:Int)<(pm:Int):=by omega
       have HN:Hid (∀wz:World,wz=wq.drew->(wz.heap=W1.heap/\Below w.heap.size w wz)):=fun wz e=>by rw[e];exact⟨Ql.o,xw.o.drew⟩
       have tQ:Hid ((z=true∨KM.filled hs ((pn:Int)+(n:Int))≠⟨#[]⟩)->∀i,i<n+1->z=true∨KM.filled hs ((pn:Int)+(i:Int))≠⟨#[]⟩):=fun g i hi=>by
        by_cases e:i=n
        · rw[e];exact g
        · exact o9.o i (by omega)
       cases z with
       | true =>
        clear gq HS o9
        go_wp2
        go_region
        go_wp2
        go_roundw
        case rel=>exact⟨n+1,by omega,by go_num,HN.o _ rfl,tQ.o (.inl trivial)⟩
        case measure=>simp[intOf];omega
       | false =>
        have q:=HWQ.o (pn+n) (by omega)
        have ew:IntKind.i64.wrap ((pn:Int)+(n:Int))=((pn+n:Nat):Int):=by rw[IntKind.wrap_i64];omega
        have ei:((pn+n:Nat):Int)=(pn:Int)+(n:Int):=by omega
        have i0:(0:Int)<=((pn+n:Nat):Int):=by omega
        have i1:((pn+n:Nat):Int)<256:=by omega
        have gq:=ai (gq.o n q9 rfl)
        rw[<- ei] at gq tQ
        obtain⟨X,hX⟩:=ex (pn+n)
        obtain⟨D,hD⟩:=ex (KM.filled hs (X:Int))
        rw[<- hX] at q ew i0 i1 gq tQ
        rw[<- hD] at q gq tQ
        clear HS o9 HWQ hX hD ei
        by_cases hz:D=⟨#[]⟩
        · have hA:=gq.o hz
          subst hA hz
          go_wp2
          go_region
          go_wp2
          go_ret
          exact⟨rfl,xw.o.drew⟩
        · have hz2:D.toList.isEmpty=false:=by
           rw[Go.ByteArray.toList_eq]
           cases q2:D.data.toList.isEmpty with
           | false=>rfl
           | true=>exact absurd (by obtain⟨⟨l⟩⟩:=D;have e:l=[]:=List.isEmpty_iff.1 q2;rw[e]) hz
          clear gq
          go_wp2
          go_region
          go_wp2
          go_roundw
          case rel=>exact⟨n+1,by omega,by go_num,HN.o _ rfl,tQ.o (.inr hz)⟩
          case measure=>simp[intOf];omega
     · obtain rfl:n=pm:=by omega
       have eD:=ai (HS o9)
       have hni:¬(n:Int)<(n:Int):=by omega
       go_wp2
       go_roundw
       case rel=>exact⟨k+1,by omega,by go_num,xw.o,eD.o⟩
       case measure=>simp[intOf];omega
  · obtain rfl:k=ar.length:=by omega
    have hA:=PO.o HP.o
    subst hA
    clear hb
    go_wp2
    go_ret
    exact⟨rfl,HB.o⟩
theorem xW (hs:List LM.Sh) (s:KM.Sp) (va:Value) (ap:Option Addr) (cp mb:Nat) (w:World) (ha:AW.Has w va s.aD) (hf:lI s) (hmb:mb<w.heap.size) (hfl:∀n:Nat,n<256->w.cell? (Ad mb (5+n))=some (.string (KM.filled hs n))) :
  Calls Tryz.prog 111 #[.pointer (some (Ad mb 0)),.agg #[.bool s.live,va,.slice ap s.aA.length cp]] w fun e w'=>e=.returned (.bool (KM.kL hs s))/\Below w.heap.size w w':=by
 have oU:=ai (fun V (hV:Below w.heap.size w V)=>AW.fK s.aD va V (ha.below hV) hf.aD)
 have S9:Hid (AM.aR s.aD=0->∀V,Below w.heap.size w V->Calls Tryz.prog 149 #[.pointer (some (Ad mb 0)),va] V fun e w'=>e=.returned (.bool (KM.o7 hs s.aD))/\Below V.heap.size V w'):=fun hc V hV=>yO hs s.aD va mb V (ha.below hV) hc (Nat.lt_of_lt_of_le hmb hV.size) (fun n hn=>(hV.cell (p:=(Ad mb (5+n))) hmb).trans (hfl n hn))
 obtain⟨A,hA⟩:=ex (KM.kL hs s)
 rw[<- hA]
 obtain⟨aa,ca,qP,_⟩:=ha
 subst qP
 have FC:=hf.aD.2
 have Rh:s.aA.length<=140737488351232:=hf.aA
 unfold KM.kL at hA
 have HA:=ai hA
 clear hf hfl hA
 obtain⟨na,oH⟩:=ex s.aD.length
 obtain⟨np,rX⟩:=ex s.aA.length
 obtain⟨C,hC⟩:=ex (AM.aR s.aD)
 obtain⟨E,hE⟩:=ex (KM.o7 hs s.aD)
 obtain⟨lv,hlv⟩:=ex s.live
 rw[<- oH] at HA oU S9 FC ⊢
 rw[<- rX] at HA Rh ⊢
 rw[<- hC] at HA oU S9
 rw[<- hE] at HA S9
 rw[<- hlv] at HA ⊢
 clear oH rX hC hE hlv
 have HB:=ai ((Below.refl w.heap.size w).alloc (Nat.le_refl _) (.cells #[.bool lv,.slice aa na ca,.slice ap np cp] 43))
 have X0:=ai (B.new w #[.bool lv,.slice aa na ca,.slice ap np cp] 43)
 cases lv with
 | false =>
  have kg:Hid (A=(decide (na=0)&&decide (np=0))):=HA
  clear HA oU S9
  rcases(show(na=0/\np=0)∨(na=0/\¬np=0)∨¬na=0 by omega) with⟨g,k⟩ | ⟨g,k⟩ | g
  · have h0:((na:Int)==0)=true:=by rw[beq_iff_eq];omega
    have h1:((np:Int)==0)=true:=by rw[beq_iff_eq];omega
    have pF:Hid (A=true):=by show _=_;rw[kg.o,decide_eq_true g,decide_eq_true k];rfl
    clear kg g k
    go_enter Tryz.func111,Tryz.ntmps111
    go_wp2
    go_ret
    exact⟨congrArg (fun b=>Ending.returned (.bool b)) pF.o.symm,HB.o⟩
  · have h0:((na:Int)==0)=true:=by rw[beq_iff_eq];omega
    have h1:((np:Int)==0)=false:=by rw[beq_eq_false_iff_ne];omega
    have pF:Hid (A=false):=by show _=_;rw[kg.o,decide_eq_false k,Bool.and_false]
    clear kg g k
    go_enter Tryz.func111,Tryz.ntmps111
    go_wp2
    go_ret
    exact⟨congrArg (fun b=>Ending.returned (.bool b)) pF.o.symm,HB.o⟩
  · have h0:((na:Int)==0)=false:=by rw[beq_eq_false_iff_ne];omega
    have pF:Hid (A=false):=by show _=_;rw[kg.o,decide_eq_false g,Bool.false_and]
    clear kg g
    go_enter Tryz.func111,Tryz.ntmps111
    go_wp2
    go_ret
    exact⟨congrArg (fun b=>Ending.returned (.bool b)) pF.o.symm,HB.o⟩
 | true =>
  have kg:Hid (A=(decide (C=0)&&E)):=HA
  clear HA
  by_cases g:C=0
  · subst g
    have HHT:=ai (S9.o rfl)
    have pF:Hid (A=E):=kg
    clear kg S9
    go_enter Tryz.func111,Tryz.ntmps111
    go_wp2_with (first | (go_at_call 98;refine(oU.o _ HB.o).mono ?_;rintro e w1 ⟨rfl,hb1⟩;have bI:=ai (aB HB.o hb1);have X1:=ai (B.below X0.o hb1 (by simp));have x1:w1.cell? (Ad w.heap.size 1)=some (.slice aa na ca):=B.cell X1.o 1 rfl;clear hb1) | (go_at_call 149;refine(HHT.o _ bI.o).mono ?_;rintro e w2 ⟨rfl,hb2⟩;have ck:=ai (aB bI.o hb2);clear hb2))
    go_ret
    exact⟨congrArg (fun b=>Ending.returned (.bool b)) pF.o.symm,ck.o⟩
  · have pF:Hid (A=false):=by show _=_;rw[kg.o,decide_eq_false g,Bool.false_and]
    have g0:(C==0)=false:=by rw[beq_eq_false_iff_ne];exact g
    clear kg S9
    go_enter Tryz.func111,Tryz.ntmps111
    go_wp2_with (go_at_call 98;refine(oU.o _ HB.o).mono ?_;rintro e w1 ⟨rfl,hb1⟩;have bI:=ai (aB HB.o hb1);clear hb1)
    go_ret
    exact⟨congrArg (fun b=>Ending.returned (.bool b)) pF.o.symm,bI.o⟩
theorem iY (l:List AM.Ar):0<=AM.cm l/\AM.cm l<=65025:=by
 unfold AM.cm
 split
 · rename_i h
   have h1:=AM.gQ l h
   have h2:=AM.sN l h l.length (Nat.le_refl _)
   omega
 · omega
theorem sV (l:List KM.Sp):∀k,0<=KM.fQ l k/\KM.fQ l k<=65025*k
 | 0=>⟨Int.le_refl _,by show(0:Int)<=_;omega⟩
 | k+1=>by
  have h1:=sV l k
  have h2:=iY (KM.au l k).aD
  show 0<=KM.fQ l k+AM.cm (KM.au l k).aD/\KM.fQ l k+AM.cm (KM.au l k).aD<=_
  omega
theorem lV (l:List KM.Sp) (ao:Option Addr) (cap mb:Nat) (w:World) (h:jY w ao l) (hf:∀k,k<l.length->AW.ed (KM.au l k).aD) (hn:l.length<=1000000) (hmb:w.cell? (Ad mb 3)=some (.slice ao l.length cap)) :
  Calls Tryz.prog 83 #[.pointer (some (Ad mb 0))] w fun e w'=>e=.returned (I (KM.room l))/\Below w.heap.size w w':=by
 have HF:=ai hf
 have HH:=ai h
 have uQ:=ai (sV l)
 have wU:Hid (∀k,KM.fQ l (k+1)=KM.fQ l k+AM.cm (KM.au l k).aD):=fun k=>rfl
 clear h hf
 go_enter Tryz.func83,Tryz.ntmps83
 go_wp2
 go_loopw [3,12] (fun sv iv wr=>∃k:Nat,k<=l.length/\iv=I (k:Int)/\sv=I (KM.fQ l k)/\Below w.heap.size w wr) (fun _ iv _=>l.length-(intOf iv).toNat)
 case atStart=>exact⟨0,by omega,rfl,rfl,Below.refl _ _⟩
 case round =>
  obtain⟨k,hk,rfl,rfl,hb⟩:=hrel
  have HB:=ai hb
  have zK:=uQ.o k
  by_cases hlt:k<l.length
  · obtain⟨b,off,hao,hbl,bM⟩:=(HH.o.below hb) (by omega)
    subst hao
    obtain⟨va,ap,cp,c0,c1,c2,c3,c4,c5⟩:=bM k hlt
    have ra:=HF.o k hlt
    have hst:=wU.o k
    have Tz:=iY (KM.au l k).aD
    obtain⟨aa,ca,rfl,_⟩:=id c3
    have HT:Hid (∀W,Below wr.heap.size wr W->Calls Tryz.prog 54 #[.slice aa (KM.au l k).aD.length ca] W fun e w'=>e=.returned (I (AM.cm (KM.au l k).aD))/\Below W.heap.size W w'):=fun W hW=>AW.ub _ _ _ (c3.below hW) ra
    obtain⟨n,hnn⟩:=ex ((KM.au l k).aA.length)
    obtain⟨na,oH⟩:=ex ((KM.au l k).aD.length)
    obtain⟨lv,hlv⟩:=ex ((KM.au l k).live)
    obtain⟨T,hT⟩:=ex (AM.cm (KM.au l k).aD)
    obtain⟨R,hR⟩:=ex (KM.fQ l k)
    rw[<- hnn] at c2 c5
    rw[<- oH] at c1 HT
    rw[<- hlv] at c0
    rw[<- hT] at HT hst Tz
    rw[<- hR] at hst zK ⊢
    have HST:=ai hst
    clear hnn oH hlv hT hR c3 c4 c5 ra bM hb hst
    have cJ:=ai (HB.o.alloc HB.o.size (.cells #[.bool lv,.slice aa na ca,.slice ap n cp] 43))
    go_wp2_with (go_at_call 54;refine(HT.o _ ((Below.refl _ _).alloc (Nat.le_refl _) _)).mono ?_;rintro e w1 ⟨rfl,hb1⟩;have bI:=ai (aB cJ.o hb1);clear hb1)
    go_roundw
    case rel=>exact⟨k+1,by omega,by go_num,by rw[HST.o],bI.o⟩
    case measure=>simp[intOf];omega
  · obtain rfl:k=l.length:=by omega
    clear hb
    go_wp2
    go_ret
    exact⟨rfl,HB.o⟩
end KW
end Go.Proofs.YtpgifpeohlllfaaGreat
