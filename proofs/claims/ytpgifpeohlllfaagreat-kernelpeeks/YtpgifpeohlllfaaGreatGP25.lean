import Derived.Test.YtpgifpeohlllfaaGreatGP00
import Derived.Test.YtpgifpeohlllfaaGreatGP24
import Derived.Test.YtpgifpeohlllfaaGreatGP05
set_option maxHeartbeats 20000000
set_option linter.unusedVariables false
set_option maxRecDepth 100000
set_option linter.unusedSimpArgs false
namespace Go.Proofs.YtpgifpeohlllfaaGreat
namespace KM
open Go.RowKit
def Same (xs ys:List LM.Sh):Prop:=ys.map LM.plain=xs.map LM.plain
def bl (k:Kn) (hs:List LM.Sh):Kn:=⟨hs,k.frames,k.slots,k.aj,k.hand⟩
theorem Same.len {xs ys:List LM.Sh} (h:Same xs ys):ys.length=xs.length:=by
 have:=congrArg List.length h
 simpa using this
theorem oP {a b:LM.Sh} (h:LM.plain a=LM.plain b):a.page=b.page/\a.data=b.data/\a.bq=b.bq:=by
 injection h with h1 h2 h3
 exact⟨h1,h2,h3⟩
theorem Same.at {xs ys:List LM.Sh} (h:Same xs ys) (i:Nat):LM.plain (LM.aY ys i)=LM.plain (LM.aY xs i):=by
 unfold Same at h
 unfold LM.aY
 have h1:(ys.map LM.plain)[i]?=(xs.map LM.plain)[i]?:=by rw[h]
 rw[List.getElem?_map,List.getElem?_map] at h1
 rw[List.getD_eq_getElem?_getD,List.getD_eq_getElem?_getD]
 cases g1:ys[i]? with
 | none =>
  cases g2:xs[i]? with
  | none=>rfl
  | some x=>rw[g1,g2] at h1;cases h1
 | some y =>
  cases g2:xs[i]? with
  | none=>rw[g1,g2] at h1;cases h1
  | some x =>
   rw[g1,g2] at h1
   injection h1
theorem Ek {a b:LM.Sh} (h:LM.plain a=LM.plain b):LM.lN a=LM.lN b:=by
 obtain⟨h1,h2,h3⟩:=oP h
 unfold LM.lN
 rw[h2,h3]
theorem Ej {a b:LM.Sh} (h:LM.plain a=LM.plain b):LM.bH a=LM.bH b:=by
 obtain⟨h1,h2,h3⟩:=oP h
 unfold LM.bH LM.jc
 rw[h1,h2,h3]
theorem vV (p:Int):∀(xs ys:List LM.Sh),Same xs ys->(bK ys p).map LM.plain=(bK xs p).map LM.plain
 | [],[],_=>rfl
 | [],b::r,h=>by have:=congrArg List.length h;simp at this
 | a::r,[],h=>by have:=congrArg List.length h;simp at this
 | a::r,b::t,h=>by
  have h:LM.plain b::t.map LM.plain=LM.plain a::r.map LM.plain:=h
  injection h with h1 h2
  have ih:=vV p r t h2
  have hp:=(oP h1).1
  unfold bK at ih ⊢
  rw[List.find?_cons,List.find?_cons,hp]
  cases decide (a.page=p) with
  | true=>exact congrArg some h1
  | false=>exact ih
theorem tU {xs ys:List LM.Sh} (h:Same xs ys) (p:Int):filled ys p=filled xs p:=by
 have:=vV p xs ys h
 unfold filled
 cases g1:bK ys p with
 | none =>
  cases g2:bK xs p with
  | none=>rfl
  | some x=>rw[g1,g2] at this;cases this
 | some y =>
  cases g2:bK xs p with
  | none=>rw[g1,g2] at this;cases this
  | some x =>
   rw[g1,g2] at this
   injection this with this
   exact Ek this
theorem sQ {xs ys:List LM.Sh} (h:Same xs ys) (p:Int):(bK ys p).isSome=(bK xs p).isSome:=by
 have:=congrArg Option.isSome (vV p xs ys h)
 simpa using this
theorem vW {xs ys:List LM.Sh} (h:Same xs ys) (p:Int) (z:Bool):dh ys p z=dh xs p z:=by
 unfold dh
 rw[tU h]
theorem Ip {xs ys:List LM.Sh} (h:Same xs ys):LM.cZ ys=LM.cZ xs:=by
 have:∀n,LM.b7 ys n=LM.b7 xs n:=fun n=>by
  induction n with
  | zero=>rfl
  | succ n ih =>
   unfold LM.b7
   rw[ih,Ej (h.at n)]
   unfold LM.fM
   rw[(oP (h.at n)).1,(oP (h.at (n-1))).1]
 unfold LM.cZ
 rw[h.len,this]
theorem aQ.bl {k:Kn} (h:aQ k) {hs:List LM.Sh} (s:Same k.ak hs):aQ (bl k hs):=by
 refine⟨?_,(Ip s).trans h.dU,h.hand,fun x hx=>?_,h.room,fun i hi=>?_,h.slt⟩
 · have:=h.c
   have e:=s.len
   refine decide_eq_true ?_
   show(3<=k.frames.length/\k.frames.length<=64)/\k.slots.length<=512/\(1<=k.aj.length/\k.aj.length<=4)/\hs.length<=255
   omega
 · have g:=h.each x hx
   exact⟨g.dead,g.aA,g.dU,g.tH,fun p h1 h2=>(sQ s p).trans (g.ak p h1 h2)⟩
 · have g:=h.mO i hi
   exact⟨g.refs,g.zero,g.one,g.size,fun d x hx=>(g.fill d x hx).trans (vW s _ _).symm⟩
theorem Dv (k:Kn) (hs:List LM.Sh) (i:Nat):cI (bl k hs) i=bl (cI k i) hs:=by
 unfold cI
 show(if (aD k.frames i).bW=true then (match qc k.slots with
  | some s=>vM (bl k hs) i s
  | none=>qi (bl k hs) i) else qi (bl k hs) i)=_
 by_cases c:(aD k.frames i).bW=true
 · rw[if_pos c,if_pos c]
   cases qc k.slots <;> rfl
 · rw[if_neg c,if_neg c];rfl
theorem uL (held:List Int) (hs:List LM.Sh):∀(n:Nat) (k:Kn),ju held n (bl k hs)=bl (ju held n k) hs
 | 0,k=>rfl
 | n+1,k=>by
  unfold ju
  show(if jD held k=true then ju held n (bl (fY held k) hs) else bl k hs)=_
  by_cases c:jD held k=true
  · rw[if_pos c,if_pos c];exact uL held hs n _
  · rw[if_neg c,if_neg c]
theorem zw (k:Kn) (hs:List LM.Sh) (held:List Int):bM (bl k hs) held=((bM k held).1,bl (bM k held).2 hs):=by
 unfold bM
 show(match ux k.frames with
  | some i=>(i,bl k hs)
  | none=>_)=_
 cases ux k.frames with
 | some i=>rfl
 | none =>
  show(_,_)=(_,_)
  rw[uL,show(bl (ju held 70 k) hs).hand=(ju held 70 k).hand from rfl,Dv]
  rfl
theorem CJ (k:Kn) (hs:List LM.Sh) (e:En):cA (bl k hs) e=bl (cA k e) hs:=by unfold cA;split <;> rfl
theorem qG (k:Kn) (hs:List LM.Sh) (j:Nat) (p:Int) (i:Nat) (d:ByteArray) (dy:Bool):cJ (bl k hs) j p i d dy=bl (cJ k j p i d dy) hs:=by
 unfold cJ
 show(match aT (aq k.aj j).au p with
  | none=>_
  | some e=>_)=_
 cases aT (aq k.aj j).au p with
 | none=>rfl
 | some e=>exact CJ (dJ (iF k i d dy) j ⟨p,1,i⟩) hs e
theorem ym {k:Kn} (h:aQ k) {held:List Int} (hl:held.length<=2) {hs:List LM.Sh} (s:Same k.ak hs) (j:Nat) (p:Int):bR (bl k hs) j p held=((bR k j p held).1,bl (bR k j p held).2 hs):=by
 have hsh:=(mA h hl).kept.ak
 unfold bR
 show(match aT (aq k.aj j).au p with
  | some e=>_
  | none=>_)=_
 rw[zw]
 cases aT (aq k.aj j).au p with
 | none =>
  dsimp only
  rw[qG]
  show(_,bl (cJ _ _ _ _ (dh hs p _) _) hs)=_
  rw[vW s,hsh]
  rfl
 | some e =>
  dsimp only
  by_cases c:e.kind=1
  · rw[if_pos c,if_pos c]
  · rw[if_neg c,if_neg c,qG]
    rfl
theorem DA (k:Kn) (hs:List LM.Sh) (held:List Int) (j:Nat) (p:Int) (a:Nat):gB (bl k hs) j p a held=((gB k j p a held).1,bl (gB k j p a held).2 hs):=by
 unfold gB
 rw[zw]
 by_cases c:(aD k.frames a).refs=1
 · rw[if_pos c,if_pos (show(aD (bl k hs).frames a).refs=1 from c)]
 · rw[if_neg c,if_neg (show ¬(aD (bl k hs).frames a).refs=1 from c),qG]
   rfl
theorem uM {k:Kn} (h:aQ k) {held:List Int} (hl:held.length<=2) {hs:List LM.Sh} (s:Same k.ak hs) (j:Nat) (p way:Int):bV (bl k hs) j p way held=((bV k j p way held).1,bl (bV k j p way held).2 hs):=by
 have e:gZ (bl k hs) j p way held=((gZ k j p way held).1,bl (gZ k j p way held).2 hs):=by
  unfold gZ
  rw[ym h hl s]
  by_cases c:way=1
  · rw[if_pos c,if_pos c]
    exact DA _ _ _ _ _ _
  · rw[if_neg c,if_neg c]
 unfold bV
 rw[e]
 rfl
theorem tW {k:Kn} (h:aQ k) {j:Nat} (hj:j<k.aj.length) {a n way:Int} (h1:mapped k j (a/16)) {hs:List LM.Sh} (s:Same k.ak hs):aM (bl k hs) j a n way=((aM k j a n way).1,bl (aM k j a n way).2 hs):=by
 have A:=(jS h hj h1 way (held:=[]) (by simp)).1
 have e1:cX (bl k hs) j a way=((cX k j a way).1,bl (cX k j a way).2 hs):=uM h (by simp) s j _ way
 have e2:ia (bl k hs) j a n way=((ia k j a n way).1,bl (ia k j a n way).2 hs):=by
  unfold ia
  rw[e1]
  have s2:Same (cX k j a way).2.ak hs:=by
   have:(cX k j a way).2.ak=k.ak:=A.kept.ak
   rw[this];exact s
  exact uM A.right (by simp) s2 j _ way
 unfold aM
 rw[e1,e2]
 by_cases c:bT a n=a/16
 · rw[if_pos c,if_pos c]
 · rw[if_neg c,if_neg c]
theorem wM (k:Kn) (hs:List LM.Sh) (ids:List Nat) (s:ByteArray):∀n,gT (bl k hs) ids s n=bl (gT k ids s n) hs
 | 0=>rfl
 | n+1=>by
  unfold gT
  rw[wM k hs ids s n]
  rfl
theorem Dk (k:Kn) (hs:List LM.Sh) (e:En) (d:Int):fP (bl k hs) e d=bl (fP k e d) hs:=by unfold fP;split <;> rfl
end KM
namespace KX
open Go.RowKit GK KO
open FW (ai aC)
open KW (bE bD aI aU fe cO aH dH bQ dG)
open KS (Lc bO oD dm blk cT)
theorem Cx {lo mb:Nat} {tt:TypeId} {X:List Value} (k:KM.Kn) (S:St) (w:World) (j:Nat) (p:Int) (held:List Int) (ah:Option Addr) (ch:Nat) (h:Km lo mb tt X w S k) (hR:KM.aQ k) (hj:j<k.aj.length) (hp:KM.mapped k j p) (hX:tN X k.ak) (hl:held.length<=2) (hH:Held w S ah held) :
  Calls Tryz.prog 141 #[.pointer (some (Ad mb 0)),I (j:Int),I p,.slice ah held.length ch] w (fH lo mb tt X w S (I ((KM.bR k j p held).1:Int)) (KM.bR k j p held).2):=by
 cases he:KM.aT (KM.aq k.aj j).au p with
 | none=>exact Aj k S w j p held ah ch h hR hj he hp hX hl hH
 | some e =>
  by_cases hk:e.kind=1
  · exact Ak k S w j p held ah ch e h hR hj he hk
  · exact uX k S w j p held ah ch e h hR hj he hk hl hH
theorem LY:∀l:List Int,∀u∈l.flatMap bQ,u.oneCell'=true:=fun l u hu=>by
 obtain⟨y,_,hy⟩:=List.mem_flatMap.1 hu
 simp[bQ] at hy
 rw[hy];rfl
theorem I7 {w:World} {ah:Option Addr} {l:List Int} (h:aU bQ 1 0 w ah l):From w ah l.length (l.flatMap bQ):=fun hm=>by
 obtain⟨b,off,rfl,hb,hl⟩:=h hm
 exact KS.pJ (w:=w) bQ 1 (fun _=>rfl) 0 l b off (fun i hi j hj=>hl i hi j hj) hm
theorem xh {w:World} {base:Nat} {S:St} {ao:Option Addr} {n c:Nat} {l:List Int} (hr:w.ownsRow base 3 1 (.slice ao n c) l.length (l.flatMap bQ)) (hno:∀b,blk (.slice ao n c) b->S.lab b=.no):n=l.length/\Held w S ao l:=by
 obtain⟨a,cap,e,_,hrow⟩:=jm bQ (fun _=>rfl) 0 hr
 injection e with e1 e2 e3
 subst e1 e2
 refine⟨rfl,hrow,fun b off e=>?_,fun b off e=>?_⟩
 · subst e
   refine hno b ?_
   rcases hr.2 with⟨h0,_⟩ | ⟨g,cap',cur,hv,_⟩
   · cases h0
   · injection hv with e1 _ _
     injection e1 with e1
     injection e1 with e1 e2 _
     subst e1 e2
     rfl
 · subst e
   rcases hr.2 with⟨h0,_⟩ | ⟨g,cap',cur,hv,_,hg,_⟩
   · cases h0
   · injection hv with e1 _ _
     injection e1 with e1
     injection e1 with e1 _ _
     subst e1
     exact B.isLt hg
theorem JJ {lo mb:Nat} {tt:TypeId} {X:List Value} (k:KM.Kn) (S:St) (w:World) (j:Nat) (p:Int) (a:Nat) (held:List Int) (ah:Option Addr) (ch:Nat) (h:Km lo mb tt X w S k) (hR:KM.aQ k) (hj:j<k.aj.length) (ha:KM.aT (KM.aq k.aj j).au p=some ⟨p,1,a⟩) (hl:held.length<=1) (hH:Held w S ah held) :
  Calls Tryz.prog 142 #[.pointer (some (Ad mb 0)),I (j:Int),I p,I (a:Int),.slice ah held.length ch] w (fH lo mb tt X w S (I ((KM.gB k j p a held).1:Int)) (KM.gB k j p a held).2):=by
 have hcc:=hR.c
 have hne:=KM.vC hR hj ha
 obtain⟨fb,cF,A⟩:=h.toKr.fr (by omega)
 have c1:=h.c1
 rw[A.v] at c1
 have x1:=A.x1 a hne.1
 have hai:(a:Int)<(k.frames.length:Int):=by omega
 by_cases c:(KM.aD k.frames a).refs=1
 · have hP:KM.gB k j p a held=(a,k):=by unfold KM.gB;rw[if_pos c]
   rw[hP]
   have bh:Hid (fH lo mb tt X w S (I (a:Int)) k (.returned (I (a:Int))) w):=⟨rfl,S,h,Ch.refl _ _⟩
   obtain⟨P,G1⟩:=ex (fH lo mb tt X w S (I (a:Int)) k)
   rw[<- G1] at bh ⊢
   rw[c] at x1
   obtain⟨nf,lJ⟩:=ex k.frames.length
   rw[<- lJ] at c1 hai
   clear hP G1 c h hR hj ha hH hl A hne hcc lJ
   go_enter Tryz.func142,Tryz.ntmps142
   go_wp2
   exact bh.o
 · have hl2:(held++[(a:Int)]).length<=2:=by rw[List.length_append,List.length_singleton];omega
   have G:=KM.mA hR hl2
   have Wc:=G.xj a (List.mem_append.2 (.inr (by simp))) hne.2
   have hent:KM.aT (KM.aq (KM.bM k (held++[(a:Int)])).2.aj j).au p=some ⟨p,1,a⟩:=G.stay hR hj ha (fun _=>List.mem_append.2 (.inr (by simp)))
   obtain⟨k1,hk1⟩:=ex ((KM.bM k (held++[(a:Int)])).2)
   obtain⟨i,hi⟩:=ex ((KM.bM k (held++[(a:Int)])).1)
   have hP:KM.gB k j p a held=(i,KM.cJ k1 j p i (KM.aD k1.frames a).data true):=by
    unfold KM.gB
    rw[if_neg c,hk1,hi]
   have hGT:∀V S',Km lo mb tt X V S' k->∀Yf ch',Held V S' Yf (held++[(a:Int)])->Calls Tryz.prog 165 #[.pointer (some (Ad mb 0)),.slice Yf (held++[(a:Int)]).length ch'] V (fH lo mb tt X V S' (I (i:Int)) k1):=fun V S' hV Yf ch' hh=>by
    have:=A5 k S' V (held++[(a:Int)]) Yf ch' hV hR hl2 hh
    rw[<- hk1,<- hi] at this
    exact this
   rw[<- hk1] at hent Wc
   rw[<- hi] at Wc
   have zn:j<k1.aj.length:=by have:=G.kept.np;rw[<- hk1] at this;rw[this];exact hj
   have Pd:k1.frames.length=k.frames.length:=by have:=G.kept.nf;rw[<- hk1] at this;exact this
   have hi1:i<k1.frames.length:=by rw[Pd,hi];exact G.lt
   have ha1:a<k1.frames.length:=by rw[Pd];exact hne.1
   have sH:KM.aQ k1:=by have:=G.right;rw[<- hk1] at this;exact this
   have E7:=iI sH zn
   have ZT:=sH.c
   have hrf:=(m7 sH).1 a ha1
   obtain⟨D,hD⟩:=ex ((KM.aD k1.frames a).data)
   have VV:i≠a:=fun e=>Wc.1 e.symm
   have SU:KM.aD (KM.iF k1 i D true).frames a=KM.aD k1.frames a:=by
    show KM.aD (k1.frames.set i _) a=_
    rw[KM.dZ _ _ _ _ hi1,if_neg VV]
   have hra:¬(KM.aD k1.frames a).refs-1=0:=by rw[Wc.2];omega
   obtain⟨K2,hK2⟩:∃K2:KM.Kn,K2={ KM.iF k1 i D true with frames:=(KM.iF k1 i D true).frames.set a ⟨(KM.aD k1.frames a).data,(KM.aD k1.frames a).refs-1,(KM.aD k1.frames a).bW,(KM.aD k1.frames a).seen⟩ }:=⟨_,rfl⟩
   have hmv:KM.cJ k1 j p i D true=KM.dJ K2 j ⟨p,1,i⟩:=by
    unfold KM.cJ
    rw[hent]
    show KM.cA _ _=_
    rw[<- uJ]
    congr 1
    unfold KM.cA
    rw[if_pos rfl,hK2]
    show({ KM.iF k1 i D true with frames:=(KM.iF k1 i D true).frames.set (a:Int).toNat (KM.kK (KM.aD (KM.iF k1 i D true).frames (a:Int).toNat)) }:KM.Kn)=_
    rw[Int.toNat_natCast,SU]
    unfold KM.kK
    rw[if_neg hra]
   rw[hP,<- hD,hmv]
   have vr:Hid (∀V S',Km lo mb tt X V S' k1->∃fb cF,V.cell? (Ad mb 1)=some (.slice (some (Ad fb 0)) k1.frames.length cF)/\¬mb=fb/\V.cell? (Ad fb (a*4))=some (.string D)/\V.cell? (Ad fb (i*4))=some (.string (KM.aD k1.frames i).data)/\V.cell? (Ad fb (i*4+1))=some (I (KM.aD k1.frames i).refs)/\V.cell? (Ad fb (i*4+2))=some (.bool (KM.aD k1.frames i).bW)/\V.cell? (Ad fb (i*4+3))=some (.bool (KM.aD k1.frames i).seen)/\V.frozen? (Ad fb (i*4))=false/\V.frozen? (Ad fb (i*4+1))=false/\V.frozen? (Ad fb (i*4+2))=false/\V.frozen? (Ad fb (i*4+3))=false /\
     (∀U,U=((((V.setCell (Ad fb (i*4)) (.string D)).setCell (Ad fb (i*4+1)) (I 1)).setCell (Ad fb (i*4+2)) (.bool true)).setCell (Ad fb (i*4+3)) (.bool false)).drew->U.cell? (Ad mb 1)=some (.slice (some (Ad fb 0)) k1.frames.length cF)/\U.cell? (Ad fb (a*4+1))=some (I (KM.aD k1.frames a).refs)/\U.frozen? (Ad fb (a*4+1))=false/\Km lo mb tt X (U.setCell (Ad fb (a*4+1)) (I ((KM.aD k1.frames a).refs-1))) S' K2/\Ch S' V S' (U.setCell (Ad fb (a*4+1)) (I ((KM.aD k1.frames a).refs-1))))):=fun V S' hV=>by
    obtain⟨fb,cF,A⟩:=hV.toKr.fr (by omega)
    have c1:=hV.c1
    rw[A.v] at c1
    refine⟨fb,cF,c1,fun e=>by have:=A.lab;rw[<- e,hV.lH] at this;simp at this,by rw[hD];exact A.x0 a ha1,A.x0 i hi1,A.x1 i hi1,A.x2 i hi1,A.x3 i hi1,A.fz _,A.fz _,A.fz _,A.fz _,fun U hU=>?_⟩
    have m:=hV.LP A.v hi1 ⟨D,1,true,false⟩
    have m1:Km lo mb tt X U S' (KM.iF k1 i D true):=by subst hU;exact m.1.below (Below.refl _ _).drew
    have Tn:Ch S' V S' U:=by subst hU;exact m.2.trans (Ch.below (Below.refl _ _).drew)
    have DV:(KM.iF k1 i D true).frames.length=k1.frames.length:=List.length_set
    obtain⟨Tj,Ye,A'⟩:=m1.toKr.fr (by rw[DV];omega)
    have e:Tj=fb:=by
     have:=A'.v
     rw[A.v] at this
     injection this with e1 _ _
     injection e1 with e1
     injection e1 with e1 _ _
     exact e1.symm
    subst e
    have c1':=m1.c1
    rw[A.v] at c1'
    have y1:=A'.x1 a (by rw[DV];exact ha1)
    rw[SU] at y1
    refine⟨c1',y1,A'.fz _,?_,Tn.trans (MW m1.toKr A'.v)⟩
    rw[hK2]
    exact m1.sP A'.v (i:=a) (by rw[DV];exact ha1) (j:=1) (by omega) (by rw[SU];rfl)
   have N8:Hid (∀V S',Km lo mb tt X V S' K2->Calls Tryz.prog 166 #[.pointer (some (Ad mb 0)),I (j:Int),.agg #[I p,I 1,I (i:Int)]] V (fH lo mb tt X V S' (.tuple #[]) (KM.dJ K2 j ⟨p,1,i⟩))):=fun V S' hV=>by
    have hsp:K2.aj=k1.aj:=by rw[hK2];rfl
    exact tG _ S' V j ⟨p,1,i⟩ hV (by rw[hsp];exact zn) (by rw[hsp];omega) (by rw[hsp];omega)
   have bh:Hid (∀V S',Km lo mb tt X V S' (KM.dJ K2 j ⟨p,1,i⟩)->Ch S w S' V->fH lo mb tt X w S (I (i:Int)) (KM.dJ K2 j ⟨p,1,i⟩) (.returned (I (i:Int))) V):=fun V S' h1 h2=>⟨rfl,S',h1,h2⟩
   obtain⟨K3,hK3⟩:=ex (KM.dJ K2 j ⟨p,1,i⟩)
   rw[<- hK3] at N8 bh ⊢
   obtain⟨P,G1⟩:=ex (fH lo mb tt X w S (I (i:Int)) K3)
   rw[<- G1] at bh ⊢
   have yI:Hid (Calls Tryz.prog 167 #[.slice ah held.length ch] w fun e w'=>∃av cv,e=.returned (.slice av held.length cv)/\w'.ownsRow w.heap.size 3 1 (.slice av held.length cv) held.length (held.flatMap bQ)/\Below w.heap.size w w'):=(PS ah held.length ch (held.flatMap bQ) w (bG bQ 1 (fun _=>rfl) held) (I7 hH.has) (LY held) (by omega)).mono fun e w' ⟨v,h1,h2,h3⟩=>by
    obtain⟨av,cv,rfl,_⟩:=aR h2
    exact⟨av,cv,h1,h2,h3⟩
   have T3:Hid (∀V U av nv cv,Below w.heap.size w V->U=V->V.ownsRow w.heap.size 3 1 (.slice av nv cv) (held.length+1) (held.flatMap bQ++[I (a:Int)])->Calls Tryz.prog 165 #[.pointer (some (Ad mb 0)),.slice av nv cv] V (fH lo mb tt X V S (I (i:Int)) k1)):=fun V U av nv cv hb _ hr=>by
    have e1:(held++[(a:Int)]).length=held.length+1:=by simp
    have e2:(held++[(a:Int)]).flatMap bQ=held.flatMap bQ++[I (a:Int)]:=by simp[bQ]
    rw[<- e1,<- e2] at hr
    obtain⟨q1,q2⟩:=xh (S:=S) hr (fun b hb2=>h.toKr.new (hr.lt b hb2).1)
    rw[q1]
    exact hGT V S (h.below hb) av cv q2
   obtain⟨i0,hin,hz0,hz1,hz2⟩:=info_parts EY
   have qX:=ai hin
   have vh:=ai hz0
   have vg:=ai hz1
   have tM:=ai hz2
   have xb:((KM.aD k.frames a).refs==1)=false:=by simpa using c
   obtain⟨R0,V8⟩:=ex ((KM.aD k.frames a).refs)
   rw[<- V8] at x1 xb
   obtain⟨R1,V7⟩:=ex ((KM.aD k1.frames a).refs)
   rw[<- V7] at vr hrf
   have hw1:IntKind.i64.wrap (R1-1)=R1-1:=IntWalk.i64_in _ (by omega)
   obtain⟨FR,zt⟩:=ex (KM.aD k1.frames i)
   rw[<- zt] at vr
   obtain⟨nf,lJ⟩:=ex k.frames.length
   rw[Pd,<- lJ] at vr
   rw[<- lJ] at c1 hai
   have J0:(i:Int)<(nf:Int):=by omega
   have hhl:held.length<=1:=hl
   clear hP G1 c h hR hj ha hH hl A hne hcc lJ hin hz0 hz1 hz2 zt V7 V8 hK3 hGT hmv hK2 hra SU VV hD hrf ZT E7 sH ha1 hi1 Pd zn Wc hent hi G hl2 hk1
   go_enter Tryz.func142,Tryz.ntmps142
   go_upto_region 4 with(first
    | (at_builtin;refine ck (P:=Tryz.prog) rfl _ _ 99 rfl w.heap.size 3 i0 (I 0) 1 8 Tryz.underlying99 qX.o vh.o vg.o tM.o rfl (by decide) _ held.length (held.flatMap bQ) rfl Qv.o (some (Ad w1.heap.size 0)) 1 1 [I (a:Int)] rfl rfl (fun _=>⟨_,rfl,B.news (B.new w1 _ _)⟩) (by intro u hu;simp at hu;rw[hu];rfl) (by unfold maxLen;omega) (by omega) (by have:=aZ.o.size;simp;omega) ?_;intro v' w' hown hgr hat;obtain⟨aG,cG,O8,_,_⟩:=aR hown;subst O8;have om:=ai hown;have bY:=ai ((aZ.o.alloc aZ.o.size (.cells #[I (a:Int)] 3)).grown hgr (by have:=aZ.o.size;simp;omega) (fun q hq=>(Qv.o.lt q hq).1));clear hown hgr hat)
    | (go_at_call 167;refine yI.o.mono ?_;rintro e w1 ⟨av,cv,rfl,hr1,hb1⟩;have aZ:=ai hb1;have Qv:=ai (hr1.alloc (.cells #[I (a:Int)] 3));clear hr1 hb1)
    | (go_at_call 165;refine(T3.o _ _ _ _ _ bY.o rfl om.o).mono ?_;rintro e w3 ⟨rfl,S3,hk3,hc3⟩;have ld:=ai hk3;have nB:=ai ((Ch.below bY.o).trans hc3);clear hk3 hc3))
   obtain⟨Wk,cF3,g1,gne,g2,g3,g4,g5,g6,g7,g8,g9,g10,hfin⟩:=vr.o w3 S3 ld.o
   obtain⟨U,hU⟩:=ex (((((w3.setCell (Ad Wk (i*4)) (.string D)).setCell (Ad Wk (i*4+1)) (I 1)).setCell (Ad Wk (i*4+2)) (.bool true)).setCell (Ad Wk (i*4+3)) (.bool false)).drew)
   obtain⟨y1,y2,y3,hk4,E8⟩:=hfin U hU
   have HU:=ai hU
   have W8:=ai hk4
   have Xk:=ai (nB.o.trans E8)
   clear hfin hU hk4 E8
   go_region
   rw[<- HU.o]
   clear g1 g2 g3 g4 g5 g6 g7 g8 g9 g10 HU
   go_wp2_with (go_at_call 166;refine(N8.o _ _ W8.o).mono ?_;rintro r w5 ⟨rfl,S5,SP,VL⟩;have NA:=ai SP;have HC5:=ai (Xk.o.trans VL);clear SP VL)
   exact bh.o _ _ NA.o HC5.o
theorem JE {lo mb:Nat} {tt:TypeId} {X:List Value} (k:KM.Kn) (S:St) (w:World) (j:Nat) (p way:Int) (held:List Int) (ah:Option Addr) (ch:Nat) (h:Km lo mb tt X w S k) (hR:KM.aQ k) (hj:j<k.aj.length) (hp:KM.mapped k j p) (hX:tN X k.ak) (hl:held.length<=1) (hH:Held w S ah held) :
  Calls Tryz.prog 97 #[.pointer (some (Ad mb 0)),I (j:Int),I p,I way,.slice ah held.length ch] w (fH lo mb tt X w S (I ((KM.bV k j p way held).1:Int)) (KM.bV k j p way held).2):=by
 have qZ:=ai (Cx k S w j p held ah ch h hR hj hp hX (by omega) hH)
 have hB:=(KM.jS hR hj hp way hl).1
 have Wa:=KM.oO hR hj hp (held:=held) (by omega)
 have hcc:=hR.c
 have xW:Hid (∀V S' K i,KM.gZ k j p way held=(i,K)->Km lo mb tt X V S' K->∃fb cF,V.cell? (Ad mb 1)=some (.slice (some (Ad fb 0)) k.frames.length cF)/\¬mb=fb/\i<k.frames.length/\V.cell? (Ad fb (i*4+2))=some (.bool (KM.aD K.frames i).bW)/\V.cell? (Ad fb (i*4+3))=some (.bool (KM.aD K.frames i).seen)/\V.frozen? (Ad fb (i*4+2))=false/\V.frozen? (Ad fb (i*4+3))=false /\
   (way≠1->Km lo mb tt X (V.setCell (Ad fb (i*4+3)) (.bool true)) S' (KM.bV k j p way held).2/\Ch S' V S' (V.setCell (Ad fb (i*4+3)) (.bool true))) /\
   (way=1->Km lo mb tt X ((V.setCell (Ad fb (i*4+2)) (.bool true)).setCell (Ad fb (i*4+3)) (.bool true)) S' (KM.bV k j p way held).2/\Ch S' V S' ((V.setCell (Ad fb (i*4+2)) (.bool true)).setCell (Ad fb (i*4+3)) (.bool true)))):=fun V S' K i e hV=>by
  have lJ:K.frames.length=k.frames.length:=by
   have:=hB.kept.nf
   unfold KM.bV at this
   rw[e] at this
   have this:(K.frames.set i _).length=_:=this
   rw[List.length_set] at this
   exact this
  have hi:i<k.frames.length:=by
   have:=hB.lt
   unfold KM.bV at this
   rw[e] at this
   exact this
  have hbr:(KM.bV k j p way held).2={ K with frames:=K.frames.set i (KM.mark way (KM.aD K.frames i)) }:=by
   unfold KM.bV
   rw[e]
   rfl
  obtain⟨fb,cF,A⟩:=hV.toKr.fr (by omega)
  have c1:=hV.c1
  rw[A.v,lJ] at c1
  have Ud:i<K.frames.length:=by omega
  refine⟨fb,cF,c1,fun e=>by have:=A.lab;rw[<- e,hV.lH] at this;simp at this,hi,A.x2 i Ud,A.x3 i Ud,A.fz _,A.fz _,fun hw=>?_,fun hw=>?_⟩
  · refine⟨?_,MW hV.toKr A.v⟩
    rw[hbr]
    refine hV.sP A.v Ud (j:=3) (by omega) ?_
    unfold KM.mark
    rw[decide_eq_false hw,Bool.or_false]
    rfl
  · have m1:=hV.sP A.v Ud (j:=2) (by omega) (f:=⟨(KM.aD K.frames i).data,(KM.aD K.frames i).refs,true,(KM.aD K.frames i).seen⟩) (u:=.bool true) rfl
    have m2:=m1.sP A.v (i:=i) (by simpa using Ud) (j:=3) (by omega) (f:=KM.mark way (KM.aD K.frames i)) (u:=.bool true) (by
     simp only[KM.aD,KM.bw _ _ _ _ Ud]
     unfold KM.mark
     rw[decide_eq_true hw,Bool.or_true]
     rfl)
    simp only[List.set_set] at m2
    rw[hbr]
    exact⟨m2,(MW hV.toKr A.v).trans (MW hV.toKr A.v)⟩
 have hb1:(KM.bV k j p way held).1=(KM.gZ k j p way held).1:=rfl
 rw[hb1]
 have bh:Hid (∀V S' i,i=(KM.gZ k j p way held).1->Km lo mb tt X V S' (KM.bV k j p way held).2->Ch S w S' V->fH lo mb tt X w S (I ((KM.gZ k j p way held).1:Int)) (KM.bV k j p way held).2 (.returned (I (i:Int))) V):=fun V S' i hi h1 h2=>⟨by rw[hi],S',h1,h2⟩
 obtain⟨P,hP⟩:=ex (fH lo mb tt X w S (I ((KM.gZ k j p way held).1:Int)) (KM.bV k j p way held).2)
 rw[<- hP] at bh ⊢
 obtain⟨KB,Z9⟩:=ex ((KM.bV k j p way held).2)
 rw[<- Z9] at bh xW
 by_cases c:way=1
 · have e2:KM.gZ k j p way held=KM.gB (KM.bR k j p held).2 j p (KM.bR k j p held).1 held:=by unfold KM.gZ;rw[if_pos c]
   have RI:Hid (∀V S',Km lo mb tt X V S' (KM.bR k j p held).2->Ch S w S' V->Calls Tryz.prog 142 #[.pointer (some (Ad mb 0)),I (j:Int),I p,I ((KM.bR k j p held).1:Int),.slice ah held.length ch] V (fH lo mb tt X V S' (I ((KM.gZ k j p way held).1:Int)) (KM.gZ k j p way held).2)):=fun V S' hV hc=>by
    rw[e2]
    exact JJ (KM.bR k j p held).2 S' V j p (KM.bR k j p held).1 held ah ch hV Wa.right (by rw[Wa.kept.np];exact hj) Wa.here hl (hH.ch hc)
   obtain⟨TK,VZ⟩:=ex (KM.gZ k j p way held)
   rw[<- VZ] at RI bh xW
   obtain⟨PR,Mw⟩:=ex (KM.bR k j p held)
   rw[<- Mw] at qZ RI
   obtain⟨i,K⟩:=TK
   obtain⟨ip,Kp⟩:=PR
   have Ny:=ai (fun V S' hV=>xW.o V S' K i rfl hV)
   have ky:=ai (fun V S'=>bh.o V S' i rfl)
   simp only at qZ RI
   have HW:=ai c
   have wb:(way==1)=true:=by simpa using c
   obtain⟨FR,zt⟩:=ex (KM.aD K.frames i)
   rw[<- zt] at Ny
   obtain⟨nf,lJ⟩:=ex k.frames.length
   rw[<- lJ] at Ny
   clear xW bh hP h hR hj hp hX hl hH hB Wa hcc Z9 VZ Mw e2 hb1 zt lJ c
   go_enter Tryz.func97,Tryz.ntmps97
   go_upto_region 4 with(first
    | (go_at_call 141;refine qZ.o.mono ?_;rintro e w1 ⟨rfl,S1,hk1,hc1⟩;have oC:=ai hk1;have Rz:=ai hc1;clear hk1 hc1)
    | (go_at_call 142;refine(RI.o _ _ oC.o Rz.o).mono ?_;rintro e w2 ⟨rfl,S2,hk2,hc2⟩;have jh:=ai hk2;have kv:=ai (Rz.o.trans hc2);clear hk2 hc2))
   obtain⟨fb,cF,g1,gne,gi,g2,g3,g4,g5,_,hfin⟩:=Ny.o w2 S2 jh.o
   obtain⟨hk3,hc3⟩:=hfin HW.o
   have ld:=ai hk3
   have nB:=ai (kv.o.trans hc3)
   have J0:(i:Int)<(nf:Int):=by omega
   clear hfin hk3 hc3
   go_wp2
   exact ky.o _ _ ld.o nB.o
 · have e2:KM.gZ k j p way held=KM.bR k j p held:=by unfold KM.gZ;rw[if_neg c]
   rw[<- e2] at qZ
   obtain⟨TK,VZ⟩:=ex (KM.gZ k j p way held)
   rw[<- VZ] at qZ bh xW
   obtain⟨i,K⟩:=TK
   have Ny:=ai (fun V S' hV=>xW.o V S' K i rfl hV)
   have ky:=ai (fun V S'=>bh.o V S' i rfl)
   simp only at qZ
   have HW:=ai c
   have wb:(way==1)=false:=by simpa using c
   obtain⟨FR,zt⟩:=ex (KM.aD K.frames i)
   rw[<- zt] at Ny
   obtain⟨nf,lJ⟩:=ex k.frames.length
   rw[<- lJ] at Ny
   clear xW bh hP h hR hj hp hX hl hH hB Wa hcc Z9 VZ e2 hb1 zt lJ c
   go_enter Tryz.func97,Tryz.ntmps97
   go_upto_region 5 with(go_at_call 141;refine qZ.o.mono ?_;rintro e w1 ⟨rfl,S1,hk1,hc1⟩;have oC:=ai hk1;have Rz:=ai hc1;clear hk1 hc1)
   obtain⟨fb,cF,g1,gne,gi,g2,g3,g4,g5,hfin,_⟩:=Ny.o w1 S1 oC.o
   obtain⟨hk3,hc3⟩:=hfin HW.o
   have ld:=ai hk3
   have nB:=ai (Rz.o.trans hc3)
   have J0:(i:Int)<(nf:Int):=by omega
   clear hfin hk3 hc3
   go_wp2
   exact ky.o _ _ ld.o nB.o
end KX
namespace FW
open Go.RowKit
def A9 (x:Int×Int):Array Value:=#[I x.1,I x.2]
theorem gQ {N g:Nat} {w W:World} (h:Below N w W) (hg:N<=g) (v0 v1:Value):Below N w ((W.setCell (Ad g 0) v0).setCell (Ad g 1) v1):=(h.setCell (p:=(Ad g 0)) hg v0).setCell (p:=(Ad g 1)) hg v1
theorem Ls (l:List AM.Ar) (v:Value) (a size way:Int) (w:World) (h:AW.Has w v l) (hf:AW.eH l) (ha:-9223372036854775808<=a/\a<=9223372036854775807) (hz:size<=9223372036854775807) :
  Calls Tryz.prog 96 #[v,I a,I size,I way] w fun e w'=>e=.returned (.agg (A9 (FM.eX l a size way)))/\Below w.heap.size w w':=by
 have su:=ai (fun p V (hV:AW.Has V v l)=>AW.oY l v p V hV hf)
 have HH:=ai h
 have bI:=ai ((Below.refl w.heap.size w).alloc (Nat.le_refl _) (.cells #[I 0,I 0] 36))
 have X0:=ai (B.new w #[I 0,I 0] 36)
 have HF:Hid (FM.eX l a size way=if way=2/\¬a%8=0 then (3,a) else FM.ek l a way size.toNat):=rfl
 obtain⟨⟨R1,R2⟩,hR⟩:∃R,R=FM.eX l a size way:=⟨_,rfl⟩
 rw[<- hR] at HF ⊢
 clear hR h hf
 unfold A9
 simp only
 obtain⟨ao,vn,cap,rfl⟩:∃ao n cap,v=.slice ao n cap:=by
  obtain⟨ao,cap,h,_⟩:=HH.o
  exact⟨ao,_,cap,h⟩
 have U9:a.tmod 8=0↔a%8=0:=by rw[Int.tmod_eq_emod];split <;> omega
 by_cases hal:way=2/\¬a%8=0
 · have HR:Hid ((R1,R2)=(3,a)):=by show _=_;rw[HF.o,if_pos hal]
   obtain⟨rfl,hal⟩:=hal
   have h8:(a.tmod 8==0)=false:=by rw[beq_eq_false_iff_ne];exact fun g=>hal (U9.1 g)
   clear U9 hal
   go_enter Tryz.func96,Tryz.ntmps96
   go_wp2
   exact bodyPost_ret (v:=.agg #[I 3,I a]) (by simp[results,Tryz.results96,go_sem]) rfl ⟨by rw[(Prod.mk.inj HR.o).1,(Prod.mk.inj HR.o).2],(Below.refl w.heap.size w).alloc (Nat.le_refl _) _⟩
 · have HR:Hid ((R1,R2)=FM.ek l a way size.toNat):=by show _=_;rw[HF.o,if_neg hal]
   clear HF
   by_cases c:way=2
   · subst c
     have h8:a.tmod 8=0:=U9.2 (Classical.not_not.1 (fun g=>hal ⟨rfl,g⟩))
     clear U9 hal
     go_enter Tryz.func96,Tryz.ntmps96
     go_wp2_with fail
     go_loopw [23] (fun iv wr=>∃k:Nat,k<=size.toNat/\iv=I (k:Int)/\FM.ek l a 2 k=(0,0)/\wr.heap[w.heap.size]?=some (.cells #[I 0,I 0] 36 (0,0))/\Below w.heap.size w wr) (fun iv _=>size.toNat-(intOf iv).toNat)
     case atStart=>exact⟨0,by omega,rfl,rfl,X0.o,bI.o⟩
     case round =>
      obtain⟨k,hk,rfl,lJ,hx,hb⟩:=hrel
      have HN:=ai lJ
      have HX:=ai hx
      have HB:=ai hb
      clear lJ hx hb X0 bI
      by_cases hlt:(k:Int)<size
      · have hsm:-9223372036854775808<=a+k/\a+k<=9223372036854775807:=by
         cases k with
         | zero=>omega
         | succ j =>
          have:=FM.mI HN.o
          omega
        have HST:=ai (FM.lU HN.o)
        have q9:Hid (∀f:Int×Int,FM.ek l a 2 (k+1)=f->¬f.1=0->(R1,R2)=f):=fun f h1 h2=>HR.o.trans (FM.nW h1 h2 _ (by omega))
        have pQ:=ai (fun V hV=>su.o ((a+k).tdiv 16) V hV)
        have HQ:Hid (0<=a+k->(a+k).tdiv 16=(a+k)/16):=fun h=>Int.tdiv_eq_ediv_of_nonneg h
        obtain⟨⟨⟨pp,pn,pt,pz⟩,ok⟩,hF⟩:∃F,F=AM.aK l ((a+k).tdiv 16):=⟨_,rfl⟩
        have Gd:=ai hF
        rw[<- hF] at pQ
        have Ga:Hid (∀V,AW.Has V (.slice ao vn cap) l->Calls Tryz.prog 70 #[.slice ao vn cap,I ((a+k).tdiv 16)] V fun e w'=>e=.returned (.tuple #[.agg #[I pp,I pn,I pt,.bool pz],.bool ok])/\Below V.heap.size V w'):=pQ
        clear hF pQ
        have JT:Hid ((a+k<0->FM.je l (a+k) 2=(1,a+k))/\(0<=a+k->ok=false->FM.je l (a+k) 2=(1,a+k))/\(0<=a+k->ok=true->0<=pt/\pt<=3/\(FM.ie pt 2=true->FM.je l (a+k) 2=(2,a+k))/\(FM.ie pt 2=false->FM.je l (a+k) 2=(0,0)))):=by
         refine⟨fun h=>FM.se (.inl h),fun h h2=>?_,fun h h2=>?_⟩
         · refine FM.se (.inr ?_)
           rw[<- HQ.o h,<- Gd.o]
           exact h2
         · have e1:=Gd.o
           rw[HQ.o h] at e1
           have h3:(AM.aK l ((a+k)/16)).2=true:=by rw[<- e1];exact h2
           have h4:=FM.jN (FM.kr h3) h3
           have e2:(AM.aK l ((a+k)/16)).1.bJ=pt:=by rw[<- e1]
           rw[e2] at h4
           exact⟨h4.2.2.1,h4.2.2.2,fun h5=>FM.xM h h3 (by rw[e2];exact h5),fun h5=>FM.Hc h h3 (by rw[e2];exact h5)⟩
        clear Gd
        by_cases hneg:a+k<0
        · have vq:=ai (q9.o _ (HST.o.trans (JT.o.1 hneg)) (by simp))
          clear JT q9 HST
          go_wp2_with (go_at_call 70;refine(Ga.o _ (HH.o.below HB.o)).mono ?_;rintro e w1 ⟨rfl,hb1⟩;have aZ:=ai (aC HB.o hb1);have X1:=ai (B.below HX.o hb1 (B.isLt HX.o));clear hb1;have Bt:=B.isLt X1.o;have hne:¬w.heap.size=w1.heap.size:=(by omega);obtain⟨x0,x1⟩:=B.c2 X1.o;have f0:∀k,w1.frozen? (Ad w.heap.size k)=false:=fun k=>B.free X1.o k)
          exact bodyPost_ret (v:=.agg #[I 1,I (a+k)]) (by simp[results,Tryz.results96,go_sem,x0,x1,Bt]) rfl ⟨by rw[(Prod.mk.inj vq.o).1,(Prod.mk.inj vq.o).2],(gQ aZ.o (Nat.le_refl _) _ _).alloc (by simp;omega) _⟩
        · have hnn:0<=a+k:=by omega
          have F8:=Ga
          rw[HQ.o hnn] at F8
          clear hneg Ga HQ
          cases ok with
          | false =>
           have vq:=ai (q9.o _ (HST.o.trans (JT.o.2.1 (by omega) rfl)) (by simp))
           clear JT q9 HST
           go_wp2_with (go_at_call 70;refine(F8.o _ (HH.o.below HB.o)).mono ?_;rintro e w1 ⟨rfl,hb1⟩;have aZ:=ai (aC HB.o hb1);have X1:=ai (B.below HX.o hb1 (B.isLt HX.o));clear hb1;have Bt:=B.isLt X1.o;have hne:¬w.heap.size=w1.heap.size:=(by omega);obtain⟨x0,x1⟩:=B.c2 X1.o;have f0:∀k,w1.frozen? (Ad w.heap.size k)=false:=fun k=>B.free X1.o k)
           exact bodyPost_ret (v:=.agg #[I 1,I (a+k)]) (by simp[results,Tryz.results96,go_sem,x0,x1,Bt]) rfl ⟨by rw[(Prod.mk.inj vq.o).1,(Prod.mk.inj vq.o).2],(gQ aZ.o (Nat.le_refl _) _ _).alloc (by simp;omega) _⟩
          | true =>
           have hpt:=JT.o.2.2 hnn rfl
           have E9:=wB pt 2 hpt.1 hpt.2.1
           have Bp:=ai hpt.2.2
           have qW:Hid (∀V,Calls Tryz.prog 140 #[I 2] V fun e w'=>e=.returned (I (nI 2))/\Below V.heap.size V w'):=fun V=>(yU 2 V).mono fun e w' ⟨h1,h2⟩=>⟨h1,by rw[<- h2];exact Below.refl _ _⟩
           clear hpt JT
           obtain⟨RN,V5⟩:=ex (nI 2)
           rw[<- V5] at E9 qW
           clear V5
           go_wp2_with (go_at_call 70;refine(F8.o _ (HH.o.below HB.o)).mono ?_;rintro e w1 ⟨rfl,hb1⟩;have aZ:=ai (aC HB.o hb1);have X1:=ai (B.below HX.o hb1 (B.isLt HX.o));clear hb1;have Bt:=B.isLt X1.o)
           obtain⟨W,hW⟩:=ex (w1.alloc (.cells #[I pp,I pn,I pt,.bool pz] 47))
           have HW:=ai hW
           have hs:W.heap.size=w1.heap.size+1:=by rw[hW];simp
           have mN:=Q.dO W
           have hkc:=@Q.cC W
           have c2:∀x:Q.eU W.heap.size W,x.world.cell? (Ad w1.heap.size 2)=some (I pt):=fun x=>by rw[hkc x _ _ (by omega),hW];simp
           have Gf:Hid (Below w.heap.size w W):=by show Below _ _ _;rw[hW];exact aZ.o.alloc aZ.o.size _
           have XW:Hid (W.heap[w.heap.size]?=some (.cells #[I 0,I 0] 36 (0,0))):=by show _=_;rw[hW];exact B.alloc X1.o _
           clear hW hs hkc
           rw[<- HW.o]
           cases yr:FM.ie pt 2 with
           | true =>
            rw[yr] at E9
            have S0:(bits BinOp.and IntKind.i64 pt RN==RN)=false:=E9
            have vq:=ai (q9.o _ (HST.o.trans (Bp.o.1 yr)) (by simp))
            clear q9 HST Bp E9 yr
            refine Q.bc (by kernel_rfl) (by kernel_rfl) ?_
            repeat (first | go_big_quiet_step ((go_at_call 140;exact Q.bB qW.o _)) | quiet_step ((go_at_call 140;exact Q.bB qW.o _)))
            refine wpQuiet_nil ?_
            intro _ hw'
            obtain⟨x,hw''⟩:=hw'
            subst hw''
            have bY:=ai (aC Gf.o x.keeps)
            have X2:=ai (B.below XW.o x.keeps (B.isLt XW.o))
            obtain⟨w2,xd⟩:=ex x.world
            rw[<- xd] at bY X2 ⊢
            clear xd c2
            obtain⟨x0,x1⟩:=B.c2 X2.o
            have f0:∀k,w2.frozen? (Ad w.heap.size k)=false:=fun k=>B.free X2.o k
            go_wp2
            exact bodyPost_ret (v:=.agg #[I 2,I (a+k)]) (by simp[results,Tryz.results96,go_sem,x0,x1]) rfl ⟨by rw[(Prod.mk.inj vq.o).1,(Prod.mk.inj vq.o).2],gQ bY.o (Nat.le_refl _) _ _⟩
           | false =>
            rw[yr] at E9
            have S0:(bits BinOp.and IntKind.i64 pt RN==RN)=true:=E9
            have iL:=ai (HST.o.trans (Bp.o.2 yr))
            clear q9 HST Bp E9 yr
            refine Q.bc (by kernel_rfl) (by kernel_rfl) ?_
            repeat (first | go_big_quiet_step ((go_at_call 140;exact Q.bB qW.o _)) | quiet_step ((go_at_call 140;exact Q.bB qW.o _)))
            refine wpQuiet_nil ?_
            intro _ hw'
            obtain⟨x,hw''⟩:=hw'
            subst hw''
            have bY:=ai (aC Gf.o x.keeps)
            have X2:=ai (B.below XW.o x.keeps (B.isLt XW.o))
            obtain⟨w2,xd⟩:=ex x.world
            rw[<- xd] at bY X2 ⊢
            clear xd c2
            go_wp2
            go_roundw
            case rel=>exact⟨k+1,by omega,by go_num,iL.o,X2.o,bY.o⟩
            case measure=>simp[intOf];omega
      · have Vy:k=size.toNat:=by omega
        have vq:Hid ((R1,R2)=(0,0)):=by show _=_;rw[HR.o,<- Vy];exact HN.o
        obtain⟨x0,x1⟩:=B.c2 HX.o
        have f0:∀k,wr.frozen? (Ad w.heap.size k)=false:=fun k=>B.free HX.o k
        clear Vy
        go_wp2
        exact bodyPost_ret (v:=.agg #[I 0,I 0]) (by simp[results,Tryz.results96,go_sem,x0,x1]) rfl ⟨by rw[(Prod.mk.inj vq.o).1,(Prod.mk.inj vq.o).2],gQ HB.o (Nat.le_refl _) _ _⟩
   · have hw2:(way==2)=false:=by rw[beq_eq_false_iff_ne];exact c
     clear U9 hal c
     go_enter Tryz.func96,Tryz.ntmps96
     go_wp2_with fail
     go_loopw [23] (fun iv wr=>∃k:Nat,k<=size.toNat/\iv=I (k:Int)/\FM.ek l a way k=(0,0)/\wr.heap[w.heap.size]?=some (.cells #[I 0,I 0] 36 (0,0))/\Below w.heap.size w wr) (fun iv _=>size.toNat-(intOf iv).toNat)
     case atStart=>exact⟨0,by omega,rfl,rfl,X0.o,bI.o⟩
     case round =>
      obtain⟨k,hk,rfl,lJ,hx,hb⟩:=hrel
      have HN:=ai lJ
      have HX:=ai hx
      have HB:=ai hb
      clear lJ hx hb X0 bI
      by_cases hlt:(k:Int)<size
      · have hsm:-9223372036854775808<=a+k/\a+k<=9223372036854775807:=by
         cases k with
         | zero=>omega
         | succ j =>
          have:=FM.mI HN.o
          omega
        have HST:=ai (FM.lU HN.o)
        have q9:Hid (∀f:Int×Int,FM.ek l a way (k+1)=f->¬f.1=0->(R1,R2)=f):=fun f h1 h2=>HR.o.trans (FM.nW h1 h2 _ (by omega))
        have pQ:=ai (fun V hV=>su.o ((a+k).tdiv 16) V hV)
        have HQ:Hid (0<=a+k->(a+k).tdiv 16=(a+k)/16):=fun h=>Int.tdiv_eq_ediv_of_nonneg h
        obtain⟨⟨⟨pp,pn,pt,pz⟩,ok⟩,hF⟩:∃F,F=AM.aK l ((a+k).tdiv 16):=⟨_,rfl⟩
        have Gd:=ai hF
        rw[<- hF] at pQ
        have Ga:Hid (∀V,AW.Has V (.slice ao vn cap) l->Calls Tryz.prog 70 #[.slice ao vn cap,I ((a+k).tdiv 16)] V fun e w'=>e=.returned (.tuple #[.agg #[I pp,I pn,I pt,.bool pz],.bool ok])/\Below V.heap.size V w'):=pQ
        clear hF pQ
        have JT:Hid ((a+k<0->FM.je l (a+k) way=(1,a+k))/\(0<=a+k->ok=false->FM.je l (a+k) way=(1,a+k))/\(0<=a+k->ok=true->0<=pt/\pt<=3/\(FM.ie pt way=true->FM.je l (a+k) way=(2,a+k))/\(FM.ie pt way=false->FM.je l (a+k) way=(0,0)))):=by
         refine⟨fun h=>FM.se (.inl h),fun h h2=>?_,fun h h2=>?_⟩
         · refine FM.se (.inr ?_)
           rw[<- HQ.o h,<- Gd.o]
           exact h2
         · have e1:=Gd.o
           rw[HQ.o h] at e1
           have h3:(AM.aK l ((a+k)/16)).2=true:=by rw[<- e1];exact h2
           have h4:=FM.jN (FM.kr h3) h3
           have e2:(AM.aK l ((a+k)/16)).1.bJ=pt:=by rw[<- e1]
           rw[e2] at h4
           exact⟨h4.2.2.1,h4.2.2.2,fun h5=>FM.xM h h3 (by rw[e2];exact h5),fun h5=>FM.Hc h h3 (by rw[e2];exact h5)⟩
        clear Gd
        by_cases hneg:a+k<0
        · have vq:=ai (q9.o _ (HST.o.trans (JT.o.1 hneg)) (by simp))
          clear JT q9 HST
          go_wp2_with (go_at_call 70;refine(Ga.o _ (HH.o.below HB.o)).mono ?_;rintro e w1 ⟨rfl,hb1⟩;have aZ:=ai (aC HB.o hb1);have X1:=ai (B.below HX.o hb1 (B.isLt HX.o));clear hb1;have Bt:=B.isLt X1.o;have hne:¬w.heap.size=w1.heap.size:=(by omega);obtain⟨x0,x1⟩:=B.c2 X1.o;have f0:∀k,w1.frozen? (Ad w.heap.size k)=false:=fun k=>B.free X1.o k)
          exact bodyPost_ret (v:=.agg #[I 1,I (a+k)]) (by simp[results,Tryz.results96,go_sem,x0,x1,Bt]) rfl ⟨by rw[(Prod.mk.inj vq.o).1,(Prod.mk.inj vq.o).2],(gQ aZ.o (Nat.le_refl _) _ _).alloc (by simp;omega) _⟩
        · have hnn:0<=a+k:=by omega
          have F8:=Ga
          rw[HQ.o hnn] at F8
          clear hneg Ga HQ
          cases ok with
          | false =>
           have vq:=ai (q9.o _ (HST.o.trans (JT.o.2.1 (by omega) rfl)) (by simp))
           clear JT q9 HST
           go_wp2_with (go_at_call 70;refine(F8.o _ (HH.o.below HB.o)).mono ?_;rintro e w1 ⟨rfl,hb1⟩;have aZ:=ai (aC HB.o hb1);have X1:=ai (B.below HX.o hb1 (B.isLt HX.o));clear hb1;have Bt:=B.isLt X1.o;have hne:¬w.heap.size=w1.heap.size:=(by omega);obtain⟨x0,x1⟩:=B.c2 X1.o;have f0:∀k,w1.frozen? (Ad w.heap.size k)=false:=fun k=>B.free X1.o k)
           exact bodyPost_ret (v:=.agg #[I 1,I (a+k)]) (by simp[results,Tryz.results96,go_sem,x0,x1,Bt]) rfl ⟨by rw[(Prod.mk.inj vq.o).1,(Prod.mk.inj vq.o).2],(gQ aZ.o (Nat.le_refl _) _ _).alloc (by simp;omega) _⟩
          | true =>
           have hpt:=JT.o.2.2 hnn rfl
           have E9:=wB pt way hpt.1 hpt.2.1
           have Bp:=ai hpt.2.2
           have qW:Hid (∀V,Calls Tryz.prog 140 #[I way] V fun e w'=>e=.returned (I (nI way))/\Below V.heap.size V w'):=fun V=>(yU way V).mono fun e w' ⟨h1,h2⟩=>⟨h1,by rw[<- h2];exact Below.refl _ _⟩
           clear hpt JT
           obtain⟨RN,V5⟩:=ex (nI way)
           rw[<- V5] at E9 qW
           clear V5
           go_wp2_with (go_at_call 70;refine(F8.o _ (HH.o.below HB.o)).mono ?_;rintro e w1 ⟨rfl,hb1⟩;have aZ:=ai (aC HB.o hb1);have X1:=ai (B.below HX.o hb1 (B.isLt HX.o));clear hb1;have Bt:=B.isLt X1.o)
           obtain⟨W,hW⟩:=ex (w1.alloc (.cells #[I pp,I pn,I pt,.bool pz] 47))
           have HW:=ai hW
           have hs:W.heap.size=w1.heap.size+1:=by rw[hW];simp
           have mN:=Q.dO W
           have hkc:=@Q.cC W
           have c2:∀x:Q.eU W.heap.size W,x.world.cell? (Ad w1.heap.size 2)=some (I pt):=fun x=>by rw[hkc x _ _ (by omega),hW];simp
           have Gf:Hid (Below w.heap.size w W):=by show Below _ _ _;rw[hW];exact aZ.o.alloc aZ.o.size _
           have XW:Hid (W.heap[w.heap.size]?=some (.cells #[I 0,I 0] 36 (0,0))):=by show _=_;rw[hW];exact B.alloc X1.o _
           clear hW hs hkc
           rw[<- HW.o]
           cases yr:FM.ie pt way with
           | true =>
            rw[yr] at E9
            have S0:(bits BinOp.and IntKind.i64 pt RN==RN)=false:=E9
            have vq:=ai (q9.o _ (HST.o.trans (Bp.o.1 yr)) (by simp))
            clear q9 HST Bp E9 yr
            refine Q.bc (by kernel_rfl) (by kernel_rfl) ?_
            repeat (first | go_big_quiet_step ((go_at_call 140;exact Q.bB qW.o _)) | quiet_step ((go_at_call 140;exact Q.bB qW.o _)))
            refine wpQuiet_nil ?_
            intro _ hw'
            obtain⟨x,hw''⟩:=hw'
            subst hw''
            have bY:=ai (aC Gf.o x.keeps)
            have X2:=ai (B.below XW.o x.keeps (B.isLt XW.o))
            obtain⟨w2,xd⟩:=ex x.world
            rw[<- xd] at bY X2 ⊢
            clear xd c2
            obtain⟨x0,x1⟩:=B.c2 X2.o
            have f0:∀k,w2.frozen? (Ad w.heap.size k)=false:=fun k=>B.free X2.o k
            go_wp2
            exact bodyPost_ret (v:=.agg #[I 2,I (a+k)]) (by simp[results,Tryz.results96,go_sem,x0,x1]) rfl ⟨by rw[(Prod.mk.inj vq.o).1,(Prod.mk.inj vq.o).2],gQ bY.o (Nat.le_refl _) _ _⟩
           | false =>
            rw[yr] at E9
            have S0:(bits BinOp.and IntKind.i64 pt RN==RN)=true:=E9
            have iL:=ai (HST.o.trans (Bp.o.2 yr))
            clear q9 HST Bp E9 yr
            refine Q.bc (by kernel_rfl) (by kernel_rfl) ?_
            repeat (first | go_big_quiet_step ((go_at_call 140;exact Q.bB qW.o _)) | quiet_step ((go_at_call 140;exact Q.bB qW.o _)))
            refine wpQuiet_nil ?_
            intro _ hw'
            obtain⟨x,hw''⟩:=hw'
            subst hw''
            have bY:=ai (aC Gf.o x.keeps)
            have X2:=ai (B.below XW.o x.keeps (B.isLt XW.o))
            obtain⟨w2,xd⟩:=ex x.world
            rw[<- xd] at bY X2 ⊢
            clear xd c2
            go_wp2
            go_roundw
            case rel=>exact⟨k+1,by omega,by go_num,iL.o,X2.o,bY.o⟩
            case measure=>simp[intOf];omega
      · have Vy:k=size.toNat:=by omega
        have vq:Hid ((R1,R2)=(0,0)):=by show _=_;rw[HR.o,<- Vy];exact HN.o
        obtain⟨x0,x1⟩:=B.c2 HX.o
        have f0:∀k,wr.frozen? (Ad w.heap.size k)=false:=fun k=>B.free HX.o k
        clear Vy
        go_wp2
        exact bodyPost_ret (v:=.agg #[I 0,I 0]) (by simp[results,Tryz.results96,go_sem,x0,x1]) rfl ⟨by rw[(Prod.mk.inj vq.o).1,(Prod.mk.inj vq.o).2],gQ HB.o (Nat.le_refl _) _ _⟩
end FW
end Go.Proofs.YtpgifpeohlllfaaGreat
