import Derived.Test.YtpgifpeohlllfaaGreatGS00
import Derived.Test.YtpgifpeohlllfaaGreatGS26
import Derived.Test.YtpgifpeohlllfaaGreatGS06
import Derived.Test.YtpgifpeohlllfaaGreatGS13
import Derived.Test.YtpgifpeohlllfaaGreatGS03
set_option maxHeartbeats 20000000
set_option linter.unusedVariables false
set_option maxRecDepth 100000
set_option linter.unusedSimpArgs false
namespace Go.Proofs.YtpgifpeohlllfaaGreat
namespace KY
open Go.RowKit GK KO
open FW (ai aB)
open KW (bE bD aK aZ fu cI aJ dN bT lh eW dw iN)
open KS (Lc bJ oY dC blk cU)
open KX (uS)
def dR (k:KM.Kn) (sp size way:Int) (ways:List Int):Int:=if dw k sp≠0 then dw k sp else if ¬(1<=size/\size<=8) then 3 else if way∈ways then 0 else 10
def oP (w:World) (k:KM.Kn) (e:Ending) (w':World):Prop:=∃mb S hs,e=.returned (.tuple #[.pointer (some (Ad mb 0)),I 0])/\KM.Same k.ak hs/\Km w.heap.size mb 104 (fL k) w' S (KM.bu k hs)/\Below w.heap.size w w'
theorem Ec {w:World} {a:fu} {k:KM.Kn} {sp:Int} (h:Calls Tryz.prog 69 #[.agg (aJ a k),I sp] w (iN w a k (dw k sp))) (hc:dw k sp≠0):Calls Tryz.prog 69 #[.agg (aJ a k),I sp] w fun e w'=>e=.returned (.tuple #[.pointer none,I (dw k sp)])/\Below w.heap.size w w':=h.mono fun e w' ⟨hb,hh⟩=>by
 rcases hh with⟨h0,_⟩ | ⟨_,h1⟩
 · exact absurd h0 hc
 · exact⟨h1,hb⟩
theorem IJ {w:World} {a:fu} {k:KM.Kn} {sp:Int} (h:Calls Tryz.prog 69 #[.agg (aJ a k),I sp] w (iN w a k (dw k sp))) (hc:dw k sp=0):Calls Tryz.prog 69 #[.agg (aJ a k),I sp] w fun e w'=>∃mb,e=.returned (.tuple #[.pointer (some (Ad mb 0)),I 0])/\w.heap.size<=mb/\w'.heap[mb]?=some (.cells (lh a k) 104 (0,0))/\Below w.heap.size w w':=h.mono fun e w' ⟨hb,hh⟩=>by
 rcases hh with⟨_,mb,h1,h2,h3⟩ | ⟨h0,_⟩
 · exact⟨mb,h1,h2,h3,hb⟩
 · exact absurd hc h0
theorem oG {k:KM.Kn} {sp:Int} (h:dw k sp=0):KM.aU k/\0<=sp/\sp.toNat<k.aj.length/\(KM.au k.aj sp.toNat).live=true:=by
 unfold KW.dw at h
 by_cases c:KM.dx k=0
 · rw[if_pos c] at h
   by_cases d:0<=sp/\sp<(k.aj.length:Int)/\(KM.au k.aj sp.toNat).live=true
   · exact⟨(KM.kz k).1 c,d.1,by omega,d.2.2⟩
   · rw[if_neg d] at h;cases h
 · rw[if_neg c] at h;exact absurd h c
theorem u9 (k:KM.Kn) (a:fu) (sp size way:Int) (ways:List Int) (aw:Option Addr) (cw:Nat) (w:World) (hK:cI w a k) (hF:eW k) (hsp:M.gj sp) (hw:aZ bT 1 0 w aw ways) (pD:ways.length<=1000000) (hc:dR k sp size way ways≠0) :
  Calls Tryz.prog 51 #[.agg (aJ a k),I sp,I size,I way,.slice aw ways.length cw] w fun e w'=>e=.returned (.tuple #[.pointer none,I (dR k sp size way ways)])/\Below w.heap.size w w':=by
 have pd:=ai (fun V (hV:Below w.heap.size w V)=>KW.s9 k a sp V (hK.below hV) hF hsp)
 have PS:=ai (fun V (hV:Below w.heap.size w V)=>KW.nB ways way aw cw V (hw.below hV) pD)
 have bW:=ai ((Below.refl w.heap.size w).alloc (Nat.le_refl _) (.cells (aJ a k) 27))
 have KB:=ai (B.new w (aJ a k) 27)
 obtain⟨C,hC⟩:=ex (dR k sp size way ways)
 rw[<- hC] at hc ⊢
 obtain⟨P,hP⟩:∃P:Ending->World->Prop,P=fun e w'=>e=.returned (.tuple #[.pointer none,I C])/\Below w.heap.size w w':=⟨_,rfl⟩
 have HE:Hid (∀V,Below w.heap.size w V->P (.returned (.tuple #[.pointer none,I C])) V):=fun V hV=>by rw[hP];exact⟨rfl,hV⟩
 rw[<- hP]
 clear hP
 unfold dR at hC
 by_cases c1:dw k sp=0
 · rw[if_neg (fun x=>x c1)] at hC
   have pj:=ai (fun V hV=>IJ (pd.o V hV) c1)
   by_cases c2:1<=size/\size<=8
   · rw[if_neg (fun x=>x c2)] at hC
     have c3:way∉ways:=fun x=>by rw[if_pos x] at hC;exact hc hC
     rw[if_neg c3] at hC
     subst hC
     rw[decide_eq_false c3] at PS
     obtain⟨g1,g2⟩:=c2
     clear pd c1 c3 hK hF hsp hw hc
     unfold aJ at pj bW KB ⊢
     go_enter Tryz.func51,Tryz.ntmps51
     go_wp2_with (first
      | (go_at_call 69;refine(pj.o _ bW.o).mono ?_;rintro e w1 ⟨mb,rfl,kj,hm2,hb1⟩;have bI:=ai (aB bW.o hb1);clear hb1 hm2)
      | (go_at_call 95;refine(PS.o _ bI.o).mono ?_;rintro e w2 ⟨rfl,rfl⟩))
     exact HE.o _ bI.o
   · rw[if_pos c2] at hC
     subst hC
     clear pd PS c1 hK hF hsp hw hc
     unfold aJ at pj bW KB ⊢
     rcases(show size<1∨(1<=size/\8<size) by omega) with g | ⟨g1,g2⟩
     · go_enter Tryz.func51,Tryz.ntmps51
       go_wp2_with (go_at_call 69;refine(pj.o _ bW.o).mono ?_;rintro e w1 ⟨mb,rfl,kj,hm2,hb1⟩;have bI:=ai (aB bW.o hb1);clear hb1 hm2)
       exact HE.o _ bI.o
     · have g3:¬size<1:=by omega
       go_enter Tryz.func51,Tryz.ntmps51
       go_wp2_with (go_at_call 69;refine(pj.o _ bW.o).mono ?_;rintro e w1 ⟨mb,rfl,kj,hm2,hb1⟩;have bI:=ai (aB bW.o hb1);clear hb1 hm2)
       exact HE.o _ bI.o
 · rw[if_pos c1] at hC
   have pj:=ai (fun V hV=>Ec (pd.o V hV) c1)
   rw[<- hC] at pj
   have cb:(C != 0)=true:=by simpa using hc
   clear pd PS c1 hK hF hsp hw hc hC
   unfold aJ at pj bW KB ⊢
   go_enter Tryz.func51,Tryz.ntmps51
   go_wp2_with (go_at_call 69;refine(pj.o _ bW.o).mono ?_;rintro e w1 ⟨rfl,hb1⟩;have bI:=ai (aB bW.o hb1);clear hb1)
   exact HE.o _ bI.o
theorem ym (xk:kX) (k:KM.Kn) (a:fu) (sp size way:Int) (ways:List Int) (aw:Option Addr) (cw:Nat) (w:World) (hK:cI w a k) (hF:eW k) (hsp:M.gj sp) (hw:aZ bT 1 0 w aw ways) (pD:ways.length<=1000000) (hc:dR k sp size way ways=0) :
  Calls Tryz.prog 51 #[.agg (aJ a k),I sp,I size,I way,.slice aw ways.length cw] w (oP w k):=by
 have c1:dw k sp=0:=by
  unfold dR at hc
  by_cases c:dw k sp=0
  · exact c
  · rw[if_pos c] at hc;exact absurd hc c
 have c2:1<=size/\size<=8:=by
  unfold dR at hc
  rw[if_neg (fun x=>x c1)] at hc
  by_cases c:1<=size/\size<=8
  · exact c
  · rw[if_pos c] at hc;cases hc
 have c3:way∈ways:=by
  unfold dR at hc
  rw[if_neg (fun x=>x c1),if_neg (fun x=>x c2)] at hc
  by_cases c:way∈ways
  · exact c
  · rw[if_neg c] at hc;cases hc
 have hR:=(oG c1).1
 have hsm:=uV hR hF
 have pj:=ai (fun V (hV:Below w.heap.size w V)=>IJ (KW.s9 k a sp V (hK.below hV) hF hsp) c1)
 have PS:=ai (fun V (hV:Below w.heap.size w V)=>KW.nB ways way aw cw V (hw.below hV) pD)
 rw[decide_eq_true c3] at PS
 have bW:=ai ((Below.refl w.heap.size w).alloc (Nat.le_refl _) (.cells (aJ a k) 27))
 have KB:=ai (B.new w (aJ a k) 27)
 have HOW:Hid (∀V mb,Below w.heap.size w V->w.heap.size<=mb->V.heap[mb]?=some (.cells (lh a k) 104 (0,0))->Calls Tryz.prog 84 #[.pointer (some (Ad mb 0))] V fun e w'=>e=.returned (.tuple #[])/\oP w k (.returned (.tuple #[.pointer (some (Ad mb 0)),I 0])) w'):=fun V mb hV kj hm2=>(xd xk k a mb V (hK.below hV) hsm hm2 w.heap.size kj).mono fun e w' ⟨h1,S,hs,h2,h3,h4,h5⟩=>⟨h1,mb,S,hs,rfl,h2,h3,Kp.below hV h5 hV.size (fun b e=>by omega)⟩
 obtain⟨P,hP⟩:=ex (oP w k)
 rw[<- hP] at HOW ⊢
 obtain⟨g1,g2⟩:=c2
 clear c1 c3 hK hF hsp hw hc hR hsm hP
 unfold aJ at pj bW KB ⊢
 go_enter Tryz.func51,Tryz.ntmps51
 go_wp2_with (first
  | (go_at_call 69;refine(pj.o _ bW.o).mono ?_;rintro e w1 ⟨mb,rfl,kj,hm2,hb1⟩;have bI:=ai (aB bW.o hb1);have FO:=ai hm2;have Qi:Hid (w.heap.size<=mb):=(by simp at kj;exact Nat.le_trans (by omega) kj);clear hb1 hm2 kj)
  | (go_at_call 95;refine(PS.o _ bI.o).mono ?_;rintro e w2 ⟨rfl,rfl⟩)
  | (go_at_call 84;refine(HOW.o _ _ bI.o Qi.o FO.o).mono ?_;rintro e w3 ⟨rfl,hq⟩;have HQ:=ai hq;clear hq))
 exact HQ.o
end KY
namespace KZ
open Go.RowKit GK KO
open FW (ai aB)
open KW (bE bD aK aZ fu cI aJ dN bT lh eW dw iN)
open KS (Lc bJ oY dC blk cU)
open KX (uS Held ids)
open KY (kX fL dR oP)
def kN:KM.Kn:=⟨[],[],[],[],0⟩
def st0:St:=⟨fun _=>.no,Nl,Nl,Nl,Nl,[]⟩
def dJ (w:World) (k:KM.Kn) (vs:List Value) (e:Ending) (w':World):Prop:=∃S hs,KM.Same k.ak hs/\e=.returned (.tuple (Value.agg #[S.vS,S.vF,S.vL,S.vP,I k.hand]::vs).toArray)/\Kr w.heap.size w' S (KM.bu k hs)/\Below w.heap.size w w'
theorem I1 (lo:Nat) (w:World):Kr lo w st0 kN:=by
 refine⟨fun b hb=>absurd rfl hb,World.ownsRow_nil _ _ _ _,fun i hi=>?_,World.ownsRow_nil _ _ _ _,World.ownsRow_nil _ _ _ _,World.ownsRow_nil _ _ _ _,rfl,fun i hi=>?_,fun b hb=>?_,fun i hi=>?_,fun b hb=>?_,fun b hb=>?_,fun b hb=>?_,fun i hi=>?_,fun i hi=>?_⟩
 all_goals first | cases hb | cases hi
theorem nW {w w':World} (vs:List Value) (hb:Below w.heap.size w w'):dJ w kN vs (.returned (.tuple (Value.agg #[Nl,Nl,Nl,Nl,I 0]::vs).toArray)) w':=⟨st0,[],rfl,rfl,I1 _ _,hb⟩
theorem Bi {k:KM.Kn} {sp size way:Int} {ways:List Int} (h:dR k sp size way ways=0):dw k sp=0/\(1<=size/\size<=8)/\way∈ways:=by
 unfold KY.dR at h
 by_cases c1:dw k sp=0
 · rw[if_neg (fun x=>x c1)] at h
   by_cases c2:1<=size/\size<=8
   · rw[if_neg (fun x=>x c2)] at h
     by_cases c3:way∈ways
     · exact⟨c1,c2,c3⟩
     · rw[if_neg c3] at h;cases h
   · rw[if_pos c2] at h;cases h
 · rw[if_pos c1] at h;exact absurd h c1
theorem Gn {W:World} {rb fb:Nat} (hr:W.heap[rb]?=some (.cells #[Nl,Nl,Nl,Nl,I 0] 27 (0,0))) (hf:W.heap[fb]?=some (.cells #[I 0,I 0] 36 (0,0))) (hne:rb≠fb) (s f l p h x y:Value) {V:World} (hV:V=((((((W.setCell (Ad rb 0) s).setCell (Ad rb 1) f).setCell (Ad rb 2) l).setCell (Ad rb 3) p).setCell (Ad rb 4) h).setCell (Ad fb 0) x).setCell (Ad fb 1) y) :
  V.heap[rb]?=some (.cells #[s,f,l,p,h] 27 (0,0))/\V.heap[fb]?=some (.cells #[x,y] 36 (0,0))/\Kp (fun b=>b=rb∨b=fb) W V:=by
 have h1:(((((W.setCell (Ad rb 0) s).setCell (Ad rb 1) f).setCell (Ad rb 2) l).setCell (Ad rb 3) p).setCell (Ad rb 4) h).heap[rb]?=some (.cells #[s,f,l,p,h] 27 (0,0)):=B.set (B.set (B.set (B.set (B.set hr 0 s) 1 f) 2 l) 3 p) 4 h
 have Oc:fb≠rb:=fun e=>hne e.symm
 have h2:=B.other (B.other (B.other (B.other (B.other hf rb 0 s Oc) rb 1 f Oc) rb 2 l Oc) rb 3 p Oc) rb 4 h Oc
 subst hV
 refine⟨B.other (B.other h1 fb 0 x hne) fb 1 y hne,B.set (B.set h2 0 x) 1 y,?_⟩
 have k:∀(A:World) (g j:Nat) (v:Value),g=rb∨g=fb->Kp (fun b=>b=rb∨b=fb) A (A.setCell (Ad g j) v):=fun A g j v hg=>Kp.set _ A (Ad g j) v hg
 exact((((((k _ _ _ _ (.inl rfl)).trans (k _ _ _ _ (.inl rfl)) (fun _ _ g=>g)).trans (k _ _ _ _ (.inl rfl)) (fun _ _ g=>g)).trans (k _ _ _ _ (.inl rfl)) (fun _ _ g=>g)).trans (k _ _ _ _ (.inl rfl)) (fun _ _ g=>g)).trans (k _ _ _ _ (.inr rfl)) (fun _ _ g=>g)).trans (k _ _ _ _ (.inr rfl)) (fun _ _ g=>g)
end KZ
namespace KX
open Go.RowKit GK KO
open FW (ai aB)
open KW (bE bD aK aZ fu cI aJ dN bT dU)
open KS (Lc bJ oY dC blk cU)
theorem xe (l:List Nat):(ids l).length=l.length:=by unfold ids;rw[List.length_map]
theorem N1 (l:List Nat) (n:Nat) (hn:n<l.length):KW.GQ (ids l) n=((l.getD n 0:Nat):Int):=by
 unfold KW.GQ ids
 rw[List.getD_eq_getElem?_getD,List.getElem?_map,List.getD_eq_getElem?_getD,List.getElem?_eq_getElem hn]
 rfl
theorem El {lo mb:Nat} {tt:TypeId} {X:List Value} (k:KM.Kn) (S:St) (w:World) (l:List Nat) (av:Option Addr) (cv:Nat) (h:Km lo mb tt X w S k) (hH:Held w S av (ids l)) (hl:∀n,n<l.length->l.getD n 0<k.frames.length) (hll:l.length<=2) (hsz:∀n,n<l.length->(KM.aI k.frames (l.getD n 0)).data.size<=1000) (l6:0<k.frames.length) :
  Calls Tryz.prog 64 #[.pointer (some (Ad mb 0)),.slice av l.length cv] w fun e w'=>e=.returned (.string (KM.fB k.frames l l.length))/\w'=w:=by
 obtain⟨fb,cF,A⟩:=h.toKr.fr l6
 have c1:=h.c1
 rw[A.v] at c1
 have HX:=ai A.x0
 have HH:=ai hH.has
 have HL:=ai hl
 have HSZ:=ai hsz
 have HJB:Hid (∀n,n<=l.length->(KM.fB k.frames l n).size<=n*1000):=fun n=>by
  induction n with
  | zero=>intro _;exact Nat.zero_le _
  | succ n ih =>
   intro hn
   unfold KM.fB
   rw[ByteArray.size_append]
   have:=ih (by omega)
   have:=hsz n (by omega)
   omega
 obtain⟨nf,Ey⟩:=ex k.frames.length
 rw[<- Ey] at c1 HX HL
 clear h hH A hl hsz l6 Ey
 go_enter Tryz.func64,Tryz.ntmps64
 go_wp2
 go_loopw [5,10] (fun dv iv wr=>∃n:Nat,n<=l.length/\iv=I (n:Int)/\dv=.string (KM.fB k.frames l n)/\wr=w) (fun _ iv _=>l.length-(intOf iv).toNat)
 case atStart=>exact⟨0,by omega,rfl,rfl,rfl⟩
 case round =>
  obtain⟨n,hn,rfl,rfl,rfl⟩:=hrel
  by_cases hlt:n<l.length
  · have hni:(n:Int)<(l.length:Int):=by omega
    have hjb:=HJB.o n hn
    have hs1:=HSZ.o n hlt
    obtain⟨eb,eo,hao,hbl,bM⟩:=HH.o (by rw[xe];omega)
    subst hao
    have y0:=bM n (by rw[xe];exact hlt) 0 (by omega)
    rw[Nat.add_zero,Nat.mul_one] at y0
    have e0:=N1 l n hlt
    have x0:wr.cell? (Ad eb (eo+n))=some (I ((l.getD n 0:Nat):Int)):=by
     rw[<- e0];exact y0
    have hq:=HL.o n hlt
    have xF:=HX.o (l.getD n 0) hq
    have ji:Hid (KM.fB k.frames l (n+1)=KM.fB k.frames l n++(KM.aI k.frames (l.getD n 0)).data):=rfl
    obtain⟨q,Yi⟩:=ex (l.getD n 0)
    rw[<- Yi] at x0 xF ji hq hs1
    obtain⟨FD,TU⟩:=ex ((KM.aI k.frames q).data)
    rw[<- TU] at xF ji hs1
    obtain⟨JD,TS⟩:=ex (KM.fB k.frames l n)
    rw[<- TS] at ji hjb ⊢
    have hqi:(q:Int)<(nf:Int):=by omega
    clear bM y0 e0 Yi TU TS
    go_wp2
    go_roundw
    case rel=>exact⟨n+1,by omega,by go_num,by rw[ji.o],trivial⟩
    case measure=>simp[intOf];omega
  · obtain rfl:n=l.length:=by omega
    go_wp2
    go_ret
    exact⟨rfl,rfl⟩
theorem sY (k:KM.Kn) (l:List Nat) (s:ByteArray):∀n,(KM.iy k l s n).frames.length=k.frames.length
 | 0=>rfl
 | n+1=>by
  unfold KM.iy KM.wJ
  show(List.set _ _ _).length=_
  rw[List.length_set,sY k l s n]
theorem M8 {lo mb:Nat} {tt:TypeId} {X:List Value} (k:KM.Kn) (S:St) (w:World) (l:List Nat) (s:ByteArray) (av:Option Addr) (cv:Nat) (h:Km lo mb tt X w S k) (hH:Held w S av (ids l)) (hl:∀n,n<l.length->l.getD n 0<k.frames.length) (hll:l.length<=2) (hs:l.length*16<=s.size) (hs2:s.size<=1000) (l6:0<k.frames.length) :
  Calls Tryz.prog 66 #[.pointer (some (Ad mb 0)),.slice av l.length cv,.string s] w (nD lo mb tt X w S (.tuple #[]) (KM.iy k l s l.length)):=by
 have HH:=ai hH
 have HL:=ai hl
 have wW:Hid (∀V n,n<l.length->Km lo mb tt X V S (KM.iy k l s n)->∃fb cF,¬mb=fb/\V.cell? (Ad mb 1)=some (.slice (some (Ad fb 0)) k.frames.length cF)/\(∀V',Below V.heap.size V V'->V'.cell? (Ad fb (l.getD n 0*4))=some (.string (KM.aI (KM.iy k l s n).frames (l.getD n 0)).data)/\V'.frozen? (Ad fb (l.getD n 0*4))=false/\Km lo mb tt X (V'.setCell (Ad fb (l.getD n 0*4)) (.string (s.extract (n*16) (n*16+16)))) S (KM.iy k l s (n+1))/\Ch S V S (V'.setCell (Ad fb (l.getD n 0*4)) (.string (s.extract (n*16) (n*16+16)))))):=fun V n hn hV=>by
  obtain⟨fb,cF,A⟩:=hV.toKr.fr (by rw[sY];exact l6)
  have c1:=hV.c1
  rw[A.v,sY] at c1
  refine⟨fb,cF,fun e=>by have:=A.lab;rw[<- e,hV.lH] at this;simp at this,c1,fun V' hb=>?_⟩
  have hV':=hV.below hb
  obtain⟨Vu,cF',A'⟩:=hV'.toKr.fr (by rw[sY];exact l6)
  have e:Vu=fb:=by
   have:=A'.v
   rw[A.v] at this
   injection this with e1 _ _
   injection e1 with e1
   injection e1 with e1 _ _
   exact e1.symm
  subst e
  have hi:l.getD n 0<(KM.iy k l s n).frames.length:=by rw[sY];exact hl n hn
  exact⟨A'.x0 _ hi,A'.fz _,hV'.uh A'.v hi (j:=0) (by omega) rfl,(Ch.below hb).trans (Pe hV'.toKr A'.v)⟩
 have Mi:Hid (∀V n,n<l.length->Calls Tryz.prog 63 #[.string s,I ((n:Int)*16),I 16] V fun e w'=>e=.returned (.tuple #[.string (s.extract (n*16) (n*16+16)),I 0])/\Below V.heap.size V w'):=fun V n hn=>by
  have:=CW.yg s (n*16) 16 V (by omega) (by omega)
  rw[show((n*16:Nat):Int)=(n:Int)*16 by omega,show((16:Nat):Int)=16 from rfl] at this
  exact this
 have iW:=ai h
 have bw:Hid (∀V,Km lo mb tt X V S (KM.iy k l s l.length)->Ch S w S V->nD lo mb tt X w S (.tuple #[]) (KM.iy k l s l.length) (.returned (.tuple #[])) V):=fun V h1 h2=>⟨rfl,h1,h2⟩
 obtain⟨P,hP⟩:=ex (nD lo mb tt X w S (.tuple #[]) (KM.iy k l s l.length))
 rw[<- hP] at bw ⊢
 obtain⟨nf,Ey⟩:=ex k.frames.length
 rw[<- Ey] at wW HL
 clear h hH hl l6 Ey hs hs2 hP
 go_enter Tryz.func66,Tryz.ntmps66
 go_wp2
 go_loopw [10] (fun iv wr=>∃n:Nat,n<=l.length/\iv=I (n:Int)/\Km lo mb tt X wr S (KM.iy k l s n)/\Ch S w S wr) (fun iv _=>l.length-(intOf iv).toNat)
 case atStart=>exact⟨0,by omega,rfl,iW.o,Ch.refl _ _⟩
 case round =>
  obtain⟨n,hn,rfl,dM,hch⟩:=hrel
  by_cases hlt:n<l.length
  · have hni:(n:Int)<(l.length:Int):=by omega
    have mz:=HH.o.ch hch
    obtain⟨eb,eo,hao,hbl,bM⟩:=mz.has (by rw[xe];omega)
    subst hao
    have y0:=bM n (by rw[xe];exact hlt) 0 (by omega)
    rw[Nat.add_zero,Nat.mul_one] at y0
    have e0:=N1 l n hlt
    have x0:wr.cell? (Ad eb (eo+n))=some (I ((l.getD n 0:Nat):Int)):=by
     rw[<- e0];exact y0
    have hq:=HL.o n hlt
    obtain⟨fb,cF,WO,c1,hwr⟩:=wW.o wr n hlt dM
    have HWR:=ai hwr
    have VU:=ai (fun V=>Mi.o V n hlt)
    have Dr:=ai hch
    obtain⟨q,Yi⟩:=ex (l.getD n 0)
    rw[<- Yi] at x0 hq HWR
    obtain⟨FD,TU⟩:=ex ((KM.aI (KM.iy k l s n).frames q).data)
    rw[<- TU] at HWR
    obtain⟨PD,hPD⟩:=ex (s.extract (n*16) (n*16+16))
    rw[<- hPD] at HWR VU
    have hqi:(q:Int)<(nf:Int):=by omega
    have oa:mb<wr.heap.size:=World.block_lt_of_cell? wr _ c1
    have hmu:IntKind.i64.wrap ((n:Int)*16)=(n:Int)*16:=IntWalk.i64_in _ (by omega)
    clear bM y0 e0 Yi TU hPD dM hch hwr mz iW
    go_upto_region 3 with fail
    have iW:=ai (Below.refl wr.heap.size wr).drew
    have eX:Hid (wr.drew.cell? (Ad mb 1)=some (.slice (some (Ad fb 0)) nf cF)):=(iW.o.cell (p:=(Ad mb 1)) oa).trans c1
    go_region_held3 (fun V=>V.cell? (Ad mb 1)=some (.slice (some (Ad fb 0)) nf cF)) (first | exact gH.o | exact eX.o | exact Zx.o)
     ((go_at_call 63;refine(VU.o _).mono ?_;rintro r w5 ⟨rfl,vA⟩;have Jz:=ai (iW.o.trans (vA.mono iW.o.size));have gH:Hid (w5.cell? (Ad mb 1)=some (.slice (some (Ad fb 0)) nf cF)):=(Jz.o.cell (p:=(Ad mb 1)) oa).trans c1;have Zx:Hid ((w5.setCell (Ad fb (q*4)) (.string PD)).cell? (Ad mb 1)=some (.slice (some (Ad fb 0)) nf cF)):=(cu _ _ _ _ _ _ WO).trans gH.o;obtain⟨z0,z1,z2,z3⟩:=HWR.o w5 Jz.o;have uO:=ai z2;have HZ3:=ai z3;clear vA z2 z3))
    all_goals clear eX gH Zx VU
    all_goals go_wp2
    go_roundw
    case rel=>exact⟨n+1,by omega,by go_num,uO.o,Dr.o.trans HZ3.o⟩
    case measure=>simp[intOf];omega
  · obtain rfl:n=l.length:=by omega
    have HX:=ai (bw.o wr dM hch)
    clear dM hch
    go_wp2
    first
     | exact HX.o
     | (refine bodyPost_end (v:=.tuple #[]) (by simp[results,Tryz.results66,go_sem]) rfl ?_;exact HX.o)
end KX
namespace KZ
open Go.RowKit GK KO
open FW (ai aB)
open KW (bE bD aK aZ fu cI aJ dN bT lh eW dw iN)
open KS (Lc bJ oY dC blk cU)
open KX (uS Held ids)
open KY (kX fL dR oP)
theorem mg {W:World} {rb:Nat} (hr:W.heap[rb]?=some (.cells #[Nl,Nl,Nl,Nl,I 0] 27 (0,0))) (s f l p h:Value) {V:World} (hV:V=((((W.setCell (Ad rb 0) s).setCell (Ad rb 1) f).setCell (Ad rb 2) l).setCell (Ad rb 3) p).setCell (Ad rb 4) h) :
  V.heap[rb]?=some (.cells #[s,f,l,p,h] 27 (0,0))/\Kp (fun b=>b=rb) W V:=by
 subst hV
 refine⟨B.set (B.set (B.set (B.set (B.set hr 0 s) 1 f) 2 l) 3 p) 4 h,?_⟩
 have k:∀(A:World) (j:Nat) (v:Value),Kp (fun b=>b=rb) A (A.setCell (Ad rb j) v):=fun A j v=>Kp.set _ A (Ad rb j) v rfl
 exact((((k _ _ _).trans (k _ _ _) (fun _ _ g=>g)).trans (k _ _ _) (fun _ _ g=>g)).trans (k _ _ _) (fun _ _ g=>g)).trans (k _ _ _) (fun _ _ g=>g)
end KZ
namespace KZ
open Go.RowKit GK KO
open KW (bE bD aK aZ fu cI aJ eW)
open KY (Small)
theorem mE {l:List AM.Ar} {hs:List LM.Sh} {en:Int} (h:LM.gF l hs en=0):AM.aR l=0/\LM.cV hs=true/\(hs.length:Int)=AM.cm l:=by
 rw[LM.jy] at h
 unfold LM.iU at h
 by_cases c:AM.aR l=0
 · rw[if_pos c] at h
   by_cases d:(decide ((hs.length:Int)=AM.sumTo l l.length)&&(LM.cV hs&&(LM.mr l hs hs.length&&LM.j4 l en)))=true
   · simp only[Bool.and_eq_true,decide_eq_true_eq] at d
     refine⟨c,d.2.1,?_⟩
     unfold AM.cm
     rw[if_pos c]
     exact d.1
   · rw[if_neg d] at h;cases h
 · rw[if_neg c] at h;exact absurd h c
def oC (l:List AM.Ar) (hs:List LM.Sh) (nf ns:Int):KM.Kn:=⟨hs,List.replicate nf.toNat KM.kY,List.replicate ns.toNat KM.sS,[⟨true,l,[]⟩],0⟩
def qO (l:List AM.Ar) (hs:List LM.Sh) (en nf ns:Int):KM.Kn×Int:=if LM.gF l hs en≠0 then (kN,LM.gF l hs en) else if nf<3 then (kN,9) else if nf>64∨ns<0∨ns>512 then (kN,3) else if AM.cm l>ns then (kN,8) else (oC l hs nf ns,0)
def zf (n:Nat):Array Value:=madeCells #[.string ⟨#[]⟩,I 0,.bool false,.bool false] (n*4)
def zl (n:Nat):Array Value:=madeCells #[.string ⟨#[]⟩,I 0] (n*2)
theorem XV:(Tryz.prog.info? 40).map (fun i=>(i.zero,i.size,i.bytes))=some (some (.agg #[.string ⟨#[]⟩,I 0,.bool false,.bool false]),4,32):=by kernel_rfl
theorem XU:(Tryz.prog.info? 86).map (fun i=>(i.zero,i.size,i.bytes))=some (some (.agg #[.string ⟨#[]⟩,I 0]),2,24):=by kernel_rfl
theorem mkF (V:World) (n:Int) (h0:0<=n) (hn:n<=1000):(Instr.makeSlice 23 (I n) (I n)).run Tryz.prog V=.ok (.slice (some (Ad V.heap.size 0)) n.toNat n.toNat) (V.alloc (.cells (zf n.toNat) 40)):=by
 obtain⟨i0,hi,hz0,hz1,hz2⟩:=info_parts XV
 have h:=run_make (P:=Tryz.prog) V 23 40 i0 _ Tryz.underlying23 hi hz0 .i64 .i64 n n h0 (Int.le_refl _) (by rw[hz2];omega) (by omega)
 rw[hz1] at h
 exact h
theorem mkL (V:World) (n:Int) (h0:0<=n) (hn:n<=1000):(Instr.makeSlice 24 (I n) (I n)).run Tryz.prog V=.ok (.slice (some (Ad V.heap.size 0)) n.toNat n.toNat) (V.alloc (.cells (zl n.toNat) 86)):=by
 obtain⟨i0,hi,hz0,hz1,hz2⟩:=info_parts XU
 have h:=run_make (P:=Tryz.prog) V 24 86 i0 _ Tryz.underlying24 hi hz0 .i64 .i64 n n h0 (Int.le_refl _) (by rw[hz2];omega) (by omega)
 rw[hz1] at h
 exact h
theorem Ce {α:Type} (x d:α) (n i:Nat) (hi:i<n):(List.replicate n x).getD i d=x:=by
 rw[List.getD_eq_getElem?_getD,List.getElem?_replicate,if_pos hi];rfl
theorem IY (c:Array Value) (n i j m:Nat) (hc:c.size=m) (hi:i<n) (hj:j<m):(madeCells c (n*m))[i*m+j]?=c[j]?:=by
 have h1:i*m+j<n*m:=by
  have:(i+1)*m<=n*m:=Nat.mul_le_mul_right m hi
  rw[Nat.add_mul,Nat.one_mul] at this
  omega
 have h2:(i*m+j)%m=j:=by rw[Nat.mul_comm,Nat.mul_add_mod,Nat.mod_eq_of_lt hj]
 have h3:j<c.size:=by omega
 unfold madeCells
 simp[h1,hc,h2]
 rw[getElem!_pos c j h3,Array.getElem?_eq_getElem h3]
theorem xm {W:World} {l:List AM.Ar} {hs:List LM.Sh} {nf ns:Nat} {va:Value} {ao:Option Addr} {cap fb sb pb:Nat} (ha:AW.Has W va l) (hh:LM.gT W ao hs) (hf:W.heap[fb]?=some (.cells (zf nf) 40 (0,0))) (hl:W.heap[sb]?=some (.cells (zl ns) 86 (0,0))) (hp:W.heap[pb]?=some (.cells #[.bool true,va,Nl] 43 (0,0))) :
  cI W ⟨ao,cap,some (Ad fb 0),nf,some (Ad sb 0),ns,some (Ad pb 0),1⟩ ⟨hs,List.replicate nf KM.kY,List.replicate ns KM.sS,[⟨true,l,[]⟩],0⟩:=by
 refine⟨hh,fun _=>⟨fb,0,rfl,B.isLt hf,fun i hi j hj=>?_⟩,fun _=>⟨sb,0,rfl,B.isLt hl,fun i hi j hj=>?_⟩,fun _=>⟨pb,0,rfl,B.isLt hp,fun i hi=>?_⟩⟩
 · rw[List.length_replicate] at hi
   rw[Ce _ _ _ _ hi]
   have e:=IY #[.string ⟨#[]⟩,I 0,.bool false,.bool false] nf i j 4 rfl hi hj
   rw[Nat.zero_add]
   match j,hj with
   | 0,_=>exact B.cell hf _ e
   | 1,_=>exact B.cell hf _ e
   | 2,_=>exact B.cell hf _ e
   | 3,_=>exact B.cell hf _ e
   | j+4,h=>exact absurd h (by omega)
 · rw[List.length_replicate] at hi
   rw[Ce _ _ _ _ hi]
   have e:=IY #[.string ⟨#[]⟩,I 0] ns i j 2 rfl hi hj
   rw[Nat.zero_add]
   match j,hj with
   | 0,_=>exact B.cell hl _ e
   | 1,_=>exact B.cell hl _ e
   | j+2,h=>exact absurd h (by omega)
 · obtain rfl:i=0:=by
    have:i<1:=hi
    omega
   exact⟨va,none,0,B.cell hp 0 rfl,B.cell hp 1 rfl,B.cell hp 2 rfl,ha,fun h=>absurd h (Nat.not_lt_zero _),Nat.le_refl _⟩
theorem qp {l:List AM.Ar} {hs:List LM.Sh} {en:Int} (h:LM.gF l hs en=0) (nf ns:Nat) (hf:nf<=1000) (hn:ns<=1000):Small ⟨hs,List.replicate nf KM.kY,List.replicate ns KM.sS,[⟨true,l,[]⟩],0⟩:=by
 obtain⟨h1,h2,h3⟩:=mE h
 have h4:=KW.iY l
 have h5:=AM.gQ _ h1
 refine⟨by show hs.length<=_;omega,fun i hi=>?_,by show(List.replicate nf KM.kY).length<=_;rw[List.length_replicate];omega,by show(List.replicate ns KM.sS).length<=_;rw[List.length_replicate];omega,by show 1<=1000000;omega,fun i hi=>?_,fun i hi=>?_⟩
 · have:=KY.xU h2 i hi
   show(LM.aW hs i).bh.length<=_
   omega
 · obtain rfl:i=0:=by
    have:i<1:=hi
    omega
   show l.length<=_
   omega
 · obtain rfl:i=0:=by
    have:i<1:=hi
    omega
   exact Nat.zero_le _
end KZ
end Go.Proofs.YtpgifpeohlllfaaGreat
