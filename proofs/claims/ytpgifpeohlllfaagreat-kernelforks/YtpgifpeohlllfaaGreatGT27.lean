import Derived.Test.YtpgifpeohlllfaaGreatGT26
set_option maxHeartbeats 20000000
set_option linter.unusedVariables false
set_option maxRecDepth 100000
set_option linter.unusedSimpArgs false
namespace Go.Proofs.YtpgifpeohlllfaaGreat
namespace KY
open Go.RowKit GK KO
open FW (ai aD)
open KW (bJ bI aK aZ fh cK aI dA bU kK eB cu iU)
open KS (Lc bw kM cD blk cJ)
open KX (vB)
def dQ (k:KM.Kn) (sp size way:Int) (ways:List Int):Int:=if cu k sp≠0 then cu k sp else if ¬(1<=size/\size<=8) then 3 else if way∈ways then 0 else 10
def pq (w:World) (k:KM.Kn) (e:Ending) (w':World):Prop:=∃mb S hs,e=.returned (.tuple #[.pointer (some (Ad mb 0)),I 0])/\KM.Same k.ak hs/\Km w.heap.size mb 104 (fB k) w' S (KM.aT k hs)/\Below w.heap.size w w'
theorem yL {w:World} {a:fh} {k:KM.Kn} {sp:Int} (h:Calls Tryz.prog 69 #[.agg (aI a k),I sp] w (iU w a k (cu k sp))) (hc:cu k sp≠0):Calls Tryz.prog 69 #[.agg (aI a k),I sp] w fun e w'=>e=.returned (.tuple #[.pointer none,I (cu k sp)])/\Below w.heap.size w w':=h.mono fun e w' ⟨hb,hh⟩=>by
 rcases hh with⟨h0,_⟩ | ⟨_,h1⟩
 · exact absurd h0 hc
 · exact⟨h1,hb⟩
theorem Jq {w:World} {a:fh} {k:KM.Kn} {sp:Int} (h:Calls Tryz.prog 69 #[.agg (aI a k),I sp] w (iU w a k (cu k sp))) (hc:cu k sp=0):Calls Tryz.prog 69 #[.agg (aI a k),I sp] w fun e w'=>∃mb,e=.returned (.tuple #[.pointer (some (Ad mb 0)),I 0])/\w.heap.size<=mb/\w'.heap[mb]?=some (.cells (kK a k) 104 (0,0))/\Below w.heap.size w w':=h.mono fun e w' ⟨hb,hh⟩=>by
 rcases hh with⟨_,mb,h1,h2,h3⟩ | ⟨h0,_⟩
 · exact⟨mb,h1,h2,h3,hb⟩
 · exact absurd hc h0
theorem gJ {k:KM.Kn} {sp:Int} (h:cu k sp=0):KM.aQ k/\0<=sp/\sp.toNat<k.aj.length/\(KM.au k.aj sp.toNat).live=true:=by
 unfold KW.cu at h;by_cases c:KM.dR k=0
 · rw[if_pos c] at h;by_cases d:0<=sp/\sp<(k.aj.length:Int)/\(KM.au k.aj sp.toNat).live=true
   · exact⟨(KM.kR k).1 c,d.1,by omega,d.2.2⟩
   · rw[if_neg d] at h;cases h
 · rw[if_neg c] at h;exact absurd h c
theorem vR (k:KM.Kn) (a:fh) (sp size way:Int) (ways:List Int) (aw:Option Addr) (cw:Nat) (w:World) (hK:cK w a k) (hF:eB k) (hsp:M.gu sp) (hw:aZ bU 1 0 w aw ways) (pN:ways.length<=1000000) (hc:dQ k sp size way ways≠0) :
  Calls Tryz.prog 51 #[.agg (aI a k),I sp,I size,I way,.slice aw ways.length cw] w fun e w'=>e=.returned (.tuple #[.pointer none,I (dQ k sp size way ways)])/\Below w.heap.size w w':=by
 have og:=ai (fun V (hV:Below w.heap.size w V)=>KW.qd k a sp V (hK.below hV) hF hsp);have QO:=ai (fun V (hV:Below w.heap.size w V)=>KW.n9 ways way aw cw V (hw.below hV) pN);have bR:=ai ((Below.refl w.heap.size w).alloc (Nat.le_refl _) (.cells (aI a k) 27));have KB:=ai (B.new w (aI a k) 27);obtain⟨C,hC⟩:=ex (dQ k sp size way ways);rw[<- hC] at hc ⊢;obtain⟨P,hP⟩:∃P:Ending->World->Prop,P=fun e w'=>e=.returned (.tuple #[.pointer none,I C])/\Below w.heap.size w w':=⟨_,rfl⟩
 have HE:Hid (∀V,Below w.heap.size w V->P (.returned (.tuple #[.pointer none,I C])) V):=fun V hV=>by rw[hP];exact⟨rfl,hV⟩
 rw[<- hP];clear hP;unfold dQ at hC;by_cases c1:cu k sp=0
 · rw[if_neg (fun x=>x c1)] at hC;have oh:=ai (fun V hV=>Jq (og.o V hV) c1);by_cases c2:1<=size/\size<=8
   · rw[if_neg (fun x=>x c2)] at hC;have c3:way∉ways:=fun x=>by rw[if_pos x] at hC;exact hc hC
     rw[if_neg c3] at hC;subst hC;rw[decide_eq_false c3] at QO;obtain⟨g1,g2⟩:=c2;clear og c1 c3 hK hF hsp hw hc;unfold aI at oh bR KB ⊢;go_enter Tryz.func51,Tryz.ntmps51;go_wp2_with (first
      | (go_at_call 69;refine(oh.o _ bR.o).mono ?_;rintro e w1 ⟨mb,rfl,jP,hm2,hb1⟩;have bE:=ai (aD bR.o hb1);clear hb1 hm2)
      | (go_at_call 95;refine(QO.o _ bE.o).mono ?_;rintro e w2 ⟨rfl,rfl⟩))
     exact HE.o _ bE.o
   · rw[if_pos c2] at hC;subst hC;clear og QO c1 hK hF hsp hw hc;unfold aI at oh bR KB ⊢;rcases(show size<1∨(1<=size/\8<size) by omega) with g | ⟨g1,g2⟩
     · go_enter Tryz.func51,Tryz.ntmps51;go_wp2_with (go_at_call 69;refine(oh.o _ bR.o).mono ?_;rintro e w1 ⟨mb,rfl,jP,hm2,hb1⟩;have bE:=ai (aD bR.o hb1);clear hb1 hm2)
       exact HE.o _ bE.o
     · have g3:¬size<1:=by omega
       go_enter Tryz.func51,Tryz.ntmps51;go_wp2_with (go_at_call 69;refine(oh.o _ bR.o).mono ?_;rintro e w1 ⟨mb,rfl,jP,hm2,hb1⟩;have bE:=ai (aD bR.o hb1);clear hb1 hm2)
       exact HE.o _ bE.o
 · rw[if_pos c1] at hC;have oh:=ai (fun V hV=>yL (og.o V hV) c1);rw[<- hC] at oh;have cb:(C != 0)=true:=by simpa using hc
   clear og QO c1 hK hF hsp hw hc hC;unfold aI at oh bR KB ⊢;go_enter Tryz.func51,Tryz.ntmps51;go_wp2_with (go_at_call 69;refine(oh.o _ bR.o).mono ?_;rintro e w1 ⟨rfl,hb1⟩;have bE:=ai (aD bR.o hb1);clear hb1)
   exact HE.o _ bE.o
theorem yM (uW:km) (k:KM.Kn) (a:fh) (sp size way:Int) (ways:List Int) (aw:Option Addr) (cw:Nat) (w:World) (hK:cK w a k) (hF:eB k) (hsp:M.gu sp) (hw:aZ bU 1 0 w aw ways) (pN:ways.length<=1000000) (hc:dQ k sp size way ways=0) :
  Calls Tryz.prog 51 #[.agg (aI a k),I sp,I size,I way,.slice aw ways.length cw] w (pq w k):=by
 have c1:cu k sp=0:=by
  unfold dQ at hc;by_cases c:cu k sp=0
  · exact c
  · rw[if_pos c] at hc;exact absurd hc c
 have c2:1<=size/\size<=8:=by
  unfold dQ at hc;rw[if_neg (fun x=>x c1)] at hc;by_cases c:1<=size/\size<=8
  · exact c
  · rw[if_pos c] at hc;cases hc
 have c3:way∈ways:=by
  unfold dQ at hc;rw[if_neg (fun x=>x c1),if_neg (fun x=>x c2)] at hc;by_cases c:way∈ways
  · exact c
  · rw[if_neg c] at hc;cases hc
 have hR:=(gJ c1).1;have hsm:=lG hR hF;have oh:=ai (fun V (hV:Below w.heap.size w V)=>Jq (KW.qd k a sp V (hK.below hV) hF hsp) c1);have QO:=ai (fun V (hV:Below w.heap.size w V)=>KW.n9 ways way aw cw V (hw.below hV) pN);rw[decide_eq_true c3] at QO;have bR:=ai ((Below.refl w.heap.size w).alloc (Nat.le_refl _) (.cells (aI a k) 27));have KB:=ai (B.new w (aI a k) 27);have HOW:Hid (∀V mb,Below w.heap.size w V->w.heap.size<=mb->V.heap[mb]?=some (.cells (kK a k) 104 (0,0))->Calls Tryz.prog 84 #[.pointer (some (Ad mb 0))] V fun e w'=>e=.returned (.tuple #[])/\pq w k (.returned (.tuple #[.pointer (some (Ad mb 0)),I 0])) w'):=fun V mb hV jP hm2=>(qG uW k a mb V (hK.below hV) hsm hm2 w.heap.size jP).mono fun e w' ⟨h1,S,hs,h2,h3,h4,h5⟩=>⟨h1,mb,S,hs,rfl,h2,h3,Kp.below hV h5 hV.size (fun b e=>by omega)⟩
 obtain⟨P,hP⟩:=ex (pq w k);rw[<- hP] at HOW ⊢;obtain⟨g1,g2⟩:=c2;clear c1 c3 hK hF hsp hw hc hR hsm hP;unfold aI at oh bR KB ⊢;go_enter Tryz.func51,Tryz.ntmps51;go_wp2_with (first
  | (go_at_call 69;refine(oh.o _ bR.o).mono ?_;rintro e w1 ⟨mb,rfl,jP,hm2,hb1⟩;have bE:=ai (aD bR.o hb1);have DZ:=ai hm2;have wY:Hid (w.heap.size<=mb):=(by simp at jP;exact Nat.le_trans (by omega) jP);clear hb1 hm2 jP)
  | (go_at_call 95;refine(QO.o _ bE.o).mono ?_;rintro e w2 ⟨rfl,rfl⟩)
  | (go_at_call 84;refine(HOW.o _ _ bE.o wY.o DZ.o).mono ?_;rintro e w3 ⟨rfl,hq⟩;have HQ:=ai hq;clear hq))
 exact HQ.o
end KY
namespace KZ
open Go.RowKit GK KO
open FW (ai aD)
open KW (bJ bI aK aZ fh cK aI dA bU kK eB cu iU)
open KS (Lc bw kM cD blk cJ)
open KX (vB Held ids)
open KY (km fB dQ pq)
def gK:KM.Kn:=⟨[],[],[],[],0⟩
def st0:St:=⟨fun _=>.no,Nl,Nl,Nl,Nl,[]⟩
def b6 (w:World) (k:KM.Kn) (vs:List Value) (e:Ending) (w':World):Prop:=∃S hs,KM.Same k.ak hs/\e=.returned (.tuple (Value.agg #[S.vS,S.vF,S.vL,S.vP,I k.hand]::vs).toArray)/\Kr w.heap.size w' S (KM.aT k hs)/\Below w.heap.size w w'
theorem Tg (lo:Nat) (w:World):Kr lo w st0 gK:=by
 refine⟨fun b hb=>absurd rfl hb,World.ownsRow_nil _ _ _ _,fun i hi=>?_,World.ownsRow_nil _ _ _ _,World.ownsRow_nil _ _ _ _,World.ownsRow_nil _ _ _ _,rfl,fun i hi=>?_,fun b hb=>?_,fun i hi=>?_,fun b hb=>?_,fun b hb=>?_,fun b hb=>?_,fun i hi=>?_,fun i hi=>?_⟩
 all_goals first | cases hb | cases hi
theorem iD {w w':World} (vs:List Value) (hb:Below w.heap.size w w'):b6 w gK vs (.returned (.tuple (Value.agg #[Nl,Nl,Nl,Nl,I 0]::vs).toArray)) w':=⟨st0,[],rfl,rfl,Tg _ _,hb⟩
theorem Cb {k:KM.Kn} {sp size way:Int} {ways:List Int} (h:dQ k sp size way ways=0):cu k sp=0/\(1<=size/\size<=8)/\way∈ways:=by
 unfold KY.dQ at h;by_cases c1:cu k sp=0
 · rw[if_neg (fun x=>x c1)] at h;by_cases c2:1<=size/\size<=8
   · rw[if_neg (fun x=>x c2)] at h;by_cases c3:way∈ways
     · exact⟨c1,c2,c3⟩
     · rw[if_neg c3] at h;cases h
   · rw[if_pos c2] at h;cases h
 · rw[if_pos c1] at h;exact absurd h c1
theorem GV {W:World} {rb fb:Nat} (hr:W.heap[rb]?=some (.cells #[Nl,Nl,Nl,Nl,I 0] 27 (0,0))) (hf:W.heap[fb]?=some (.cells #[I 0,I 0] 36 (0,0))) (hne:rb≠fb) (s f l p h x y:Value) {V:World} (hV:V=((((((W.setCell (Ad rb 0) s).setCell (Ad rb 1) f).setCell (Ad rb 2) l).setCell (Ad rb 3) p).setCell (Ad rb 4) h).setCell (Ad fb 0) x).setCell (Ad fb 1) y) :
  V.heap[rb]?=some (.cells #[s,f,l,p,h] 27 (0,0))/\V.heap[fb]?=some (.cells #[x,y] 36 (0,0))/\Kp (fun b=>b=rb∨b=fb) W V:=by
 have h1:(((((W.setCell (Ad rb 0) s).setCell (Ad rb 1) f).setCell (Ad rb 2) l).setCell (Ad rb 3) p).setCell (Ad rb 4) h).heap[rb]?=some (.cells #[s,f,l,p,h] 27 (0,0)):=B.set (B.set (B.set (B.set (B.set hr 0 s) 1 f) 2 l) 3 p) 4 h;have Pf:fb≠rb:=fun e=>hne e.symm
 have h2:=B.other (B.other (B.other (B.other (B.other hf rb 0 s Pf) rb 1 f Pf) rb 2 l Pf) rb 3 p Pf) rb 4 h Pf;subst hV;refine⟨B.other (B.other h1 fb 0 x hne) fb 1 y hne,B.set (B.set h2 0 x) 1 y,?_⟩;have k:∀(A:World) (g j:Nat) (v:Value),g=rb∨g=fb->Kp (fun b=>b=rb∨b=fb) A (A.setCell (Ad g j) v):=fun A g j v hg=>Kp.set _ A (Ad g j) v hg
 exact((((((k _ _ _ _ (.inl rfl)).trans (k _ _ _ _ (.inl rfl)) (fun _ _ g=>g)).trans (k _ _ _ _ (.inl rfl)) (fun _ _ g=>g)).trans (k _ _ _ _ (.inl rfl)) (fun _ _ g=>g)).trans (k _ _ _ _ (.inl rfl)) (fun _ _ g=>g)).trans (k _ _ _ _ (.inr rfl)) (fun _ _ g=>g)).trans (k _ _ _ _ (.inr rfl)) (fun _ _ g=>g)
end KZ
namespace KX
open Go.RowKit GK KO
open FW (ai aD)
open KW (bJ bI aK aZ fh cK aI dA bU dX)
open KS (Lc bw kM cD blk cJ)
theorem xK (l:List Nat):(ids l).length=l.length:=by unfold ids;rw[List.length_map]
theorem O0 (l:List Nat) (n:Nat) (hn:n<l.length):KW.Ho (ids l) n=((l.getD n 0:Nat):Int):=by
 unfold KW.Ho ids;rw[List.getD_eq_getElem?_getD,List.getElem?_map,List.getD_eq_getElem?_getD,List.getElem?_eq_getElem hn];rfl
theorem EY {lo mb:Nat} {tt:TypeId} {X:List Value} (k:KM.Kn) (S:St) (w:World) (l:List Nat) (av:Option Addr) (cv:Nat) (h:Km lo mb tt X w S k) (hH:Held w S av (ids l)) (hl:∀n,n<l.length->l.getD n 0<k.frames.length) (hll:l.length<=2) (hsz:∀n,n<l.length->(KM.aH k.frames (l.getD n 0)).data.size<=1000) (lj:0<k.frames.length) :
  Calls Tryz.prog 64 #[.pointer (some (Ad mb 0)),.slice av l.length cv] w fun e w'=>e=.returned (.string (KM.fH k.frames l l.length))/\w'=w:=by
 obtain⟨fb,cF,A⟩:=h.toKr.fr lj;have c1:=h.c1;rw[A.v] at c1;have HX:=ai A.x0;have HH:=ai hH.has;have HL:=ai hl;have HSZ:=ai hsz;have HJB:Hid (∀n,n<=l.length->(KM.fH k.frames l n).size<=n*1000):=fun n=>by
  induction n with
  | zero=>intro _;exact Nat.zero_le _
  | succ n ih =>
   intro hn;unfold KM.fH;rw[ByteArray.size_append];have:=ih (by omega);have:=hsz n (by omega);omega
 obtain⟨nf,E7⟩:=ex k.frames.length;rw[<- E7] at c1 HX HL;clear h hH A hl hsz lj E7;go_enter Tryz.func64,Tryz.ntmps64;go_wp2;go_loopw [5,10] (fun dv iv wr=>∃n:Nat,n<=l.length/\iv=I (n:Int)/\dv=.string (KM.fH k.frames l n)/\wr=w) (fun _ iv _=>l.length-(intOf iv).toNat)
 case atStart=>exact⟨0,by omega,rfl,rfl,rfl⟩
 case round =>
  obtain⟨n,hn,rfl,rfl,rfl⟩:=hrel;by_cases hlt:n<l.length
  · have hni:(n:Int)<(l.length:Int):=by omega
    have hjb:=HJB.o n hn;have hs1:=HSZ.o n hlt;obtain⟨eb,eo,hao,hbl,bN⟩:=HH.o (by rw[xK];omega);subst hao;have y0:=bN n (by rw[xK];exact hlt) 0 (by omega);rw[Nat.add_zero,Nat.mul_one] at y0;have e0:=O0 l n hlt;have x0:wr.cell? (Ad eb (eo+n))=some (I ((l.getD n 0:Nat):Int)):=by
     rw[<- e0];exact y0
    have hq:=HL.o n hlt;have xF:=HX.o (l.getD n 0) hq;have ju:Hid (KM.fH k.frames l (n+1)=KM.fH k.frames l n++(KM.aH k.frames (l.getD n 0)).data):=rfl;obtain⟨q,Zy⟩:=ex (l.getD n 0);rw[<- Zy] at x0 xF ju hq hs1;obtain⟨FD,Vu⟩:=ex ((KM.aH k.frames q).data);rw[<- Vu] at xF ju hs1;obtain⟨JD,Vs⟩:=ex (KM.fH k.frames l n);rw[<- Vs] at ju hjb ⊢;have hqi:(q:Int)<(nf:Int):=by omega
    clear bN y0 e0 Zy Vu Vs;go_wp2;go_roundw
    case rel=>exact⟨n+1,by omega,by go_num,by rw[ju.o],trivial⟩
    case measure=>simp[intOf];omega
  · obtain rfl:n=l.length:=by omega
    go_wp2;go_ret;exact⟨rfl,rfl⟩
theorem tF (k:KM.Kn) (l:List Nat) (s:ByteArray):∀n,(KM.iC k l s n).frames.length=k.frames.length
 | 0=>rfl
 | n+1=>by
  unfold KM.iC KM.xt;show(List.set _ _ _).length=_;rw[List.length_set,tF k l s n]
theorem N3 {lo mb:Nat} {tt:TypeId} {X:List Value} (k:KM.Kn) (S:St) (w:World) (l:List Nat) (s:ByteArray) (av:Option Addr) (cv:Nat) (h:Km lo mb tt X w S k) (hH:Held w S av (ids l)) (hl:∀n,n<l.length->l.getD n 0<k.frames.length) (hll:l.length<=2) (hs:l.length*16<=s.size) (hs2:s.size<=1000) (lj:0<k.frames.length) :
  Calls Tryz.prog 66 #[.pointer (some (Ad mb 0)),.slice av l.length cv,.string s] w (mn lo mb tt X w S (.tuple #[]) (KM.iC k l s l.length)):=by
 have HH:=ai hH;have HL:=ai hl;have xG:Hid (∀V n,n<l.length->Km lo mb tt X V S (KM.iC k l s n)->∃fb cF,¬mb=fb/\V.cell? (Ad mb 1)=some (.slice (some (Ad fb 0)) k.frames.length cF)/\(∀V',Below V.heap.size V V'->V'.cell? (Ad fb (l.getD n 0*4))=some (.string (KM.aH (KM.iC k l s n).frames (l.getD n 0)).data)/\V'.frozen? (Ad fb (l.getD n 0*4))=false/\Km lo mb tt X (V'.setCell (Ad fb (l.getD n 0*4)) (.string (s.extract (n*16) (n*16+16)))) S (KM.iC k l s (n+1))/\Ch S V S (V'.setCell (Ad fb (l.getD n 0*4)) (.string (s.extract (n*16) (n*16+16)))))):=fun V n hn hV=>by
  obtain⟨fb,cF,A⟩:=hV.toKr.fr (by rw[tF];exact lj);have c1:=hV.c1;rw[A.v,tF] at c1;refine⟨fb,cF,fun e=>by have:=A.lab;rw[<- e,hV.lH] at this;simp at this,c1,fun V' hb=>?_⟩;have hV':=hV.below hb;obtain⟨P7,YC,A'⟩:=hV'.toKr.fr (by rw[tF];exact lj);have e:P7=fb:=by
   have:=A'.v;rw[A.v] at this;injection this with e1 _ _;injection e1 with e1;injection e1 with e1 _ _;exact e1.symm
  subst e;have hi:l.getD n 0<(KM.iC k l s n).frames.length:=by rw[tF];exact hl n hn
  exact⟨A'.x0 _ hi,A'.fz _,hV'.rX A'.v hi (j:=0) (by omega) rfl,(Ch.below hb).trans (MZ hV'.toKr A'.v)⟩
 have Nb:Hid (∀V n,n<l.length->Calls Tryz.prog 63 #[.string s,I ((n:Int)*16),I 16] V fun e w'=>e=.returned (.tuple #[.string (s.extract (n*16) (n*16+16)),I 0])/\Below V.heap.size V w'):=fun V n hn=>by
  have:=CW.yI s (n*16) 16 V (by omega) (by omega);rw[show((n*16:Nat):Int)=(n:Int)*16 by omega,show((16:Nat):Int)=16 from rfl] at this;exact this
 have je:=ai h;have bB:Hid (∀V,Km lo mb tt X V S (KM.iC k l s l.length)->Ch S w S V->mn lo mb tt X w S (.tuple #[]) (KM.iC k l s l.length) (.returned (.tuple #[])) V):=fun V h1 h2=>⟨rfl,h1,h2⟩
 obtain⟨P,hP⟩:=ex (mn lo mb tt X w S (.tuple #[]) (KM.iC k l s l.length));rw[<- hP] at bB ⊢;obtain⟨nf,E7⟩:=ex k.frames.length;rw[<- E7] at xG HL;clear h hH hl lj E7 hs hs2 hP;go_enter Tryz.func66,Tryz.ntmps66;go_wp2;go_loopw [10] (fun iv wr=>∃n:Nat,n<=l.length/\iv=I (n:Int)/\Km lo mb tt X wr S (KM.iC k l s n)/\Ch S w S wr) (fun iv _=>l.length-(intOf iv).toNat)
 case atStart=>exact⟨0,by omega,rfl,je.o,Ch.refl _ _⟩
 case round =>
  obtain⟨n,hn,rfl,dG,hch⟩:=hrel;by_cases hlt:n<l.length
  · have hni:(n:Int)<(l.length:Int):=by omega
    have mO:=HH.o.ch hch;obtain⟨eb,eo,hao,hbl,bN⟩:=mO.has (by rw[xK];omega);subst hao;have y0:=bN n (by rw[xK];exact hlt) 0 (by omega);rw[Nat.add_zero,Nat.mul_one] at y0;have e0:=O0 l n hlt;have x0:wr.cell? (Ad eb (eo+n))=some (I ((l.getD n 0:Nat):Int)):=by
     rw[<- e0];exact y0
    have hq:=HL.o n hlt;obtain⟨fb,cF,Yw,c1,hwr⟩:=xG.o wr n hlt dG;have HWR:=ai hwr;have XB:=ai (fun V=>Nb.o V n hlt);have D4:=ai hch;obtain⟨q,Zy⟩:=ex (l.getD n 0);rw[<- Zy] at x0 hq HWR;obtain⟨FD,Vu⟩:=ex ((KM.aH (KM.iC k l s n).frames q).data);rw[<- Vu] at HWR;obtain⟨PD,hPD⟩:=ex (s.extract (n*16) (n*16+16));rw[<- hPD] at HWR XB;have hqi:(q:Int)<(nf:Int):=by omega
    have oJ:mb<wr.heap.size:=World.block_lt_of_cell? wr _ c1;have hmu:IntKind.i64.wrap ((n:Int)*16)=(n:Int)*16:=IntWalk.i64_in _ (by omega);clear bN y0 e0 Zy Vu hPD dG hch hwr mO je;go_upto_region 3 with fail;have je:=ai (Below.refl wr.heap.size wr).drew;have gG:Hid (wr.drew.cell? (Ad mb 1)=some (.slice (some (Ad fb 0)) nf cF)):=(je.o.cell (p:=(Ad mb 1)) oJ).trans c1
    go_region_held3 (fun V=>V.cell? (Ad mb 1)=some (.slice (some (Ad fb 0)) nf cF)) (first | exact ky.o | exact gG.o | exact HS4.o)
     ((go_at_call 63;refine(XB.o _).mono ?_;rintro r w5 ⟨rfl,wy⟩;have pQ:=ai (je.o.trans (wy.mono je.o.size));have ky:Hid (w5.cell? (Ad mb 1)=some (.slice (some (Ad fb 0)) nf cF)):=(pQ.o.cell (p:=(Ad mb 1)) oJ).trans c1;have HS4:Hid ((w5.setCell (Ad fb (q*4)) (.string PD)).cell? (Ad mb 1)=some (.slice (some (Ad fb 0)) nf cF)):=(cB _ _ _ _ _ _ Yw).trans ky.o;obtain⟨z0,z1,z2,z3⟩:=HWR.o w5 pQ.o;have uj:=ai z2;have HZ3:=ai z3;clear wy z2 z3))
    all_goals clear gG ky HS4 XB
    all_goals go_wp2
    go_roundw
    case rel=>exact⟨n+1,by omega,by go_num,uj.o,D4.o.trans HZ3.o⟩
    case measure=>simp[intOf];omega
  · obtain rfl:n=l.length:=by omega
    have HX:=ai (bB.o wr dG hch);clear dG hch;go_wp2
    first
     | exact HX.o
     | (refine bodyPost_end (v:=.tuple #[]) (by simp[results,Tryz.results66,go_sem]) rfl ?_;exact HX.o)
end KX
namespace KZ
open Go.RowKit GK KO
open FW (ai aD)
open KW (bJ bI aK aZ fh cK aI dA bU kK eB cu iU)
open KS (Lc bw kM cD blk cJ)
open KX (vB Held ids)
open KY (km fB dQ pq)
def fJ (k:KM.Kn) (sp:Int):KM.Kn×Int:=if cu k sp≠0 then (gK,cu k sp) else (KM.jM k sp.toNat,0)
theorem lI {W:World} {rb:Nat} (hr:W.heap[rb]?=some (.cells #[Nl,Nl,Nl,Nl,I 0] 27 (0,0))) (s f l p h:Value) {V:World} (hV:V=((((W.setCell (Ad rb 0) s).setCell (Ad rb 1) f).setCell (Ad rb 2) l).setCell (Ad rb 3) p).setCell (Ad rb 4) h) :
  V.heap[rb]?=some (.cells #[s,f,l,p,h] 27 (0,0))/\Kp (fun b=>b=rb) W V:=by
 subst hV;refine⟨B.set (B.set (B.set (B.set (B.set hr 0 s) 1 f) 2 l) 3 p) 4 h,?_⟩;have k:∀(A:World) (j:Nat) (v:Value),Kp (fun b=>b=rb) A (A.setCell (Ad rb j) v):=fun A j v=>Kp.set _ A (Ad rb j) v rfl
 exact((((k _ _ _).trans (k _ _ _) (fun _ _ g=>g)).trans (k _ _ _) (fun _ _ g=>g)).trans (k _ _ _) (fun _ _ g=>g)).trans (k _ _ _) (fun _ _ g=>g)
theorem Mm (e:KM.En) (w:World):Calls Tryz.prog 88 #[.agg #[I e.page,I e.kind,I e.loc]] w fun r w'=>r=.returned (.bool true)/\Below w.heap.size w w':=by
 go_enter Tryz.func88,Tryz.ntmps88;go_wp2;go_ret;exact⟨by simp,(Below.refl _ _).alloc (Nat.le_refl _) _⟩
theorem Qh (uW:km) (k:KM.Kn) (a:fh) (sp:Int) (w:World) (hK:cK w a k) (hF:eB k) (hsp:M.gu sp) :
  Calls Tryz.prog 40 #[.agg (aI a k),I sp] w (b6 w (fJ k sp).1 [I (fJ k sp).2]):=by
 obtain⟨WA,di⟩:=ex ((w.alloc (.cells (aI a k) 27)).alloc (.cells #[Nl,Nl,Nl,Nl,I 0] 27));have hb0:Below w.heap.size w WA:=by rw[di];exact((Below.refl _ _).alloc (Nat.le_refl _) _).alloc (by simp) _
 have kb:WA.heap[w.heap.size]?=some (.cells (aI a k) 27 (0,0)):=by rw[di];exact B.alloc (B.new w _ _) _
 have rb:WA.heap[w.heap.size+1]?=some (.cells #[Nl,Nl,Nl,Nl,I 0] 27 (0,0)):=by
  have:=B.new (w.alloc (.cells (aI a k) 27)) #[Nl,Nl,Nl,Nl,I 0] 27;rw[World.size_alloc] at this;rw[di];exact this
 have RB:Hid (∀V,Below WA.heap.size WA V->V.heap[w.heap.size+1]?=some (.cells #[Nl,Nl,Nl,Nl,I 0] 27 (0,0))):=fun V hb=>B.below rb hb (B.isLt rb)
 have k0:WA.cell? (Ad w.heap.size 0)=some (.slice a.aS k.ak.length a.cS):=B.cell kb 0 rfl;have k1:WA.cell? (Ad w.heap.size 1)=some (.slice a.aF k.frames.length a.cF):=B.cell kb 1 rfl;have k2:WA.cell? (Ad w.heap.size 2)=some (.slice a.aL k.slots.length a.cL):=B.cell kb 2 rfl;have k3:WA.cell? (Ad w.heap.size 3)=some (.slice a.aP k.aj.length a.cP):=B.cell kb 3 rfl;have k4:WA.cell? (Ad w.heap.size 4)=some (I k.hand):=B.cell kb 4 rfl;have eZ:=ai di;have bR:=ai hb0;have hrl:=B.isLt rb;have og:=ai (KW.qd k a sp WA (hK.below hb0) hF hsp);by_cases c:cu k sp=0
 · obtain⟨hR,qi,hj,gN⟩:=KY.gJ c;obtain⟨j,L4⟩:∃j:Nat,sp=(j:Int):=⟨sp.toNat,by omega⟩;subst L4;rw[Int.toNat_natCast] at hj gN;have hA:fJ k (j:Int)=(KM.jM k j,0):=by
    unfold fJ;rw[if_neg (fun x=>x c),Int.toNat_natCast]
   rw[hA];have hsm:=KY.lG hR hF;have HOW:Hid (∀V mb,Below WA.heap.size WA V->WA.heap.size<=mb->V.heap[mb]?=some (.cells (kK a k) 104 (0,0))->Calls Tryz.prog 84 #[.pointer (some (Ad mb 0))] V fun e w'=>e=.returned (.tuple #[])/\∃S hs,KM.Same k.ak hs/\Km WA.heap.size mb 104 (fB k) w' S (KM.aT k hs)/\Below WA.heap.size WA w'):=fun V mb hV jP hm2=>(KY.qG uW k a mb V (hK.below (hb0.trans (hV.mono hb0.size))) hsm hm2 WA.heap.size jP).mono fun e w' ⟨h1,S,hs,h2,h3,h4,h5⟩=>⟨h1,S,hs,h2,h3,Kp.below hV h5 hV.size (fun b e=>by omega)⟩
   have od:Hid (Calls Tryz.prog 69 #[.agg (aI a k),I (j:Int)] WA fun e w'=>∃mb,e=.returned (.tuple #[.pointer (some (Ad mb 0)),I 0])/\WA.heap.size<=mb/\w'.heap[mb]?=some (.cells (kK a k) 104 (0,0))/\Below WA.heap.size WA w'):=og.o.mono fun e w' ⟨h1,h2⟩=>by
    rcases h2 with⟨_,mb,e1,e2,e3⟩ | ⟨g,_⟩
    · exact⟨mb,e1,e2,e3,h1⟩
    · exact absurd c g
   have hsk:(KM.jM k j).ak=k.ak:=(KM.lO k j (fun _=>true)).1;have Sb:Hid (∀V S mb hs,KM.Same k.ak hs->Km WA.heap.size mb 104 (fB k) V S (KM.aT k hs)->Below WA.heap.size WA V->Calls Tryz.prog 87 #[.pointer (some (Ad mb 0)),I (j:Int),.func (.func 88) #[] #[]] V fun e w'=>∃aS nS cS aF nF cF aL nL cL pb nP cP hd va vp lv,e=.returned (.tuple #[])/\(w'.cell? (Ad mb 0)=some (.slice aS nS cS)/\w'.cell? (Ad mb 1)=some (.slice aF nF cF)/\w'.cell? (Ad mb 2)=some (.slice aL nL cL)/\w'.cell? (Ad mb 3)=some (.slice (some (Ad pb 0)) nP cP)/\w'.cell? (Ad mb 4)=some (I hd))/\(j:Int)<(nP:Int)/\¬mb=pb/\(w'.cell? (Ad pb (j*3))=some lv/\w'.cell? (Ad pb (j*3+1))=some va/\w'.cell? (Ad pb (j*3+2))=some vp)/\(w'.frozen? (Ad pb (j*3))=false/\w'.frozen? (Ad pb (j*3+1))=false/\w'.frozen? (Ad pb (j*3+2))=false)/\((((w'.setCell (Ad pb (j*3)) (.bool false)).setCell (Ad pb (j*3+1)) Nl).setCell (Ad pb (j*3+2)) Nl).heap[w.heap.size+1]?=some (.cells #[Nl,Nl,Nl,Nl,I 0] 27 (0,0)))/\(∀U,Kp (fun b=>b=w.heap.size+1) (((w'.setCell (Ad pb (j*3)) (.bool false)).setCell (Ad pb (j*3+1)) Nl).setCell (Ad pb (j*3+2)) Nl) U->b6 w (KM.jM k j) [I 0] (.returned (.tuple #[.agg #[.slice aS nS cS,.slice aF nF cF,.slice aL nL cL,.slice (some (Ad pb 0)) nP cP,I hd],I 0])) U)):=fun V S mb hs hsame hV Vp=>by
    refine(KX.zo 88 [] 0 (.inr (.inr ⟨rfl,rfl⟩)) (KM.aT k hs) S V j (fun _=>true) hV (hR.aT hsame) hj (fun V' e _=>Mm e V')).mono fun e w' ⟨e1,S',hk',hc'⟩=>?_
    rw[KM.tZ] at hk';have hjl:j<(KM.aT (KM.dK k j (fun _=>true)) hs).aj.length:=by
     show j<(KM.dK k j (fun _=>true)).aj.length;rw[KM.ll,List.length_set];exact hj
    obtain⟨pb,cP,A⟩:=hk'.toKr.sp (by omega);have hz:=hk'.zero hjl A.v;have tV:∀b,b<WA.heap.size->S.lab b=.no:=fun b hb=>Classical.not_not.1 fun x=>by have:=(hV.iJ b x).1;omega
    have hbl:Below WA.heap.size WA w':=Kp.below Vp hc'.kp Vp.size (fun b hb=>(hV.iJ b hb).1);have hzk:Km WA.heap.size mb 104 (fB k) (((w'.setCell (Ad pb (j*3)) (.bool false)).setCell (Ad pb (j*3+1)) Nl).setCell (Ad pb (j*3+2)) Nl) _ (KM.aT (KM.jM k j) hs):=hz.1;have hbz:Below WA.heap.size WA (((w'.setCell (Ad pb (j*3)) (.bool false)).setCell (Ad pb (j*3+1)) Nl).setCell (Ad pb (j*3+2)) Nl):=Kp.below hbl hz.2.kp hbl.size (fun b hb=>(hk'.iJ b hb).1);obtain⟨aS,nS,cS,eS⟩:∃b n d,S'.vS=.slice b n d:=by obtain⟨b,d,e,_⟩:=aN hk'.ak;exact⟨b,_,d,e⟩
    obtain⟨aF,nF,cF,eF⟩:∃b n d,S'.vF=.slice b n d:=by obtain⟨b,d,e,_⟩:=aN hk'.frames;exact⟨b,_,d,e⟩
    obtain⟨aL,nL,cL,eL⟩:∃b n d,S'.vL=.slice b n d:=by obtain⟨b,d,e,_⟩:=aN hk'.slots;exact⟨b,_,d,e⟩
    have c0:=hk'.c0;have c1:=hk'.c1;have c2:=hk'.c2;have c3:=hk'.c3;rw[eS] at c0;rw[eF] at c1;rw[eL] at c2;rw[A.v] at c3;have ek:Below w.heap.size w (((w'.setCell (Ad pb (j*3)) (.bool false)).setCell (Ad pb (j*3+1)) Nl).setCell (Ad pb (j*3+2)) Nl):=hb0.trans (hbz.mono hb0.size);refine⟨aS,nS,cS,aF,nF,cF,aL,nL,cL,pb,_,cP,_,_,_,_,e1,⟨c0,c1,c2,c3,hk'.c4⟩,by omega,fun e=>by have:=A.lab;rw[<- e,hk'.lH] at this;simp at this,⟨A.x0 j hjl,A.x1 j hjl,A.x2 j hjl⟩,⟨A.fz _,A.fz _,A.fz _⟩,RB.o _ hbz,fun U hU=>⟨_,hs,by rw[hsk];exact hsame,by rw[eS,eF,eL,A.v];rfl,(hzk.toKr.kp hU (fun b hb e=>by have:=(hzk.iJ b hb).1;omega)).mono hb0.size,Kp.below ek hU ek.size (fun b e=>by omega)⟩⟩
   obtain⟨P,hP⟩:=ex (b6 w (KM.jM k j) [I 0]);rw[<- hP] at Sb;show Calls _ _ _ _ (b6 w (KM.jM k j) [I 0]);rw[<- hP];unfold aI at od eZ ⊢;clear hK hF hsp hA c hP di hb0 kb rb og hR hj gN qi hsm hsk;go_enter Tryz.func40,Tryz.ntmps40;go_upto_region 1 with fail;rw[<- eZ.o];go_upto_region 6 with(first
    | (go_at_call 69;refine od.o.mono ?_;rintro e w1 ⟨mb,rfl,jP,hm2,hb1⟩;have wY:=ai jP;have DZ:=ai hm2;have bE:=ai hb1;clear jP hm2 hb1)
    | (go_at_call 84;refine(HOW.o _ _ bE.o wY.o DZ.o).mono ?_;rintro e w2 ⟨rfl,S,hs,hs2,hk2,hb2⟩;have iM:=ai hs2;have jd:=ai hk2;have cM:=ai hb2;clear hs2 hk2 hb2)
    | (go_at_call 87;refine(Sb.o _ _ _ _ iM.o jd.o cM.o).mono ?_;rintro e w3 ⟨aS,nS,cS,aF,nF,cF,aL,nL,cL,pb,nP,cP,hd,va,vp,lv,rfl,⟨p0,p1,p2,p3,p4⟩,hjn,hne,⟨x0,x1,x2⟩,⟨f0,f1,f2⟩,hr3,hfin⟩;have R3:=ai hr3;have kY:=ai hfin;clear hr3 hfin))
   go_upto_region 7 with fail;have o:∀i,(((w3.setCell (Ad pb (j*3)) (.bool false)).setCell (Ad pb (j*3+1)) Nl).setCell (Ad pb (j*3+2)) Nl).cell? (Ad mb i)=w3.cell? (Ad mb i):=fun i=>(cB _ _ _ _ _ _ hne).trans ((cB _ _ _ _ _ _ hne).trans (cB _ _ _ _ _ _ hne))
   have q0:=(o 0).trans p0;have q1:=(o 1).trans p1;have q2:=(o 2).trans p2;have q3:=(o 3).trans p3;have q4:=(o 4).trans p4;obtain⟨W3,hW3⟩:=ex ((((w3.setCell (Ad pb (j*3)) (.bool false)).setCell (Ad pb (j*3+1)) Nl).setCell (Ad pb (j*3+2)) Nl));rw[<- hW3] at q0 q1 q2 q3 q4 R3 kY ⊢;clear hW3 o p0 p1 p2 p3 p4 x0 x1 x2 f0 f1 f2;obtain⟨y0,y1,y2,y3,y4⟩:=B.c5 R3.o;have f0:=B.free R3.o 0;have f1:=B.free R3.o 1;have f2:=B.free R3.o 2;have f3:=B.free R3.o 3;have f4:=B.free R3.o 4;have h5:=ai (fun V=>lI R3.o (.slice aS nS cS) (.slice aF nF cF) (.slice aL nL cL) (.slice (some (Ad pb 0)) nP cP) (I hd) (V:=V));go_wp2;obtain⟨r1,r2⟩:=h5.out _ rfl;obtain⟨y0,y1,y2,y3,y4⟩:=B.c5 r1;refine bodyPost_ret (v:=.tuple #[.agg #[.slice aS nS cS,.slice aF nF cF,.slice aL nL cL,.slice (some (Ad pb 0)) nP cP,I hd],I 0]) (by simp[results,Tryz.results40,go_sem,y0,y1,y2,y3,y4]) rfl ?_;exact kY.o _ r2
 · have hA:fJ k sp=(gK,cu k sp):=by unfold fJ;rw[if_pos c]
   rw[hA];have Ab:=ai (KY.yL og.o c);obtain⟨C,hC⟩:=ex (cu k sp);rw[<- hC] at Ab c ⊢;have cb:(C != 0)=true:=by simpa using c
   have bB:Hid (∀V,Below w.heap.size w V->b6 w gK [I C] (.returned (.tuple #[.agg #[Nl,Nl,Nl,Nl,I 0],I C])) V):=fun V hV=>iD _ hV
   obtain⟨P,hP⟩:=ex (b6 w gK [I C]);rw[<- hP] at bB ⊢;unfold aI at Ab eZ ⊢;clear hK hF hsp hA hC c hP di hb0 kb rb og;go_enter Tryz.func40,Tryz.ntmps40;go_upto_region 1 with fail;rw[<- eZ.o];go_upto_region 3 with(go_at_call 69;refine Ab.o.mono ?_;rintro e w1 ⟨rfl,hb1⟩;have cM:=ai (bR.o.trans (hb1.mono bR.o.size));have R1:=ai (RB.o _ hb1);clear hb1)
   obtain⟨y0,y1,y2,y3,y4⟩:=B.c5 R1.o;have f0:=B.free R1.o 0;have f1:=B.free R1.o 1;have f2:=B.free R1.o 2;have f3:=B.free R1.o 3;have f4:=B.free R1.o 4;have h5:=ai (fun V=>lI R1.o Nl Nl Nl Nl (I 0) (V:=V));go_wp2;obtain⟨r1,r2⟩:=h5.out _ rfl;obtain⟨y0,y1,y2,y3,y4⟩:=B.c5 r1;refine bodyPost_ret (v:=.tuple #[.agg #[Nl,Nl,Nl,Nl,I 0],I C]) (by simp[results,Tryz.results40,go_sem,y0,y1,y2,y3,y4]) rfl ?_;exact bB.o _ (Kp.below cM.o r2 cM.o.size (fun b e=>by omega))
end KZ
namespace KZ
open Go.RowKit GK KO
open KW (bJ bI aK aZ fh cK aI eB)
open KY (Small)
theorem sN {l:List AM.Ar} {hs:List LM.Sh} {en:Int} (h:LM.mU l hs en=0):AM.aW l=0/\LM.dC hs=true/\(hs.length:Int)=AM.b7 l:=by
 rw[LM.kQ] at h;unfold LM.ki at h;by_cases c:AM.aW l=0
 · rw[if_pos c] at h;by_cases d:(decide ((hs.length:Int)=AM.sumTo l l.length)&&(LM.dC hs&&(LM.xu l hs hs.length&&LM.lU l en)))=true
   · simp only[Bool.and_eq_true,decide_eq_true_eq] at d;refine⟨c,d.2.1,?_⟩;unfold AM.b7;rw[if_pos c];exact d.1
   · rw[if_neg d] at h;cases h
 · rw[if_neg c] at h;exact absurd h c
def Hd (l:List AM.Ar) (hs:List LM.Sh) (nf ns:Int):KM.Kn:=⟨hs,List.replicate nf.toNat KM.mz,List.replicate ns.toNat KM.xe,[⟨true,l,[]⟩],0⟩
def He (l:List AM.Ar) (hs:List LM.Sh) (en nf ns:Int):KM.Kn×Int:=if LM.mU l hs en≠0 then (gK,LM.mU l hs en) else if nf<3 then (gK,9) else if nf>64∨ns<0∨ns>512 then (gK,3) else if AM.b7 l>ns then (gK,8) else (Hd l hs nf ns,0)
def zf (n:Nat):Array Value:=madeCells #[.string ⟨#[]⟩,I 0,.bool false,.bool false] (n*4)
def zl (n:Nat):Array Value:=madeCells #[.string ⟨#[]⟩,I 0] (n*2)
theorem Zk:(Tryz.prog.info? 40).map (fun i=>(i.zero,i.size,i.bytes))=some (some (.agg #[.string ⟨#[]⟩,I 0,.bool false,.bool false]),4,32):=by kernel_rfl
theorem Zj:(Tryz.prog.info? 86).map (fun i=>(i.zero,i.size,i.bytes))=some (some (.agg #[.string ⟨#[]⟩,I 0]),2,24):=by kernel_rfl
theorem mkF (V:World) (n:Int) (h0:0<=n) (hn:n<=1000):(Instr.makeSlice 23 (I n) (I n)).run Tryz.prog V=.ok (.slice (some (Ad V.heap.size 0)) n.toNat n.toNat) (V.alloc (.cells (zf n.toNat) 40)):=by
 obtain⟨i0,hi,hz0,hz1,hz2⟩:=info_parts Zk;have h:=run_make (P:=Tryz.prog) V 23 40 i0 _ Tryz.underlying23 hi hz0 .i64 .i64 n n h0 (Int.le_refl _) (by rw[hz2];omega) (by omega);rw[hz1] at h;exact h
theorem mkL (V:World) (n:Int) (h0:0<=n) (hn:n<=1000):(Instr.makeSlice 24 (I n) (I n)).run Tryz.prog V=.ok (.slice (some (Ad V.heap.size 0)) n.toNat n.toNat) (V.alloc (.cells (zl n.toNat) 86)):=by
 obtain⟨i0,hi,hz0,hz1,hz2⟩:=info_parts Zj;have h:=run_make (P:=Tryz.prog) V 24 86 i0 _ Tryz.underlying24 hi hz0 .i64 .i64 n n h0 (Int.le_refl _) (by rw[hz2];omega) (by omega);rw[hz1] at h;exact h
theorem NV {α:Type} (x d:α) (n i:Nat) (hi:i<n):(List.replicate n x).getD i d=x:=by
 rw[List.getD_eq_getElem?_getD,List.getElem?_replicate,if_pos hi];rfl
theorem Jy (c:Array Value) (n i j m:Nat) (hc:c.size=m) (hi:i<n) (hj:j<m):(madeCells c (n*m))[i*m+j]?=c[j]?:=by
 have h1:i*m+j<n*m:=by
  have:(i+1)*m<=n*m:=Nat.mul_le_mul_right m hi;rw[Nat.add_mul,Nat.one_mul] at this;omega
 have h2:(i*m+j)%m=j:=by rw[Nat.mul_comm,Nat.mul_add_mod,Nat.mod_eq_of_lt hj]
 have h3:j<c.size:=by omega
 unfold madeCells;simp[h1,hc,h2];rw[getElem!_pos c j h3,Array.getElem?_eq_getElem h3]
theorem Dd {W:World} {l:List AM.Ar} {hs:List LM.Sh} {nf ns:Nat} {va:Value} {ao:Option Addr} {cap fb sb pb:Nat} (ha:AW.Has W va l) (hh:LM.jb W ao hs) (hf:W.heap[fb]?=some (.cells (zf nf) 40 (0,0))) (hl:W.heap[sb]?=some (.cells (zl ns) 86 (0,0))) (hp:W.heap[pb]?=some (.cells #[.bool true,va,Nl] 43 (0,0))) :
  cK W ⟨ao,cap,some (Ad fb 0),nf,some (Ad sb 0),ns,some (Ad pb 0),1⟩ ⟨hs,List.replicate nf KM.mz,List.replicate ns KM.xe,[⟨true,l,[]⟩],0⟩:=by
 refine⟨hh,fun _=>⟨fb,0,rfl,B.isLt hf,fun i hi j hj=>?_⟩,fun _=>⟨sb,0,rfl,B.isLt hl,fun i hi j hj=>?_⟩,fun _=>⟨pb,0,rfl,B.isLt hp,fun i hi=>?_⟩⟩
 · rw[List.length_replicate] at hi;rw[NV _ _ _ _ hi];have e:=Jy #[.string ⟨#[]⟩,I 0,.bool false,.bool false] nf i j 4 rfl hi hj;rw[Nat.zero_add]
   match j,hj with
   | 0,_=>exact B.cell hf _ e
   | 1,_=>exact B.cell hf _ e
   | 2,_=>exact B.cell hf _ e
   | 3,_=>exact B.cell hf _ e
   | j+4,h=>exact absurd h (by omega)
 · rw[List.length_replicate] at hi;rw[NV _ _ _ _ hi];have e:=Jy #[.string ⟨#[]⟩,I 0] ns i j 2 rfl hi hj;rw[Nat.zero_add]
   match j,hj with
   | 0,_=>exact B.cell hl _ e
   | 1,_=>exact B.cell hl _ e
   | j+2,h=>exact absurd h (by omega)
 · obtain rfl:i=0:=by
    have:i<1:=hi;omega
   exact⟨va,none,0,B.cell hp 0 rfl,B.cell hp 1 rfl,B.cell hp 2 rfl,ha,fun h=>absurd h (Nat.not_lt_zero _),Nat.le_refl _⟩
theorem uO {l:List AM.Ar} {hs:List LM.Sh} {en:Int} (h:LM.mU l hs en=0) (nf ns:Nat) (hf:nf<=1000) (hn:ns<=1000):Small ⟨hs,List.replicate nf KM.mz,List.replicate ns KM.xe,[⟨true,l,[]⟩],0⟩:=by
 obtain⟨h1,h2,h3⟩:=sN h;have h4:=KW.jS l;have h5:=AM.gP _ h1;refine⟨by show hs.length<=_;omega,fun i hi=>?_,by show(List.replicate nf KM.mz).length<=_;rw[List.length_replicate];omega,by show(List.replicate ns KM.xe).length<=_;rw[List.length_replicate];omega,by show 1<=1000000;omega,fun i hi=>?_,fun i hi=>?_⟩
 · have:=KY.yz h2 i hi;show(LM.aY hs i).bg.length<=_;omega
 · obtain rfl:i=0:=by
    have:i<1:=hi;omega
   show l.length<=_;omega
 · obtain rfl:i=0:=by
    have:i<1:=hi;omega
   exact Nat.zero_le _
end KZ
end Go.Proofs.YtpgifpeohlllfaaGreat
