import Derived.Test.YtlgoihmkgaaemaaGreatGM14
import Derived.Deep.RegionHeld3
set_option maxHeartbeats 20000000
set_option linter.unusedVariables false
set_option maxRecDepth 100000
set_option linter.unusedSimpArgs false
namespace Go.Proofs.YtlgoihmkgaaemaaGreat
open Go.RowKit
structure zJ where
 lv:Bool
 va:Value
 vp:Value
def gK (l:zJ):List Value:=[.bool l.lv,l.va,l.vp]
def wS:zJ:=⟨false,Nl,Nl⟩
def fA (l:List zJ) (k:Nat):zJ:=l.getD k wS
def bW (v:Value) (b:Nat):Prop:=v.ownBlock=some b
structure mS (lo:Nat) (w:World) (l:zJ) (s:cV):Prop where
 live:l.lv=s.live
 aT:dV lo w l.va s.aT
 aO:w.ownsRow lo 174 3 l.vp s.bf.length (s.bf.flatMap bw)
theorem mS.kp {lo:Nat} {w w':World} {D:Nat->Prop} {l:zJ} {s:cV} (h:mS lo w l s) (hk:aC D w w') (ha:∀b,bW l.va b->¬D b) (hp:∀b,bW l.vp b->¬D b):mS lo w' l s:=⟨h.live,hk.row h.aT ha,hk.row h.aO hp⟩
theorem mS.mono {lo lo':Nat} {w:World} {l:zJ} {s:cV} (h:mS lo w l s) (hl:lo'<=lo):mS lo' w l s:=⟨h.live,h.aT.mono hl,nX h.aO (fun g hg=>gT hl (h.aO.lt g hg).1)⟩
theorem yV {α:Type} {w:World} (f:α->List Value) (k:Nat) (hf:∀x,(f x).length=k) (d:α) (l:List α) (b off:Nat) (h:∀i,i<l.length->∀j,j<k->w.cell? (Ad b (off+i*k+j))=(f (l.getD i d))[j]?):mO w (some (Ad b off)) l.length (l.flatMap f):=fun hm=>by
 refine⟨_,rfl,fun j u hu=>?_⟩;have hlt:j<l.length*k:=by
  grind [fT]
 have hk:0<k:=by
  grind
 have e:j=j/k*k+j%k:=by grind [Nat.div_add_mod]
 have h1:j/k<l.length:=(Nat.div_lt_iff_lt_mul hk).2 hlt
 grind [Nat.mod_lt,yj,Addr.add_lit]
theorem Sw {w:World} {ao:Option Addr} {n c:Nat} {l:List aX} (h:gu w (.slice ao n c) l):n=l.length/\mO w ao n (cO l):=by
 obtain⟨XK,cap,e,h⟩:=h;injection e with e1 e2 e3;subst e1 e2 e3;refine⟨rfl,fun hm=>?_⟩;rcases h with h | ⟨b,off,rfl,hl⟩
 · grind
 · have:=yV (w:=w) oM 4 (fun _=>rfl) xp l b off (fun i hi j hj=>by
    obtain⟨c0,c1,c2,c3⟩:=hl i hi
    match j,hj with
    | 0,_=>exact c0
    | 1,_=>exact c1
    | 2,_=>exact c2
    | 3,_=>exact c3)
   have e:cO l=l.flatMap oM:=by
    clear this hl hm;induction l with
    | nil=>rfl
    | cons a r ih=>rw[nM,<- ih];rfl
   rw[e];exact this hm
theorem Sv {w:World} {ap:Option Addr} {l:List bC} (h:dW bw 3 gY w ap l):mO w ap l.length (l.flatMap bw):=fun hm=>by
 obtain⟨b,off,rfl,hb,hl⟩:=h hm;exact yV (w:=w) bw 3 (fun _=>rfl) gY l b off (fun i hi j hj=>hl i hi j hj) hm
theorem tF:∀(l:List bC),∀u∈l.flatMap bw,u.oneCell'=true:=fun l u hu=>by
 obtain⟨y,_,hy⟩:=vg.1 hu;simp[bw] at hy;rcases hy with rfl | rfl | rfl <;> rfl
def YF (w:World) (s:cV) (e:Ending) (w':World):Prop:=∃va vp,e=.returned (.agg #[.bool s.live,va,vp])/\mS w.heap.size w' ⟨s.live,va,vp⟩ s/\(∀b,bW vp b->¬bW va b)/\Below w.heap.size w w'
theorem H4 (s:cV) (aa ap:Option Addr) (na ca cp:Nat) (w:World) (ha:gu w (.slice aa na ca) s.aT) (hp:dW bw 3 gY w ap s.bf) (qV:s.aT.length<=1000000) (Ak:s.bf.length<=1000000) :
  Calls Tryz.prog 135 #[.agg #[.bool s.live,.slice aa na ca,.slice ap s.bf.length cp]] w (YF w s):=by
 obtain⟨hn,hfa⟩:=Sw ha;have ES:=ai hfa;have Ha:=ai (Sv hp);obtain⟨lv,wC,pgs⟩:=s;simp only at hn ES Ha qV Ak ⊢;subst hn;have HLA:=ai (yI wC);have HLP:=ai (fT bw 3 (fun _=>rfl) pgs);have H1A:=ai (xt wC);have H1P:=ai (tF pgs);have dm:Hid (∀va vp (w':World),dV w.heap.size w' va wC->w'.ownsRow w.heap.size 174 3 vp pgs.length (pgs.flatMap bw)->(∀b,bW vp b->¬bW va b)->Below w.heap.size w w'->YF w ⟨lv,wC,pgs⟩ (.returned (.agg #[.bool lv,va,vp])) w'):=fun va vp w' h1 h2 h3 h4=>⟨va,vp,rfl,⟨rfl,h1,h2⟩,h3,h4⟩
 obtain⟨XA,hXA⟩:=ex (cO wC);obtain⟨XP,hXP⟩:=ex (pgs.flatMap bw);unfold dV at dm;rw[<- hXA] at ES HLA H1A dm;rw[<- hXP] at Ha HLP H1P dm;obtain⟨na,akV⟩:=ex wC.length;obtain⟨np,akT⟩:=ex pgs.length;rw[<- akV] at ES HLA dm qV ⊢;rw[<- akT] at Ha HLP dm Ak ⊢;clear hfa ha hp hXA hXP akV akT;have gG:=ai (((aJ w.heap.size w).alloc (aH _) (.cells #[.bool lv,.slice aa na ca,.slice ap np cp] 99)).alloc (by simp) (.cells #[.bool false,Nl,Nl] 99));have X0:=ai (bl (bD w #[.bool lv,.slice aa na ca,.slice ap np cp] 99) (.cells #[.bool false,Nl,Nl] 99));have Y0:Hid (((w.alloc (.cells #[.bool lv,.slice aa na ca,.slice ap np cp] 99)).alloc (.cells #[.bool false,Nl,Nl] 99)).heap[w.heap.size+1]?=some (.cells #[.bool false,Nl,Nl] 99 (0,0))):=by
  grind [World.alloc]
 go_enter Tryz.func135,Tryz.ntmps135;go_wp2;obtain⟨WA,mj⟩:=ex ((w.alloc (.cells #[.bool lv,.slice aa na ca,.slice ap np cp] 99)).alloc (.cells #[.bool false,Nl,Nl] 99));rw[<- mj] at gG X0 Y0 ⊢;clear mj;have Om:=ai gG.o;obtain⟨xb,LM⟩:=ex w.heap.size;rw[<- LM] at X0 Y0 gG dm ⊢;have SX:=ai LM;clear LM;have HS:Hid (∀V,Below WA.heap.size WA V->V.cell? (Ad xb 0)=some (.bool lv)/\V.cell? (Ad xb 1)=some (.slice aa na ca)/\V.cell? (Ad xb 2)=some (.slice ap np cp)):=fun V hb=>by
  grind [aN,aq,Hid.o]
 have HCA:Hid (∀V,Below WA.heap.size WA V->Calls Tryz.prog 71 #[.slice aa na ca] V fun e w'=>∃a c,e=.returned (.slice a na c)/\w'.ownsRow V.heap.size 139 4 (.slice a na c) na XA/\Below V.heap.size V w'):=fun V hV=>(abU aa na ca XA V HLA.o (ES.o.below (Om.o.trans (hV.mono Om.o.size))) H1A.o qV).mono fun e w' ⟨v,h1,h2,h3⟩=>by
   obtain⟨a,c,rfl,_⟩:=bh h2
   grind
 have HCP:Hid (∀V,Below WA.heap.size WA V->Calls Tryz.prog 188 #[.slice ap np cp] V fun e w'=>∃a c,e=.returned (.slice a np c)/\w'.ownsRow V.heap.size 174 3 (.slice a np c) np XP/\Below V.heap.size V w'):=fun V hV=>(abT ap np cp XP V HLP.o (Ha.o.below (Om.o.trans (hV.mono Om.o.size))) H1P.o Ak).mono fun e w' ⟨v,h1,h2,h3⟩=>by
   obtain⟨a,c,rfl,_⟩:=bh h2
   grind
 have Ze:Hid (∀V:World,(V.cell? (Ad xb 0)=some (.bool lv)/\V.cell? (Ad xb 1)=some (.slice aa na ca)/\V.cell? (Ad xb 2)=some (.slice ap np cp))->∀v0 v1 v2,(((V.setCell (Ad (xb+1) 0) v0).setCell (Ad (xb+1) 1) v1).setCell (Ad (xb+1) 2) v2).cell? (Ad xb 0)=some (.bool lv)/\(((V.setCell (Ad (xb+1) 0) v0).setCell (Ad (xb+1) 1) v1).setCell (Ad (xb+1) 2) v2).cell? (Ad xb 1)=some (.slice aa na ca)/\(((V.setCell (Ad (xb+1) 0) v0).setCell (Ad (xb+1) 1) v1).setCell (Ad (xb+1) 2) v2).cell? (Ad xb 2)=some (.slice ap np cp)):=fun V ⟨h0,h1,h2⟩ v0 v1 v2=>by
  have hne:xb≠xb+1:=by omega
  rw[b7 _ _ _ _ _ _ hne,b7 _ _ _ _ _ _ hne,b7 _ _ _ _ _ _ hne,b7 _ _ _ _ _ _ hne,b7 _ _ _ _ _ _ hne,b7 _ _ _ _ _ _ hne,b7 _ _ _ _ _ _ hne,b7 _ _ _ _ _ _ hne,b7 _ _ _ _ _ _ hne];omega
 have tM:=ai (aJ WA.heap.size WA).drew;have oh:=ai (HS.o _ tM.o)
 go_region_held3 (fun V=>V.cell? (Ad xb 0)=some (.bool lv)/\V.cell? (Ad xb 1)=some (.slice aa na ca)/\V.cell? (Ad xb 2)=some (.slice ap np cp)) (first | exact si.o | exact rJ.o | exact oh.o | exact S6.o _ _ _)
  (first
   | (go_at_call 71;refine(HCA.o _ tM.o).mono ?_;rintro e w2 ⟨a2,c2,rfl,hr2,hb2⟩;have pM:=ai (tM.o.trans (hb2.mono tM.o.size));have rJ:=ai (HS.o _ pM.o);have CK:=ai hr2;clear hb2 hr2)
   | (go_at_call 188;refine(HCP.o _ pM.o).mono ?_;rintro e w3 ⟨a3,c3,rfl,hr3,hb3⟩;have Bg:=ai (pM.o.trans (hb3.mono pM.o.size));have si:=ai (HS.o _ Bg.o);have Z8:=ai hr3;have m7:=ai hb3;have y0:w3.cell? (Ad (xb+1) 0)=some (.bool false):=aq (aN Y0.o Bg.o (aI Y0.o)) 0 rfl;have z0:w3.frozen? (Ad (xb+1) 0)=false:=aQ (aN Y0.o Bg.o (aI Y0.o)) 0;have y1:w3.cell? (Ad (xb+1) 1)=some Nl:=aq (aN Y0.o Bg.o (aI Y0.o)) 1 rfl;have z1:w3.frozen? (Ad (xb+1) 1)=false:=aQ (aN Y0.o Bg.o (aI Y0.o)) 1;have y2:w3.cell? (Ad (xb+1) 2)=some Nl:=aq (aN Y0.o Bg.o (aI Y0.o)) 2 rfl;have z2:w3.frozen? (Ad (xb+1) 2)=false:=aQ (aN Y0.o Bg.o (aI Y0.o)) 2;have S6:=ai (fun v0 v1 v2=>Ze.o w3 si.o v0 v1 v2);clear hb3 hr3))
 all_goals clear S6 Ze HS oh rJ si HCA HCP
 all_goals go_wp2
 · refine bK (v:=.agg #[.bool lv,.slice a2 na c2,.slice a3 np c3]) (by simp[results,Tryz.results135,go_sem,y0,y1,y2]) rfl ?_;have k3:aC (fun b=>b=xb+1) w3 _:=xh w3 (xb+1) 0 1 2 (.bool lv) (.slice a2 na c2) (.slice a3 np c3) rfl;have l1:=aI Y0.o;have l3:=pM.o.size;have hx:=SX.o;have e2:∀g,(Value.slice a2 na c2).ownBlock=some g->WA.heap.size<=g/\g<w2.heap.size:=fun g hg=>CK.o.lt g hg
   have e3:∀g,(Value.slice a3 np c3).ownBlock=some g->w2.heap.size<=g/\g<w3.heap.size:=fun g hg=>Z8.o.lt g hg
   have r2:=(aC.bY (D:=fun _=>False) m7.o).row CK.o (fun _ _ g=>g);refine dm.o _ _ _ (k3.row (nX r2 (fun g hg=>by grind)) (fun g hg e=>by grind)) (k3.row (nX Z8.o (fun g hg=>by grind)) (fun g hg e=>by grind)) (fun b h1 h2=>by have:=e2 b h2;have:=e3 b h1;omega) ?_;exact aC.below (gG.o.trans (Bg.o.mono (by omega))) k3 (by have:=Bg.o.size;omega) (fun b e=>by omega)
open Go.RowKit
def ni (s:bG):List Value:=[I s.page,.string s.data,.slice s.ao s.eO.length s.cap]
def qd (f:mI):List Value:=[I f.off,.string f.bytes]
def acI (s:bG):Value:=.slice s.ao s.eO.length s.cap
inductive oN where
 | no | head | frames | slots | aj | aM
 | aT (i:Nat)
 | bf (i:Nat)
 | eO (i:Nat)
structure gB where
 lab:Nat->oN
 vS:Value
 vF:Value
 vL:Value
 vP:Value
 L:List zJ
structure Kr (lo:Nat) (w:World) (S:gB) (k:aR):Prop where
 yq:∀b,S.lab b≠.no->lo<=b/\b<w.heap.size
 aM:w.ownsRow lo 145 3 S.vS k.aM.length (k.aM.flatMap ni)
 eO:∀i,i<k.aM.length->w.ownsRow lo 226 2 (acI (bu k.aM i)) (bu k.aM i).eO.length ((bu k.aM i).eO.flatMap qd)
 frames:w.ownsRow lo 169 4 S.vF k.frames.length (k.frames.flatMap iT)
 slots:w.ownsRow lo 171 2 S.vL k.slots.length (k.slots.flatMap iQ)
 aj:w.ownsRow lo 99 3 S.vP S.L.length (S.L.flatMap gK)
 len:S.L.length=k.aj.length
 each:∀i,i<k.aj.length->mS lo w (fA S.L i) (ak k.aj i)
 lS:∀b,bW S.vS b->S.lab b=.aM
 lX:∀i,i<k.aM.length->∀b,bW (acI (bu k.aM i)) b->S.lab b=.eO i
 lF:∀b,bW S.vF b->S.lab b=.frames
 lL:∀b,bW S.vL b->S.lab b=.slots
 lP:∀b,bW S.vP b->S.lab b=.aj
 lA:∀i,i<k.aj.length->∀b,bW (fA S.L i).va b->S.lab b=.aT i
 lE:∀i,i<k.aj.length->∀b,bW (fA S.L i).vp b->S.lab b=.bf i
structure bH (lo mb:Nat) (tt:TypeId) (X:List Value) (w:World) (S:gB) (k:aR):Prop extends Kr lo w S k where
 head:w.heap[mb]?=some (.cells ([S.vS,S.vF,S.vL,S.vP,I k.hand]++X).toArray tt (0,0))
 lH:S.lab mb=.head
structure cI (S:gB) (w:World) (S':gB) (w':World):Prop where
 kp:aC (fun b=>S.lab b≠.no) w w'
 no:∀b,b<w.heap.size->S.lab b=.no->S'.lab b=.no
 eS:S'.vS=S.vS
 eF:S'.vF=S.vF
 eL:S'.vL=S.vL
 eP:S'.vP=S.vP
theorem cI.refl (S:gB) (w:World):cI S w S w:=⟨aC.refl _ _,fun _ _ h=>h,rfl,rfl,rfl,rfl⟩
theorem cI.trans {S S1 S2:gB} {w w1 w2:World} (h:cI S w S1 w1) (g:cI S1 w1 S2 w2):cI S w S2 w2 :=
 ⟨⟨g.kp.os.trans h.kp.os,g.kp.tape.trans h.kp.tape,g.kp.output.trans h.kp.output,gT h.kp.size g.kp.size,fun b hb hn=>by
  have hb1:=fV hb h.kp.size;have hn0:S.lab b=.no:=yM.1 hn;have TG:=h.no b hb hn0;exact(g.kp.block b hb1 (fun x=>x TG)).trans (h.kp.block b hb hn)⟩,fun b hb hn=>g.no b (fV hb h.kp.size) (h.no b hb hn),g.eS.trans h.eS,g.eF.trans h.eF,g.eL.trans h.eL,g.eP.trans h.eP⟩
theorem cI.below {S:gB} {w w':World} (h:Below w.heap.size w w'):cI S w S w':=⟨aC.bY h,fun _ _ h=>h,rfl,rfl,rfl,rfl⟩
theorem cI.set {S:gB} {w:World} {g j:Nat} {u:Value} (h:S.lab g≠.no):cI S w S (w.setCell (Ad g j) u):=⟨aC.set _ _ _ _ h,fun _ _ h=>h,rfl,rfl,rfl,rfl⟩
theorem cI.keep {S S':gB} {w w':World} {b:Nat} {o:Obj} (h:cI S w S' w') (hb:w.heap[b]?=some o) (hn:S.lab b=.no):w'.heap[b]?=some o:=h.kp.keep hb (fun x=>x hn)
theorem Kr.kp {lo:Nat} {w w':World} {S:gB} {k:aR} {E:Nat->Prop} (h:Kr lo w S k) (hk:aC E w w') (he:∀b,S.lab b≠.no->¬E b):Kr lo w' S k:=by
 have z:∀{b:Nat} {c:oN},S.lab b=c->c≠.no->¬E b:=fun e hc=>he _ (by grind)
 exact⟨fun b hb=>⟨(h.yq b hb).1,fV (h.yq b hb).2 hk.size⟩,hk.row h.aM (fun b hb=>z (h.lS b hb) (by simp)),fun i hi=>hk.row (h.eO i hi) (fun b hb=>z (h.lX i hi b hb) (by simp)),hk.row h.frames (fun b hb=>z (h.lF b hb) (by simp)),hk.row h.slots (fun b hb=>z (h.lL b hb) (by simp)),hk.row h.aj (fun b hb=>z (h.lP b hb) (by simp)),h.len,fun i hi=>(h.each i hi).kp hk (fun b hb=>z (h.lA i hi b hb) (by simp)) (fun b hb=>z (h.lE i hi b hb) (by simp)),h.lS,h.lX,h.lF,h.lL,h.lP,h.lA,h.lE⟩
theorem Kr.below {lo:Nat} {w w':World} {S:gB} {k:aR} (h:Kr lo w S k) (hb:Below w.heap.size w w'):Kr lo w' S k:=h.kp (aC.bY (D:=fun _=>False) hb) (fun _ _ g=>g)
theorem Kr.mono {lo lo':Nat} {w:World} {S:gB} {k:aR} (h:Kr lo w S k) (hl:lo'<=lo):Kr lo' w S k:=by
 have z:∀{e:TypeId} {n m:Nat} {v:Value} {xs:List Value},w.ownsRow lo e n v m xs->w.ownsRow lo' e n v m xs:=fun hr=>nX hr (fun g hg=>gT hl (hr.lt g hg).1)
 exact⟨fun b hb=>⟨gT hl (h.yq b hb).1,(h.yq b hb).2⟩,z h.aM,fun i hi=>z (h.eO i hi),z h.frames,z h.slots,z h.aj,h.len,fun i hi=>(h.each i hi).mono hl,h.lS,h.lX,h.lF,h.lL,h.lP,h.lA,h.lE⟩
theorem bH.below {lo mb:Nat} {tt:TypeId} {X:List Value} {w w':World} {S:gB} {k:aR} (h:bH lo mb tt X w S k) (hb:Below w.heap.size w w'):bH lo mb tt X w' S k:=⟨h.toKr.below hb,aN h.head hb (aI h.head),h.lH⟩
theorem bH.kp {lo mb:Nat} {tt:TypeId} {X:List Value} {w w':World} {S:gB} {k:aR} {E:Nat->Prop} (h:bH lo mb tt X w S k) (hk:aC E w w') (he:∀b,S.lab b≠.no->¬E b):bH lo mb tt X w' S k:=⟨h.toKr.kp hk he,hk.keep h.head (he mb (by grind [lH])),h.lH⟩
theorem Kr.new {lo:Nat} {w:World} {S:gB} {k:aR} (h:Kr lo w S k) {b:Nat} (hb:w.heap.size<=b):S.lab b=.no:=yM.1 fun x=>by have:=(h.yq b x).2;omega
theorem ov {α:Type} {w:World} {base:Nat} {e:TypeId} {k:Nat} (f:α->List Value) (hf:∀x,(f x).length=k) (d:α) {l:List α} {v:Value} (hr:w.ownsRow base e k v l.length (l.flatMap f)):∃ao cap,v=.slice ao l.length cap/\l.length<=cap/\dW f k d w ao l:=by
 obtain⟨ao,cap,rfl,hle,hg⟩:=bh hr;refine⟨ao,cap,rfl,hle,fun hl=>?_⟩;obtain⟨g,rfl,hg1,hg2⟩:=hg hl;exact⟨g,0,rfl,hg2,fun i hi j hj=>by grind [jY]⟩
theorem Kr.aoP {lo:Nat} {w:World} {S:gB} {k:aR} (h:Kr lo w S k):∃ao cap,S.vS=.slice ao k.aM.length cap/\k.aM.length<=cap/\jn w ao k.aM:=by
 obtain⟨ao,cap,e,hc,hr⟩:=ov ni (fun _=>rfl) Bv h.aM;refine⟨ao,cap,e,hc,fun hl=>?_⟩;obtain⟨b,off,e1,hb,hi⟩:=hr hl;refine⟨b,off,e1,hb,fun i hlt=>⟨?_,hi i hlt 1 (by omega),hi i hlt 2 (by omega),fun hx=>?_⟩⟩
 · have:=hi i hlt 0 (by omega);rw[mA] at this;exact this
 · obtain⟨ax,cx,ex,_,hrx⟩:=ov qd (fun _=>rfl) Qi (h.eO i hlt);injection ex with e1 e2 e3;rw[e1];obtain⟨b2,aiA,g1,g2,g3⟩:=hrx hx;refine⟨b2,aiA,g1,g2,fun n hn=>⟨?_,g3 n hn 1 (by omega)⟩⟩;have:=g3 n hn 0 (by omega);rw[mA] at this;exact this
theorem Kr.aoO {lo:Nat} {w:World} {S:gB} {k:aR} (h:Kr lo w S k):∃ao cap,S.vP=.slice ao k.aj.length cap/\k.aj.length<=cap/\zI w ao k.aj:=by
 obtain⟨ao,cap,e,hc,hr⟩:=ov gK (fun _=>rfl) wS h.aj;rw[h.len] at e hc;refine⟨ao,cap,e,hc,fun hl=>?_⟩;obtain⟨b,off,e1,hb,hi⟩:=hr (by grind [len]);refine⟨b,off,e1,hb,fun i hlt=>?_⟩;have hlt':i<S.L.length:=by grind [len]
 have hs:=h.each i hlt;obtain⟨ap,cp,hvp,hlp,hgp⟩:=ov bw (fun _=>rfl) gY hs.aO;have c0:=hi i hlt' 0 (by omega);have c1:=hi i hlt' 1 (by omega);have c2:=hi i hlt' 2 (by omega);rw[mA] at c0;refine⟨(fA S.L i).va,ap,cp,?_,c1,?_,hs.aT.has,hgp,hlp⟩
 · rw[<- hs.live];exact c0
 · rw[<- hvp];exact c2
structure adB (S:gB) (k:aR) (a:ja):Prop where
 eS:S.vS=.slice a.aS k.aM.length a.cS
 eF:S.vF=.slice a.aF k.frames.length a.cF
 eL:S.vL=.slice a.aL k.slots.length a.cL
 eP:S.vP=.slice a.aP k.aj.length a.cP
theorem Kr.has {lo:Nat} {w:World} {S:gB} {k:aR} (h:Kr lo w S k):∃a,adB S k a/\jo w a k:=by
 obtain⟨aS,cS,eS,_,hS⟩:=h.aoP;obtain⟨aP,cP,eP,_,hP⟩:=h.aoO;obtain⟨aF,cF,eF,_,hF⟩:=ov iT (fun _=>rfl) gM h.frames;obtain⟨aL,cL,eL,_,hL⟩:=ov iQ (fun _=>rfl) nR h.slots;exact⟨⟨aS,cS,aF,cF,aL,cL,aP,cP⟩,⟨eS,eF,eL,eP⟩,⟨hS,hF,hL,hP⟩⟩
theorem Kr.LQ {lo:Nat} {w:World} {S:gB} {k:aR} (h:Kr lo w S k) {g n cap:Nat} (hv:S.vF=.slice (some (Ad g 0)) n cap) {i j:Nat} (hi:i<k.frames.length) (hj:j<4) {f:lK} {u:Value} (e:iT f=(iT (aD k.frames i)).set j u) :
  Kr lo (w.setCell (Ad g (i*4+j)) u) S { k with frames:=k.frames.set i f }:=by
 have hk:aC (fun b=>b=g) w (w.setCell (Ad g (i*4+j)) u):=aC.set _ _ _ _ rfl;have hg:S.lab g=.frames:=h.lF g (by rw[hv];rfl);have z:∀{b:Nat} {c:oN},S.lab b=c->c≠.frames->¬b=g:=fun e hc x=>hc (by grind)
 have hn:n=k.frames.length:=by
  obtain⟨ao,c,e,_⟩:=bh h.frames
  grind
 subst hn;have hr:=h.frames;rw[hv] at hr;refine⟨fun b hb=>⟨(h.yq b hb).1,fV (h.yq b hb).2 hk.size⟩,hk.row h.aM (fun b hb=>z (h.lS b hb) (by simp)),fun i hi=>hk.row (h.eO i hi) (fun b hb=>z (h.lX i hi b hb) (by simp)),?_,hk.row h.slots (fun b hb=>z (h.lL b hb) (by simp)),hk.row h.aj (fun b hb=>z (h.lP b hb) (by simp)),h.len,fun i hi=>(h.each i hi).kp hk (fun b hb=>z (h.lA i hi b hb) (by simp)) (fun b hb=>z (h.lE i hi b hb) (by simp)),h.lS,h.lX,h.lF,h.lL,h.lP,h.lA,h.lE⟩;have:=eZ hr (i*4+j) u;show World.ownsRow _ lo _ 4 S.vF (k.frames.set i f).length _;rw[fC,hv,kE iT 4 (fun _=>rfl) gM f j u hj k.frames i hi e];omega
theorem Kr.aez {lo:Nat} {w:World} {S:gB} {k:aR} (h:Kr lo w S k) {g n cap:Nat} (hv:S.vL=.slice (some (Ad g 0)) n cap) {i j:Nat} (hi:i<k.slots.length) (hj:j<2) {f:oO} {u:Value} (e:iQ f=(iQ (bE k.slots i)).set j u) :
  Kr lo (w.setCell (Ad g (i*2+j)) u) S { k with slots:=k.slots.set i f }:=by
 have hk:aC (fun b=>b=g) w (w.setCell (Ad g (i*2+j)) u):=aC.set _ _ _ _ rfl;have hg:S.lab g=.slots:=h.lL g (by rw[hv];rfl);have z:∀{b:Nat} {c:oN},S.lab b=c->c≠.slots->¬b=g:=fun e hc x=>hc (by grind)
 have hn:n=k.slots.length:=by
  obtain⟨ao,c,e,_⟩:=bh h.slots
  grind
 subst hn;have hr:=h.slots;rw[hv] at hr;refine⟨fun b hb=>⟨(h.yq b hb).1,fV (h.yq b hb).2 hk.size⟩,hk.row h.aM (fun b hb=>z (h.lS b hb) (by simp)),fun i hi=>hk.row (h.eO i hi) (fun b hb=>z (h.lX i hi b hb) (by simp)),hk.row h.frames (fun b hb=>z (h.lF b hb) (by simp)),?_,hk.row h.aj (fun b hb=>z (h.lP b hb) (by simp)),h.len,fun i hi=>(h.each i hi).kp hk (fun b hb=>z (h.lA i hi b hb) (by simp)) (fun b hb=>z (h.lE i hi b hb) (by simp)),h.lS,h.lX,h.lF,h.lL,h.lP,h.lA,h.lE⟩;have:=eZ hr (i*2+j) u;show World.ownsRow _ lo _ 2 S.vL (k.slots.set i f).length _;rw[fC,hv,kE iQ 2 (fun _=>rfl) nR f j u hj k.slots i hi e];omega
theorem Kr.turn {lo:Nat} {w w2:World} {S:gB} {k:aR} (h:Kr lo w S k) {j:Nat} (hj:j<k.aj.length) {l:zJ} {s:cV} {lab':Nat->oN}
  (hk:aC (fun b=>S.lab b=.bf j∨S.lab b=.aj∨S.lab b=.aT j) w w2) (hrow:w2.ownsRow lo 99 3 S.vP S.L.length ((S.L.set j l).flatMap gK)) (hs:mS lo w2 l s)
  (hb:∀b,lab' b≠.no->lo<=b/\b<w2.heap.size) (hlab:∀b c,S.lab b=c->c≠.no->c≠.aT j->c≠.bf j->lab' b=c) (hA:∀b,bW l.va b->lab' b=.aT j) (hE:∀b,bW l.vp b->lab' b=.bf j) :
  Kr lo w2 ⟨lab',S.vS,S.vF,S.vL,S.vP,S.L.set j l⟩ { k with aj:=k.aj.set j s }:=by
 have z:∀{b:Nat} {c:oN},S.lab b=c->c≠.bf j->c≠.aj->c≠.aT j->¬(S.lab b=.bf j∨S.lab b=.aj∨S.lab b=.aT j):=fun e h1 h2 h3 x=>by
  grind
 have hLl:(S.L.set j l).length=S.L.length:=fC;have hl:=h.len;have at_:∀i,i<k.aj.length->fA (S.L.set j l) i=if j=i then l else fA S.L i:=fun i hi=>by
  grind [fA]
 refine⟨hb,hk.row h.aM (fun b hb=>z (h.lS b hb) (by simp) (by simp) (by simp)),fun i hi=>hk.row (h.eO i hi) (fun b hb=>z (h.lX i hi b hb) (by simp) (by simp) (by simp)),hk.row h.frames (fun b hb=>z (h.lF b hb) (by simp) (by simp) (by simp)),hk.row h.slots (fun b hb=>z (h.lL b hb) (by simp) (by simp) (by simp)),?_,?_,?_,fun b hb=>hlab b _ (h.lS b hb) (by simp) (by simp) (by simp),fun i hi b hb=>hlab b _ (h.lX i hi b hb) (by simp) (by simp) (by simp),fun b hb=>hlab b _ (h.lF b hb) (by simp) (by simp) (by simp),fun b hb=>hlab b _ (h.lL b hb) (by simp) (by simp) (by simp),fun b hb=>hlab b _ (h.lP b hb) (by simp) (by simp) (by simp),?_,?_⟩
 · grind
 · grind
 · intro i hi;have hi:i<k.aj.length:=by grind
   show mS lo w2 (fA (S.L.set j l) i) (ak (k.aj.set j s) i);rw[at_ i hi,iC _ _ _ _ hj];by_cases c:j=i
   · grind
   · rw[au c,au c];exact(h.each i hi).kp hk (fun b hb=>z (h.lA i hi b hb) (by simp) (by simp) (by grind)) (fun b hb=>z (h.lE i hi b hb) (by grind) (by simp) (by simp))
 · grind [lA]
 grind [lE]
open Go.RowKit
variable {lo mb:Nat} {tt:TypeId} {X:List Value} {w:World} {S:gB} {k:aR}
theorem M9 (h:bH lo mb tt X w S k) {g j:Nat} {u:Value} {c:oN} (hg:S.lab g=c) (hc:c≠.head):(w.setCell (Ad g j) u).heap[mb]?=some (.cells ([S.vS,S.vF,S.vL,S.vP,I k.hand]++X).toArray tt (0,0)) :=
 mh h.head g j u (fun e=>hc (by grind [bH.lH]))
theorem bH.LQ (h:bH lo mb tt X w S k) {g n cap:Nat} (hv:S.vF=.slice (some (Ad g 0)) n cap) {i j:Nat} (hi:i<k.frames.length) (hj:j<4) {f:lK} {u:Value} (e:iT f=(iT (aD k.frames i)).set j u) :
  bH lo mb tt X (w.setCell (Ad g (i*4+j)) u) S { k with frames:=k.frames.set i f }:=⟨h.toKr.LQ hv hi hj e,M9 h (h.lF g (by rw[hv];rfl)) (by simp),h.lH⟩
theorem bH.aez (h:bH lo mb tt X w S k) {g n cap:Nat} (hv:S.vL=.slice (some (Ad g 0)) n cap) {i j:Nat} (hi:i<k.slots.length) (hj:j<2) {f:oO} {u:Value} (e:iQ f=(iQ (bE k.slots i)).set j u) :
  bH lo mb tt X (w.setCell (Ad g (i*2+j)) u) S { k with slots:=k.slots.set i f }:=⟨h.toKr.aez hv hi hj e,M9 h (h.lL g (by rw[hv];rfl)) (by simp),h.lH⟩
theorem zK (h:Kr lo w S k) {g n cap:Nat} (hv:S.vF=.slice (some (Ad g 0)) n cap) {V:World} {i:Nat} {u:Value}:cI S V S (V.setCell (Ad g i) u):=cI.set (by rw[h.lF g (by rw[hv];rfl)];simp)
theorem aa5 (h:Kr lo w S k) {g n cap:Nat} (hv:S.vL=.slice (some (Ad g 0)) n cap) {V:World} {i:Nat} {u:Value}:cI S V S (V.setCell (Ad g i) u):=cI.set (by rw[h.lL g (by rw[hv];rfl)];simp)
theorem bH.aeC (h:bH lo mb tt X w S k) {g n cap:Nat} (hv:S.vF=.slice (some (Ad g 0)) n cap) {i:Nat} (hi:i<k.frames.length) (f:lK) :
  bH lo mb tt X ((((w.setCell (Ad g (i*4)) (.string f.data)).setCell (Ad g (i*4+1)) (I f.refs)).setCell (Ad g (i*4+2)) (.bool f.jw)).setCell (Ad g (i*4+3)) (.bool f.seen)) S { k with frames:=k.frames.set i f } /\
  cI S w S ((((w.setCell (Ad g (i*4)) (.string f.data)).setCell (Ad g (i*4+1)) (I f.refs)).setCell (Ad g (i*4+2)) (.bool f.jw)).setCell (Ad g (i*4+3)) (.bool f.seen)):=by
 have h1:=h.LQ hv hi (j:=0) (by omega) (f:=⟨f.data,(aD k.frames i).refs,(aD k.frames i).jw,(aD k.frames i).seen⟩) (u:=.string f.data) rfl;have h2:=h1.LQ hv (i:=i) (by grind) (j:=1) (by omega) (f:=⟨f.data,f.refs,(aD k.frames i).jw,(aD k.frames i).seen⟩) (u:=I f.refs) (by simp only[aD,eI _ _ _ _ hi];rfl);have h3:=h2.LQ hv (i:=i) (by grind) (j:=2) (by omega) (f:=⟨f.data,f.refs,f.jw,(aD k.frames i).seen⟩) (u:=.bool f.jw) (by simp only[aD,pQ,eI _ _ _ _ hi];rfl);have h4:=h3.LQ hv (i:=i) (by grind) (j:=3) (by omega) (f:=f) (u:=.bool f.seen) (by simp only[aD,pQ,eI _ _ _ _ hi];rfl);simp only[pQ] at h4;exact⟨h4,(((zK h.toKr hv).trans (zK h.toKr hv)).trans (zK h.toKr hv)).trans (zK h.toKr hv)⟩
theorem bH.akx (h:bH lo mb tt X w S k) {g n cap:Nat} (hv:S.vL=.slice (some (Ad g 0)) n cap) {i:Nat} (hi:i<k.slots.length) (f:oO) :
  bH lo mb tt X ((w.setCell (Ad g (i*2)) (.string f.data)).setCell (Ad g (i*2+1)) (I f.refs)) S { k with slots:=k.slots.set i f } /\
  cI S w S ((w.setCell (Ad g (i*2)) (.string f.data)).setCell (Ad g (i*2+1)) (I f.refs)):=by
 have h1:=h.aez hv hi (j:=0) (by omega) (f:=⟨f.data,(bE k.slots i).refs⟩) (u:=.string f.data) rfl;have h2:=h1.aez hv (i:=i) (by grind) (j:=1) (by omega) (f:=f) (u:=I f.refs) (by simp only[bE,eI _ _ _ _ hi];rfl);simp only[pQ] at h2;exact⟨h2,(aa5 h.toKr hv).trans (aa5 h.toKr hv)⟩
theorem bH.agD (h:bH lo mb tt X w S k) (x:Int):bH lo mb tt X (w.setCell (Ad mb 4) (I x)) S { k with hand:=x }/\cI S w S (w.setCell (Ad mb 4) (I x)):=by
 have hk:aC (fun b=>b=mb) w (w.setCell (Ad mb 4) (I x)):=aC.set _ _ _ _ rfl;have z:∀{b:Nat} {c:oN},S.lab b=c->c≠.head->¬b=mb:=fun e hc x=>hc (by grind [lH])
 refine⟨⟨⟨fun b hb=>⟨(h.yq b hb).1,fV (h.yq b hb).2 hk.size⟩,hk.row h.aM (fun b hb=>z (h.lS b hb) (by simp)),fun i hi=>hk.row (h.eO i hi) (fun b hb=>z (h.lX i hi b hb) (by simp)),hk.row h.frames (fun b hb=>z (h.lF b hb) (by simp)),hk.row h.slots (fun b hb=>z (h.lL b hb) (by simp)),hk.row h.aj (fun b hb=>z (h.lP b hb) (by simp)),h.len,fun i hi=>(h.each i hi).kp hk (fun b hb=>z (h.lA i hi b hb) (by simp)) (fun b hb=>z (h.lE i hi b hb) (by simp)),h.lS,h.lX,h.lF,h.lL,h.lP,h.lA,h.lE⟩,?_,h.lH⟩,cI.set (by grind)⟩;rw[fF h.head 4 (I x)];simp
theorem bH.turn {w2:World} (h:bH lo mb tt X w S k) {j:Nat} (hj:j<k.aj.length) {l:zJ} {s:cV} {lab':Nat->oN}
  (hk:aC (fun b=>S.lab b=.bf j∨S.lab b=.aj∨S.lab b=.aT j) w w2) (hrow:w2.ownsRow lo 99 3 S.vP S.L.length ((S.L.set j l).flatMap gK)) (hs:mS lo w2 l s)
  (hb:∀b,lab' b≠.no->lo<=b/\b<w2.heap.size) (hlab:∀b c,S.lab b=c->c≠.no->c≠.aT j->c≠.bf j->lab' b=c) (hA:∀b,bW l.va b->lab' b=.aT j) (hE:∀b,bW l.vp b->lab' b=.bf j) :
  bH lo mb tt X w2 ⟨lab',S.vS,S.vF,S.vL,S.vP,S.L.set j l⟩ { k with aj:=k.aj.set j s } :=
 ⟨h.toKr.turn hj hk hrow hs hb hlab hA hE,hk.keep h.head (fun x=>by grind [lH]),hlab mb _ h.lH (by simp) (by simp) (by simp)⟩
theorem Qv (L:List zJ) (j:Nat):L.set j (fA L j)=L:=by
 grind [fA,List.set_getElem_self,List.set_eq_of_length_le]
theorem bH.aeA (h:bH lo mb tt X w S k) {j:Nat} (hj:j<k.aj.length) {g n cap:Nat} (hv:(fA S.L j).vp=.slice (some (Ad g 0)) n cap) {i c:Nat} (hi:i<(ak k.aj j).bf.length) (hc:c<3) {e:bC} {u:Value} (he:bw e=(bw (aV (ak k.aj j).bf i)).set c u) :
  bH lo mb tt X (w.setCell (Ad g (i*3+c)) u) S { k with aj:=k.aj.set j (dU (ak k.aj j) ((ak k.aj j).bf.set i e)) }/\cI S w S (w.setCell (Ad g (i*3+c)) u):=by
 have hgl:S.lab g=.bf j:=h.lE j hj g (by rw[hv];rfl);have hk:aC (fun b=>b=g) w (w.setCell (Ad g (i*3+c)) u):=aC.set _ _ _ _ rfl;have z:∀{b:Nat} {c:oN},S.lab b=c->c≠.bf j->¬b=g:=fun e hc x=>hc (by grind)
 have hs:=h.each j hj;have hn:n=(ak k.aj j).bf.length:=by
  obtain⟨ao,c,e,_⟩:=bh hs.aO
  grind
 subst hn;have hr:=hs.aO;rw[hv] at hr;refine⟨?_,cI.set (by grind)⟩;have:=h.turn (w2:=w.setCell (Ad g (i*3+c)) u) hj (l:=fA S.L j) (s:=dU (ak k.aj j) ((ak k.aj j).bf.set i e)) (lab':=S.lab) (hk.mono (fun b _ e=>.inl (by grind))) (by rw[Qv];exact hk.row h.aj (fun b hb=>z (h.lP b hb) (by simp))) ⟨hs.live,hk.row hs.aT (fun b hb=>z (h.lA j hj b hb) (by simp)),?_⟩ (fun b hb=>⟨(h.yq b hb).1,fV (h.yq b hb).2 hk.size⟩) (fun b c e _ _ _=>e) (fun b hb=>h.lA j hj b hb) (fun b hb=>h.lE j hj b hb)
 · simp_all [Qv]
 · have r2:=eZ hr (i*3+c) u;show World.ownsRow _ lo _ 3 (fA S.L j).vp ((ak k.aj j).bf.set i e).length (((ak k.aj j).bf.set i e).flatMap bw);rw[fC,hv,kE bw 3 (fun _=>rfl) gY e c u hc _ i hi he];exact r2
def AV (S:gB) (j:Nat) (v:Value):Nat->oN:=fun b=>if v.ownBlock=some b then .bf j else S.lab b
def KE (S:gB) (j:Nat) (v:Value):Nat->oN:=fun b=>if v.ownBlock=some b then .aT j else S.lab b
theorem bH.ahW {w1:World} (h:bH lo mb tt X w S k) {j:Nat} (hj:j<k.aj.length) {v:Value} {es:List bC} {pb n cap:Nat} (hP:S.vP=.slice (some (Ad pb 0)) n cap)
  (hk:aC (fun b=>S.lab b=.bf j) w w1) (hr:w1.ownsRow lo 174 3 v es.length (es.flatMap bw)) (hat:∀b,bW v b->S.lab b=.bf j∨S.lab b=.no) :
  bH lo mb tt X (w1.setCell (Ad pb (j*3+2)) v) ⟨AV S j v,S.vS,S.vF,S.vL,S.vP,S.L.set j ⟨(fA S.L j).lv,(fA S.L j).va,v⟩⟩ { k with aj:=k.aj.set j (dU (ak k.aj j) es) } /\
  ((∀b,b<w.heap.size->bW v b->S.lab b=.bf j)->cI S w ⟨AV S j v,S.vS,S.vF,S.vL,S.vP,S.L.set j ⟨(fA S.L j).lv,(fA S.L j).va,v⟩⟩ (w1.setCell (Ad pb (j*3+2)) v)):=by
 have hpl:S.lab pb=.aj:=h.lP pb (by rw[hP];rfl);have rK:aC (fun b=>b=pb) w1 (w1.setCell (Ad pb (j*3+2)) v):=aC.set _ _ _ _ rfl;have hs:=h.each j hj;have hl:=h.len;have hrl:∀b,bW v b->lo<=b/\b<w1.heap.size:=fun b hb=>hr.lt b hb
 have hlab:∀b c,S.lab b=c->c≠.no->c≠.bf j->AV S j v b=c:=fun b c e h1 h2=>by
  unfold AV;rw[au,e];intro x;rcases hat b x with y | y
  · grind
  grind
 have hn:n=S.L.length:=by
  obtain⟨ao,c,e,_⟩:=bh h.aj
  grind
 subst hn;have hr1:=hk.row h.aj (fun b hb e=>by rw[h.lP b hb] at e;simp at e);rw[hP] at hr1;have hr2:=eZ hr1 (j*3+2) v;rw[<- kE gK 3 (fun _=>rfl) wS ⟨(fA S.L j).lv,(fA S.L j).va,v⟩ 2 v (by omega) S.L j (by omega) rfl] at hr2;have hsz:=gT hk.size rK.size;refine⟨h.turn hj (l:=⟨(fA S.L j).lv,(fA S.L j).va,v⟩) (s:=dU (ak k.aj j) es) (lab':=AV S j v) ((hk.mono (D1:=fun b=>S.lab b=.bf j∨S.lab b=.aj∨S.lab b=.aT j) (fun b _ e=>.inl e)).trans rK (fun b _ e=>.inr (.inl (by grind)))) (by grind) ⟨hs.live,?_,?_⟩ ?_ (fun b c e h1 _ h3=>hlab b c e h1 h3) (fun b hb=>hlab b _ (h.lA j hj b hb) (by simp) (by simp)) (fun b hb=>aB hb),fun hold=>⟨?_,?_,rfl,rfl,rfl,rfl⟩⟩
 · exact rK.row (hk.row hs.aT (fun b hb e=>by rw[h.lA j hj b hb] at e;simp at e)) (fun b hb e=>by have:=h.lA j hj b hb;grind)
 · exact rK.row hr (fun b hb e=>by
    subst e;rcases hat b hb with y | y <;> · grind)
 · intro b hb;unfold AV at hb;by_cases c:v.ownBlock=some b
   · exact⟨(hrl b c).1,fV (hrl b c).2 rK.size⟩
   · rw[au c] at hb;exact⟨(h.yq b hb).1,fV (h.yq b hb).2 hsz⟩
 · exact(hk.mono (fun b _ e=>by grind)).trans rK (fun b _ e=>by grind)
 · intro b hb hno;show AV S j v b=.no;unfold AV;rw[au,hno];intro x;have:=hold b hb x
   grind
open Go.RowKit
variable {lo mb:Nat} {tt:TypeId} {X:List Value} {w:World} {S:gB} {k:aR}
theorem DJ (L:List zJ) (l:zJ) (k:Nat):fA (L++[l]) k=if k<L.length then fA L k else if k=L.length then l else wS:=by
 grind [fA]
def vJ (S:gB) (v:Value) (l:zJ):Nat->oN:=fun b=>if v.ownBlock=some b then .aj else if l.va.ownBlock=some b then .aT S.L.length else if l.vp.ownBlock=some b then .bf S.L.length else S.lab b
theorem bH.push {w2 w4:World} {v':Value} {l:zJ} {s:cV} {O:Obj} (h:bH lo mb tt X w S k) (hlo:lo<=w.heap.size) (hb2:Below w.heap.size w w2)
  (hso:mS w.heap.size w2 l s) (hne:∀b,bW l.vp b->¬bW l.va b) (hgr:(w2.alloc O).grownBy w4 S.vP.ownBlock) (hown:w4.ownsRow lo 99 3 v' (S.L.length+1) (S.L.flatMap gK++gK l))
  (hat:v'.ownBlock=S.vP.ownBlock∨v'.ownBlock=some (w2.alloc O).heap.size) :
  bH lo mb tt X (w4.setCell (Ad mb 3) v') ⟨vJ S v' l,S.vS,S.vF,S.vL,v',S.L++[l]⟩ { k with aj:=k.aj++[s] }/\(∀b,b<w.heap.size->S.lab b=.no->vJ S v' l b=.no)/\aC (fun b=>S.lab b≠.no) w (w4.setCell (Ad mb 3) v'):=by
 have s1:=hb2.size;have s2:=hgr.size;have hz:(w2.alloc O).heap.size=w2.heap.size+1:=fM _ _;rw[hz] at s2 hat
 have kA:aC (bW S.vP) w w2:=aC.bY hb2;have kB:aC (bW S.vP) w2 (w2.alloc O):=aC.alloc _ w2 O;have kC:aC (bW S.vP) (w2.alloc O) w4:=aC.grown hgr (fun _ e=>e);have kD:=kA.trans (kB.trans kC (fun _ _ g=>g)) (fun _ _ g=>g);have rK:aC (fun b=>b=mb) w4 (w4.setCell (Ad mb 3) v'):=aC.set _ _ _ _ rfl;have eA:∀b,bW l.va b∨bW l.vp b->w.heap.size<=b/\b<w2.heap.size:=fun b hb=>by
  rcases hb with g | g
  · exact hso.aT.lt b g
  · exact hso.aO.lt b g
 have hvb:∀b,bW S.vP b->b<w.heap.size:=fun b hb=>(h.aj.lt b hb).2
 have hv4:∀b,bW v' b->bW S.vP b∨b=w2.heap.size+1:=fun b hb=>by
  grind [bW]
 have hmb:=aI h.head;have old:∀b c,S.lab b=c->c≠.no->c≠.aj->vJ S v' l b=c:=fun b c e h1 h2=>by
  have hb:=(h.yq b (by grind)).2;unfold vJ;rw[au,au,au,e]
  · intro x;have:=eA b (.inr x);omega
  · intro x;have:=eA b (.inl x);omega
  · intro x;rcases hv4 b x with g | g
    · exact h2 (by rw[<- e];exact h.lP b g)
    · omega
 have zD:∀{b:Nat} {c:oN},S.lab b=c->c≠.aj->¬bW S.vP b:=fun e hc x=>hc (by rw[<- e];exact h.lP _ x)
 have zH:∀{b:Nat} {c:oN},S.lab b=c->c≠.head->¬b=mb:=fun e hc x=>hc (by rw[<- e,x];exact h.lH)
 have row:∀{e:TypeId} {n m:Nat} {v:Value} {xs:List Value},w.ownsRow lo e n v m xs->(∀b,bW v b->¬bW S.vP b/\¬b=mb)->(w4.setCell (Ad mb 3) v').ownsRow lo e n v m xs:=fun hr hq=>rK.row (kD.row hr (fun b hb=>(hq b hb).1)) (fun b hb=>(hq b hb).2)
 have hle:(S.L++[l]).length=S.L.length+1:=by simp
 have hlen:=h.len;refine⟨⟨⟨fun b hb=>?_,row h.aM (fun b hb=>⟨zD (h.lS b hb) (by simp),zH (h.lS b hb) (by simp)⟩),fun i hi=>row (h.eO i hi) (fun b hb=>⟨zD (h.lX i hi b hb) (by simp),zH (h.lX i hi b hb) (by simp)⟩),row h.frames (fun b hb=>⟨zD (h.lF b hb) (by simp),zH (h.lF b hb) (by simp)⟩),row h.slots (fun b hb=>⟨zD (h.lL b hb) (by simp),zH (h.lL b hb) (by simp)⟩),?_,?_,fun i hi=>?_,fun b hb=>old b _ (h.lS b hb) (by simp) (by simp),fun i hi b hb=>old b _ (h.lX i hi b hb) (by simp) (by simp),fun b hb=>old b _ (h.lF b hb) (by simp) (by simp),fun b hb=>old b _ (h.lL b hb) (by simp) (by simp),fun b hb=>aB hb,fun i hi b hb=>?_,fun i hi b hb=>?_⟩,?_,old mb _ h.lH (by simp) (by simp)⟩,fun b hb e=>?_,?_⟩
 · have hb:vJ S v' l b≠.no:=hb;have hs4:(w4.setCell (Ad mb 3) v').heap.size=w4.heap.size:=by simp
   rw[hs4];unfold vJ at hb;by_cases c:v'.ownBlock=some b
   · exact hown.lt b c
   · rw[au c] at hb;by_cases d:l.va.ownBlock=some b
     · have:=eA b (.inl d);omega
     · rw[au d] at hb;by_cases e:l.vp.ownBlock=some b
       · have:=eA b (.inr e);omega
       · rw[au e] at hb;have:=h.yq b hb;omega
 · show World.ownsRow _ lo _ 3 v' (S.L++[l]).length _;rw[hle,xw];have:w4.ownsRow lo 99 3 v' (S.L.length+1) (S.L.flatMap gK++[l].flatMap gK):=by grind
   exact rK.row this (fun b hb e=>by
    rcases hv4 b hb with g | g
    · grind
    · omega)
 · grind
 · have hi:i<(k.aj++[s]).length:=hi;rw[fD,Ar] at hi;show mS lo _ (fA (S.L++[l]) i) (ak (k.aj++[s]) i);rw[DJ,KH,hlen];by_cases c:i<k.aj.length
   · rw[aB c,aB c];exact((h.each i c).kp kD (fun b hb=>zD (h.lA i c b hb) (by simp)) (fun b hb=>zD (h.lE i c b hb) (by simp))).kp rK (fun b hb=>zH (h.lA i c b hb) (by simp)) (fun b hb=>zH (h.lE i c b hb) (by simp))
   · have e:i=k.aj.length:=by omega
     rw[au c,au c,aB e,aB e];refine((hso.mono hlo).kp (kB.trans kC (fun _ _ g=>g)) (fun b hb g=>?_) (fun b hb g=>?_)).kp rK (fun b hb e=>?_) (fun b hb e=>?_)
     · grind
     · grind
     · grind
     grind
 · have hi:i<(k.aj++[s]).length:=hi;rw[fD,Ar] at hi;have hb:bW (fA (S.L++[l]) i).va b:=hb;rw[DJ,hlen] at hb;by_cases c:i<k.aj.length
   · rw[aB c] at hb;exact old b _ (h.lA i c b hb) (by simp) (by simp)
   · have e:i=k.aj.length:=by omega
     rw[au c,aB e] at hb;have hx:=eA b (.inl hb);show vJ S v' l b=.aT i;unfold vJ;rw[au,aB (show l.va.ownBlock=some b from hb),e,hlen];intro x;rcases hv4 b x with g | g
     · grind
     · omega
 · have hi:i<(k.aj++[s]).length:=hi;rw[fD,Ar] at hi;have hb:bW (fA (S.L++[l]) i).vp b:=hb;rw[DJ,hlen] at hb;by_cases c:i<k.aj.length
   · rw[aB c] at hb;exact old b _ (h.lE i c b hb) (by simp) (by simp)
   · have e:i=k.aj.length:=by omega
     rw[au c,aB e] at hb;have hx:=eA b (.inr hb);show vJ S v' l b=.bf i;unfold vJ;rw[au,au (show ¬l.va.ownBlock=some b from hne b hb),aB (show l.vp.ownBlock=some b from hb),e,hlen];intro x;rcases hv4 b x with g | g
     · grind
     · omega
 · have:w4.heap[mb]?=some (.cells ([S.vS,S.vF,S.vL,S.vP,I k.hand]++X).toArray tt (0,0)):=kD.keep h.head (fun x=>by grind);rw[fF this 3 v'];simp
 · unfold vJ;rw[au,au,au,e]
   · intro x;have:=eA b (.inr x);omega
   · intro x;have:=eA b (.inl x);omega
   · intro x;rcases hv4 b x with g | g
     · grind
     · omega
 · exact(kD.mono (fun b _ g=>by grind)).trans rK (fun b _ e=>by grind)
theorem bH.anD (h:bH lo mb tt X w S k) {j:Nat} (hj:j<k.aj.length) {v:Value} {l:List aX} {pb n cap:Nat} (hP:S.vP=.slice (some (Ad pb 0)) n cap) (hr:dV lo w v l) (hat:∀b,bW v b->S.lab b=.no) :
  bH lo mb tt X (w.setCell (Ad pb (j*3+1)) v) ⟨KE S j v,S.vS,S.vF,S.vL,S.vP,S.L.set j ⟨(fA S.L j).lv,v,(fA S.L j).vp⟩⟩ { k with aj:=k.aj.set j ⟨(ak k.aj j).live,l,(ak k.aj j).bf⟩ }/\aC (fun b=>S.lab b≠.no) w (w.setCell (Ad pb (j*3+1)) v):=by
 have hpl:S.lab pb=.aj:=h.lP pb (by rw[hP];rfl);have rK:aC (fun b=>b=pb) w (w.setCell (Ad pb (j*3+1)) v):=aC.set _ _ _ _ rfl;have hs:=h.each j hj;have hl:=h.len;have hlab:∀b c,S.lab b=c->c≠.no->KE S j v b=c:=fun b c e h1=>by
  unfold KE;rw[au,e];intro x;exact h1 (e.symm.trans (hat b x))
 have hn:n=S.L.length:=by
  obtain⟨ao,c,e,_⟩:=bh h.aj
  grind
 subst hn;have hr1:=h.aj;rw[hP] at hr1;have hr2:=eZ hr1 (j*3+1) v;rw[<- kE gK 3 (fun _=>rfl) wS ⟨(fA S.L j).lv,v,(fA S.L j).vp⟩ 1 v (by omega) S.L j (by omega) rfl] at hr2;refine⟨h.turn hj (l:=⟨(fA S.L j).lv,v,(fA S.L j).vp⟩) (s:=⟨(ak k.aj j).live,l,(ak k.aj j).bf⟩) (lab':=KE S j v) (rK.mono (fun b _ e=>.inr (.inl (by grind)))) (by grind) ⟨hs.live,?_,?_⟩ ?_ (fun b c e h1 _ _=>hlab b c e h1) (fun b hb=>aB hb) (fun b hb=>hlab b _ (h.lE j hj b hb) (by simp)),rK.mono (fun b _ e=>by grind)⟩
 · exact rK.row hr (fun b hb e=>by have:=hat b hb;grind)
 · exact rK.row hs.aO (fun b hb e=>by have:=h.lE j hj b hb;grind)
 · intro b hb;unfold KE at hb;by_cases c:v.ownBlock=some b
   · exact⟨(hr.lt b c).1,fV (hr.lt b c).2 rK.size⟩
   · rw[au c] at hb;exact⟨(h.yq b hb).1,fV (h.yq b hb).2 rK.size⟩
theorem bH.zero (h:bH lo mb tt X w S k) {j:Nat} (hj:j<k.aj.length) {pb n cap:Nat} (hP:S.vP=.slice (some (Ad pb 0)) n cap) :
  bH lo mb tt X (((w.setCell (Ad pb (j*3)) (.bool false)).setCell (Ad pb (j*3+1)) Nl).setCell (Ad pb (j*3+2)) Nl) ⟨S.lab,S.vS,S.vF,S.vL,S.vP,S.L.set j wS⟩ { k with aj:=k.aj.set j qJ }/\cI S w ⟨S.lab,S.vS,S.vF,S.vL,S.vP,S.L.set j wS⟩ (((w.setCell (Ad pb (j*3)) (.bool false)).setCell (Ad pb (j*3+1)) Nl).setCell (Ad pb (j*3+2)) Nl):=by
 have hpl:S.lab pb=.aj:=h.lP pb (by rw[hP];rfl);have hl:=h.len;have rK:aC (fun b=>b=pb) w (((w.setCell (Ad pb (j*3)) (.bool false)).setCell (Ad pb (j*3+1)) Nl).setCell (Ad pb (j*3+2)) Nl):=xh w pb _ _ _ _ _ _ rfl;have hn:n=S.L.length:=by
  obtain⟨ao,c,e,_⟩:=bh h.aj
  grind
 subst hn;have hr1:=h.aj;rw[hP] at hr1;have hr2:=eZ hr1 (j*3) (.bool false);have hlj:j<S.L.length:=by omega
 have e1:=kE gK 3 (fun _=>rfl) wS ⟨false,(fA S.L j).va,(fA S.L j).vp⟩ 0 (.bool false) (by omega) S.L j hlj rfl;rw[mA] at e1;rw[<- e1] at hr2;have hr3:=eZ hr2 (j*3+1) Nl;have e2:=kE gK 3 (fun _=>rfl) wS ⟨false,Nl,(fA S.L j).vp⟩ 1 Nl (by omega) (S.L.set j ⟨false,(fA S.L j).va,(fA S.L j).vp⟩) j (by grind) (by rw[eI _ _ _ _ hlj];rfl);rw[<- e2,pQ] at hr3;have hr4:=eZ hr3 (j*3+2) Nl;have e3:=kE gK 3 (fun _=>rfl) wS wS 2 Nl (by omega) (S.L.set j ⟨false,Nl,(fA S.L j).vp⟩) j (by grind) (by rw[eI _ _ _ _ hlj];rfl);rw[<- e3,pQ] at hr4;refine⟨h.turn hj (l:=wS) (s:=qJ) (lab':=S.lab) (rK.mono (fun b _ e=>.inr (.inl (by grind)))) (by grind) ⟨rfl,mC _ _ _ _,mC _ _ _ _⟩ (fun b hb=>⟨(h.yq b hb).1,fV (h.yq b hb).2 rK.size⟩) (fun b c e _ _ _=>e) (fun b hb=>by cases hb) (fun b hb=>by cases hb),rK.mono (fun b _ e=>by grind),fun _ _ e=>e,rfl,rfl,rfl,rfl⟩
open Go.RowKit
variable {lo mb:Nat} {tt:TypeId} {X:List Value} {w:World} {S:gB} {k:aR}
theorem bH.c0 (h:bH lo mb tt X w S k):w.cell? (Ad mb 0)=some S.vS:=aq h.head 0 (by simp)
theorem bH.c1 (h:bH lo mb tt X w S k):w.cell? (Ad mb 1)=some S.vF:=aq h.head 1 (by simp)
theorem bH.c2 (h:bH lo mb tt X w S k):w.cell? (Ad mb 2)=some S.vL:=aq h.head 2 (by simp)
theorem bH.c3 (h:bH lo mb tt X w S k):w.cell? (Ad mb 3)=some S.vP:=aq h.head 3 (by simp)
theorem bH.c4 (h:bH lo mb tt X w S k):w.cell? (Ad mb 4)=some (I k.hand):=aq h.head 4 (by simp)
theorem bH.cx (h:bH lo mb tt X w S k) (n:Nat) {v:Value} (hv:X[n]?=some v):w.cell? (Ad mb (5+n))=some v:=aq h.head (5+n) (by
 grind)
theorem bH.free (h:bH lo mb tt X w S k) (j:Nat):w.frozen? (Ad mb j)=false:=aQ h.head j
theorem bH.lt (h:bH lo mb tt X w S k):mb<w.heap.size:=aI h.head
theorem bH.lo_le (h:bH lo mb tt X w S k):lo<=mb:=(h.yq mb (by grind [lH])).1
structure AW (w:World) (S:gB) (k:aR) (fb cF:Nat):Prop where
 v:S.vF=.slice (some (Ad fb 0)) k.frames.length cF
 x0:∀i,i<k.frames.length->w.cell? (Ad fb (i*4))=some (.string (aD k.frames i).data)
 x1:∀i,i<k.frames.length->w.cell? (Ad fb (i*4+1))=some (I (aD k.frames i).refs)
 x2:∀i,i<k.frames.length->w.cell? (Ad fb (i*4+2))=some (.bool (aD k.frames i).jw)
 x3:∀i,i<k.frames.length->w.cell? (Ad fb (i*4+3))=some (.bool (aD k.frames i).seen)
 fz:∀j,w.frozen? (Ad fb j)=false
 lt:fb<w.heap.size
 lab:S.lab fb=.frames
 cap:k.frames.length<=cF
theorem Kr.fr (h:Kr lo w S k) (hn:0<k.frames.length):∃fb cF,AW w S k fb cF:=by
 obtain⟨ao,cap,e,hc,hg⟩:=bh h.frames;obtain⟨g,rfl,hg1,hg2⟩:=hg hn;have hr:=h.frames;rw[e] at hr;have at_:=fun i (hi:i<k.frames.length) j (hj:j<4)=>jY iT (fun _=>rfl) gM hr i j hi hj
 exact⟨g,cap,e,fun i hi=>at_ i hi 0 (by omega),fun i hi=>at_ i hi 1 (by omega),fun i hi=>at_ i hi 2 (by omega),fun i hi=>at_ i hi 3 (by omega),iF hr,hg2,h.lF g (by rw[e];rfl),hc⟩
structure acJ (w:World) (S:gB) (k:aR) (fb cF:Nat):Prop where
 v:S.vL=.slice (some (Ad fb 0)) k.slots.length cF
 x0:∀i,i<k.slots.length->w.cell? (Ad fb (i*2))=some (.string (bE k.slots i).data)
 x1:∀i,i<k.slots.length->w.cell? (Ad fb (i*2+1))=some (I (bE k.slots i).refs)
 fz:∀j,w.frozen? (Ad fb j)=false
 lt:fb<w.heap.size
 lab:S.lab fb=.slots
theorem Kr.sl (h:Kr lo w S k) (hn:0<k.slots.length):∃fb cF,acJ w S k fb cF:=by
 obtain⟨ao,cap,e,hc,hg⟩:=bh h.slots;obtain⟨g,rfl,hg1,hg2⟩:=hg hn;have hr:=h.slots;rw[e] at hr;have at_:=fun i (hi:i<k.slots.length) j (hj:j<2)=>jY iQ (fun _=>rfl) nR hr i j hi hj
 exact⟨g,cap,e,fun i hi=>at_ i hi 0 (by omega),fun i hi=>at_ i hi 1 (by omega),iF hr,hg2,h.lL g (by rw[e];rfl)⟩
structure ahi (w:World) (S:gB) (k:aR) (pb cP:Nat):Prop where
 v:S.vP=.slice (some (Ad pb 0)) k.aj.length cP
 x0:∀i,i<k.aj.length->w.cell? (Ad pb (i*3))=some (.bool (ak k.aj i).live)
 x1:∀i,i<k.aj.length->w.cell? (Ad pb (i*3+1))=some (fA S.L i).va
 x2:∀i,i<k.aj.length->w.cell? (Ad pb (i*3+2))=some (fA S.L i).vp
 fz:∀j,w.frozen? (Ad pb j)=false
 lt:pb<w.heap.size
 lab:S.lab pb=.aj
theorem Kr.sp (h:Kr lo w S k) (hn:0<k.aj.length):∃pb cP,ahi w S k pb cP:=by
 obtain⟨ao,cap,e,hc,hg⟩:=bh h.aj;have hl:=h.len;obtain⟨g,rfl,hg1,hg2⟩:=hg (by omega);have hr:=h.aj;rw[e] at hr;have at_:=fun i (hi:i<k.aj.length) j (hj:j<3)=>jY gK (fun _=>rfl) wS hr i j (by omega) hj
 exact⟨g,cap,by grind,fun i hi=>by rw[<- (h.each i hi).live];exact at_ i hi 0 (by omega),fun i hi=>at_ i hi 1 (by omega),fun i hi=>at_ i hi 2 (by omega),iF hr,hg2,h.lP g (by rw[e];rfl)⟩
theorem Kr.bf (h:Kr lo w S k) {i:Nat} (hi:i<k.aj.length):∃ae ce,(fA S.L i).vp=.slice ae (ak k.aj i).bf.length ce/\dW bw 3 gY w ae (ak k.aj i).bf:=by
 obtain⟨ae,ce,e,_,hr⟩:=ov bw (fun _=>rfl) gY (h.each i hi).aO
 grind
theorem Kr.aT (h:Kr lo w S k) {i:Nat} (hi:i<k.aj.length):gu w (fA S.L i).va (ak k.aj i).aT:=(h.each i hi).aT.has
end Go.Proofs.YtlgoihmkgaaemaaGreat
