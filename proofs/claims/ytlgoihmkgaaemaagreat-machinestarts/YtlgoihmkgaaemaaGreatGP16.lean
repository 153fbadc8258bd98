import Derived.Test.YtlgoihmkgaaemaaGreatGP15
import Derived.Deep.RegionHeld3
set_option maxHeartbeats 20000000
set_option linter.unusedVariables false
set_option maxRecDepth 100000
set_option linter.unusedSimpArgs false
namespace Go.Proofs.YtlgoihmkgaaemaaGreat
open Go.RowKit Tryz
structure AG where
 lv:Bool
 va:Value
 vp:Value
def fX (l:AG):List Value:=[.bool l.lv,l.va,l.vp]
def xO:AG:=⟨false,Nl,Nl⟩
def fQ (l:List AG) (k:Nat):AG:=l.getD k xO
def bN (v:Value) (b:Nat):Prop:=v.ownBlock=some b
structure nK (lo:Nat) (w:World) (l:AG) (s:cZ):Prop where
 live:l.lv=s.live
 bu:eO lo w l.va s.bu
 aY:w.ownsRow lo 174 3 l.vp s.bl.length (s.bl.flatMap bC)
theorem nK.kp {lo:Nat} {w w':World} {D:Nat->Prop} {l:AG} {s:cZ} (h:nK lo w l s) (hk:aI D w w') (ha:∀b,bN l.va b->¬D b) (hp:∀b,bN l.vp b->¬D b):nK lo w' l s:=⟨h.live,hk.row h.bu ha,hk.row h.aY hp⟩
theorem nK.mono {lo lo':Nat} {w:World} {l:AG} {s:cZ} (h:nK lo w l s) (hl:lo'<=lo):nK lo' w l s:=⟨h.live,h.bu.mono hl,oQ h.aY (λg hg=>gj hl (h.aY.lt g hg).1)⟩
theorem zO {α:Type} {w:World} (f:α->List Value) (k:Nat) (hf:∀x,(f x).length=k) (d:α) (l:List α) (b off:Nat) (h:∀i,i<l.length->∀j,j<k->w.cell? (Ad b (off+i*k+j))=(f (l.getD i d))[j]?):oh w (some (Ad b off)) l.length (l.flatMap f):=λhm=>by
 refine⟨_,rfl,λj u hu=>?_⟩;have hlt:j<l.length*k:=by
  grind [eV]
 have hk:0<k:=by
  grind
 have e:j=j/k*k+j%k:=by grind [Nat.div_add_mod]
 have h1:j/k<l.length:=(Nat.div_lt_iff_lt_mul hk).2 hlt
 grind [Nat.mod_lt,y9,Addr.add_lit]
theorem IM {w:World} {ao:Option Addr} {n c:Nat} {l:List aU} (h:eN w (.slice ao n c) l):n=l.length/\oh w ao n (b9 l):=by
 obtain⟨Zz,cap,e,h⟩:=h;injection e with e1 e2 e3;subst e1 e2 e3;refine⟨rfl,λhm=>?_⟩;rcases h with h | ⟨b,off,rfl,hl⟩
 . grind
 have:=zO (w:=w) pJ 4 (λ_=>rfl) vB l b off (λi hi j hj=>by
  obtain⟨c0,c1,c2,c3⟩:=hl i hi
  match j,hj with
  | 0,_=>exact c0
  | 1,_=>exact c1
  | 2,_=>exact c2
  | 3,_=>exact c3)
 have e:b9 l=l.flatMap pJ:=by
  clear this hl hm;induction l with
  | nil=>rfl
  | cons a r ih=>rw[oF,<- ih];rfl
 rw[e];exact this hm
theorem TU {w:World} {ap:Option Addr} {l:List bK} (h:dE bC 3 gJ w ap l):oh w ap l.length (l.flatMap bC):=λhm=>by
 obtain⟨b,off,rfl,hb,hl⟩:=h hm;exact zO (w:=w) bC 3 (λ_=>rfl) gJ l b off (λi hi j hj=>hl i hi j hj) hm
theorem tZ:∀(l:List bK),∀u∈l.flatMap bC,u.oneCell'=true:=λl u hu=>by
 obtain⟨y,_,hy⟩:=uP.1 hu;simp[bC] at hy;rcases hy with rfl | rfl | rfl <;> rfl
def aaE (w:World) (s:cZ) (e:Ending) (w':World):Prop:=∃va vp,e=.returned (.agg #[.bool s.live,va,vp])/\nK w.heap.size w' ⟨s.live,va,vp⟩ s/\(∀b,bN vp b->¬bN va b)/\Below w.heap.size w w'
theorem IL (s:cZ) (aa ap:Option Addr) (na ca cp:Nat) (w:World) (ha:eN w (.slice aa na ca) s.bu) (hp:dE bC 3 gJ w ap s.bl) (tR:s.bu.length<=1000000) (FC:s.bl.length<=1000000) :
  Calls prog 135 #[.agg #[.bool s.live,.slice aa na ca,.slice ap s.bl.length cp]] w (aaE w s):=by
 obtain⟨hn,F⟩:=IM ha;have DB:=ai F;have I9:=ai (TU hp);obtain⟨lv,xy,q⟩:=s;simp only at hn DB I9 tR FC ⊢;subst hn;have y:=ai (uB xy);have A:=ai (eV bC 3 (λ_=>rfl) q);have Q:=ai (rq xy);have B:=ai (tZ q);have eW:Hid (∀va vp (w':World),eO w.heap.size w' va xy->w'.ownsRow w.heap.size 174 3 vp q.length (q.flatMap bC)->(∀b,bN vp b->¬bN va b)->Below w.heap.size w w'->aaE w ⟨lv,xy,q⟩ (.returned (.agg #[.bool lv,va,vp])) w'):=λva vp w' h1 h2 h3 h4=>⟨va,vp,rfl,⟨rfl,h1,h2⟩,h3,h4⟩
 obtain⟨XA,O⟩:=ex (b9 xy);obtain⟨XP,G⟩:=ex (q.flatMap bC);unfold eO at eW;rw[<- O] at DB y Q eW;rw[<- G] at I9 A B eW;obtain⟨np,N⟩:=ex q.length;generalize xy.length=na at DB y eW tR ⊢;rw[<- N] at I9 A eW FC ⊢;clear F ha hp O G N;have eB:=ai (((aN w.heap.size w).alloc (aJ _) (.cells #[.bool lv,.slice aa na ca,.slice ap np cp] 99)).alloc ξ (.cells #[.bool false,Nl,Nl] 99));have X0:=ai (bB (bG w #[.bool lv,.slice aa na ca,.slice ap np cp] 99) (.cells #[.bool false,Nl,Nl] 99));have Y0:Hid (((w.alloc (.cells #[.bool lv,.slice aa na ca,.slice ap np cp] 99)).alloc (.cells #[.bool false,Nl,Nl] 99)).heap[w.heap.size+1]?=some (.cells #[.bool false,Nl,Nl] 99 (0,0))):=by
  grind [World.alloc]
 go_enter func135,ntmps135;go_wp2;generalize (w.alloc (.cells #[.bool lv,.slice aa na ca,.slice ap np cp] 99)).alloc (.cells #[.bool false,Nl,Nl] 99)=WA at eB X0 Y0 ⊢;have Ij:=ai eB.o;obtain⟨xb,O7⟩:=ex w.heap.size;rw[<- O7] at X0 Y0 eB eW ⊢;have H0:=ai O7;clear O7;have HS:Hid (∀V,Below WA.heap.size WA V->V.cell? (Ad xb 0)=some (.bool lv)/\V.cell? (Ad xb 1)=some (.slice aa na ca)/\V.cell? (Ad xb 2)=some (.slice ap np cp)):=λV hb=>by
  grind [aO,aA,Hid.o]
 have T:Hid (∀V,Below WA.heap.size WA V->Calls prog 71 #[.slice aa na ca] V λe w'=>∃a c,e=.returned (.slice a na c)/\w'.ownsRow V.heap.size 139 4 (.slice a na c) na XA/\Below V.heap.size V w'):=λV hV=>(aev aa na ca XA V y.o (DB.o.below (Ij.o.trans (hV.mono Ij.o.size))) Q.o tR).mono λe w' ⟨v,h1,h2,h3⟩=>by
   obtain⟨a,c,rfl,_⟩:=bh h2
   grind
 have K:Hid (∀V,Below WA.heap.size WA V->Calls prog 188 #[.slice ap np cp] V λe w'=>∃a c,e=.returned (.slice a np c)/\w'.ownsRow V.heap.size 174 3 (.slice a np c) np XP/\Below V.heap.size V w'):=λV hV=>(aeu ap np cp XP V A.o (I9.o.below (Ij.o.trans (hV.mono Ij.o.size))) B.o FC).mono λe w' ⟨v,h1,h2,h3⟩=>by
   obtain⟨a,c,rfl,_⟩:=bh h2
   grind
 have M:Hid (∀V:World,(V.cell? (Ad xb 0)=some (.bool lv)/\V.cell? (Ad xb 1)=some (.slice aa na ca)/\V.cell? (Ad xb 2)=some (.slice ap np cp))->∀v0 v1 v2,(((V.setCell (Ad (xb+1) 0) v0).setCell (Ad (xb+1) 1) v1).setCell (Ad (xb+1) 2) v2).cell? (Ad xb 0)=some (.bool lv)/\(((V.setCell (Ad (xb+1) 0) v0).setCell (Ad (xb+1) 1) v1).setCell (Ad (xb+1) 2) v2).cell? (Ad xb 1)=some (.slice aa na ca)/\(((V.setCell (Ad (xb+1) 0) v0).setCell (Ad (xb+1) 1) v1).setCell (Ad (xb+1) 2) v2).cell? (Ad xb 2)=some (.slice ap np cp)):=λV ⟨h0,h1,h2⟩ v0 v1 v2=>by
  have h:xb≠xb+1:=by omega
  rw[cN _ _ _ _ _ _ h,cN _ _ _ _ _ _ h,cN _ _ _ _ _ _ h,cN _ _ _ _ _ _ h,cN _ _ _ _ _ _ h,cN _ _ _ _ _ _ h,cN _ _ _ _ _ _ h,cN _ _ _ _ _ _ h,cN _ _ _ _ _ _ h];omega
 have xB:=ai (aN WA.heap.size WA).drew;have o5:=ai (HS.o _ xB.o)
 go_region_held3 (λV=>V.cell? (Ad xb 0)=some (.bool lv)/\V.cell? (Ad xb 1)=some (.slice aa na ca)/\V.cell? (Ad xb 2)=some (.slice ap np cp)) (first | exact Fq.o | exact Cu.o | exact o5.o | exact Uq.o _ _ _)
  (first
   | (go_at_call 71;refine(T.o _ xB.o).mono ?_;rintro e w2 ⟨a2,c2,rfl,J,L⟩;have Aa:=ai (xB.o.trans (L.mono xB.o.size));have Cu:=ai (HS.o _ Aa.o);have Ii:=ai J;clear L J)
   | (go_at_call 188;refine(K.o _ Aa.o).mono ?_;rintro e w3 ⟨a3,c3,rfl,U,r⟩;have H8:=ai (Aa.o.trans (r.mono Aa.o.size));have Fq:=ai (HS.o _ H8.o);have R:=ai U;have kE:=ai r;have y0:w3.cell? (Ad (xb+1) 0)=some (.bool false):=aA (aO Y0.o H8.o (aM Y0.o)) 0 rfl;have z0:w3.frozen? (Ad (xb+1) 0)=false:=br (aO Y0.o H8.o (aM Y0.o)) 0;have y1:w3.cell? (Ad (xb+1) 1)=some Nl:=aA (aO Y0.o H8.o (aM Y0.o)) 1 rfl;have z1:w3.frozen? (Ad (xb+1) 1)=false:=br (aO Y0.o H8.o (aM Y0.o)) 1;have y2:w3.cell? (Ad (xb+1) 2)=some Nl:=aA (aO Y0.o H8.o (aM Y0.o)) 2 rfl;have z2:w3.frozen? (Ad (xb+1) 2)=false:=br (aO Y0.o H8.o (aM Y0.o)) 2;have Uq:=ai (λv0 v1 v2=>M.o w3 Fq.o v0 v1 v2);clear r U))
 all_goals clear Uq M HS o5 Cu Fq T K
 all_goals go_wp2
 . refine bW (v:=.agg #[.bool lv,.slice a2 na c2,.slice a3 np c3]) (by simp[results,results135,go_sem,y0,y1,y2]) rfl ?_;have k3:aI (λb=>b=xb+1) w3 _:=vw w3 (xb+1) 0 1 2 (.bool lv) (.slice a2 na c2) (.slice a3 np c3) rfl;have l1:=aM Y0.o;have l3:=Aa.o.size;have hx:=H0.o;have e2:∀g,(Value.slice a2 na c2).ownBlock=some g->WA.heap.size<=g/\g<w2.heap.size:=λg hg=>Ii.o.lt g hg
   have e3:∀g,(Value.slice a3 np c3).ownBlock=some g->w2.heap.size<=g/\g<w3.heap.size:=λg hg=>R.o.lt g hg
   have r2:=(aI.cA (D:=λ_=>False) kE.o).row Ii.o (λ_ _ g=>g);refine eW.o _ _ _ (k3.row (oQ r2 (λg hg=>Γ)) (λg hg e=>Γ)) (k3.row (oQ R.o (λg hg=>Γ)) (λg hg e=>Γ)) (λb h1 h2=>by have:=e2 b h2;have:=e3 b h1;omega) ?_;exact aI.below (eB.o.trans (H8.o.mono ω)) k3 (by have:=H8.o.size;omega) (λb e=>ω)
def ik (s:bD):List Value:=[I s.page,.string s.data,.slice s.ao s.df.length s.cap]
def jl (f:mZ):List Value:=[I f.off,.string f.bytes]
def AH (s:bD):Value:=.slice s.ao s.df.length s.cap
inductive ma where
 | no | head | frames | slots | aj | aD
 | bu (i:Nat)
 | bl (i:Nat)
 | df (i:Nat)
structure gv where
 lab:Nat->ma
 vS:Value
 vF:Value
 vL:Value
 vP:Value
 L:List AG
structure Kr (lo:Nat) (w:World) (S:gv) (k:aT):Prop where
 vD:∀b,S.lab b≠.no->lo<=b/\b<w.heap.size
 aD:w.ownsRow lo 145 3 S.vS k.aD.length (k.aD.flatMap ik)
 df:∀i,i<k.aD.length->w.ownsRow lo 226 2 (AH (aZ k.aD i)) (aZ k.aD i).df.length ((aZ k.aD i).df.flatMap jl)
 frames:w.ownsRow lo 169 4 S.vF k.frames.length (k.frames.flatMap gu)
 slots:w.ownsRow lo 171 2 S.vL k.slots.length (k.slots.flatMap gq)
 aj:w.ownsRow lo 99 3 S.vP S.L.length (S.L.flatMap fX)
 len:S.L.length=k.aj.length
 each:∀i,i<k.aj.length->nK lo w (fQ S.L i) (ak k.aj i)
 lS:∀b,bN S.vS b->S.lab b=.aD
 lX:∀i,i<k.aD.length->∀b,bN (AH (aZ k.aD i)) b->S.lab b=.df i
 lF:∀b,bN S.vF b->S.lab b=.frames
 lL:∀b,bN S.vL b->S.lab b=.slots
 lP:∀b,bN S.vP b->S.lab b=.aj
 lA:∀i,i<k.aj.length->∀b,bN (fQ S.L i).va b->S.lab b=.bu i
 lE:∀i,i<k.aj.length->∀b,bN (fQ S.L i).vp b->S.lab b=.bl i
structure bO (lo mb:Nat) (tt:TypeId) (X:List Value) (w:World) (S:gv) (k:aT):Prop extends Kr lo w S k where
 head:w.heap[mb]?=some (.cells ([S.vS,S.vF,S.vL,S.vP,I k.hand]++X).toArray tt (0,0))
 lH:S.lab mb=.head
structure cU (S:gv) (w:World) (S':gv) (w':World):Prop where
 kp:aI (λb=>S.lab b≠.no) w w'
 no:∀b,b<w.heap.size->S.lab b=.no->S'.lab b=.no
 eS:S'.vS=S.vS
 eF:S'.vF=S.vF
 eL:S'.vL=S.vL
 eP:S'.vP=S.vP
theorem cU.refl (S:gv) (w:World):cU S w S w:=⟨aI.refl _ _,λ_ _ h=>h,rfl,rfl,rfl,rfl⟩
theorem cU.trans {S S1 S2:gv} {w w1 w2:World} (h:cU S w S1 w1) (g:cU S1 w1 S2 w2):cU S w S2 w2 :=
 ⟨⟨g.kp.os.trans h.kp.os,g.kp.tape.trans h.kp.tape,g.kp.output.trans h.kp.output,gj h.kp.size g.kp.size,λb hb hn=>by
  have hb1:=gm hb h.kp.size;have hn0:S.lab b=.no:=BC.1 hn;have MO:=h.no b hb hn0;exact(g.kp.block b hb1 (λx=>x MO)).trans (h.kp.block b hb hn)⟩,λb hb hn=>g.no b (gm hb h.kp.size) (h.no b hb hn),g.eS.trans h.eS,g.eF.trans h.eF,g.eL.trans h.eL,g.eP.trans h.eP⟩
theorem cU.below {S:gv} {w w':World} (h:Below w.heap.size w w'):cU S w S w':=⟨aI.cA h,λ_ _ h=>h,rfl,rfl,rfl,rfl⟩
theorem cU.set {S:gv} {w:World} {g j:Nat} {u:Value} (h:S.lab g≠.no):cU S w S (w.setCell (Ad g j) u):=⟨aI.set _ _ _ _ h,λ_ _ h=>h,rfl,rfl,rfl,rfl⟩
theorem cU.keep {S S':gv} {w w':World} {b:Nat} {o:Obj} (h:cU S w S' w') (hb:w.heap[b]?=some o) (hn:S.lab b=.no):w'.heap[b]?=some o:=h.kp.keep hb (λx=>x hn)
theorem Kr.kp {lo:Nat} {w w':World} {S:gv} {k:aT} {E:Nat->Prop} (h:Kr lo w S k) (hk:aI E w w') (he:∀b,S.lab b≠.no->¬E b):Kr lo w' S k:=by
 have z:∀{b:Nat} {c:ma},S.lab b=c->c≠.no->¬E b:=λe hc=>he _ Γ
 exact⟨λb hb=>⟨(h.vD b hb).1,gm (h.vD b hb).2 hk.size⟩,hk.row h.aD (λb hb=>z (h.lS b hb) ξ),λi hi=>hk.row (h.df i hi) (λb hb=>z (h.lX i hi b hb) ξ),hk.row h.frames (λb hb=>z (h.lF b hb) ξ),hk.row h.slots (λb hb=>z (h.lL b hb) ξ),hk.row h.aj (λb hb=>z (h.lP b hb) ξ),h.len,λi hi=>(h.each i hi).kp hk (λb hb=>z (h.lA i hi b hb) ξ) (λb hb=>z (h.lE i hi b hb) ξ),h.lS,h.lX,h.lF,h.lL,h.lP,h.lA,h.lE⟩
theorem Kr.below {lo:Nat} {w w':World} {S:gv} {k:aT} (h:Kr lo w S k) (hb:Below w.heap.size w w'):Kr lo w' S k:=h.kp (aI.cA (D:=λ_=>False) hb) (λ_ _ g=>g)
theorem Kr.mono {lo lo':Nat} {w:World} {S:gv} {k:aT} (h:Kr lo w S k) (hl:lo'<=lo):Kr lo' w S k:=by
 have z:∀{e:TypeId} {n m:Nat} {v:Value} {xs:List Value},w.ownsRow lo e n v m xs->w.ownsRow lo' e n v m xs:=λhr=>oQ hr (λg hg=>gj hl (hr.lt g hg).1)
 exact⟨λb hb=>⟨gj hl (h.vD b hb).1,(h.vD b hb).2⟩,z h.aD,λi hi=>z (h.df i hi),z h.frames,z h.slots,z h.aj,h.len,λi hi=>(h.each i hi).mono hl,h.lS,h.lX,h.lF,h.lL,h.lP,h.lA,h.lE⟩
theorem bO.below {lo mb:Nat} {tt:TypeId} {X:List Value} {w w':World} {S:gv} {k:aT} (h:bO lo mb tt X w S k) (hb:Below w.heap.size w w'):bO lo mb tt X w' S k:=⟨h.toKr.below hb,aO h.head hb (aM h.head),h.lH⟩
theorem bO.kp {lo mb:Nat} {tt:TypeId} {X:List Value} {w w':World} {S:gv} {k:aT} {E:Nat->Prop} (h:bO lo mb tt X w S k) (hk:aI E w w') (he:∀b,S.lab b≠.no->¬E b):bO lo mb tt X w' S k:=⟨h.toKr.kp hk he,hk.keep h.head (he mb (by grind [lH])),h.lH⟩
theorem Kr.new {lo:Nat} {w:World} {S:gv} {k:aT} (h:Kr lo w S k) {b:Nat} (hb:w.heap.size<=b):S.lab b=.no:=BC.1 λx=>by have:=(h.vD b x).2;omega
theorem pq {α:Type} {w:World} {base:Nat} {e:TypeId} {k:Nat} (f:α->List Value) (hf:∀x,(f x).length=k) (d:α) {l:List α} {v:Value} (hr:w.ownsRow base e k v l.length (l.flatMap f)):∃ao cap,v=.slice ao l.length cap/\l.length<=cap/\dE f k d w ao l:=by
 obtain⟨ao,cap,rfl,b,hg⟩:=bh hr;refine⟨ao,cap,rfl,b,λhl=>?_⟩;obtain⟨g,rfl,q,h⟩:=hg hl;exact⟨g,0,rfl,h,λi hi j hj=>by grind [kF]⟩
theorem Kr.at0 {lo:Nat} {w:World} {S:gv} {k:aT} (h:Kr lo w S k):∃ao cap,S.vS=.slice ao k.aD.length cap/\k.aD.length<=cap/\gz w ao k.aD:=by
 obtain⟨ao,cap,e,hc,hr⟩:=pq ik (λ_=>rfl) zi h.aD;refine⟨ao,cap,e,hc,λhl=>?_⟩;obtain⟨b,off,e1,hb,hi⟩:=hr hl;refine⟨b,off,e1,hb,λi hlt=>⟨?_,hi i hlt 1 ω,hi i hlt 2 ω,λhx=>?_⟩⟩
 . have:=hi i hlt 0 ω;rw[jt] at this;exact this
 obtain⟨ax,cx,ex,_,q⟩:=pq jl (λ_=>rfl) Rh (h.df i hlt);injection ex with e1 e2 e3;rw[e1];obtain⟨b2,ZL,g1,g2,g3⟩:=q hx;refine⟨b2,ZL,g1,g2,λn hn=>⟨?_,g3 n hn 1 ω⟩⟩;have:=g3 n hn 0 ω;rw[jt] at this;exact this
theorem Kr.atZ {lo:Nat} {w:World} {S:gv} {k:aT} (h:Kr lo w S k):∃ao cap,S.vP=.slice ao k.aj.length cap/\k.aj.length<=cap/\su w ao k.aj:=by
 obtain⟨ao,cap,e,hc,hr⟩:=pq fX (λ_=>rfl) xO h.aj;rw[h.len] at e hc;refine⟨ao,cap,e,hc,λhl=>?_⟩;obtain⟨b,off,e1,hb,hi⟩:=hr (by grind [len]);refine⟨b,off,e1,hb,λi hlt=>?_⟩;have q:i<S.L.length:=by grind [len]
 have hs:=h.each i hlt;obtain⟨ap,cp,r,y,A⟩:=pq bC (λ_=>rfl) gJ hs.aY;have c0:=hi i q 0 ω;have c1:=hi i q 1 ω;have c2:=hi i q 2 ω;rw[jt] at c0;refine⟨(fQ S.L i).va,ap,cp,?_,c1,?_,hs.bu.has,A,y⟩
 . rw[<- hs.live];exact c0
 rw[<- r];exact c2
structure agm (S:gv) (k:aT) (a:gN):Prop where
 eS:S.vS=.slice a.aS k.aD.length a.cS
 eF:S.vF=.slice a.aF k.frames.length a.cF
 eL:S.vL=.slice a.aL k.slots.length a.cL
 eP:S.vP=.slice a.aP k.aj.length a.cP
theorem Kr.has {lo:Nat} {w:World} {S:gv} {k:aT} (h:Kr lo w S k):∃a,agm S k a/\iB w a k:=by
 obtain⟨aS,cS,eS,_,hS⟩:=h.at0;obtain⟨aP,cP,eP,_,hP⟩:=h.atZ;obtain⟨aF,cF,eF,_,hF⟩:=pq gu (λ_=>rfl) eG h.frames;obtain⟨aL,cL,eL,_,hL⟩:=pq gq (λ_=>rfl) gP h.slots;exact⟨⟨aS,cS,aF,cF,aL,cL,aP,cP⟩,⟨eS,eF,eL,eP⟩,⟨hS,hF,hL,hP⟩⟩
theorem Kr.MK {lo:Nat} {w:World} {S:gv} {k:aT} (h:Kr lo w S k) {g n cap:Nat} (hv:S.vF=.slice (some (Ad g 0)) n cap) {i j:Nat} (hi:i<k.frames.length) (hj:j<4) {f:ko} {u:Value} (e:gu f=(gu (aK k.frames i)).set j u) :
  Kr lo (w.setCell (Ad g (i*4+j)) u) S { k with frames:=k.frames.set i f }:=by
 have hk:aI (λb=>b=g) w (w.setCell (Ad g (i*4+j)) u):=aI.set _ _ _ _ rfl;have hg:S.lab g=.frames:=h.lF g (by rw[hv];rfl);have z:∀{b:Nat} {c:ma},S.lab b=c->c≠.frames->¬b=g:=λe hc x=>hc Γ
 have hn:n=k.frames.length:=by
  obtain⟨ao,c,e,_⟩:=bh h.frames
  grind
 subst hn;have hr:=h.frames;rw[hv] at hr;refine⟨λb hb=>⟨(h.vD b hb).1,gm (h.vD b hb).2 hk.size⟩,hk.row h.aD (λb hb=>z (h.lS b hb) ξ),λi hi=>hk.row (h.df i hi) (λb hb=>z (h.lX i hi b hb) ξ),?_,hk.row h.slots (λb hb=>z (h.lL b hb) ξ),hk.row h.aj (λb hb=>z (h.lP b hb) ξ),h.len,λi hi=>(h.each i hi).kp hk (λb hb=>z (h.lA i hi b hb) ξ) (λb hb=>z (h.lE i hi b hb) ξ),h.lS,h.lX,h.lF,h.lL,h.lP,h.lA,h.lE⟩;have:=fI hr (i*4+j) u;show World.ownsRow _ lo _ 4 S.vF (k.frames.set i f).length _;rw[gX,hv,kW gu 4 (λ_=>rfl) eG f j u hj k.frames i hi e];omega
theorem Kr.ahd {lo:Nat} {w:World} {S:gv} {k:aT} (h:Kr lo w S k) {g n cap:Nat} (hv:S.vL=.slice (some (Ad g 0)) n cap) {i j:Nat} (hi:i<k.slots.length) (hj:j<2) {f:mJ} {u:Value} (e:gq f=(gq (bI k.slots i)).set j u) :
  Kr lo (w.setCell (Ad g (i*2+j)) u) S { k with slots:=k.slots.set i f }:=by
 have hk:aI (λb=>b=g) w (w.setCell (Ad g (i*2+j)) u):=aI.set _ _ _ _ rfl;have hg:S.lab g=.slots:=h.lL g (by rw[hv];rfl);have z:∀{b:Nat} {c:ma},S.lab b=c->c≠.slots->¬b=g:=λe hc x=>hc Γ
 have hn:n=k.slots.length:=by
  obtain⟨ao,c,e,_⟩:=bh h.slots
  grind
 subst hn;have hr:=h.slots;rw[hv] at hr;refine⟨λb hb=>⟨(h.vD b hb).1,gm (h.vD b hb).2 hk.size⟩,hk.row h.aD (λb hb=>z (h.lS b hb) ξ),λi hi=>hk.row (h.df i hi) (λb hb=>z (h.lX i hi b hb) ξ),hk.row h.frames (λb hb=>z (h.lF b hb) ξ),?_,hk.row h.aj (λb hb=>z (h.lP b hb) ξ),h.len,λi hi=>(h.each i hi).kp hk (λb hb=>z (h.lA i hi b hb) ξ) (λb hb=>z (h.lE i hi b hb) ξ),h.lS,h.lX,h.lF,h.lL,h.lP,h.lA,h.lE⟩;have:=fI hr (i*2+j) u;show World.ownsRow _ lo _ 2 S.vL (k.slots.set i f).length _;rw[gX,hv,kW gq 2 (λ_=>rfl) gP f j u hj k.slots i hi e];omega
theorem Kr.turn {lo:Nat} {w w2:World} {S:gv} {k:aT} (h:Kr lo w S k) {j:Nat} (hj:j<k.aj.length) {l:AG} {s:cZ} {lab':Nat->ma}
  (hk:aI (λb=>S.lab b=.bl j\/S.lab b=.aj\/S.lab b=.bu j) w w2) (hrow:w2.ownsRow lo 99 3 S.vP S.L.length ((S.L.set j l).flatMap fX)) (hs:nK lo w2 l s)
  (hb:∀b,lab' b≠.no->lo<=b/\b<w2.heap.size) (hlab:∀b c,S.lab b=c->c≠.no->c≠.bu j->c≠.bl j->lab' b=c) (hA:∀b,bN l.va b->lab' b=.bu j) (hE:∀b,bN l.vp b->lab' b=.bl j) :
  Kr lo w2 ⟨lab',S.vS,S.vF,S.vL,S.vP,S.L.set j l⟩ { k with aj:=k.aj.set j s }:=by
 have z:∀{b:Nat} {c:ma},S.lab b=c->c≠.bl j->c≠.aj->c≠.bu j->¬(S.lab b=.bl j\/S.lab b=.aj\/S.lab b=.bu j):=λe h1 h2 h3 x=>by
  grind
 have q:(S.L.set j l).length=S.L.length:=gX;have hl:=h.len;have at_:∀i,i<k.aj.length->fQ (S.L.set j l) i=if j=i then l else fQ S.L i:=λi hi=>by
  grind [fQ]
 refine⟨hb,hk.row h.aD (λb hb=>z (h.lS b hb) ξ ξ ξ),λi hi=>hk.row (h.df i hi) (λb hb=>z (h.lX i hi b hb) ξ ξ ξ),hk.row h.frames (λb hb=>z (h.lF b hb) ξ ξ ξ),hk.row h.slots (λb hb=>z (h.lL b hb) ξ ξ ξ),?_,?_,?_,λb hb=>hlab b _ (h.lS b hb) ξ ξ ξ,λi hi b hb=>hlab b _ (h.lX i hi b hb) ξ ξ ξ,λb hb=>hlab b _ (h.lF b hb) ξ ξ ξ,λb hb=>hlab b _ (h.lL b hb) ξ ξ ξ,λb hb=>hlab b _ (h.lP b hb) ξ ξ ξ,?_,?_⟩
 . grind
 . grind
 . intro i hi;have hi:i<k.aj.length:=by grind
   show nK lo w2 (fQ (S.L.set j l) i) (ak (k.aj.set j s) i);rw[at_ i hi,kQ _ _ _ _ hj];by_cases c:j=i
   . grind
   rw[aH c,aH c];exact(h.each i hi).kp hk (λb hb=>z (h.lA i hi b hb) ξ ξ Γ) (λb hb=>z (h.lE i hi b hb) Γ ξ ξ)
 . grind [lA]
 grind [lE]
variable {lo mb:Nat} {tt:TypeId} {X:List Value} {w:World} {S:gv} {k:aT}
theorem Ol (h:bO lo mb tt X w S k) {g j:Nat} {u:Value} {c:ma} (hg:S.lab g=c) (hc:c≠.head):(w.setCell (Ad g j) u).heap[mb]?=some (.cells ([S.vS,S.vF,S.vL,S.vP,I k.hand]++X).toArray tt (0,0)) :=
 jy h.head g j u (λe=>hc (by grind [bO.lH]))
theorem bO.MK (h:bO lo mb tt X w S k) {g n cap:Nat} (hv:S.vF=.slice (some (Ad g 0)) n cap) {i j:Nat} (hi:i<k.frames.length) (hj:j<4) {f:ko} {u:Value} (e:gu f=(gu (aK k.frames i)).set j u) :
  bO lo mb tt X (w.setCell (Ad g (i*4+j)) u) S { k with frames:=k.frames.set i f }:=⟨h.toKr.MK hv hi hj e,Ol h (h.lF g (by rw[hv];rfl)) ξ,h.lH⟩
theorem bO.ahd (h:bO lo mb tt X w S k) {g n cap:Nat} (hv:S.vL=.slice (some (Ad g 0)) n cap) {i j:Nat} (hi:i<k.slots.length) (hj:j<2) {f:mJ} {u:Value} (e:gq f=(gq (bI k.slots i)).set j u) :
  bO lo mb tt X (w.setCell (Ad g (i*2+j)) u) S { k with slots:=k.slots.set i f }:=⟨h.toKr.ahd hv hi hj e,Ol h (h.lL g (by rw[hv];rfl)) ξ,h.lH⟩
theorem AJ (h:Kr lo w S k) {g n cap:Nat} (hv:S.vF=.slice (some (Ad g 0)) n cap) {V:World} {i:Nat} {u:Value}:cU S V S (V.setCell (Ad g i) u):=cU.set (by rw[h.lF g (by rw[hv];rfl)];simp)
theorem adr (h:Kr lo w S k) {g n cap:Nat} (hv:S.vL=.slice (some (Ad g 0)) n cap) {V:World} {i:Nat} {u:Value}:cU S V S (V.setCell (Ad g i) u):=cU.set (by rw[h.lL g (by rw[hv];rfl)];simp)
theorem bO.ahg (h:bO lo mb tt X w S k) {g n cap:Nat} (hv:S.vF=.slice (some (Ad g 0)) n cap) {i:Nat} (hi:i<k.frames.length) (f:ko) :
  bO lo mb tt X ((((w.setCell (Ad g (i*4)) (.string f.data)).setCell (Ad g (i*4+1)) (I f.refs)).setCell (Ad g (i*4+2)) (.bool f.ja)).setCell (Ad g (i*4+3)) (.bool f.seen)) S { k with frames:=k.frames.set i f } /\
  cU S w S ((((w.setCell (Ad g (i*4)) (.string f.data)).setCell (Ad g (i*4+1)) (I f.refs)).setCell (Ad g (i*4+2)) (.bool f.ja)).setCell (Ad g (i*4+3)) (.bool f.seen)):=by
 have h1:=h.MK hv hi (j:=0) ω (f:=⟨f.data,(aK k.frames i).refs,(aK k.frames i).ja,(aK k.frames i).seen⟩) (u:=.string f.data) rfl;have h2:=h1.MK hv (i:=i) Γ (j:=1) ω (f:=⟨f.data,f.refs,(aK k.frames i).ja,(aK k.frames i).seen⟩) (u:=I f.refs) (by simp only[aK,fu _ _ _ _ hi];rfl);have h3:=h2.MK hv (i:=i) Γ (j:=2) ω (f:=⟨f.data,f.refs,f.ja,(aK k.frames i).seen⟩) (u:=.bool f.ja) (by simp only[aK,rD,fu _ _ _ _ hi];rfl);have h4:=h3.MK hv (i:=i) Γ (j:=3) ω (f:=f) (u:=.bool f.seen) (by simp only[aK,rD,fu _ _ _ _ hi];rfl);simp only[rD] at h4;exact⟨h4,(((AJ h.toKr hv).trans (AJ h.toKr hv)).trans (AJ h.toKr hv)).trans (AJ h.toKr hv)⟩
theorem bO.aps (h:bO lo mb tt X w S k) {g n cap:Nat} (hv:S.vL=.slice (some (Ad g 0)) n cap) {i:Nat} (hi:i<k.slots.length) (f:mJ) :
  bO lo mb tt X ((w.setCell (Ad g (i*2)) (.string f.data)).setCell (Ad g (i*2+1)) (I f.refs)) S { k with slots:=k.slots.set i f } /\
  cU S w S ((w.setCell (Ad g (i*2)) (.string f.data)).setCell (Ad g (i*2+1)) (I f.refs)):=by
 have h1:=h.ahd hv hi (j:=0) ω (f:=⟨f.data,(bI k.slots i).refs⟩) (u:=.string f.data) rfl;have h2:=h1.ahd hv (i:=i) Γ (j:=1) ω (f:=f) (u:=I f.refs) (by simp only[bI,fu _ _ _ _ hi];rfl);simp only[rD] at h2;exact⟨h2,(adr h.toKr hv).trans (adr h.toKr hv)⟩
theorem bO.aj0 (h:bO lo mb tt X w S k) (x:Int):bO lo mb tt X (w.setCell (Ad mb 4) (I x)) S { k with hand:=x }/\cU S w S (w.setCell (Ad mb 4) (I x)):=by
 have hk:aI (λb=>b=mb) w (w.setCell (Ad mb 4) (I x)):=aI.set _ _ _ _ rfl;have z:∀{b:Nat} {c:ma},S.lab b=c->c≠.head->¬b=mb:=λe hc x=>hc (by grind [lH])
 refine⟨⟨⟨λb hb=>⟨(h.vD b hb).1,gm (h.vD b hb).2 hk.size⟩,hk.row h.aD (λb hb=>z (h.lS b hb) ξ),λi hi=>hk.row (h.df i hi) (λb hb=>z (h.lX i hi b hb) ξ),hk.row h.frames (λb hb=>z (h.lF b hb) ξ),hk.row h.slots (λb hb=>z (h.lL b hb) ξ),hk.row h.aj (λb hb=>z (h.lP b hb) ξ),h.len,λi hi=>(h.each i hi).kp hk (λb hb=>z (h.lA i hi b hb) ξ) (λb hb=>z (h.lE i hi b hb) ξ),h.lS,h.lX,h.lF,h.lL,h.lP,h.lA,h.lE⟩,?_,h.lH⟩,cU.set Γ⟩;rw[dm h.head 4 (I x)];simp
theorem bO.turn {w2:World} (h:bO lo mb tt X w S k) {j:Nat} (hj:j<k.aj.length) {l:AG} {s:cZ} {lab':Nat->ma}
  (hk:aI (λb=>S.lab b=.bl j\/S.lab b=.aj\/S.lab b=.bu j) w w2) (hrow:w2.ownsRow lo 99 3 S.vP S.L.length ((S.L.set j l).flatMap fX)) (hs:nK lo w2 l s)
  (hb:∀b,lab' b≠.no->lo<=b/\b<w2.heap.size) (hlab:∀b c,S.lab b=c->c≠.no->c≠.bu j->c≠.bl j->lab' b=c) (hA:∀b,bN l.va b->lab' b=.bu j) (hE:∀b,bN l.vp b->lab' b=.bl j) :
  bO lo mb tt X w2 ⟨lab',S.vS,S.vF,S.vL,S.vP,S.L.set j l⟩ { k with aj:=k.aj.set j s } :=
 ⟨h.toKr.turn hj hk hrow hs hb hlab hA hE,hk.keep h.head (λx=>by grind [lH]),hlab mb _ h.lH ξ ξ ξ⟩
theorem RA (L:List AG) (j:Nat):L.set j (fQ L j)=L:=by
 grind [fQ,List.set_getElem_self,List.set_eq_of_length_le]
theorem bO.ahe (h:bO lo mb tt X w S k) {j:Nat} (hj:j<k.aj.length) {g n cap:Nat} (hv:(fQ S.L j).vp=.slice (some (Ad g 0)) n cap) {i c:Nat} (hi:i<(ak k.aj j).bl.length) (hc:c<3) {e:bK} {u:Value} (he:bC e=(bC (aW (ak k.aj j).bl i)).set c u) :
  bO lo mb tt X (w.setCell (Ad g (i*3+c)) u) S { k with aj:=k.aj.set j (eT (ak k.aj j) ((ak k.aj j).bl.set i e)) }/\cU S w S (w.setCell (Ad g (i*3+c)) u):=by
 have q:S.lab g=.bl j:=h.lE j hj g (by rw[hv];rfl);have hk:aI (λb=>b=g) w (w.setCell (Ad g (i*3+c)) u):=aI.set _ _ _ _ rfl;have z:∀{b:Nat} {c:ma},S.lab b=c->c≠.bl j->¬b=g:=λe hc x=>hc Γ
 have hs:=h.each j hj;have hn:n=(ak k.aj j).bl.length:=by
  obtain⟨ao,c,e,_⟩:=bh hs.aY
  grind
 subst hn;have hr:=hs.aY;rw[hv] at hr;refine⟨?_,cU.set Γ⟩;have:=h.turn (w2:=w.setCell (Ad g (i*3+c)) u) hj (l:=fQ S.L j) (s:=eT (ak k.aj j) ((ak k.aj j).bl.set i e)) (lab':=S.lab) (hk.mono (λb _ e=>.inl Γ)) (by rw[RA];exact hk.row h.aj (λb hb=>z (h.lP b hb) ξ)) ⟨hs.live,hk.row hs.bu (λb hb=>z (h.lA j hj b hb) ξ),?_⟩ (λb hb=>⟨(h.vD b hb).1,gm (h.vD b hb).2 hk.size⟩) (λb c e _ _ _=>e) (λb hb=>h.lA j hj b hb) (λb hb=>h.lE j hj b hb)
 . simp_all [RA]
 have r2:=fI hr (i*3+c) u;show World.ownsRow _ lo _ 3 (fQ S.L j).vp ((ak k.aj j).bl.set i e).length (((ak k.aj j).bl.set i e).flatMap bC);rw[gX,hv,kW bC 3 (λ_=>rfl) gJ e c u hc _ i hi he];exact r2
def Ch (S:gv) (j:Nat) (v:Value):Nat->ma:=λb=>if v.ownBlock=some b then .bl j else S.lab b
def LC (S:gv) (j:Nat) (v:Value):Nat->ma:=λb=>if v.ownBlock=some b then .bu j else S.lab b
theorem bO.alG {w1:World} (h:bO lo mb tt X w S k) {j:Nat} (hj:j<k.aj.length) {v:Value} {es:List bK} {pb n cap:Nat} (hP:S.vP=.slice (some (Ad pb 0)) n cap)
  (hk:aI (λb=>S.lab b=.bl j) w w1) (hr:w1.ownsRow lo 174 3 v es.length (es.flatMap bC)) (hat:∀b,bN v b->S.lab b=.bl j\/S.lab b=.no) :
  bO lo mb tt X (w1.setCell (Ad pb (j*3+2)) v) ⟨Ch S j v,S.vS,S.vF,S.vL,S.vP,S.L.set j ⟨(fQ S.L j).lv,(fQ S.L j).va,v⟩⟩ { k with aj:=k.aj.set j (eT (ak k.aj j) es) } /\
  ((∀b,b<w.heap.size->bN v b->S.lab b=.bl j)->cU S w ⟨Ch S j v,S.vS,S.vF,S.vL,S.vP,S.L.set j ⟨(fQ S.L j).lv,(fQ S.L j).va,v⟩⟩ (w1.setCell (Ad pb (j*3+2)) v)):=by
 have J:S.lab pb=.aj:=h.lP pb (by rw[hP];rfl);have nJ:aI (λb=>b=pb) w1 (w1.setCell (Ad pb (j*3+2)) v):=aI.set _ _ _ _ rfl;have hs:=h.each j hj;have hl:=h.len;have r:∀b,bN v b->lo<=b/\b<w1.heap.size:=λb hb=>hr.lt b hb
 have q:∀b c,S.lab b=c->c≠.no->c≠.bl j->Ch S j v b=c:=λb c e h1 h2=>by
  unfold Ch;rw[aH,e];intro x;rcases hat b x with y | y
  . grind
  grind
 have hn:n=S.L.length:=by
  obtain⟨ao,c,e,_⟩:=bh h.aj
  grind
 subst hn;have A:=hk.row h.aj (λb hb e=>by rw[h.lP b hb] at e;simp at e);rw[hP] at A;have F:=fI A (j*3+2) v;rw[<- kW fX 3 (λ_=>rfl) xO ⟨(fQ S.L j).lv,(fQ S.L j).va,v⟩ 2 v ω S.L j ω rfl] at F;have G:=gj hk.size nJ.size;refine⟨h.turn hj (l:=⟨(fQ S.L j).lv,(fQ S.L j).va,v⟩) (s:=eT (ak k.aj j) es) (lab':=Ch S j v) ((hk.mono (D1:=λb=>S.lab b=.bl j\/S.lab b=.aj\/S.lab b=.bu j) (λb _ e=>.inl e)).trans nJ (λb _ e=>.inr (.inl Γ))) Γ ⟨hs.live,?_,?_⟩ ?_ (λb c e h1 _ h3=>q b c e h1 h3) (λb hb=>q b _ (h.lA j hj b hb) ξ ξ) (λb hb=>aQ hb),λhold=>⟨?_,?_,rfl,rfl,rfl,rfl⟩⟩
 . exact nJ.row (hk.row hs.bu (λb hb e=>by rw[h.lA j hj b hb] at e;simp at e)) (λb hb e=>by have:=h.lA j hj b hb;grind)
 . exact nJ.row hr (λb hb e=>by
    subst e;rcases hat b hb with y | y <;> · grind)
 . intro b hb;unfold Ch at hb;by_cases c:v.ownBlock=some b
   . exact⟨(r b c).1,gm (r b c).2 nJ.size⟩
   rw[aH c] at hb;exact⟨(h.vD b hb).1,gm (h.vD b hb).2 G⟩
 . exact(hk.mono (λb _ e=>Γ)).trans nJ (λb _ e=>Γ)
 intro b hb B;show Ch S j v b=.no;unfold Ch;rw[aH,B];intro x;have:=hold b hb x
 grind
variable {lo mb:Nat} {tt:TypeId} {X:List Value} {w:World} {S:gv} {k:aT}
theorem Ew (L:List AG) (l:AG) (k:Nat):fQ (L++[l]) k=if k<L.length then fQ L k else if k=L.length then l else xO:=by
 grind [fQ]
def wO (S:gv) (v:Value) (l:AG):Nat->ma:=λb=>if v.ownBlock=some b then .aj else if l.va.ownBlock=some b then .bu S.L.length else if l.vp.ownBlock=some b then .bl S.L.length else S.lab b
theorem bO.push {w2 w4:World} {v':Value} {l:AG} {s:cZ} {O:Obj} (h:bO lo mb tt X w S k) (hlo:lo<=w.heap.size) (hb2:Below w.heap.size w w2)
  (hso:nK w.heap.size w2 l s) (hne:∀b,bN l.vp b->¬bN l.va b) (hgr:(w2.alloc O).grownBy w4 S.vP.ownBlock) (hown:w4.ownsRow lo 99 3 v' (S.L.length+1) (S.L.flatMap fX++fX l))
  (hat:v'.ownBlock=S.vP.ownBlock\/v'.ownBlock=some (w2.alloc O).heap.size) :
  bO lo mb tt X (w4.setCell (Ad mb 3) v') ⟨wO S v' l,S.vS,S.vF,S.vL,v',S.L++[l]⟩ { k with aj:=k.aj++[s] }/\(∀b,b<w.heap.size->S.lab b=.no->wO S v' l b=.no)/\aI (λb=>S.lab b≠.no) w (w4.setCell (Ad mb 3) v'):=by
 have s1:=hb2.size;have s2:=hgr.size;have hz:(w2.alloc O).heap.size=w2.heap.size+1:=fp _ _;rw[hz] at s2 hat
 have kA:aI (bN S.vP) w w2:=aI.cA hb2;have kB:aI (bN S.vP) w2 (w2.alloc O):=aI.alloc _ w2 O;have kC:aI (bN S.vP) (w2.alloc O) w4:=aI.grown hgr (λ_ e=>e);have kD:=kA.trans (kB.trans kC (λ_ _ g=>g)) (λ_ _ g=>g);have nJ:aI (λb=>b=mb) w4 (w4.setCell (Ad mb 3) v'):=aI.set _ _ _ _ rfl;have eA:∀b,bN l.va b\/bN l.vp b->w.heap.size<=b/\b<w2.heap.size:=λb hb=>by
  rcases hb with g | g
  . exact hso.bu.lt b g
  exact hso.aY.lt b g
 have G:∀b,bN S.vP b->b<w.heap.size:=λb hb=>(h.aj.lt b hb).2
 have y:∀b,bN v' b->bN S.vP b\/b=w2.heap.size+1:=λb hb=>by
  grind [bN]
 have F:=aM h.head;have r:∀b c,S.lab b=c->c≠.no->c≠.aj->wO S v' l b=c:=λb c e h1 h2=>by
  have hb:=(h.vD b Γ).2;unfold wO;rw[aH,aH,aH,e]
  . intro x;have:=eA b (.inr x);omega
  . intro x;have:=eA b (.inl x);omega
  intro x;rcases y b x with g | g
  . exact h2 (by rw[<- e];exact h.lP b g)
  omega
 have zD:∀{b:Nat} {c:ma},S.lab b=c->c≠.aj->¬bN S.vP b:=λe hc x=>hc (by rw[<- e];exact h.lP _ x)
 have zH:∀{b:Nat} {c:ma},S.lab b=c->c≠.head->¬b=mb:=λe hc x=>hc (by rw[<- e,x];exact h.lH)
 have row:∀{e:TypeId} {n m:Nat} {v:Value} {xs:List Value},w.ownsRow lo e n v m xs->(∀b,bN v b->¬bN S.vP b/\¬b=mb)->(w4.setCell (Ad mb 3) v').ownsRow lo e n v m xs:=λhr hq=>nJ.row (kD.row hr (λb hb=>(hq b hb).1)) (λb hb=>(hq b hb).2)
 have A:(S.L++[l]).length=S.L.length+1:=by simp
 have q:=h.len;refine⟨⟨⟨λb hb=>?_,row h.aD (λb hb=>⟨zD (h.lS b hb) ξ,zH (h.lS b hb) ξ⟩),λi hi=>row (h.df i hi) (λb hb=>⟨zD (h.lX i hi b hb) ξ,zH (h.lX i hi b hb) ξ⟩),row h.frames (λb hb=>⟨zD (h.lF b hb) ξ,zH (h.lF b hb) ξ⟩),row h.slots (λb hb=>⟨zD (h.lL b hb) ξ,zH (h.lL b hb) ξ⟩),?_,?_,λi hi=>?_,λb hb=>r b _ (h.lS b hb) ξ ξ,λi hi b hb=>r b _ (h.lX i hi b hb) ξ ξ,λb hb=>r b _ (h.lF b hb) ξ ξ,λb hb=>r b _ (h.lL b hb) ξ ξ,λb hb=>aQ hb,λi hi b hb=>?_,λi hi b hb=>?_⟩,?_,r mb _ h.lH ξ ξ⟩,λb hb e=>?_,?_⟩
 . have hb:wO S v' l b≠.no:=hb;have B:(w4.setCell (Ad mb 3) v').heap.size=w4.heap.size:=by simp
   rw[B];unfold wO at hb;by_cases c:v'.ownBlock=some b
   . exact hown.lt b c
   rw[aH c] at hb;by_cases d:l.va.ownBlock=some b
   . have:=eA b (.inl d);omega
   rw[aH d] at hb;by_cases e:l.vp.ownBlock=some b
   . have:=eA b (.inr e);omega
   rw[aH e] at hb;have:=h.vD b hb;omega
 . show World.ownsRow _ lo _ 3 v' (S.L++[l]).length _;rw[A,wk];have:w4.ownsRow lo 99 3 v' (S.L.length+1) (S.L.flatMap fX++[l].flatMap fX):=by grind
   exact nJ.row this (λb hb e=>by
    rcases y b hb with g | g
    . grind
    omega)
 . grind
 . have hi:i<(k.aj++[s]).length:=hi;rw[gM,zI] at hi;show nK lo _ (fQ (S.L++[l]) i) (ak (k.aj++[s]) i);rw[Ew,XN,q];by_cases c:i<k.aj.length
   . rw[aQ c,aQ c];exact((h.each i c).kp kD (λb hb=>zD (h.lA i c b hb) ξ) (λb hb=>zD (h.lE i c b hb) ξ)).kp nJ (λb hb=>zH (h.lA i c b hb) ξ) (λb hb=>zH (h.lE i c b hb) ξ)
   have e:i=k.aj.length:=by omega
   rw[aH c,aH c,aQ e,aQ e];refine((hso.mono hlo).kp (kB.trans kC (λ_ _ g=>g)) (λb hb g=>?_) (λb hb g=>?_)).kp nJ (λb hb e=>?_) (λb hb e=>?_)
   . grind
   . grind
   . grind
   grind
 . have hi:i<(k.aj++[s]).length:=hi;rw[gM,zI] at hi;have hb:bN (fQ (S.L++[l]) i).va b:=hb;rw[Ew,q] at hb;by_cases c:i<k.aj.length
   . rw[aQ c] at hb;exact r b _ (h.lA i c b hb) ξ ξ
   have e:i=k.aj.length:=by omega
   rw[aH c,aQ e] at hb;have hx:=eA b (.inl hb);show wO S v' l b=.bu i;unfold wO;rw[aH,aQ (show l.va.ownBlock=some b from hb),e,q];intro x;rcases y b x with g | g
   . grind
   omega
 . have hi:i<(k.aj++[s]).length:=hi;rw[gM,zI] at hi;have hb:bN (fQ (S.L++[l]) i).vp b:=hb;rw[Ew,q] at hb;by_cases c:i<k.aj.length
   . rw[aQ c] at hb;exact r b _ (h.lE i c b hb) ξ ξ
   have e:i=k.aj.length:=by omega
   rw[aH c,aQ e] at hb;have hx:=eA b (.inr hb);show wO S v' l b=.bl i;unfold wO;rw[aH,aH (show ¬l.va.ownBlock=some b from hne b hb),aQ (show l.vp.ownBlock=some b from hb),e,q];intro x;rcases y b x with g | g
   . grind
   omega
 . have:w4.heap[mb]?=some (.cells ([S.vS,S.vF,S.vL,S.vP,I k.hand]++X).toArray tt (0,0)):=kD.keep h.head (λx=>Γ);rw[dm this 3 v'];simp
 . unfold wO;rw[aH,aH,aH,e]
   . intro x;have:=eA b (.inr x);omega
   . intro x;have:=eA b (.inl x);omega
   intro x;rcases y b x with g | g
   . grind
   omega
 exact(kD.mono (λb _ g=>Γ)).trans nJ (λb _ e=>Γ)
theorem bO.asN (h:bO lo mb tt X w S k) {j:Nat} (hj:j<k.aj.length) {v:Value} {l:List aU} {pb n cap:Nat} (hP:S.vP=.slice (some (Ad pb 0)) n cap) (hr:eO lo w v l) (hat:∀b,bN v b->S.lab b=.no) :
  bO lo mb tt X (w.setCell (Ad pb (j*3+1)) v) ⟨LC S j v,S.vS,S.vF,S.vL,S.vP,S.L.set j ⟨(fQ S.L j).lv,v,(fQ S.L j).vp⟩⟩ { k with aj:=k.aj.set j ⟨(ak k.aj j).live,l,(ak k.aj j).bl⟩ }/\aI (λb=>S.lab b≠.no) w (w.setCell (Ad pb (j*3+1)) v):=by
 have A:S.lab pb=.aj:=h.lP pb (by rw[hP];rfl);have nJ:aI (λb=>b=pb) w (w.setCell (Ad pb (j*3+1)) v):=aI.set _ _ _ _ rfl;have hs:=h.each j hj;have hl:=h.len;have q:∀b c,S.lab b=c->c≠.no->LC S j v b=c:=λb c e h1=>by
  unfold LC;rw[aH,e];intro x;exact h1 (e.symm.trans (hat b x))
 have hn:n=S.L.length:=by
  obtain⟨ao,c,e,_⟩:=bh h.aj
  grind
 subst hn;have r:=h.aj;rw[hP] at r;have y:=fI r (j*3+1) v;rw[<- kW fX 3 (λ_=>rfl) xO ⟨(fQ S.L j).lv,v,(fQ S.L j).vp⟩ 1 v ω S.L j ω rfl] at y;refine⟨h.turn hj (l:=⟨(fQ S.L j).lv,v,(fQ S.L j).vp⟩) (s:=⟨(ak k.aj j).live,l,(ak k.aj j).bl⟩) (lab':=LC S j v) (nJ.mono (λb _ e=>.inr (.inl Γ))) Γ ⟨hs.live,?_,?_⟩ ?_ (λb c e h1 _ _=>q b c e h1) (λb hb=>aQ hb) (λb hb=>q b _ (h.lE j hj b hb) ξ),nJ.mono (λb _ e=>Γ)⟩
 . exact nJ.row hr (λb hb e=>by have:=hat b hb;grind)
 . exact nJ.row hs.aY (λb hb e=>by have:=h.lE j hj b hb;grind)
 intro b hb;unfold LC at hb;by_cases c:v.ownBlock=some b
 . exact⟨(hr.lt b c).1,gm (hr.lt b c).2 nJ.size⟩
 rw[aH c] at hb;exact⟨(h.vD b hb).1,gm (h.vD b hb).2 nJ.size⟩
theorem bO.zero (h:bO lo mb tt X w S k) {j:Nat} (hj:j<k.aj.length) {pb n cap:Nat} (hP:S.vP=.slice (some (Ad pb 0)) n cap) :
  bO lo mb tt X (((w.setCell (Ad pb (j*3)) (.bool false)).setCell (Ad pb (j*3+1)) Nl).setCell (Ad pb (j*3+2)) Nl) ⟨S.lab,S.vS,S.vF,S.vL,S.vP,S.L.set j xO⟩ { k with aj:=k.aj.set j rP }/\cU S w ⟨S.lab,S.vS,S.vF,S.vL,S.vP,S.L.set j xO⟩ (((w.setCell (Ad pb (j*3)) (.bool false)).setCell (Ad pb (j*3+1)) Nl).setCell (Ad pb (j*3+2)) Nl):=by
 have F:S.lab pb=.aj:=h.lP pb (by rw[hP];rfl);have hl:=h.len;have nJ:aI (λb=>b=pb) w (((w.setCell (Ad pb (j*3)) (.bool false)).setCell (Ad pb (j*3+1)) Nl).setCell (Ad pb (j*3+2)) Nl):=vw w pb _ _ _ _ _ _ rfl;have hn:n=S.L.length:=by
  obtain⟨ao,c,e,_⟩:=bh h.aj
  grind
 subst hn;have r:=h.aj;rw[hP] at r;have y:=fI r (j*3) (.bool false);have q:j<S.L.length:=by omega
 have e1:=kW fX 3 (λ_=>rfl) xO ⟨false,(fQ S.L j).va,(fQ S.L j).vp⟩ 0 (.bool false) ω S.L j q rfl;rw[jt] at e1;rw[<- e1] at y;have A:=fI y (j*3+1) Nl;have e2:=kW fX 3 (λ_=>rfl) xO ⟨false,Nl,(fQ S.L j).vp⟩ 1 Nl ω (S.L.set j ⟨false,(fQ S.L j).va,(fQ S.L j).vp⟩) j Γ (by rw[fu _ _ _ _ q];rfl);rw[<- e2,rD] at A;have B:=fI A (j*3+2) Nl;have e3:=kW fX 3 (λ_=>rfl) xO xO 2 Nl ω (S.L.set j ⟨false,Nl,(fQ S.L j).vp⟩) j Γ (by rw[fu _ _ _ _ q];rfl);rw[<- e3,rD] at B;refine⟨h.turn hj (l:=xO) (s:=rP) (lab':=S.lab) (nJ.mono (λb _ e=>.inr (.inl Γ))) Γ ⟨rfl,nt _ _ _ _,nt _ _ _ _⟩ (λb hb=>⟨(h.vD b hb).1,gm (h.vD b hb).2 nJ.size⟩) (λb c e _ _ _=>e) (λb hb=>by cases hb) (λb hb=>by cases hb),nJ.mono (λb _ e=>Γ),λ_ _ e=>e,rfl,rfl,rfl,rfl⟩
variable {lo mb:Nat} {tt:TypeId} {X:List Value} {w:World} {S:gv} {k:aT}
theorem bO.c0 (h:bO lo mb tt X w S k):w.cell? (Ad mb 0)=some S.vS:=aA h.head 0 ξ
theorem bO.c1 (h:bO lo mb tt X w S k):w.cell? (Ad mb 1)=some S.vF:=aA h.head 1 ξ
theorem bO.c2 (h:bO lo mb tt X w S k):w.cell? (Ad mb 2)=some S.vL:=aA h.head 2 ξ
theorem bO.c3 (h:bO lo mb tt X w S k):w.cell? (Ad mb 3)=some S.vP:=aA h.head 3 ξ
theorem bO.c4 (h:bO lo mb tt X w S k):w.cell? (Ad mb 4)=some (I k.hand):=aA h.head 4 ξ
theorem bO.cx (h:bO lo mb tt X w S k) (n:Nat) {v:Value} (hv:X[n]?=some v):w.cell? (Ad mb (5+n))=some v:=aA h.head (5+n) (by
 grind)
theorem bO.free (h:bO lo mb tt X w S k) (j:Nat):w.frozen? (Ad mb j)=false:=br h.head j
theorem bO.lt (h:bO lo mb tt X w S k):mb<w.heap.size:=aM h.head
theorem bO.lo_le (h:bO lo mb tt X w S k):lo<=mb:=(h.vD mb (by grind [lH])).1
structure Ci (w:World) (S:gv) (k:aT) (fb cF:Nat):Prop where
 v:S.vF=.slice (some (Ad fb 0)) k.frames.length cF
 x0:∀i,i<k.frames.length->w.cell? (Ad fb (i*4))=some (.string (aK k.frames i).data)
 x1:∀i,i<k.frames.length->w.cell? (Ad fb (i*4+1))=some (I (aK k.frames i).refs)
 x2:∀i,i<k.frames.length->w.cell? (Ad fb (i*4+2))=some (.bool (aK k.frames i).ja)
 x3:∀i,i<k.frames.length->w.cell? (Ad fb (i*4+3))=some (.bool (aK k.frames i).seen)
 fz:∀j,w.frozen? (Ad fb j)=false
 lt:fb<w.heap.size
 lab:S.lab fb=.frames
 cap:k.frames.length<=cF
theorem Kr.fr (h:Kr lo w S k) (hn:0<k.frames.length):∃fb cF,Ci w S k fb cF:=by
 obtain⟨ao,cap,e,hc,hg⟩:=bh h.frames;obtain⟨g,rfl,q,b⟩:=hg hn;have hr:=h.frames;rw[e] at hr;have at_:=λi (hi:i<k.frames.length) j (hj:j<4)=>kF gu (λ_=>rfl) eG hr i j hi hj
 exact⟨g,cap,e,λi hi=>at_ i hi 0 ω,λi hi=>at_ i hi 1 ω,λi hi=>at_ i hi 2 ω,λi hi=>at_ i hi 3 ω,iN hr,b,h.lF g (by rw[e];rfl),hc⟩
structure afl (w:World) (S:gv) (k:aT) (fb cF:Nat):Prop where
 v:S.vL=.slice (some (Ad fb 0)) k.slots.length cF
 x0:∀i,i<k.slots.length->w.cell? (Ad fb (i*2))=some (.string (bI k.slots i).data)
 x1:∀i,i<k.slots.length->w.cell? (Ad fb (i*2+1))=some (I (bI k.slots i).refs)
 fz:∀j,w.frozen? (Ad fb j)=false
 lt:fb<w.heap.size
 lab:S.lab fb=.slots
theorem Kr.sl (h:Kr lo w S k) (hn:0<k.slots.length):∃fb cF,afl w S k fb cF:=by
 obtain⟨ao,cap,e,hc,hg⟩:=bh h.slots;obtain⟨g,rfl,q,b⟩:=hg hn;have hr:=h.slots;rw[e] at hr;have at_:=λi (hi:i<k.slots.length) j (hj:j<2)=>kF gq (λ_=>rfl) gP hr i j hi hj
 exact⟨g,cap,e,λi hi=>at_ i hi 0 ω,λi hi=>at_ i hi 1 ω,iN hr,b,h.lL g (by rw[e];rfl)⟩
structure akM (w:World) (S:gv) (k:aT) (pb cP:Nat):Prop where
 v:S.vP=.slice (some (Ad pb 0)) k.aj.length cP
 x0:∀i,i<k.aj.length->w.cell? (Ad pb (i*3))=some (.bool (ak k.aj i).live)
 x1:∀i,i<k.aj.length->w.cell? (Ad pb (i*3+1))=some (fQ S.L i).va
 x2:∀i,i<k.aj.length->w.cell? (Ad pb (i*3+2))=some (fQ S.L i).vp
 fz:∀j,w.frozen? (Ad pb j)=false
 lt:pb<w.heap.size
 lab:S.lab pb=.aj
theorem Kr.sp (h:Kr lo w S k) (hn:0<k.aj.length):∃pb cP,akM w S k pb cP:=by
 obtain⟨ao,cap,e,hc,hg⟩:=bh h.aj;have hl:=h.len;obtain⟨g,rfl,q,b⟩:=hg ω;have hr:=h.aj;rw[e] at hr;have at_:=λi (hi:i<k.aj.length) j (hj:j<3)=>kF fX (λ_=>rfl) xO hr i j ω hj
 exact⟨g,cap,Γ,λi hi=>by rw[<- (h.each i hi).live];exact at_ i hi 0 ω,λi hi=>at_ i hi 1 ω,λi hi=>at_ i hi 2 ω,iN hr,b,h.lP g (by rw[e];rfl)⟩
theorem Kr.bl (h:Kr lo w S k) {i:Nat} (hi:i<k.aj.length):∃ae ce,(fQ S.L i).vp=.slice ae (ak k.aj i).bl.length ce/\dE bC 3 gJ w ae (ak k.aj i).bl:=by
 obtain⟨ae,ce,e,_,hr⟩:=pq bC (λ_=>rfl) gJ (h.each i hi).aY
 grind
theorem Kr.bu (h:Kr lo w S k) {i:Nat} (hi:i<k.aj.length):eN w (fQ S.L i).va (ak k.aj i).bu:=(h.each i hi).bu.has
end Go.Proofs.YtlgoihmkgaaemaaGreat
