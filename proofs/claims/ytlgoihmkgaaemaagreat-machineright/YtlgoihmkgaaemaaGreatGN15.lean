import Derived.Test.YtlgoihmkgaaemaaGreatGN14
import Derived.Deep.RegionHeld3
set_option maxHeartbeats 20000000
set_option linter.unusedVariables false
set_option maxRecDepth 100000
set_option linter.unusedSimpArgs false
namespace Go.Proofs.YtlgoihmkgaaemaaGreat
open Go.RowKit
structure zW where
 lv:Bool
 va:Value
 vp:Value
def gT (l:zW):List Value:=[.bool l.lv,l.va,l.vp]
def xk:zW:=⟨false,Nl,Nl⟩
def fH (l:List zW) (k:Nat):zW:=l.getD k xk
def bZ (v:Value) (b:Nat):Prop:=v.ownBlock=some b
structure mX (lo:Nat) (w:World) (l:zW) (s:cY):Prop where
 live:l.lv=s.live
 aU:eu lo w l.va s.aU
 aQ:w.ownsRow lo 174 3 l.vp s.bc.length (s.bc.flatMap bG)
theorem mX.kp {lo:Nat} {w w':World} {D:Nat->Prop} {l:zW} {s:cY} (h:mX lo w l s) (hk:aD D w w') (ha:∀b,bZ l.va b->¬D b) (hp:∀b,bZ l.vp b->¬D b):mX lo w' l s:=⟨h.live,hk.row h.aU ha,hk.row h.aQ hp⟩
theorem mX.mono {lo lo':Nat} {w:World} {l:zW} {s:cY} (h:mX lo w l s) (hl:lo'<=lo):mX lo' w l s:=⟨h.live,h.aU.mono hl,oh h.aQ (fun g hg=>gY hl (h.aQ.lt g hg).1)⟩
theorem zl {α:Type} {w:World} (f:α->List Value) (k:Nat) (hf:∀x,(f x).length=k) (d:α) (l:List α) (b off:Nat) (h:∀i,i<l.length->∀j,j<k->w.cell? (Ad b (off+i*k+j))=(f (l.getD i d))[j]?):mR w (some (Ad b off)) l.length (l.flatMap f):=fun hm=>by
 refine⟨_,rfl,fun j u hu=>?_⟩;have hlt:j<l.length*k:=by
  grind [fY]
 have hk:0<k:=by
  grind
 have e:j=j/k*k+j%k:=by grind [Nat.div_add_mod]
 have h1:j/k<l.length:=(Nat.div_lt_iff_lt_mul hk).2 hlt
 grind [Nat.mod_lt,yF,Addr.add_lit]
theorem SU {w:World} {ao:Option Addr} {n c:Nat} {l:List aX} (h:fZ w (.slice ao n c) l):n=l.length/\mR w ao n (cT l):=by
 obtain⟨XQ,cap,e,h⟩:=h;injection e with e1 e2 e3;subst e1 e2 e3;refine⟨rfl,fun hm=>?_⟩;rcases h with h | ⟨b,off,rfl,hl⟩
 · grind
 · have:=zl (w:=w) oX 4 (fun _=>rfl) xI l b off (fun i hi j hj=>by
    obtain⟨c0,c1,c2,c3⟩:=hl i hi
    match j,hj with
    | 0,_=>exact c0
    | 1,_=>exact c1
    | 2,_=>exact c2
    | 3,_=>exact c3)
   have e:cT l=l.flatMap oX:=by
    clear this hl hm;induction l with
    | nil=>rfl
    | cons a r ih=>rw[nW,<- ih];rfl
   rw[e];exact this hm
theorem SS {w:World} {ap:Option Addr} {l:List bI} (h:dW bG 3 gV w ap l):mR w ap l.length (l.flatMap bG):=fun hm=>by
 obtain⟨b,off,rfl,hb,hl⟩:=h hm;exact zl (w:=w) bG 3 (fun _=>rfl) gV l b off (fun i hi j hj=>hl i hi j hj) hm
theorem tP:∀(l:List bI),∀u∈l.flatMap bG,u.oneCell'=true:=fun l u hu=>by
 obtain⟨y,_,hy⟩:=vJ.1 hu;simp[bG] at hy;rcases hy with rfl | rfl | rfl <;> rfl
def Y8 (w:World) (s:cY) (e:Ending) (w':World):Prop:=∃va vp,e=.returned (.agg #[.bool s.live,va,vp])/\mX w.heap.size w' ⟨s.live,va,vp⟩ s/\(∀b,bZ vp b->¬bZ va b)/\Below w.heap.size w w'
theorem Iq (s:cY) (aa ap:Option Addr) (na ca cp:Nat) (w:World) (ha:fZ w (.slice aa na ca) s.aU) (hp:dW bG 3 gV w ap s.bc) (rz:s.aU.length<=1000000) (AA:s.bc.length<=1000000) :
  Calls Tryz.prog 135 #[.agg #[.bool s.live,.slice aa na ca,.slice ap s.bc.length cp]] w (Y8 w s):=by
 obtain⟨hn,hfa⟩:=SU ha;have E7:=ai hfa;have Hn:=ai (SS hp);obtain⟨lv,vC,pgs⟩:=s;simp only at hn E7 Hn rz AA ⊢;subst hn;have HLA:=ai (yX vC);have HLP:=ai (fY bG 3 (fun _=>rfl) pgs);have H1A:=ai (xK vC);have H1P:=ai (tP pgs);have dz:Hid (∀va vp (w':World),eu w.heap.size w' va vC->w'.ownsRow w.heap.size 174 3 vp pgs.length (pgs.flatMap bG)->(∀b,bZ vp b->¬bZ va b)->Below w.heap.size w w'->Y8 w ⟨lv,vC,pgs⟩ (.returned (.agg #[.bool lv,va,vp])) w'):=fun va vp w' h1 h2 h3 h4=>⟨va,vp,rfl,⟨rfl,h1,h2⟩,h3,h4⟩
 obtain⟨XA,hXA⟩:=ex (cT vC);obtain⟨XP,hXP⟩:=ex (pgs.flatMap bG);unfold eu at dz;rw[<- hXA] at E7 HLA H1A dz;rw[<- hXP] at Hn HLP H1P dz;obtain⟨na,amn⟩:=ex vC.length;obtain⟨np,aml⟩:=ex pgs.length;rw[<- amn] at E7 HLA dz rz ⊢;rw[<- aml] at Hn HLP dz AA ⊢;clear hfa ha hp hXA hXP amn aml;have gK:=ai (((aK w.heap.size w).alloc (aI _) (.cells #[.bool lv,.slice aa na ca,.slice ap np cp] 99)).alloc (by simp) (.cells #[.bool false,Nl,Nl] 99));have X0:=ai (br (bE w #[.bool lv,.slice aa na ca,.slice ap np cp] 99) (.cells #[.bool false,Nl,Nl] 99));have Y0:Hid (((w.alloc (.cells #[.bool lv,.slice aa na ca,.slice ap np cp] 99)).alloc (.cells #[.bool false,Nl,Nl] 99)).heap[w.heap.size+1]?=some (.cells #[.bool false,Nl,Nl] 99 (0,0))):=by
  grind [World.alloc]
 go_enter Tryz.func135,Tryz.ntmps135;go_wp2;obtain⟨WA,lO⟩:=ex ((w.alloc (.cells #[.bool lv,.slice aa na ca,.slice ap np cp] 99)).alloc (.cells #[.bool false,Nl,Nl] 99));rw[<- lO] at gK X0 Y0 ⊢;clear lO;have OI:=ai gK.o;obtain⟨xb,LZ⟩:=ex w.heap.size;rw[<- LZ] at X0 Y0 gK dz ⊢;have Tk:=ai LZ;clear LZ;have HS:Hid (∀V,Below WA.heap.size WA V->V.cell? (Ad xb 0)=some (.bool lv)/\V.cell? (Ad xb 1)=some (.slice aa na ca)/\V.cell? (Ad xb 2)=some (.slice ap np cp)):=fun V hb=>by
  grind [aO,au,Hid.o]
 have HCA:Hid (∀V,Below WA.heap.size WA V->Calls Tryz.prog 71 #[.slice aa na ca] V fun e w'=>∃a c,e=.returned (.slice a na c)/\w'.ownsRow V.heap.size 139 4 (.slice a na c) na XA/\Below V.heap.size V w'):=fun V hV=>(acy aa na ca XA V HLA.o (E7.o.below (OI.o.trans (hV.mono OI.o.size))) H1A.o rz).mono fun e w' ⟨v,h1,h2,h3⟩=>by
   obtain⟨a,c,rfl,_⟩:=bj h2
   grind
 have HCP:Hid (∀V,Below WA.heap.size WA V->Calls Tryz.prog 188 #[.slice ap np cp] V fun e w'=>∃a c,e=.returned (.slice a np c)/\w'.ownsRow V.heap.size 174 3 (.slice a np c) np XP/\Below V.heap.size V w'):=fun V hV=>(acx ap np cp XP V HLP.o (Hn.o.below (OI.o.trans (hV.mono OI.o.size))) H1P.o AA).mono fun e w' ⟨v,h1,h2,h3⟩=>by
   obtain⟨a,c,rfl,_⟩:=bj h2
   grind
 have ZH:Hid (∀V:World,(V.cell? (Ad xb 0)=some (.bool lv)/\V.cell? (Ad xb 1)=some (.slice aa na ca)/\V.cell? (Ad xb 2)=some (.slice ap np cp))->∀v0 v1 v2,(((V.setCell (Ad (xb+1) 0) v0).setCell (Ad (xb+1) 1) v1).setCell (Ad (xb+1) 2) v2).cell? (Ad xb 0)=some (.bool lv)/\(((V.setCell (Ad (xb+1) 0) v0).setCell (Ad (xb+1) 1) v1).setCell (Ad (xb+1) 2) v2).cell? (Ad xb 1)=some (.slice aa na ca)/\(((V.setCell (Ad (xb+1) 0) v0).setCell (Ad (xb+1) 1) v1).setCell (Ad (xb+1) 2) v2).cell? (Ad xb 2)=some (.slice ap np cp)):=fun V ⟨h0,h1,h2⟩ v0 v1 v2=>by
  have hne:xb≠xb+1:=by omega
  rw[cu _ _ _ _ _ _ hne,cu _ _ _ _ _ _ hne,cu _ _ _ _ _ _ hne,cu _ _ _ _ _ _ hne,cu _ _ _ _ _ _ hne,cu _ _ _ _ _ _ hne,cu _ _ _ _ _ _ hne,cu _ _ _ _ _ _ hne,cu _ _ _ _ _ _ hne];omega
 have tV:=ai (aK WA.heap.size WA).drew;have ow:=ai (HS.o _ tV.o)
 go_region_held3 (fun V=>V.cell? (Ad xb 0)=some (.bool lv)/\V.cell? (Ad xb 1)=some (.slice aa na ca)/\V.cell? (Ad xb 2)=some (.slice ap np cp)) (first | exact sK.o | exact rX.o | exact ow.o | exact Tt.o _ _ _)
  (first
   | (go_at_call 71;refine(HCA.o _ tV.o).mono ?_;rintro e w2 ⟨a2,c2,rfl,hr2,hb2⟩;have pU:=ai (tV.o.trans (hb2.mono tV.o.size));have rX:=ai (HS.o _ pU.o);have Cr:=ai hr2;clear hb2 hr2)
   | (go_at_call 188;refine(HCP.o _ pU.o).mono ?_;rintro e w3 ⟨a3,c3,rfl,hr3,hb3⟩;have Bw:=ai (pU.o.trans (hb3.mono pU.o.size));have sK:=ai (HS.o _ Bw.o);have Uv:=ai hr3;have mO:=ai hb3;have y0:w3.cell? (Ad (xb+1) 0)=some (.bool false):=au (aO Y0.o Bw.o (aJ Y0.o)) 0 rfl;have z0:w3.frozen? (Ad (xb+1) 0)=false:=aR (aO Y0.o Bw.o (aJ Y0.o)) 0;have y1:w3.cell? (Ad (xb+1) 1)=some Nl:=au (aO Y0.o Bw.o (aJ Y0.o)) 1 rfl;have z1:w3.frozen? (Ad (xb+1) 1)=false:=aR (aO Y0.o Bw.o (aJ Y0.o)) 1;have y2:w3.cell? (Ad (xb+1) 2)=some Nl:=au (aO Y0.o Bw.o (aJ Y0.o)) 2 rfl;have z2:w3.frozen? (Ad (xb+1) 2)=false:=aR (aO Y0.o Bw.o (aJ Y0.o)) 2;have Tt:=ai (fun v0 v1 v2=>ZH.o w3 sK.o v0 v1 v2);clear hb3 hr3))
 all_goals clear Tt ZH HS ow rX sK HCA HCP
 all_goals go_wp2
 · refine bO (v:=.agg #[.bool lv,.slice a2 na c2,.slice a3 np c3]) (by simp[results,Tryz.results135,go_sem,y0,y1,y2]) rfl ?_;have k3:aD (fun b=>b=xb+1) w3 _:=xB w3 (xb+1) 0 1 2 (.bool lv) (.slice a2 na c2) (.slice a3 np c3) rfl;have l1:=aJ Y0.o;have l3:=pU.o.size;have hx:=Tk.o;have e2:∀g,(Value.slice a2 na c2).ownBlock=some g->WA.heap.size<=g/\g<w2.heap.size:=fun g hg=>Cr.o.lt g hg
   have e3:∀g,(Value.slice a3 np c3).ownBlock=some g->w2.heap.size<=g/\g<w3.heap.size:=fun g hg=>Uv.o.lt g hg
   have r2:=(aD.b9 (D:=fun _=>False) mO.o).row Cr.o (fun _ _ g=>g);refine dz.o _ _ _ (k3.row (oh r2 (fun g hg=>by grind)) (fun g hg e=>by grind)) (k3.row (oh Uv.o (fun g hg=>by grind)) (fun g hg e=>by grind)) (fun b h1 h2=>by have:=e2 b h2;have:=e3 b h1;omega) ?_;exact aD.below (gK.o.trans (Bw.o.mono (by omega))) k3 (by have:=Bw.o.size;omega) (fun b e=>by omega)
open Go.RowKit
def nz (s:bJ):List Value:=[I s.page,.string s.data,.slice s.ao s.dZ.length s.cap]
def qw (f:mL):List Value:=[I f.off,.string f.bytes]
def adi (s:bJ):Value:=.slice s.ao s.dZ.length s.cap
inductive oY where
 | no | head | frames | slots | aj | aM
 | aU (i:Nat)
 | bc (i:Nat)
 | dZ (i:Nat)
structure gI where
 lab:Nat->oY
 vS:Value
 vF:Value
 vL:Value
 vP:Value
 L:List zW
structure Kr (lo:Nat) (w:World) (S:gI) (k:aT):Prop where
 yJ:∀b,S.lab b≠.no->lo<=b/\b<w.heap.size
 aM:w.ownsRow lo 145 3 S.vS k.aM.length (k.aM.flatMap nz)
 dZ:∀i,i<k.aM.length->w.ownsRow lo 226 2 (adi (bl k.aM i)) (bl k.aM i).dZ.length ((bl k.aM i).dZ.flatMap qw)
 frames:w.ownsRow lo 169 4 S.vF k.frames.length (k.frames.flatMap iO)
 slots:w.ownsRow lo 171 2 S.vL k.slots.length (k.slots.flatMap iN)
 aj:w.ownsRow lo 99 3 S.vP S.L.length (S.L.flatMap gT)
 len:S.L.length=k.aj.length
 each:∀i,i<k.aj.length->mX lo w (fH S.L i) (ak k.aj i)
 lS:∀b,bZ S.vS b->S.lab b=.aM
 lX:∀i,i<k.aM.length->∀b,bZ (adi (bl k.aM i)) b->S.lab b=.dZ i
 lF:∀b,bZ S.vF b->S.lab b=.frames
 lL:∀b,bZ S.vL b->S.lab b=.slots
 lP:∀b,bZ S.vP b->S.lab b=.aj
 lA:∀i,i<k.aj.length->∀b,bZ (fH S.L i).va b->S.lab b=.aU i
 lE:∀i,i<k.aj.length->∀b,bZ (fH S.L i).vp b->S.lab b=.bc i
structure bK (lo mb:Nat) (tt:TypeId) (X:List Value) (w:World) (S:gI) (k:aT):Prop extends Kr lo w S k where
 head:w.heap[mb]?=some (.cells ([S.vS,S.vF,S.vL,S.vP,I k.hand]++X).toArray tt (0,0))
 lH:S.lab mb=.head
structure cM (S:gI) (w:World) (S':gI) (w':World):Prop where
 kp:aD (fun b=>S.lab b≠.no) w w'
 no:∀b,b<w.heap.size->S.lab b=.no->S'.lab b=.no
 eS:S'.vS=S.vS
 eF:S'.vF=S.vF
 eL:S'.vL=S.vL
 eP:S'.vP=S.vP
theorem cM.refl (S:gI) (w:World):cM S w S w:=⟨aD.refl _ _,fun _ _ h=>h,rfl,rfl,rfl,rfl⟩
theorem cM.trans {S S1 S2:gI} {w w1 w2:World} (h:cM S w S1 w1) (g:cM S1 w1 S2 w2):cM S w S2 w2 :=
 ⟨⟨g.kp.os.trans h.kp.os,g.kp.tape.trans h.kp.tape,g.kp.output.trans h.kp.output,gY h.kp.size g.kp.size,fun b hb hn=>by
  have hb1:=fL hb h.kp.size;have hn0:S.lab b=.no:=y7.1 hn;have Sk:=h.no b hb hn0;exact(g.kp.block b hb1 (fun x=>x Sk)).trans (h.kp.block b hb hn)⟩,fun b hb hn=>g.no b (fL hb h.kp.size) (h.no b hb hn),g.eS.trans h.eS,g.eF.trans h.eF,g.eL.trans h.eL,g.eP.trans h.eP⟩
theorem cM.below {S:gI} {w w':World} (h:Below w.heap.size w w'):cM S w S w':=⟨aD.b9 h,fun _ _ h=>h,rfl,rfl,rfl,rfl⟩
theorem cM.set {S:gI} {w:World} {g j:Nat} {u:Value} (h:S.lab g≠.no):cM S w S (w.setCell (Ad g j) u):=⟨aD.set _ _ _ _ h,fun _ _ h=>h,rfl,rfl,rfl,rfl⟩
theorem cM.keep {S S':gI} {w w':World} {b:Nat} {o:Obj} (h:cM S w S' w') (hb:w.heap[b]?=some o) (hn:S.lab b=.no):w'.heap[b]?=some o:=h.kp.keep hb (fun x=>x hn)
theorem Kr.kp {lo:Nat} {w w':World} {S:gI} {k:aT} {E:Nat->Prop} (h:Kr lo w S k) (hk:aD E w w') (he:∀b,S.lab b≠.no->¬E b):Kr lo w' S k:=by
 have z:∀{b:Nat} {c:oY},S.lab b=c->c≠.no->¬E b:=fun e hc=>he _ (by grind)
 exact⟨fun b hb=>⟨(h.yJ b hb).1,fL (h.yJ b hb).2 hk.size⟩,hk.row h.aM (fun b hb=>z (h.lS b hb) (by simp)),fun i hi=>hk.row (h.dZ i hi) (fun b hb=>z (h.lX i hi b hb) (by simp)),hk.row h.frames (fun b hb=>z (h.lF b hb) (by simp)),hk.row h.slots (fun b hb=>z (h.lL b hb) (by simp)),hk.row h.aj (fun b hb=>z (h.lP b hb) (by simp)),h.len,fun i hi=>(h.each i hi).kp hk (fun b hb=>z (h.lA i hi b hb) (by simp)) (fun b hb=>z (h.lE i hi b hb) (by simp)),h.lS,h.lX,h.lF,h.lL,h.lP,h.lA,h.lE⟩
theorem Kr.below {lo:Nat} {w w':World} {S:gI} {k:aT} (h:Kr lo w S k) (hb:Below w.heap.size w w'):Kr lo w' S k:=h.kp (aD.b9 (D:=fun _=>False) hb) (fun _ _ g=>g)
theorem Kr.mono {lo lo':Nat} {w:World} {S:gI} {k:aT} (h:Kr lo w S k) (hl:lo'<=lo):Kr lo' w S k:=by
 have z:∀{e:TypeId} {n m:Nat} {v:Value} {xs:List Value},w.ownsRow lo e n v m xs->w.ownsRow lo' e n v m xs:=fun hr=>oh hr (fun g hg=>gY hl (hr.lt g hg).1)
 exact⟨fun b hb=>⟨gY hl (h.yJ b hb).1,(h.yJ b hb).2⟩,z h.aM,fun i hi=>z (h.dZ i hi),z h.frames,z h.slots,z h.aj,h.len,fun i hi=>(h.each i hi).mono hl,h.lS,h.lX,h.lF,h.lL,h.lP,h.lA,h.lE⟩
theorem bK.below {lo mb:Nat} {tt:TypeId} {X:List Value} {w w':World} {S:gI} {k:aT} (h:bK lo mb tt X w S k) (hb:Below w.heap.size w w'):bK lo mb tt X w' S k:=⟨h.toKr.below hb,aO h.head hb (aJ h.head),h.lH⟩
theorem bK.kp {lo mb:Nat} {tt:TypeId} {X:List Value} {w w':World} {S:gI} {k:aT} {E:Nat->Prop} (h:bK lo mb tt X w S k) (hk:aD E w w') (he:∀b,S.lab b≠.no->¬E b):bK lo mb tt X w' S k:=⟨h.toKr.kp hk he,hk.keep h.head (he mb (by grind [lH])),h.lH⟩
theorem Kr.new {lo:Nat} {w:World} {S:gI} {k:aT} (h:Kr lo w S k) {b:Nat} (hb:w.heap.size<=b):S.lab b=.no:=y7.1 fun x=>by have:=(h.yJ b x).2;omega
theorem oI {α:Type} {w:World} {base:Nat} {e:TypeId} {k:Nat} (f:α->List Value) (hf:∀x,(f x).length=k) (d:α) {l:List α} {v:Value} (hr:w.ownsRow base e k v l.length (l.flatMap f)):∃ao cap,v=.slice ao l.length cap/\l.length<=cap/\dW f k d w ao l:=by
 obtain⟨ao,cap,rfl,hle,hg⟩:=bj hr;refine⟨ao,cap,rfl,hle,fun hl=>?_⟩;obtain⟨g,rfl,hg1,hg2⟩:=hg hl;exact⟨g,0,rfl,hg2,fun i hi j hj=>by grind [kj]⟩
theorem Kr.aqJ {lo:Nat} {w:World} {S:gI} {k:aT} (h:Kr lo w S k):∃ao cap,S.vS=.slice ao k.aM.length cap/\k.aM.length<=cap/\iT w ao k.aM:=by
 obtain⟨ao,cap,e,hc,hr⟩:=oI nz (fun _=>rfl) Cb h.aM;refine⟨ao,cap,e,hc,fun hl=>?_⟩;obtain⟨b,off,e1,hb,hi⟩:=hr hl;refine⟨b,off,e1,hb,fun i hlt=>⟨?_,hi i hlt 1 (by omega),hi i hlt 2 (by omega),fun hx=>?_⟩⟩
 · have:=hi i hlt 0 (by omega);rw[kW] at this;exact this
 · obtain⟨ax,cx,ex,_,hrx⟩:=oI qw (fun _=>rfl) Qx (h.dZ i hlt);injection ex with e1 e2 e3;rw[e1];obtain⟨b2,Yb,g1,g2,g3⟩:=hrx hx;refine⟨b2,Yb,g1,g2,fun n hn=>⟨?_,g3 n hn 1 (by omega)⟩⟩;have:=g3 n hn 0 (by omega);rw[kW] at this;exact this
theorem Kr.aqI {lo:Nat} {w:World} {S:gI} {k:aT} (h:Kr lo w S k):∃ao cap,S.vP=.slice ao k.aj.length cap/\k.aj.length<=cap/\yt w ao k.aj:=by
 obtain⟨ao,cap,e,hc,hr⟩:=oI gT (fun _=>rfl) xk h.aj;rw[h.len] at e hc;refine⟨ao,cap,e,hc,fun hl=>?_⟩;obtain⟨b,off,e1,hb,hi⟩:=hr (by grind [len]);refine⟨b,off,e1,hb,fun i hlt=>?_⟩;have hlt':i<S.L.length:=by grind [len]
 have hs:=h.each i hlt;obtain⟨ap,cp,hvp,hlp,hgp⟩:=oI bG (fun _=>rfl) gV hs.aQ;have c0:=hi i hlt' 0 (by omega);have c1:=hi i hlt' 1 (by omega);have c2:=hi i hlt' 2 (by omega);rw[kW] at c0;refine⟨(fH S.L i).va,ap,cp,?_,c1,?_,hs.aU.has,hgp,hlp⟩
 · rw[<- hs.live];exact c0
 · rw[<- hvp];exact c2
structure aec (S:gI) (k:aT) (a:jc):Prop where
 eS:S.vS=.slice a.aS k.aM.length a.cS
 eF:S.vF=.slice a.aF k.frames.length a.cF
 eL:S.vL=.slice a.aL k.slots.length a.cL
 eP:S.vP=.slice a.aP k.aj.length a.cP
theorem Kr.has {lo:Nat} {w:World} {S:gI} {k:aT} (h:Kr lo w S k):∃a,aec S k a/\jd w a k:=by
 obtain⟨aS,cS,eS,_,hS⟩:=h.aqJ;obtain⟨aP,cP,eP,_,hP⟩:=h.aqI;obtain⟨aF,cF,eF,_,hF⟩:=oI iO (fun _=>rfl) gM h.frames;obtain⟨aL,cL,eL,_,hL⟩:=oI iN (fun _=>rfl) nK h.slots;exact⟨⟨aS,cS,aF,cF,aL,cL,aP,cP⟩,⟨eS,eF,eL,eP⟩,⟨hS,hF,hL,hP⟩⟩
theorem Kr.L6 {lo:Nat} {w:World} {S:gI} {k:aT} (h:Kr lo w S k) {g n cap:Nat} (hv:S.vF=.slice (some (Ad g 0)) n cap) {i j:Nat} (hi:i<k.frames.length) (hj:j<4) {f:lQ} {u:Value} (e:iO f=(iO (aH k.frames i)).set j u) :
  Kr lo (w.setCell (Ad g (i*4+j)) u) S { k with frames:=k.frames.set i f }:=by
 have hk:aD (fun b=>b=g) w (w.setCell (Ad g (i*4+j)) u):=aD.set _ _ _ _ rfl;have hg:S.lab g=.frames:=h.lF g (by rw[hv];rfl);have z:∀{b:Nat} {c:oY},S.lab b=c->c≠.frames->¬b=g:=fun e hc x=>hc (by grind)
 have hn:n=k.frames.length:=by
  obtain⟨ao,c,e,_⟩:=bj h.frames
  grind
 subst hn;have hr:=h.frames;rw[hv] at hr;refine⟨fun b hb=>⟨(h.yJ b hb).1,fL (h.yJ b hb).2 hk.size⟩,hk.row h.aM (fun b hb=>z (h.lS b hb) (by simp)),fun i hi=>hk.row (h.dZ i hi) (fun b hb=>z (h.lX i hi b hb) (by simp)),?_,hk.row h.slots (fun b hb=>z (h.lL b hb) (by simp)),hk.row h.aj (fun b hb=>z (h.lP b hb) (by simp)),h.len,fun i hi=>(h.each i hi).kp hk (fun b hb=>z (h.lA i hi b hb) (by simp)) (fun b hb=>z (h.lE i hi b hb) (by simp)),h.lS,h.lX,h.lF,h.lL,h.lP,h.lA,h.lE⟩;have:=fw hr (i*4+j) u;show World.ownsRow _ lo _ 4 S.vF (k.frames.set i f).length _;rw[fJ,hv,kI iO 4 (fun _=>rfl) gM f j u hj k.frames i hi e];omega
theorem Kr.afh {lo:Nat} {w:World} {S:gI} {k:aT} (h:Kr lo w S k) {g n cap:Nat} (hv:S.vL=.slice (some (Ad g 0)) n cap) {i j:Nat} (hi:i<k.slots.length) (hj:j<2) {f:oZ} {u:Value} (e:iN f=(iN (bH k.slots i)).set j u) :
  Kr lo (w.setCell (Ad g (i*2+j)) u) S { k with slots:=k.slots.set i f }:=by
 have hk:aD (fun b=>b=g) w (w.setCell (Ad g (i*2+j)) u):=aD.set _ _ _ _ rfl;have hg:S.lab g=.slots:=h.lL g (by rw[hv];rfl);have z:∀{b:Nat} {c:oY},S.lab b=c->c≠.slots->¬b=g:=fun e hc x=>hc (by grind)
 have hn:n=k.slots.length:=by
  obtain⟨ao,c,e,_⟩:=bj h.slots
  grind
 subst hn;have hr:=h.slots;rw[hv] at hr;refine⟨fun b hb=>⟨(h.yJ b hb).1,fL (h.yJ b hb).2 hk.size⟩,hk.row h.aM (fun b hb=>z (h.lS b hb) (by simp)),fun i hi=>hk.row (h.dZ i hi) (fun b hb=>z (h.lX i hi b hb) (by simp)),hk.row h.frames (fun b hb=>z (h.lF b hb) (by simp)),?_,hk.row h.aj (fun b hb=>z (h.lP b hb) (by simp)),h.len,fun i hi=>(h.each i hi).kp hk (fun b hb=>z (h.lA i hi b hb) (by simp)) (fun b hb=>z (h.lE i hi b hb) (by simp)),h.lS,h.lX,h.lF,h.lL,h.lP,h.lA,h.lE⟩;have:=fw hr (i*2+j) u;show World.ownsRow _ lo _ 2 S.vL (k.slots.set i f).length _;rw[fJ,hv,kI iN 2 (fun _=>rfl) nK f j u hj k.slots i hi e];omega
theorem Kr.turn {lo:Nat} {w w2:World} {S:gI} {k:aT} (h:Kr lo w S k) {j:Nat} (hj:j<k.aj.length) {l:zW} {s:cY} {lab':Nat->oY}
  (hk:aD (fun b=>S.lab b=.bc j∨S.lab b=.aj∨S.lab b=.aU j) w w2) (hrow:w2.ownsRow lo 99 3 S.vP S.L.length ((S.L.set j l).flatMap gT)) (hs:mX lo w2 l s)
  (hb:∀b,lab' b≠.no->lo<=b/\b<w2.heap.size) (hlab:∀b c,S.lab b=c->c≠.no->c≠.aU j->c≠.bc j->lab' b=c) (hA:∀b,bZ l.va b->lab' b=.aU j) (hE:∀b,bZ l.vp b->lab' b=.bc j) :
  Kr lo w2 ⟨lab',S.vS,S.vF,S.vL,S.vP,S.L.set j l⟩ { k with aj:=k.aj.set j s }:=by
 have z:∀{b:Nat} {c:oY},S.lab b=c->c≠.bc j->c≠.aj->c≠.aU j->¬(S.lab b=.bc j∨S.lab b=.aj∨S.lab b=.aU j):=fun e h1 h2 h3 x=>by
  grind
 have hLl:(S.L.set j l).length=S.L.length:=fJ;have hl:=h.len;have at_:∀i,i<k.aj.length->fH (S.L.set j l) i=if j=i then l else fH S.L i:=fun i hi=>by
  grind [fH]
 refine⟨hb,hk.row h.aM (fun b hb=>z (h.lS b hb) (by simp) (by simp) (by simp)),fun i hi=>hk.row (h.dZ i hi) (fun b hb=>z (h.lX i hi b hb) (by simp) (by simp) (by simp)),hk.row h.frames (fun b hb=>z (h.lF b hb) (by simp) (by simp) (by simp)),hk.row h.slots (fun b hb=>z (h.lL b hb) (by simp) (by simp) (by simp)),?_,?_,?_,fun b hb=>hlab b _ (h.lS b hb) (by simp) (by simp) (by simp),fun i hi b hb=>hlab b _ (h.lX i hi b hb) (by simp) (by simp) (by simp),fun b hb=>hlab b _ (h.lF b hb) (by simp) (by simp) (by simp),fun b hb=>hlab b _ (h.lL b hb) (by simp) (by simp) (by simp),fun b hb=>hlab b _ (h.lP b hb) (by simp) (by simp) (by simp),?_,?_⟩
 · grind
 · grind
 · intro i hi;have hi:i<k.aj.length:=by grind
   show mX lo w2 (fH (S.L.set j l) i) (ak (k.aj.set j s) i);rw[at_ i hi,iI _ _ _ _ hj];by_cases c:j=i
   · grind
   · rw[aA c,aA c];exact(h.each i hi).kp hk (fun b hb=>z (h.lA i hi b hb) (by simp) (by simp) (by grind)) (fun b hb=>z (h.lE i hi b hb) (by grind) (by simp) (by simp))
 · grind [lA]
 grind [lE]
open Go.RowKit
variable {lo mb:Nat} {tt:TypeId} {X:List Value} {w:World} {S:gI} {k:aT}
theorem Nt (h:bK lo mb tt X w S k) {g j:Nat} {u:Value} {c:oY} (hg:S.lab g=c) (hc:c≠.head):(w.setCell (Ad g j) u).heap[mb]?=some (.cells ([S.vS,S.vF,S.vL,S.vP,I k.hand]++X).toArray tt (0,0)) :=
 mo h.head g j u (fun e=>hc (by grind [bK.lH]))
theorem bK.L6 (h:bK lo mb tt X w S k) {g n cap:Nat} (hv:S.vF=.slice (some (Ad g 0)) n cap) {i j:Nat} (hi:i<k.frames.length) (hj:j<4) {f:lQ} {u:Value} (e:iO f=(iO (aH k.frames i)).set j u) :
  bK lo mb tt X (w.setCell (Ad g (i*4+j)) u) S { k with frames:=k.frames.set i f }:=⟨h.toKr.L6 hv hi hj e,Nt h (h.lF g (by rw[hv];rfl)) (by simp),h.lH⟩
theorem bK.afh (h:bK lo mb tt X w S k) {g n cap:Nat} (hv:S.vL=.slice (some (Ad g 0)) n cap) {i j:Nat} (hi:i<k.slots.length) (hj:j<2) {f:oZ} {u:Value} (e:iN f=(iN (bH k.slots i)).set j u) :
  bK lo mb tt X (w.setCell (Ad g (i*2+j)) u) S { k with slots:=k.slots.set i f }:=⟨h.toKr.afh hv hi hj e,Nt h (h.lL g (by rw[hv];rfl)) (by simp),h.lH⟩
theorem zX (h:Kr lo w S k) {g n cap:Nat} (hv:S.vF=.slice (some (Ad g 0)) n cap) {V:World} {i:Nat} {u:Value}:cM S V S (V.setCell (Ad g i) u):=cM.set (by rw[h.lF g (by rw[hv];rfl)];simp)
theorem abH (h:Kr lo w S k) {g n cap:Nat} (hv:S.vL=.slice (some (Ad g 0)) n cap) {V:World} {i:Nat} {u:Value}:cM S V S (V.setCell (Ad g i) u):=cM.set (by rw[h.lL g (by rw[hv];rfl)];simp)
theorem bK.afk (h:bK lo mb tt X w S k) {g n cap:Nat} (hv:S.vF=.slice (some (Ad g 0)) n cap) {i:Nat} (hi:i<k.frames.length) (f:lQ) :
  bK lo mb tt X ((((w.setCell (Ad g (i*4)) (.string f.data)).setCell (Ad g (i*4+1)) (I f.refs)).setCell (Ad g (i*4+2)) (.bool f.jo)).setCell (Ad g (i*4+3)) (.bool f.seen)) S { k with frames:=k.frames.set i f } /\
  cM S w S ((((w.setCell (Ad g (i*4)) (.string f.data)).setCell (Ad g (i*4+1)) (I f.refs)).setCell (Ad g (i*4+2)) (.bool f.jo)).setCell (Ad g (i*4+3)) (.bool f.seen)):=by
 have h1:=h.L6 hv hi (j:=0) (by omega) (f:=⟨f.data,(aH k.frames i).refs,(aH k.frames i).jo,(aH k.frames i).seen⟩) (u:=.string f.data) rfl;have h2:=h1.L6 hv (i:=i) (by grind) (j:=1) (by omega) (f:=⟨f.data,f.refs,(aH k.frames i).jo,(aH k.frames i).seen⟩) (u:=I f.refs) (by simp only[aH,eV _ _ _ _ hi];rfl);have h3:=h2.L6 hv (i:=i) (by grind) (j:=2) (by omega) (f:=⟨f.data,f.refs,f.jo,(aH k.frames i).seen⟩) (u:=.bool f.jo) (by simp only[aH,pY,eV _ _ _ _ hi];rfl);have h4:=h3.L6 hv (i:=i) (by grind) (j:=3) (by omega) (f:=f) (u:=.bool f.seen) (by simp only[aH,pY,eV _ _ _ _ hi];rfl);simp only[pY] at h4;exact⟨h4,(((zX h.toKr hv).trans (zX h.toKr hv)).trans (zX h.toKr hv)).trans (zX h.toKr hv)⟩
theorem bK.alZ (h:bK lo mb tt X w S k) {g n cap:Nat} (hv:S.vL=.slice (some (Ad g 0)) n cap) {i:Nat} (hi:i<k.slots.length) (f:oZ) :
  bK lo mb tt X ((w.setCell (Ad g (i*2)) (.string f.data)).setCell (Ad g (i*2+1)) (I f.refs)) S { k with slots:=k.slots.set i f } /\
  cM S w S ((w.setCell (Ad g (i*2)) (.string f.data)).setCell (Ad g (i*2+1)) (I f.refs)):=by
 have h1:=h.afh hv hi (j:=0) (by omega) (f:=⟨f.data,(bH k.slots i).refs⟩) (u:=.string f.data) rfl;have h2:=h1.afh hv (i:=i) (by grind) (j:=1) (by omega) (f:=f) (u:=I f.refs) (by simp only[bH,eV _ _ _ _ hi];rfl);simp only[pY] at h2;exact⟨h2,(abH h.toKr hv).trans (abH h.toKr hv)⟩
theorem bK.ahi (h:bK lo mb tt X w S k) (x:Int):bK lo mb tt X (w.setCell (Ad mb 4) (I x)) S { k with hand:=x }/\cM S w S (w.setCell (Ad mb 4) (I x)):=by
 have hk:aD (fun b=>b=mb) w (w.setCell (Ad mb 4) (I x)):=aD.set _ _ _ _ rfl;have z:∀{b:Nat} {c:oY},S.lab b=c->c≠.head->¬b=mb:=fun e hc x=>hc (by grind [lH])
 refine⟨⟨⟨fun b hb=>⟨(h.yJ b hb).1,fL (h.yJ b hb).2 hk.size⟩,hk.row h.aM (fun b hb=>z (h.lS b hb) (by simp)),fun i hi=>hk.row (h.dZ i hi) (fun b hb=>z (h.lX i hi b hb) (by simp)),hk.row h.frames (fun b hb=>z (h.lF b hb) (by simp)),hk.row h.slots (fun b hb=>z (h.lL b hb) (by simp)),hk.row h.aj (fun b hb=>z (h.lP b hb) (by simp)),h.len,fun i hi=>(h.each i hi).kp hk (fun b hb=>z (h.lA i hi b hb) (by simp)) (fun b hb=>z (h.lE i hi b hb) (by simp)),h.lS,h.lX,h.lF,h.lL,h.lP,h.lA,h.lE⟩,?_,h.lH⟩,cM.set (by grind)⟩;rw[fh h.head 4 (I x)];simp
theorem bK.turn {w2:World} (h:bK lo mb tt X w S k) {j:Nat} (hj:j<k.aj.length) {l:zW} {s:cY} {lab':Nat->oY}
  (hk:aD (fun b=>S.lab b=.bc j∨S.lab b=.aj∨S.lab b=.aU j) w w2) (hrow:w2.ownsRow lo 99 3 S.vP S.L.length ((S.L.set j l).flatMap gT)) (hs:mX lo w2 l s)
  (hb:∀b,lab' b≠.no->lo<=b/\b<w2.heap.size) (hlab:∀b c,S.lab b=c->c≠.no->c≠.aU j->c≠.bc j->lab' b=c) (hA:∀b,bZ l.va b->lab' b=.aU j) (hE:∀b,bZ l.vp b->lab' b=.bc j) :
  bK lo mb tt X w2 ⟨lab',S.vS,S.vF,S.vL,S.vP,S.L.set j l⟩ { k with aj:=k.aj.set j s } :=
 ⟨h.toKr.turn hj hk hrow hs hb hlab hA hE,hk.keep h.head (fun x=>by grind [lH]),hlab mb _ h.lH (by simp) (by simp) (by simp)⟩
theorem QK (L:List zW) (j:Nat):L.set j (fH L j)=L:=by
 grind [fH,List.set_getElem_self,List.set_eq_of_length_le]
theorem bK.afi (h:bK lo mb tt X w S k) {j:Nat} (hj:j<k.aj.length) {g n cap:Nat} (hv:(fH S.L j).vp=.slice (some (Ad g 0)) n cap) {i c:Nat} (hi:i<(ak k.aj j).bc.length) (hc:c<3) {e:bI} {u:Value} (he:bG e=(bG (aW (ak k.aj j).bc i)).set c u) :
  bK lo mb tt X (w.setCell (Ad g (i*3+c)) u) S { k with aj:=k.aj.set j (ek (ak k.aj j) ((ak k.aj j).bc.set i e)) }/\cM S w S (w.setCell (Ad g (i*3+c)) u):=by
 have hgl:S.lab g=.bc j:=h.lE j hj g (by rw[hv];rfl);have hk:aD (fun b=>b=g) w (w.setCell (Ad g (i*3+c)) u):=aD.set _ _ _ _ rfl;have z:∀{b:Nat} {c:oY},S.lab b=c->c≠.bc j->¬b=g:=fun e hc x=>hc (by grind)
 have hs:=h.each j hj;have hn:n=(ak k.aj j).bc.length:=by
  obtain⟨ao,c,e,_⟩:=bj hs.aQ
  grind
 subst hn;have hr:=hs.aQ;rw[hv] at hr;refine⟨?_,cM.set (by grind)⟩;have:=h.turn (w2:=w.setCell (Ad g (i*3+c)) u) hj (l:=fH S.L j) (s:=ek (ak k.aj j) ((ak k.aj j).bc.set i e)) (lab':=S.lab) (hk.mono (fun b _ e=>.inl (by grind))) (by rw[QK];exact hk.row h.aj (fun b hb=>z (h.lP b hb) (by simp))) ⟨hs.live,hk.row hs.aU (fun b hb=>z (h.lA j hj b hb) (by simp)),?_⟩ (fun b hb=>⟨(h.yJ b hb).1,fL (h.yJ b hb).2 hk.size⟩) (fun b c e _ _ _=>e) (fun b hb=>h.lA j hj b hb) (fun b hb=>h.lE j hj b hb)
 · simp_all [QK]
 · have r2:=fw hr (i*3+c) u;show World.ownsRow _ lo _ 3 (fH S.L j).vp ((ak k.aj j).bc.set i e).length (((ak k.aj j).bc.set i e).flatMap bG);rw[fJ,hv,kI bG 3 (fun _=>rfl) gV e c u hc _ i hi he];exact r2
def Bg (S:gI) (j:Nat) (v:Value):Nat->oY:=fun b=>if v.ownBlock=some b then .bc j else S.lab b
def KP (S:gI) (j:Nat) (v:Value):Nat->oY:=fun b=>if v.ownBlock=some b then .aU j else S.lab b
theorem bK.aiN {w1:World} (h:bK lo mb tt X w S k) {j:Nat} (hj:j<k.aj.length) {v:Value} {es:List bI} {pb n cap:Nat} (hP:S.vP=.slice (some (Ad pb 0)) n cap)
  (hk:aD (fun b=>S.lab b=.bc j) w w1) (hr:w1.ownsRow lo 174 3 v es.length (es.flatMap bG)) (hat:∀b,bZ v b->S.lab b=.bc j∨S.lab b=.no) :
  bK lo mb tt X (w1.setCell (Ad pb (j*3+2)) v) ⟨Bg S j v,S.vS,S.vF,S.vL,S.vP,S.L.set j ⟨(fH S.L j).lv,(fH S.L j).va,v⟩⟩ { k with aj:=k.aj.set j (ek (ak k.aj j) es) } /\
  ((∀b,b<w.heap.size->bZ v b->S.lab b=.bc j)->cM S w ⟨Bg S j v,S.vS,S.vF,S.vL,S.vP,S.L.set j ⟨(fH S.L j).lv,(fH S.L j).va,v⟩⟩ (w1.setCell (Ad pb (j*3+2)) v)):=by
 have hpl:S.lab pb=.aj:=h.lP pb (by rw[hP];rfl);have rY:aD (fun b=>b=pb) w1 (w1.setCell (Ad pb (j*3+2)) v):=aD.set _ _ _ _ rfl;have hs:=h.each j hj;have hl:=h.len;have hrl:∀b,bZ v b->lo<=b/\b<w1.heap.size:=fun b hb=>hr.lt b hb
 have hlab:∀b c,S.lab b=c->c≠.no->c≠.bc j->Bg S j v b=c:=fun b c e h1 h2=>by
  unfold Bg;rw[aA,e];intro x;rcases hat b x with y | y
  · grind
  grind
 have hn:n=S.L.length:=by
  obtain⟨ao,c,e,_⟩:=bj h.aj
  grind
 subst hn;have hr1:=hk.row h.aj (fun b hb e=>by rw[h.lP b hb] at e;simp at e);rw[hP] at hr1;have hr2:=fw hr1 (j*3+2) v;rw[<- kI gT 3 (fun _=>rfl) xk ⟨(fH S.L j).lv,(fH S.L j).va,v⟩ 2 v (by omega) S.L j (by omega) rfl] at hr2;have hsz:=gY hk.size rY.size;refine⟨h.turn hj (l:=⟨(fH S.L j).lv,(fH S.L j).va,v⟩) (s:=ek (ak k.aj j) es) (lab':=Bg S j v) ((hk.mono (D1:=fun b=>S.lab b=.bc j∨S.lab b=.aj∨S.lab b=.aU j) (fun b _ e=>.inl e)).trans rY (fun b _ e=>.inr (.inl (by grind)))) (by grind) ⟨hs.live,?_,?_⟩ ?_ (fun b c e h1 _ h3=>hlab b c e h1 h3) (fun b hb=>hlab b _ (h.lA j hj b hb) (by simp) (by simp)) (fun b hb=>aC hb),fun hold=>⟨?_,?_,rfl,rfl,rfl,rfl⟩⟩
 · exact rY.row (hk.row hs.aU (fun b hb e=>by rw[h.lA j hj b hb] at e;simp at e)) (fun b hb e=>by have:=h.lA j hj b hb;grind)
 · exact rY.row hr (fun b hb e=>by
    subst e;rcases hat b hb with y | y <;> · grind)
 · intro b hb;unfold Bg at hb;by_cases c:v.ownBlock=some b
   · exact⟨(hrl b c).1,fL (hrl b c).2 rY.size⟩
   · rw[aA c] at hb;exact⟨(h.yJ b hb).1,fL (h.yJ b hb).2 hsz⟩
 · exact(hk.mono (fun b _ e=>by grind)).trans rY (fun b _ e=>by grind)
 · intro b hb hno;show Bg S j v b=.no;unfold Bg;rw[aA,hno];intro x;have:=hold b hb x
   grind
open Go.RowKit
variable {lo mb:Nat} {tt:TypeId} {X:List Value} {w:World} {S:gI} {k:aT}
theorem DX (L:List zW) (l:zW) (k:Nat):fH (L++[l]) k=if k<L.length then fH L k else if k=L.length then l else xk:=by
 grind [fH]
def vZ (S:gI) (v:Value) (l:zW):Nat->oY:=fun b=>if v.ownBlock=some b then .aj else if l.va.ownBlock=some b then .aU S.L.length else if l.vp.ownBlock=some b then .bc S.L.length else S.lab b
theorem bK.push {w2 w4:World} {v':Value} {l:zW} {s:cY} {O:Obj} (h:bK lo mb tt X w S k) (hlo:lo<=w.heap.size) (hb2:Below w.heap.size w w2)
  (hso:mX w.heap.size w2 l s) (hne:∀b,bZ l.vp b->¬bZ l.va b) (hgr:(w2.alloc O).grownBy w4 S.vP.ownBlock) (hown:w4.ownsRow lo 99 3 v' (S.L.length+1) (S.L.flatMap gT++gT l))
  (hat:v'.ownBlock=S.vP.ownBlock∨v'.ownBlock=some (w2.alloc O).heap.size) :
  bK lo mb tt X (w4.setCell (Ad mb 3) v') ⟨vZ S v' l,S.vS,S.vF,S.vL,v',S.L++[l]⟩ { k with aj:=k.aj++[s] }/\(∀b,b<w.heap.size->S.lab b=.no->vZ S v' l b=.no)/\aD (fun b=>S.lab b≠.no) w (w4.setCell (Ad mb 3) v'):=by
 have s1:=hb2.size;have s2:=hgr.size;have hz:(w2.alloc O).heap.size=w2.heap.size+1:=fF _ _;rw[hz] at s2 hat
 have kA:aD (bZ S.vP) w w2:=aD.b9 hb2;have kB:aD (bZ S.vP) w2 (w2.alloc O):=aD.alloc _ w2 O;have kC:aD (bZ S.vP) (w2.alloc O) w4:=aD.grown hgr (fun _ e=>e);have kD:=kA.trans (kB.trans kC (fun _ _ g=>g)) (fun _ _ g=>g);have rY:aD (fun b=>b=mb) w4 (w4.setCell (Ad mb 3) v'):=aD.set _ _ _ _ rfl;have eA:∀b,bZ l.va b∨bZ l.vp b->w.heap.size<=b/\b<w2.heap.size:=fun b hb=>by
  rcases hb with g | g
  · exact hso.aU.lt b g
  · exact hso.aQ.lt b g
 have hvb:∀b,bZ S.vP b->b<w.heap.size:=fun b hb=>(h.aj.lt b hb).2
 have hv4:∀b,bZ v' b->bZ S.vP b∨b=w2.heap.size+1:=fun b hb=>by
  grind [bZ]
 have hmb:=aJ h.head;have old:∀b c,S.lab b=c->c≠.no->c≠.aj->vZ S v' l b=c:=fun b c e h1 h2=>by
  have hb:=(h.yJ b (by grind)).2;unfold vZ;rw[aA,aA,aA,e]
  · intro x;have:=eA b (.inr x);omega
  · intro x;have:=eA b (.inl x);omega
  · intro x;rcases hv4 b x with g | g
    · exact h2 (by rw[<- e];exact h.lP b g)
    · omega
 have zD:∀{b:Nat} {c:oY},S.lab b=c->c≠.aj->¬bZ S.vP b:=fun e hc x=>hc (by rw[<- e];exact h.lP _ x)
 have zH:∀{b:Nat} {c:oY},S.lab b=c->c≠.head->¬b=mb:=fun e hc x=>hc (by rw[<- e,x];exact h.lH)
 have row:∀{e:TypeId} {n m:Nat} {v:Value} {xs:List Value},w.ownsRow lo e n v m xs->(∀b,bZ v b->¬bZ S.vP b/\¬b=mb)->(w4.setCell (Ad mb 3) v').ownsRow lo e n v m xs:=fun hr hq=>rY.row (kD.row hr (fun b hb=>(hq b hb).1)) (fun b hb=>(hq b hb).2)
 have hle:(S.L++[l]).length=S.L.length+1:=by simp
 have hlen:=h.len;refine⟨⟨⟨fun b hb=>?_,row h.aM (fun b hb=>⟨zD (h.lS b hb) (by simp),zH (h.lS b hb) (by simp)⟩),fun i hi=>row (h.dZ i hi) (fun b hb=>⟨zD (h.lX i hi b hb) (by simp),zH (h.lX i hi b hb) (by simp)⟩),row h.frames (fun b hb=>⟨zD (h.lF b hb) (by simp),zH (h.lF b hb) (by simp)⟩),row h.slots (fun b hb=>⟨zD (h.lL b hb) (by simp),zH (h.lL b hb) (by simp)⟩),?_,?_,fun i hi=>?_,fun b hb=>old b _ (h.lS b hb) (by simp) (by simp),fun i hi b hb=>old b _ (h.lX i hi b hb) (by simp) (by simp),fun b hb=>old b _ (h.lF b hb) (by simp) (by simp),fun b hb=>old b _ (h.lL b hb) (by simp) (by simp),fun b hb=>aC hb,fun i hi b hb=>?_,fun i hi b hb=>?_⟩,?_,old mb _ h.lH (by simp) (by simp)⟩,fun b hb e=>?_,?_⟩
 · have hb:vZ S v' l b≠.no:=hb;have hs4:(w4.setCell (Ad mb 3) v').heap.size=w4.heap.size:=by simp
   rw[hs4];unfold vZ at hb;by_cases c:v'.ownBlock=some b
   · exact hown.lt b c
   · rw[aA c] at hb;by_cases d:l.va.ownBlock=some b
     · have:=eA b (.inl d);omega
     · rw[aA d] at hb;by_cases e:l.vp.ownBlock=some b
       · have:=eA b (.inr e);omega
       · rw[aA e] at hb;have:=h.yJ b hb;omega
 · show World.ownsRow _ lo _ 3 v' (S.L++[l]).length _;rw[hle,xN];have:w4.ownsRow lo 99 3 v' (S.L.length+1) (S.L.flatMap gT++[l].flatMap gT):=by grind
   exact rY.row this (fun b hb e=>by
    rcases hv4 b hb with g | g
    · grind
    · omega)
 · grind
 · have hi:i<(k.aj++[s]).length:=hi;rw[fK,AK] at hi;show mX lo _ (fH (S.L++[l]) i) (ak (k.aj++[s]) i);rw[DX,KS,hlen];by_cases c:i<k.aj.length
   · rw[aC c,aC c];exact((h.each i c).kp kD (fun b hb=>zD (h.lA i c b hb) (by simp)) (fun b hb=>zD (h.lE i c b hb) (by simp))).kp rY (fun b hb=>zH (h.lA i c b hb) (by simp)) (fun b hb=>zH (h.lE i c b hb) (by simp))
   · have e:i=k.aj.length:=by omega
     rw[aA c,aA c,aC e,aC e];refine((hso.mono hlo).kp (kB.trans kC (fun _ _ g=>g)) (fun b hb g=>?_) (fun b hb g=>?_)).kp rY (fun b hb e=>?_) (fun b hb e=>?_)
     · grind
     · grind
     · grind
     grind
 · have hi:i<(k.aj++[s]).length:=hi;rw[fK,AK] at hi;have hb:bZ (fH (S.L++[l]) i).va b:=hb;rw[DX,hlen] at hb;by_cases c:i<k.aj.length
   · rw[aC c] at hb;exact old b _ (h.lA i c b hb) (by simp) (by simp)
   · have e:i=k.aj.length:=by omega
     rw[aA c,aC e] at hb;have hx:=eA b (.inl hb);show vZ S v' l b=.aU i;unfold vZ;rw[aA,aC (show l.va.ownBlock=some b from hb),e,hlen];intro x;rcases hv4 b x with g | g
     · grind
     · omega
 · have hi:i<(k.aj++[s]).length:=hi;rw[fK,AK] at hi;have hb:bZ (fH (S.L++[l]) i).vp b:=hb;rw[DX,hlen] at hb;by_cases c:i<k.aj.length
   · rw[aC c] at hb;exact old b _ (h.lE i c b hb) (by simp) (by simp)
   · have e:i=k.aj.length:=by omega
     rw[aA c,aC e] at hb;have hx:=eA b (.inr hb);show vZ S v' l b=.bc i;unfold vZ;rw[aA,aA (show ¬l.va.ownBlock=some b from hne b hb),aC (show l.vp.ownBlock=some b from hb),e,hlen];intro x;rcases hv4 b x with g | g
     · grind
     · omega
 · have:w4.heap[mb]?=some (.cells ([S.vS,S.vF,S.vL,S.vP,I k.hand]++X).toArray tt (0,0)):=kD.keep h.head (fun x=>by grind);rw[fh this 3 v'];simp
 · unfold vZ;rw[aA,aA,aA,e]
   · intro x;have:=eA b (.inr x);omega
   · intro x;have:=eA b (.inl x);omega
   · intro x;rcases hv4 b x with g | g
     · grind
     · omega
 · exact(kD.mono (fun b _ g=>by grind)).trans rY (fun b _ e=>by grind)
theorem bK.apn (h:bK lo mb tt X w S k) {j:Nat} (hj:j<k.aj.length) {v:Value} {l:List aX} {pb n cap:Nat} (hP:S.vP=.slice (some (Ad pb 0)) n cap) (hr:eu lo w v l) (hat:∀b,bZ v b->S.lab b=.no) :
  bK lo mb tt X (w.setCell (Ad pb (j*3+1)) v) ⟨KP S j v,S.vS,S.vF,S.vL,S.vP,S.L.set j ⟨(fH S.L j).lv,v,(fH S.L j).vp⟩⟩ { k with aj:=k.aj.set j ⟨(ak k.aj j).live,l,(ak k.aj j).bc⟩ }/\aD (fun b=>S.lab b≠.no) w (w.setCell (Ad pb (j*3+1)) v):=by
 have hpl:S.lab pb=.aj:=h.lP pb (by rw[hP];rfl);have rY:aD (fun b=>b=pb) w (w.setCell (Ad pb (j*3+1)) v):=aD.set _ _ _ _ rfl;have hs:=h.each j hj;have hl:=h.len;have hlab:∀b c,S.lab b=c->c≠.no->KP S j v b=c:=fun b c e h1=>by
  unfold KP;rw[aA,e];intro x;exact h1 (e.symm.trans (hat b x))
 have hn:n=S.L.length:=by
  obtain⟨ao,c,e,_⟩:=bj h.aj
  grind
 subst hn;have hr1:=h.aj;rw[hP] at hr1;have hr2:=fw hr1 (j*3+1) v;rw[<- kI gT 3 (fun _=>rfl) xk ⟨(fH S.L j).lv,v,(fH S.L j).vp⟩ 1 v (by omega) S.L j (by omega) rfl] at hr2;refine⟨h.turn hj (l:=⟨(fH S.L j).lv,v,(fH S.L j).vp⟩) (s:=⟨(ak k.aj j).live,l,(ak k.aj j).bc⟩) (lab':=KP S j v) (rY.mono (fun b _ e=>.inr (.inl (by grind)))) (by grind) ⟨hs.live,?_,?_⟩ ?_ (fun b c e h1 _ _=>hlab b c e h1) (fun b hb=>aC hb) (fun b hb=>hlab b _ (h.lE j hj b hb) (by simp)),rY.mono (fun b _ e=>by grind)⟩
 · exact rY.row hr (fun b hb e=>by have:=hat b hb;grind)
 · exact rY.row hs.aQ (fun b hb e=>by have:=h.lE j hj b hb;grind)
 · intro b hb;unfold KP at hb;by_cases c:v.ownBlock=some b
   · exact⟨(hr.lt b c).1,fL (hr.lt b c).2 rY.size⟩
   · rw[aA c] at hb;exact⟨(h.yJ b hb).1,fL (h.yJ b hb).2 rY.size⟩
theorem bK.zero (h:bK lo mb tt X w S k) {j:Nat} (hj:j<k.aj.length) {pb n cap:Nat} (hP:S.vP=.slice (some (Ad pb 0)) n cap) :
  bK lo mb tt X (((w.setCell (Ad pb (j*3)) (.bool false)).setCell (Ad pb (j*3+1)) Nl).setCell (Ad pb (j*3+2)) Nl) ⟨S.lab,S.vS,S.vF,S.vL,S.vP,S.L.set j xk⟩ { k with aj:=k.aj.set j qV }/\cM S w ⟨S.lab,S.vS,S.vF,S.vL,S.vP,S.L.set j xk⟩ (((w.setCell (Ad pb (j*3)) (.bool false)).setCell (Ad pb (j*3+1)) Nl).setCell (Ad pb (j*3+2)) Nl):=by
 have hpl:S.lab pb=.aj:=h.lP pb (by rw[hP];rfl);have hl:=h.len;have rY:aD (fun b=>b=pb) w (((w.setCell (Ad pb (j*3)) (.bool false)).setCell (Ad pb (j*3+1)) Nl).setCell (Ad pb (j*3+2)) Nl):=xB w pb _ _ _ _ _ _ rfl;have hn:n=S.L.length:=by
  obtain⟨ao,c,e,_⟩:=bj h.aj
  grind
 subst hn;have hr1:=h.aj;rw[hP] at hr1;have hr2:=fw hr1 (j*3) (.bool false);have hlj:j<S.L.length:=by omega
 have e1:=kI gT 3 (fun _=>rfl) xk ⟨false,(fH S.L j).va,(fH S.L j).vp⟩ 0 (.bool false) (by omega) S.L j hlj rfl;rw[kW] at e1;rw[<- e1] at hr2;have hr3:=fw hr2 (j*3+1) Nl;have e2:=kI gT 3 (fun _=>rfl) xk ⟨false,Nl,(fH S.L j).vp⟩ 1 Nl (by omega) (S.L.set j ⟨false,(fH S.L j).va,(fH S.L j).vp⟩) j (by grind) (by rw[eV _ _ _ _ hlj];rfl);rw[<- e2,pY] at hr3;have hr4:=fw hr3 (j*3+2) Nl;have e3:=kI gT 3 (fun _=>rfl) xk xk 2 Nl (by omega) (S.L.set j ⟨false,Nl,(fH S.L j).vp⟩) j (by grind) (by rw[eV _ _ _ _ hlj];rfl);rw[<- e3,pY] at hr4;refine⟨h.turn hj (l:=xk) (s:=qV) (lab':=S.lab) (rY.mono (fun b _ e=>.inr (.inl (by grind)))) (by grind) ⟨rfl,mE _ _ _ _,mE _ _ _ _⟩ (fun b hb=>⟨(h.yJ b hb).1,fL (h.yJ b hb).2 rY.size⟩) (fun b c e _ _ _=>e) (fun b hb=>by cases hb) (fun b hb=>by cases hb),rY.mono (fun b _ e=>by grind),fun _ _ e=>e,rfl,rfl,rfl,rfl⟩
open Go.RowKit
variable {lo mb:Nat} {tt:TypeId} {X:List Value} {w:World} {S:gI} {k:aT}
theorem bK.c0 (h:bK lo mb tt X w S k):w.cell? (Ad mb 0)=some S.vS:=au h.head 0 (by simp)
theorem bK.c1 (h:bK lo mb tt X w S k):w.cell? (Ad mb 1)=some S.vF:=au h.head 1 (by simp)
theorem bK.c2 (h:bK lo mb tt X w S k):w.cell? (Ad mb 2)=some S.vL:=au h.head 2 (by simp)
theorem bK.c3 (h:bK lo mb tt X w S k):w.cell? (Ad mb 3)=some S.vP:=au h.head 3 (by simp)
theorem bK.c4 (h:bK lo mb tt X w S k):w.cell? (Ad mb 4)=some (I k.hand):=au h.head 4 (by simp)
theorem bK.cx (h:bK lo mb tt X w S k) (n:Nat) {v:Value} (hv:X[n]?=some v):w.cell? (Ad mb (5+n))=some v:=au h.head (5+n) (by
 grind)
theorem bK.free (h:bK lo mb tt X w S k) (j:Nat):w.frozen? (Ad mb j)=false:=aR h.head j
theorem bK.lt (h:bK lo mb tt X w S k):mb<w.heap.size:=aJ h.head
theorem bK.lo_le (h:bK lo mb tt X w S k):lo<=mb:=(h.yJ mb (by grind [lH])).1
structure Bh (w:World) (S:gI) (k:aT) (fb cF:Nat):Prop where
 v:S.vF=.slice (some (Ad fb 0)) k.frames.length cF
 x0:∀i,i<k.frames.length->w.cell? (Ad fb (i*4))=some (.string (aH k.frames i).data)
 x1:∀i,i<k.frames.length->w.cell? (Ad fb (i*4+1))=some (I (aH k.frames i).refs)
 x2:∀i,i<k.frames.length->w.cell? (Ad fb (i*4+2))=some (.bool (aH k.frames i).jo)
 x3:∀i,i<k.frames.length->w.cell? (Ad fb (i*4+3))=some (.bool (aH k.frames i).seen)
 fz:∀j,w.frozen? (Ad fb j)=false
 lt:fb<w.heap.size
 lab:S.lab fb=.frames
 cap:k.frames.length<=cF
theorem Kr.fr (h:Kr lo w S k) (hn:0<k.frames.length):∃fb cF,Bh w S k fb cF:=by
 obtain⟨ao,cap,e,hc,hg⟩:=bj h.frames;obtain⟨g,rfl,hg1,hg2⟩:=hg hn;have hr:=h.frames;rw[e] at hr;have at_:=fun i (hi:i<k.frames.length) j (hj:j<4)=>kj iO (fun _=>rfl) gM hr i j hi hj
 exact⟨g,cap,e,fun i hi=>at_ i hi 0 (by omega),fun i hi=>at_ i hi 1 (by omega),fun i hi=>at_ i hi 2 (by omega),fun i hi=>at_ i hi 3 (by omega),iL hr,hg2,h.lF g (by rw[e];rfl),hc⟩
structure adj (w:World) (S:gI) (k:aT) (fb cF:Nat):Prop where
 v:S.vL=.slice (some (Ad fb 0)) k.slots.length cF
 x0:∀i,i<k.slots.length->w.cell? (Ad fb (i*2))=some (.string (bH k.slots i).data)
 x1:∀i,i<k.slots.length->w.cell? (Ad fb (i*2+1))=some (I (bH k.slots i).refs)
 fz:∀j,w.frozen? (Ad fb j)=false
 lt:fb<w.heap.size
 lab:S.lab fb=.slots
theorem Kr.sl (h:Kr lo w S k) (hn:0<k.slots.length):∃fb cF,adj w S k fb cF:=by
 obtain⟨ao,cap,e,hc,hg⟩:=bj h.slots;obtain⟨g,rfl,hg1,hg2⟩:=hg hn;have hr:=h.slots;rw[e] at hr;have at_:=fun i (hi:i<k.slots.length) j (hj:j<2)=>kj iN (fun _=>rfl) nK hr i j hi hj
 exact⟨g,cap,e,fun i hi=>at_ i hi 0 (by omega),fun i hi=>at_ i hi 1 (by omega),iL hr,hg2,h.lL g (by rw[e];rfl)⟩
structure ah6 (w:World) (S:gI) (k:aT) (pb cP:Nat):Prop where
 v:S.vP=.slice (some (Ad pb 0)) k.aj.length cP
 x0:∀i,i<k.aj.length->w.cell? (Ad pb (i*3))=some (.bool (ak k.aj i).live)
 x1:∀i,i<k.aj.length->w.cell? (Ad pb (i*3+1))=some (fH S.L i).va
 x2:∀i,i<k.aj.length->w.cell? (Ad pb (i*3+2))=some (fH S.L i).vp
 fz:∀j,w.frozen? (Ad pb j)=false
 lt:pb<w.heap.size
 lab:S.lab pb=.aj
theorem Kr.sp (h:Kr lo w S k) (hn:0<k.aj.length):∃pb cP,ah6 w S k pb cP:=by
 obtain⟨ao,cap,e,hc,hg⟩:=bj h.aj;have hl:=h.len;obtain⟨g,rfl,hg1,hg2⟩:=hg (by omega);have hr:=h.aj;rw[e] at hr;have at_:=fun i (hi:i<k.aj.length) j (hj:j<3)=>kj gT (fun _=>rfl) xk hr i j (by omega) hj
 exact⟨g,cap,by grind,fun i hi=>by rw[<- (h.each i hi).live];exact at_ i hi 0 (by omega),fun i hi=>at_ i hi 1 (by omega),fun i hi=>at_ i hi 2 (by omega),iL hr,hg2,h.lP g (by rw[e];rfl)⟩
theorem Kr.bc (h:Kr lo w S k) {i:Nat} (hi:i<k.aj.length):∃ae ce,(fH S.L i).vp=.slice ae (ak k.aj i).bc.length ce/\dW bG 3 gV w ae (ak k.aj i).bc:=by
 obtain⟨ae,ce,e,_,hr⟩:=oI bG (fun _=>rfl) gV (h.each i hi).aQ
 grind
theorem Kr.aU (h:Kr lo w S k) {i:Nat} (hi:i<k.aj.length):fZ w (fH S.L i).va (ak k.aj i).aU:=(h.each i hi).aU.has
end Go.Proofs.YtlgoihmkgaaemaaGreat
