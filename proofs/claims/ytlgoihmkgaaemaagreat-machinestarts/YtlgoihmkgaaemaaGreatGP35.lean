import Derived.Test.YtlgoihmkgaaemaaGreatGP34
set_option maxHeartbeats 20000000
set_option linter.unusedVariables false
set_option maxRecDepth 100000
set_option linter.unusedSimpArgs false
namespace Go.Proofs.YtlgoihmkgaaemaaGreat
open Go.RowKit Tryz
variable {N:Nat} {vC:Value} {xs:List Value} (W:World) (l:List aU)
theorem wN {w0 w w':World} {row:Option Nat} (h:Below N w0 w) (hN:N<=w0.heap.size) (g:w.grownBy w' row) (hr:∀k,row=some k->N<=k):Below N w0 w' :=
 h.trans ⟨g.os,g.tape,g.output,g.size,λb hb=>g.block b (gm hb (gj hN h.size)) (λe=>Γ)⟩
theorem ah5 {GD na:Nat} {W V wE:World} {vE:Value} (hb:Below N W V) (hW:N<=W.heap.size) (hrc:V.ownsRow N 139 4 vC na xs) (hN:N<=GD) (hne:∀b,bN vC b->b≠GD) (hg:V.grownBy wE (some GD)) (ha:vE.ownBlock=some GD\/vE.ownBlock=some V.heap.size):Below N W wE/\wE.ownsRow N 139 4 vC na xs/\∀b,bN vE b->¬bN vC b :=
 ⟨wN hb hW hg (λk hk=>Γ),aI.row (aI.grown (D:=λb=>b=GD) hg (λk hk=>Γ)) hrc (λg hg e=>hne g hg e),λb hb hb2=>by
  have hb':vE.ownBlock=some b:=hb;rcases ha with g | g
  . grind
  rw[g] at hb';injection hb' with hb';have:=(hrc.lt b hb2).2;omega⟩
theorem aaG {GB GD:Nat} {W V wC:World} (hb:Below N W V) (hW:N<=W.heap.size) (hrd:V.ownsRow N 174 3 (.slice (some (Ad GD 0)) 0 0) 0 []) (hne:GD≠GB) (hN:N<=GB) (hg:V.grownBy wC (some GB)) (ha:vC.ownBlock=some GB\/vC.ownBlock=some V.heap.size):Below N W wC/\wC.ownsRow N 174 3 (.slice (some (Ad GD 0)) 0 0) 0 []/\∀b,bN vC b->b≠GD :=
 ⟨wN hb hW hg (λk hk=>Γ),aI.row (aI.grown (D:=λb=>b=GB) hg (λk hk=>Γ)) hrd (λg hg e=>by have hg':some GD=some g:=hg;grind),λb hb e=>by
  have hb':vC.ownBlock=some b:=hb;rcases ha with g | g
  . grind
  rw[g] at hb';injection hb' with hb';have:=(hrd.lt GD rfl).2;omega⟩
theorem Lx (w:World) (xs:List Value) (e:TypeId):∀j u,xs[j]?=some u->(w.alloc (.cells xs.toArray e)).cell? (((Ad w.heap.size 0):Addr).add j)=some u:=λj u hu=>by
 grind [Addr.add_lit,aA,bG]
theorem agi (l:Bool) (a b:Option Addr) (n m c d:Nat):∀u∈fX ⟨l,.slice a n c,.slice b m d⟩,u.oneCell'=true:=λu hu=>by
 simp[fX] at hu;rcases hu with rfl | rfl | rfl <;> rfl
theorem agk:∀(l:List bK),∀u∈l.flatMap bC,u.oneCell'=true:=λl u hu=>by
 obtain⟨y,_,hy⟩:=uP.1 hu;simp[bC] at hy;rcases hy with rfl | rfl | rfl <;> rfl
theorem aaH (s:bD):∀u∈ik s,u.oneCell'=true:=λu hu=>by
 simp[ik] at hu;rcases hu with rfl | rfl | rfl <;> rfl
theorem agj {na np:Nat} {wE:World} {lv:Bool} {vE:Value} {xy:List aU} {xx:List bK} (ha:wE.ownsRow N 139 4 vC na ([]++b9 xy)) (hp:wE.ownsRow N 174 3 vE np ([]++xx.flatMap bC)) (FC:np=xx.length) (tR:na=xy.length):nK N wE ⟨lv,vC,vE⟩ ⟨lv,xy,xx⟩:=by
 subst FC tR;exact⟨rfl,by grind [eO],Γ⟩
theorem XK (o:Obj):Below W.heap.size W (W.alloc o).drew:=((aN _ _).alloc (aJ _) _).drew
theorem Nc (o o':Obj):Below W.heap.size W ((W.alloc o).alloc o').drew:=(((aN _ _).alloc (aJ _) _).alloc ξ _).drew
theorem Rx {V:World} (h:N<=V.heap.size) (e:TypeId) (size:Nat):(V.alloc (.cells #[] e)).ownsRow N e size (.slice (some (Ad V.heap.size 0)) 0 0) 0 []:=World.ownsRow_made V #[] 0 h ω ξ
theorem Gj {w:World} {base:Nat} {e:TypeId} {size:Nat} {v:Value} {n:Nat} (h:w.ownsRow base e size v n xs):w.drew.ownsRow base e size v n xs:=aI.row (aI.drew (λ_=>False) w) h (λ_ _ g=>g)
theorem anG (e:TypeId) (size:Nat):(W.alloc (.cells #[] e)).drew.ownsRow W.heap.size e size (.slice (some (Ad W.heap.size 0)) 0 0) 0 []:=Gj (Rx (aJ _) e size)
theorem ah7 (e:TypeId) (o:Obj) (size:Nat):((W.alloc (.cells #[] e)).alloc o).drew.ownsRow W.heap.size e size (.slice (some (Ad W.heap.size 0)) 0 0) 0 []:=Gj (aI.row (aI.alloc (λ_=>False) _ o) (Rx (aJ _) e size) (λ_ _ g=>g))
theorem ah6 (e:TypeId) (o:Obj) (size:Nat):((W.alloc o).alloc (.cells #[] e)).drew.ownsRow W.heap.size e size (.slice (some (Ad (W.heap.size+1) 0)) 0 0) 0 []:=by
 grind [Rx,World.size_alloc,Gj]
theorem adl (l:List bD) (m:Nat) (h:m<l.length):l.take (m+1)=l.take m++[aZ l m]:=by
 grind [List.take_add_one,aZ]
theorem XI {l hs:List bD} {m:Nat} {s:bD} (h:cD (l.take m) hs) (hm:m<l.length) (hp:eD s=eD (aZ l m)):cD (l.take (m+1)) (hs++[s]):=by
 grind [cD,adl]
theorem ado {wr WS wX:World} {pg:Int} {dt:ByteArray} {c0:Value} {n:Nat} {aX:Option Addr} {cX:Nat} (hb:Below wr.heap.size wr WS) (hsz:WS.heap.size=wr.heap.size+1) (BS:WS.heap[wr.heap.size]?=some (.cells #[I pg,.string dt,c0] 145 (0,0)))
  (ho:wX.ownsRow wr.heap.size 226 2 (.slice aX n cX) n ([]++xs)) (hg:(WS.alloc (.cells #[] 226)).grownBy wX (some WS.heap.size)) (ha:(Value.slice aX n cX).ownBlock=some WS.heap.size\/(Value.slice aX n cX).ownBlock=some (WS.alloc (.cells #[] 226)).heap.size) :
  wX.cell? (Ad wr.heap.size 2)=some c0/\wX.frozen? (Ad wr.heap.size 2)=false/\Below wr.heap.size wr (wX.setCell (Ad wr.heap.size 2) (.slice aX n cX))/\(wX.setCell (Ad wr.heap.size 2) (.slice aX n cX)).heap[wr.heap.size]?=some (.cells #[I pg,.string dt,.slice aX n cX] 145 (0,0))/\(wX.setCell (Ad wr.heap.size 2) (.slice aX n cX)).ownsRow wr.heap.size 226 2 (.slice aX n cX) n xs:=by
 have h1:Below WS.heap.size WS wX:=wN ((aN _ _).alloc (aJ _) _) (aJ _) hg (λk hk=>Γ);have h2:=aO BS h1 (aM BS);refine⟨aA h2 2 rfl,br h2 2,(hb.trans (h1.mono hb.size)).setCell (p:=(Ad wr.heap.size 2)) (aJ _) _,dm h2 2 (.slice aX n cX),?_⟩;refine(aI.set (λb=>b=wr.heap.size) _ _ _ rfl).row Γ (λb hx e=>?_)
 grind [World.size_alloc]
theorem adm (k:aT) (a:gN) (w:World) (hK:iB w a k) (hs:Dx k) :
  Calls prog 83 #[.agg (bj a k)] w (zN w k):=by
 obtain⟨P,hP⟩:=ex (zN w k);rw[<- hP];have HP:=ai hP;clear hP;have cc:=ai hK.aj;have ae:Hid (∀V i,Below w.heap.size w V->i<k.aD.length->∃b off,a.aS=some (Ad b off)/\V.cell? (Ad b (off+i*3))=some (I (aZ k.aD i).page)/\V.cell? (Ad b (off+i*3+1))=some (.string (aZ k.aD i).data)/\V.cell? (Ad b (off+i*3+2))=some (.slice (aZ k.aD i).ao (aZ k.aD i).df.length (aZ k.aD i).cap)/\(aZ k.aD i).df.length<=1000000):=λV i hV hi=>by
  obtain⟨b,off,e1,e2,e3⟩:=((Vj hK.aD).below hV) ω;have z:=e3 i hi 0 ω;rw[jt] at z;exact⟨b,off,e1,z,e3 i hi 1 ω,e3 i hi 2 ω,hs.df i hi⟩
 have b0:Hid (∀V n,Below w.heap.size w V->n<k.aD.length->oh V (aZ k.aD n).ao (aZ k.aD n).df.length ((aZ k.aD n).df.flatMap jl)):=λV n hb hn=>by
  obtain⟨b,off,_,_,hi⟩:=hK.aD ω;have h4:mS w (aZ k.aD n).ao (aZ k.aD n).df:=(hi n hn).2.2.2;exact rz (f:=jl) (n:=2) (λ_=>rfl) (Vl (h4.below hb))
 have JV:Hid (∀V,Below w.heap.size w V->oh V a.aF k.frames.length (k.frames.flatMap gu)):=λV hV=>rz (f:=gu) (n:=4) (λ_=>rfl) (hK.frames.below hV)
 have cd:Hid (∀V,Below w.heap.size w V->oh V a.aL k.slots.length (k.slots.flatMap gq)):=λV hV=>rz (f:=gq) (n:=2) (λ_=>rfl) (hK.slots.below hV)
 have cf:=ai (eV gu 4 (λ_=>rfl) k.frames);have ce:=ai (eV gq 2 (λ_=>rfl) k.slots);have Ju:=hs.frames;have d1:=hs.slots;have FC:=hs.aj;have d2:=hs.aD;have cq:=ai hs.bu;have vt:=ai hs.bl;obtain⟨WA,lQ⟩:=ex ((w.alloc (.cells (bj a k) 30)).alloc (.cells #[Nl,Nl,Nl,Nl,I 0] 30));have bX:Below w.heap.size w WA:=by simp_all [aN,pG]
 have kb:WA.heap[w.heap.size]?=some (.cells (bj a k) 30 (0,0)):=by grind [bB,bG]
 have rb:WA.heap[w.heap.size+1]?=some (.cells #[Nl,Nl,Nl,Nl,I 0] 30 (0,0)):=by
  grind [bG,World.size_alloc]
 obtain⟨cb,Z⟩:=ex WA.heap.size;have VJ:Hid (∀V,Below cb WA V->V.heap[w.heap.size]?=some (.cells #[.slice a.aS k.aD.length a.cS,.slice a.aF k.frames.length a.cF,.slice a.aL k.slots.length a.cL,.slice a.aP k.aj.length a.cP,I k.hand] 30 (0,0))):=λV hV=>aO kb (Z ▸ hV) (aM kb)
 have Kc:Hid (∀V,Below cb WA V->V.heap[w.heap.size+1]?=some (.cells #[Nl,Nl,Nl,Nl,I 0] 30 (0,0))):=λV hV=>aO rb (Z ▸ hV) (aM rb)
 have EO:Hid (∀V,Below cb WA V->Below w.heap.size w V):=λV hV=>bX.trans (hV.mono Γ)
 have cu:w.heap.size+1<cb:=by grind
 have d4:=ai cu;have k4:WA.cell? (Ad w.heap.size 4)=some (I k.hand):=aA kb 4 rfl;obtain⟨WC,aY⟩:=ex (WA.alloc (.cells #[Nl,Nl,Nl,Nl,I k.hand] 30));have c6:Hid (bO cb cb 30 [] WC ⟨λb=>if b=cb then .head else .no,Nl,Nl,Nl,Nl,[]⟩ ⟨[],[],[],[],k.hand⟩):=by
  grind [aaJ,bG]
 have eB:Hid (Below cb WA WC):=by grind [Below.refl,Below.alloc]
 have ot:=ai lQ;have cn:=ai aY;have A6:=ai Z;unfold bj at ot ⊢;clear lQ hK kb rb bX Z aY hs;go_enter func83,ntmps83;go_upto_region 1 with fail;rw[<- ot.o];go_upto_region 2 with fail;rw[<- cn.o,<- A6.o];clear k4 ot;go_wp2;go_loopw [4] (λiv wq=>∃(i:Nat) (lab:Nat->ma) (vS:Value) (hs:List bD),i<=k.aD.length/\iv=I (i:Int)/\cD (k.aD.take i) hs/\bO cb cb 30 [] wq ⟨lab,vS,Nl,Nl,Nl,[]⟩ ⟨hs,[],[],[],k.hand⟩/\Below cb WA wq) (λiv _=>k.aD.length-(intOf iv).toNat)
 case atStart=>exact⟨0,_,_,[],ω,rfl,rfl,c6.o,eB.o⟩
 case round =>
  obtain⟨i,lab,vS,hs',hi,rfl,A,mL,ov⟩:=hrel;clear c6 eB;have b3:hs'.length=i:=by
   have:=dO List.length A
   grind
  obtain⟨aS,cS,eS,_⟩:=bh mL.aD;have eS:vS=.slice aS hs'.length cS:=eS;rw[b3] at eS;subst eS;have M:cb<wr.heap.size:=mL.lt;have Js:Below w.heap.size w wr:=EO.o _ ov;have r:=VJ.o _ ov;by_cases hlt:i<k.aD.length
  . have x0:wr.cell? (Ad w.heap.size 0)=some (.slice a.aS k.aD.length a.cS):=aA r 0 rfl;have d6:(i:Int)<(k.aD.length:Int):=by omega
    obtain⟨sB,sO,e1,z0,z1,z2,b8⟩:=ae.o wr i Js hlt;rw[e1] at x0;have a2:Hid (∀V,Below w.heap.size w V->oh V (aZ k.aD i).ao (aZ k.aD i).df.length ((aZ k.aD i).df.flatMap jl)):=λV hV=>b0.o V i hV hlt
    have Tg:Hid (∀s,eD s=eD (aZ k.aD i)->cD (k.aD.take (i+1)) (hs'++[s])):=λs hp=>XI A hlt hp
    generalize aZ k.aD i=s at z0 z1 z2 b8 a2 Tg;obtain⟨pg,dt,fx,ao,cap⟩:=s;simp only at z0 z1 z2 b8 a2 Tg;obtain⟨WS,c5⟩:=ex (wr.alloc (.cells #[I pg,.string dt,.slice ao fx.length cap] 145));have U:Below wr.heap.size wr WS:=by grind [Below.refl,Below.alloc]
    have bv:WS.heap.size=wr.heap.size+1:=by simp_all
    have BS:WS.heap[wr.heap.size]?=some (.cells #[I pg,.string dt,.slice ao fx.length cap] 145 (0,0)):=by grind [bG]
    have ck:(WS.alloc (.cells #[] 226)).cell? (Ad wr.heap.size 2)=some (.slice ao fx.length cap):=aA (bB BS _) 2 rfl;have bi:Hid ((WS.alloc (.cells #[] 226)).ownsRow wr.heap.size 226 2 (.slice (some (Ad WS.heap.size 0)) 0 0) 0 []):=Rx U.size _ _;have bm:Hid (oh (WS.alloc (.cells #[] 226)) ao fx.length (fx.flatMap jl)):=a2.o _ ((Js.trans (U.mono Js.size)).alloc (gj Js.size U.size) _);have ci:=ai (eV jl 2 (λ_=>rfl) fx);have bd:Hid (wr.heap.size<=(WS.alloc (.cells #[] 226)).heap.size):=by grind [World.size_alloc]
    have bt:Hid (∀wX aX cX,wX.ownsRow wr.heap.size 226 2 (.slice aX fx.length cX) fx.length ([]++fx.flatMap jl)->(WS.alloc (.cells #[] 226)).grownBy wX (some WS.heap.size)->((Value.slice aX fx.length cX).ownBlock=some WS.heap.size\/(Value.slice aX fx.length cX).ownBlock=some (WS.alloc (.cells #[] 226)).heap.size)->wX.cell? (Ad wr.heap.size 2)=some (.slice ao fx.length cap)/\wX.frozen? (Ad wr.heap.size 2)=false/\Below wr.heap.size wr (wX.setCell (Ad wr.heap.size 2) (.slice aX fx.length cX))/\(wX.setCell (Ad wr.heap.size 2) (.slice aX fx.length cX)).heap[wr.heap.size]?=some (.cells #[I pg,.string dt,.slice aX fx.length cX] 145 (0,0))/\(wX.setCell (Ad wr.heap.size 2) (.slice aX fx.length cX)).ownsRow wr.heap.size 226 2 (.slice aX fx.length cX) fx.length (fx.flatMap jl)):=λwX aX cX h1 h2 h3=>ado U bv BS h1 h2 h3
    have ah:Hid (∀V O,Below wr.heap.size wr V->(V.alloc O).ownsRow cb 145 3 (.slice aS i cS) i (hs'.flatMap ik)):=λV O hV=>by
     have:=((aI.cA (D:=λ_=>False) hV).trans (aI.alloc _ V O) (λ_ _ g=>g)).row mL.aD (λ_ _ g=>g)
     grind
    have a8:Hid (∀W6 wG O v' aX cX,Below wr.heap.size wr W6->W6.ownsRow wr.heap.size 226 2 (.slice aX fx.length cX) fx.length (fx.flatMap jl)->(W6.alloc O).grownBy wG (Value.slice aS i cS).ownBlock->wG.ownsRow cb 145 3 v' (i+1) (hs'.flatMap ik++ik ⟨pg,dt,fx,aX,cX⟩)->(v'.ownBlock=(Value.slice aS i cS).ownBlock\/v'.ownBlock=some (W6.alloc O).heap.size)->wG.cell? (Ad cb 0)=some (.slice aS i cS)/\wG.frozen? (Ad cb 0)=false/\(∃lab',bO cb cb 30 [] (wG.setCell (Ad cb 0) v') ⟨lab',v',Nl,Nl,Nl,[]⟩ ⟨hs'++[⟨pg,dt,fx,aX,cX⟩],[],[],[],k.hand⟩)/\Below cb WA (wG.setCell (Ad cb 0) v')):=λW6 wG O v' aX cX h1 h2 h3 h4 h5=>by
     have m1:=mL.apq (s:=⟨pg,dt,fx,aX,cX⟩) (uN M) h1 h2 h3 Γ h5;have bq:wG.heap[cb]?=some (.cells #[.slice aS i cS,Nl,Nl,Nl,I k.hand] 30 (0,0)):=(((aI.cA (D:=bN (.slice aS i cS)) h1).trans (aI.alloc _ W6 O) (λ_ _ g=>g)).trans (aI.grown h3 (λ_ e=>e)) (λ_ _ g=>g)).keep mL.head (λx=>by have:=mL.lS cb x;rw[mL.lH] at this;grind);refine⟨aA bq 0 rfl,br bq 0,⟨_,m1.1⟩,?_⟩;exact aI.below ov m1.2 (uN M) (λb hb=>(mL.vD b hb).1)
    have cy:Hid (∀V,Below wr.heap.size wr V->V.cell? (Ad cb 0)=some (.slice aS i cS)):=λV hV=>(mL.below hV).c0
    have co:=ai c5;clear mL ov Js r A c5 U BS a2 ae b3 bv;go_upto_region 6 with fail;rw[<- co.o];go_upto_region 7 with(at_builtin;refine alx rfl _ _ rfl wr.heap.size (.slice (some (Ad WS.heap.size 0)) 0 0) 0 [] ρ bi.o ao fx.length cap (fx.flatMap jl) ρ ci.o bm.o (Vm _) (by unfold maxLen;omega) ω bd.o ?_;intro AH wX a4 bA aw;rw[mi] at a4;obtain⟨aX,cX,c8,_,_⟩:=bh a4;subst c8;obtain⟨y0,y1,bo,h6,ba⟩:=bt.o _ _ _ a4 bA aw;have W:=ai bo;have Y:=ai h6;have aq:=ai ba;clear a4 bA aw bo h6 ba);generalize wX.setCell (Ad wr.heap.size 2) (.slice aX fx.length cX)=W6 at W Y aq ⊢;have q0:W6.cell? (Ad wr.heap.size 0)=some (I pg):=aA Y.o 0 rfl;have q1:W6.cell? (Ad wr.heap.size 1)=some (.string dt):=aA Y.o 1 rfl;have q2:W6.cell? (Ad wr.heap.size 2)=some (.slice aX fx.length cX):=aA Y.o 2 rfl;have q3:W6.cell? (Ad cb 0)=some (.slice aS i cS):=cy.o _ W.o;have cm:Hid (∀O,cb<=(W6.alloc O).heap.size):=λO=>by rw[fp];have:=W.o.size;omega
    clear bt bi bm bd y0 y1 ck x0 z0 z1 z2;go_wp2_with (at_builtin;refine alv rfl _ _ rfl cb (.slice aS i cS) i (hs'.flatMap ik) ρ (ah.o _ _ W.o) (some (Ad W6.heap.size 0)) 1 1 (ik ⟨pg,dt,fx,aX,cX⟩) ρ rfl (λ_=>⟨_,rfl,Lx W6 _ _⟩) (aaH _) (by unfold maxLen;omega) ω (cm.o _) ?_;intro vG wG Tc Wx Wy;obtain⟨aG,cG,ac,_,_⟩:=bh Tc;subst ac;obtain⟨p0,p1,F,G⟩:=a8.o _ _ _ _ _ _ W.o aq.o Wx Tc Wy;have Cv:=ai F;have Mf:=ai G;clear Tc Wx Wy F G);go_roundw
    case rel =>
     obtain⟨lab',h1⟩:=Cv.o;refine⟨_,?_,?_,lab',_,_,Tg.o ⟨pg,dt,fx,aX,cX⟩ rfl,h1,Mf.o⟩
     . omega
     go_num
    grind [intOf]
  obtain rfl:i=k.aD.length:=by omega
  rw[sW] at A;have cg:=ai A;have x1:wr.cell? (Ad w.heap.size 1)=some (.slice a.aF k.frames.length a.cF):=aA r 1 rfl;have x0:wr.cell? (Ad w.heap.size 0)=some (.slice a.aS k.aD.length a.cS):=aA r 0 rfl;have y1:wr.cell? (Ad cb 1)=some Nl:=mL.c1;have ay:=ai (JV.o _ Js);have az:Hid (∀w1 v',wr.grownBy w1 none->w1.ownsRow cb 169 4 v' k.frames.length (k.frames.flatMap gu)->(v'.ownBlock=none\/v'.ownBlock=some wr.heap.size)->w1.cell? (Ad cb 1)=some Nl/\w1.frozen? (Ad cb 1)=false/\(∃lab',bO cb cb 30 [] (w1.setCell (Ad cb 1) v') ⟨lab',.slice aS k.aD.length cS,v',Nl,Nl,[]⟩ ⟨hs',k.frames,[],[],k.hand⟩)/\Below cb WA (w1.setCell (Ad cb 1) v')):=λw1 v' h1 h2 h3=>by
   have m1:=mL.asQ h1 h2 h3;have hh:=(aI.grown (D:=λ_=>False) h1 (λ_ e=>nomatch e)).keep mL.head (λg=>g);refine⟨aA hh 1 rfl,br hh 1,⟨_,m1.1⟩,?_⟩;exact aI.below ov m1.2 (uN M) (λb hb=>(mL.vD b hb).1)
  clear mL ov Js r A ae b0 hlt;go_upto_region 9 with(at_builtin;refine aly rfl _ _ rfl cb Nl 0 [] ρ (nt _ _ _ _) a.aF k.frames.length a.cF (k.frames.flatMap gu) ρ cf.o ay.o (Vn _) (by grind [maxLen]) ω (uN M) ?_;intro vF w1 a3 bp an;rw[mi,P9] at a3;obtain⟨aF,cF,cs,_,_⟩:=bh a3;subst cs;obtain⟨p0,p1,F,G⟩:=az.o _ _ bp a3 an;have Cv:=ai F;have Mf:=ai G;clear a3 bp an F G);generalize w1.setCell (Ad cb 1) (.slice aF k.frames.length cF)=W8 at Cv Mf ⊢;obtain⟨d3,mL⟩:=Cv.o;have ov:=Mf.o;have Js:Below w.heap.size w W8:=EO.o _ ov;have r:=VJ.o _ ov;have b5:cb<W8.heap.size:=mL.lt;have x2:W8.cell? (Ad w.heap.size 2)=some (.slice a.aL k.slots.length a.cL):=aA r 2 rfl;have y2:W8.cell? (Ad cb 2)=some Nl:=mL.c2;have c7:=ai (cd.o _ Js);have bn:Hid (∀w1 v',W8.grownBy w1 none->w1.ownsRow cb 171 2 v' k.slots.length (k.slots.flatMap gq)->(v'.ownBlock=none\/v'.ownBlock=some W8.heap.size)->w1.cell? (Ad cb 2)=some Nl/\w1.frozen? (Ad cb 2)=false/\(∃lab',bO cb cb 30 [] (w1.setCell (Ad cb 2) v') ⟨lab',.slice aS k.aD.length cS,.slice aF k.frames.length cF,v',Nl,[]⟩ ⟨hs',k.frames,k.slots,[],k.hand⟩)/\Below cb WA (w1.setCell (Ad cb 2) v')):=λw1 v' h1 h2 h3=>by
   have m1:=mL.asP h1 h2 h3;have hh:=(aI.grown (D:=λ_=>False) h1 (λ_ e=>nomatch e)).keep mL.head (λg=>g);refine⟨aA hh 2 rfl,br hh 2,⟨_,m1.1⟩,?_⟩;exact aI.below ov m1.2 (uN b5) (λb hb=>(mL.vD b hb).1)
  clear mL ov Js r Cv Mf az ay p0 p1 x0 x1 y1;go_upto_region 10 with(at_builtin;refine alu rfl _ _ rfl cb Nl 0 [] ρ (nt _ _ _ _) a.aL k.slots.length a.cL (k.slots.flatMap gq) ρ ce.o c7.o (Vi _) (by grind [maxLen]) ω (uN b5) ?_;intro vL w2 a0 av aH;rw[mi,P9] at a0;obtain⟨aL,cL,cr,_,_⟩:=bh a0;subst cr;obtain⟨p0,p1,F,G⟩:=bn.o _ _ av a0 aH;have Cv:=ai F;have Mf:=ai G;clear a0 av aH F G);generalize w2.setCell (Ad cb 2) (.slice aL k.slots.length cL)=W9 at Cv Mf ⊢;clear p0 p1 x2 y2 bn c7;go_wp2;go_loopw [6] (λiv wq=>∃(m:Nat) (S:gv),m<=k.aj.length/\iv=I (m:Int)/\bO cb cb 30 [] wq S (aV ⟨k.aD,k.frames,k.slots,k.aj.take m,k.hand⟩ hs')/\Below cb WA wq) (λiv _=>k.aj.length-(intOf iv).toNat)
  case atStart =>
   obtain⟨d8,h9⟩:=Cv.o;exact⟨0,_,ω,rfl,h9,Mf.o⟩
  case round =>
   obtain⟨m,S,hm,rfl,mL,ov⟩:=hrel;clear Cv Mf;have M:cb<wr.heap.size:=mL.lt;have Js:Below w.heap.size w wr:=EO.o _ ov;have r:=VJ.o _ ov;by_cases Am:m<k.aj.length
   . have d7:(m:Int)<(k.aj.length:Int):=by omega
     have x3:wr.cell? (Ad w.heap.size 3)=some (.slice a.aP k.aj.length a.cP):=aA r 3 rfl;obtain⟨pb,po,bE,am,Td⟩:=cc.o ω;rw[bE] at x3;obtain⟨va,ap,cp,v0,v1,v2,ZV,ZU,_⟩:=Td m Am;have Tp:=ZV;obtain⟨aa,ca,Ec,_⟩:=ZV;subst Ec;have z0:=(Js.cell (p:=(Ad pb (po+m*3))) am).trans v0;have z1:=(Js.cell (p:=(Ad pb (po+m*3+1))) am).trans v1;have z2:=(Js.cell (p:=(Ad pb (po+m*3+2))) am).trans v2;have af:=cq.o m Am;have a5:=vt.o m Am;have al:=Ro k.aj m Am;generalize ak k.aj m=sp at z0 z1 z2 af a5 al Tp ZU;obtain⟨lv,xy,xx⟩:=sp;simp only at z0 z1 z2 af a5 Tp ZU;obtain⟨na,tR⟩:=ex xy.length;obtain⟨np,a6⟩:=ex xx.length;rw[<- tR] at z1 af Tp;rw[<- a6] at z2 a5;have cw:=ai tR;have a9:=ai a6;have d0:S.L.length<=1000000:=by have:=mL.len;grind [aV]
     obtain⟨v,hv⟩:=ex S.vP;obtain⟨WB,bz⟩:=ex (wr.alloc (.cells #[.bool lv,.slice aa na ca,.slice ap np cp] 99));have N:Below wr.heap.size wr WB:=by grind [Below.refl,Below.alloc]
     have BL:WB.heap[wr.heap.size]?=some (.cells #[.bool lv,.slice aa na ca,.slice ap np cp] 99 (0,0)):=by grind [bG]
     have Q:=mL.below N;have b4:cb<=WB.heap.size:=gj (uN M) N.size;have nH:¬bN v cb:=λg=>by rw[hv] at g;have:=mL.lP _ g;grind [bO.lH]
     have nS:¬bN v wr.heap.size:=λg=>by rw[hv] at g;have:=(mL.aj.lt _ g).2;omega
     have uZ:Hid (∀V,aI (λb=>bN v b) WB V->V.cell? (Ad cb 3)=some v/\V.cell? (Ad wr.heap.size 0)=some (.bool lv)/\V.cell? (Ad wr.heap.size 1)=some (.slice aa na ca)/\V.cell? (Ad wr.heap.size 2)=some (.slice ap np cp)):=λV hV=>by
      have b1:=hV.keep Q.head nH;have b2:=hV.keep BL nS;refine⟨?_,aA b2 0 rfl,aA b2 1 rfl,aA b2 2 rfl⟩;rw[hv];exact aA b1 3 rfl
     have cv:Hid (∀V,aI (λb=>bN v b) WB V->V.frozen? (Ad cb 3)=false):=λV hV=>br (hV.keep Q.head nH) 3
     have o5:Hid (aI (λb=>bN v b) WB WB.drew):=aI.drew _ _;have q:Hid (∀V,Below WB.heap.size WB V->aI (λb=>bN v b) WB V):=λV h=>aI.cA h
     have bx:Hid (∀V,aI (λb=>bN v b) WB V->Below w.heap.size w V):=λV hV=>aI.below (Js.trans (N.mono Js.size)) hV (gj Js.size N.size) (λg hg=>by rw[hv] at hg;have:=(mL.aj.lt g hg).1;omega)
     have DB:Hid (∀V,aI (λb=>bN v b) WB V->oh V aa na (b9 xy)):=λV hV=>(IM (Tp.below (bx.o V hV))).2
     have a7:Hid ((b9 xy).length=na*4):=by grind [uB]
     have ad:Hid (∀u∈b9 xy,u.oneCell'=true):=rq _;have I9:Hid (∀V,aI (λb=>bN v b) WB V->oh V ap np (xx.flatMap bC)):=λV hV=>by rw[a9.o];exact rz (f:=bC) (n:=3) (λ_=>rfl) (ZU.below (bx.o V hV))
     have c9:Hid ((xx.flatMap bC).length=np*3):=by show _=_;rw[a9.o];exact eV bC 3 (λ_=>rfl) _
     have zu:Hid (∀u∈xx.flatMap bC,u.oneCell'=true):=agk _;have ah:Hid (∀w2 o,Below WB.heap.size WB w2->(w2.alloc o).ownsRow cb 99 3 v S.L.length (S.L.flatMap fX)):=λw2 o hb=>by
      have:=((aI.cA (D:=λ_=>False) hb).trans (aI.alloc _ w2 o) (λ_ _ g=>g)).row Q.aj (λ_ _ g=>g)
      grind
     have a8:Hid (∀w2 w4 O v' l,Below WB.heap.size WB w2->nK WB.heap.size w2 l ⟨lv,xy,xx⟩->(∀b,bN l.vp b->¬bN l.va b)->(w2.alloc O).grownBy w4 v.ownBlock->w4.ownsRow cb 99 3 v' (S.L.length+1) (S.L.flatMap fX++fX l)->(v'.ownBlock=v.ownBlock\/v'.ownBlock=some (w2.alloc O).heap.size)->∃S',bO cb cb 30 [] (w4.setCell (Ad cb 3) v') S' (aV ⟨k.aD,k.frames,k.slots,k.aj.take (m+1),k.hand⟩ hs')/\Below cb WA (w4.setCell (Ad cb 3) v')):=λw2 w4 O v' l h1 h2 h3 h4 h5 h6=>by
      rw[hv] at h4 h6;have m1:=Q.push b4 h1 h2 h3 h4 h5 h6;have m2:=m1.1;rw[al];have Tf:=ov.trans (N.mono (uN M));exact⟨_,m2,aI.below Tf m1.2.2 b4 (λb hb=>(Q.vD b hb).1)⟩
     have cz:=ai bz;clear mL Q ov Js r v0 v1 v2 Tp ZU al bz N BL Td tR a6 nH nS hv bE;go_upto_region 14 with fail;rw[<- cz.o];refine uj (S:=λV=>aI (λb=>bN v b) WB V) (z:=16) ρ ?_;refine Mm 0 o5.o ?_;refine lO 1 o5.o ?_ (hc:=uZ.o);refine lO 2 o5.o ?_ (hc:=uZ.o);refine lO 3 o5.o ?_ (hc:=uZ.o);refine lO 5 o5.o ?_ (hc:=uZ.o);refine lO 6 o5.o ?_ (hc:=uZ.o);refine lO 9 o5.o ?_ (hc:=uZ.o);refine lO 10 o5.o ?_ (hc:=uZ.o);apply agK (ε:=Nat) (H:=λ(V:World) (GD:Nat) (aC:Option Addr) (cC:Nat)=>Below WB.heap.size WB V/\V.ownsRow WB.heap.size 139 4 (.slice aC na cC) na ([]++b9 xy)/\V.ownsRow WB.heap.size 174 3 (.slice (some (Ad GD 0)) 0 0) 0 []/\∀b,bN (.slice aC na cC) b->b≠GD)
     . intro T;refine gS (rs:=[4,8]) κ ξ ?_;refine b7.cons rfl (λK hK=>?_) (b7.cons rfl (λK hK=>?_) b7.nil)
       . go_simp;refine hK.out _ _ (λ_=>q.o _ (XK WB _)) ?_;clear hK K
         try simp only[Act.put,eQ,eI,ed]
         refine gS (rs:=[7,8]) κ ξ ?_;refine b7.cons rfl (λK hK=>?_) (b7.cons rfl (λK hK=>?_) b7.nil);rotate_left 1
         . go_simp;refine hK.out _ _ (λ_=>q.o _ (Nc WB _ _)) ?_;clear hK K
           try simp only[Act.put,eQ,eI,ed]
           refine gS (rs:=[7]) κ ξ ?_;refine b7.cons rfl (λK hK=>?_) b7.nil;rw[aQ ρ];refine YY _ _ rfl WB.heap.size (.slice (some (Ad WB.heap.size 0)) 0 0) 0 [] rfl (ah7 WB _ _ _) aa na ca (b9 xy) rfl a7.o (DB.o _ (q.o _ (Nc WB _ _))) ad.o (by unfold maxLen;omega) ω (by first | omega | (simp;done) | (simp;omega)) ?_;intro vC wC y J R;rw[mi] at y;obtain⟨aC,cC,X,_,_⟩:=bh y;subst X;obtain⟨t1,t2,t3⟩:=aaG (GB:=WB.heap.size) (GD:=WB.heap.size+1) (Nc WB _ _) (aJ _) (ah6 WB _ _ 3) ω ω J R;refine hK.out _ _ (λ_=>q.o _ t1) ?_;clear hK K J R
           try simp only[Act.put,eQ,eI,ed]
           have H:=And.intro t1 (And.intro y (And.intro t2 t3));clear t1 t2 t3 y;generalize WB.heap.size+1=GD at H ⊢;generalize WB.heap.size=GB;exact T wC GD aC cC GB H
         rw[aQ ρ];refine YY _ _ rfl WB.heap.size (.slice (some (Ad WB.heap.size 0)) 0 0) 0 [] rfl (anG WB _ _) aa na ca (b9 xy) rfl a7.o (DB.o _ (q.o _ (XK WB _))) ad.o (by unfold maxLen;omega) ω (by first | omega | (simp;done) | (simp;omega)) ?_;intro vC wC y J R;rw[mi] at y;obtain⟨aC,cC,X,_,_⟩:=bh y;subst X;have ZI:Below WB.heap.size WB wC:=wN (XK WB _) (aJ _) J (λg hg=>by have ar:some WB.heap.size=some g:=hg;injection ar with ar;omega);refine hK.out _ _ (λ_=>q.o _ ZI) ?_;clear hK K J R
         try simp only[Act.put,eQ,eI,ed]
         refine gS (rs:=[8]) κ ξ ?_;refine b7.cons rfl (λK hK=>?_) b7.nil;go_simp;refine hK.out _ _ (λ_=>q.o _ (ZI.alloc ZI.size _)) ?_
         try simp only[Act.put,eQ,eI,ed]
         exact T _ _ aC cC _ ⟨ZI.alloc ZI.size _,aI.row (aI.alloc (λ_=>False) wC _) y (λ_ _ g=>g),Rx ZI.size _ _,λb hb=>Nat.ne_of_lt (y.lt b hb).2⟩
       go_simp;refine hK.out _ _ (λ_=>q.o _ (XK WB _)) ?_;clear hK K
       try simp only[Act.put,eQ,eI,ed]
       refine gS (rs:=[4]) κ ξ ?_;refine b7.cons rfl (λK hK=>?_) b7.nil;go_simp;refine hK.out _ _ (λ_=>q.o _ (Nc WB _ _)) ?_;clear hK K
       try simp only[Act.put,eQ,eI,ed]
       refine gS (rs:=[7]) κ ξ ?_;refine b7.cons rfl (λK hK=>?_) b7.nil;rw[aQ ρ];refine YY _ _ rfl WB.heap.size (.slice (some (Ad (WB.heap.size+1) 0)) 0 0) 0 [] rfl (ah6 WB _ _ _) aa na ca (b9 xy) rfl a7.o (DB.o _ (q.o _ (Nc WB _ _))) ad.o (by unfold maxLen;omega) ω (by first | omega | (simp;done) | (simp;omega)) ?_;intro vC wC y J R;rw[mi] at y;obtain⟨aC,cC,X,_,_⟩:=bh y;subst X;obtain⟨t1,t2,t3⟩:=aaG (GB:=WB.heap.size+1) (GD:=WB.heap.size) (Nc WB _ _) (aJ _) (ah7 WB _ _ 3) ω ω J R;refine hK.out _ _ (λ_=>q.o _ t1) ?_
       try simp only[Act.put,eQ,eI,ed]
       exact T wC _ aC cC _ ⟨t1,y,t2,t3⟩
     rintro V GD aC cC GB ⟨hb,au,ag,bs⟩;refine gS (rs:=[11]) κ ξ ?_;refine b7.cons rfl (λK hK=>?_) b7.nil;rw[aQ ρ];refine als _ _ rfl WB.heap.size (.slice (some (Ad GD 0)) 0 0) 0 [] rfl ag ap np cp (xx.flatMap bC) rfl c9.o (I9.o _ (q.o _ hb)) zu.o (by unfold maxLen;omega) ω hb.size ?_;intro vE wE a1 b6 bb;rw[mi] at a1;obtain⟨aE,cE,cl,_,_⟩:=bh a1;subst cl;have B:=ai (ah5 hb (aJ _) au (ag.lt GD rfl).1 bs b6 bb);have ab:=ai (q.o _ B.o.1);have yZ:=ai a1;clear a1 b6 bb hb au ag bs;refine hK.out _ _ (λ_=>ab.o) ?_;clear hK K
     try simp only[Act.put,eQ,eI,ed]
     refine lO 12 ab.o ?_ (hc:=uZ.o);refine gS (rs:=[13]) κ ξ ?_;refine b7.cons rfl (λK hK=>?_) b7.nil;go_simp;refine hK.out _ _ (λ_=>q.o _ (B.o.1.alloc B.o.1.size _)) ?_;clear hK K
     try simp only[Act.put,eQ,eI,ed]
     refine gS (rs:=[14]) κ ξ ?_;refine b7.cons rfl (λK hK=>?_) b7.nil;rw[aQ ρ];refine afD _ _ rfl cb (v) S.L.length (S.L.flatMap fX) rfl (ah.o _ _ B.o.1) (some (Ad wE.heap.size 0)) 1 1 (fX ⟨lv,.slice aC na cC,.slice aE np cE⟩) rfl rfl (λ_=>⟨_,rfl,Lx wE _ _⟩) (agi _ _ _ _ _ _ _) (by unfold maxLen;omega) ω (by rw[fp];have:=B.o.1.size;omega) ?_;intro vG wG Tc Wx Wy;obtain⟨aG,cG,ac,_,_⟩:=bh Tc;subst ac;have ct:=ai (a8.o wE wG _ _ ⟨lv,.slice aC na cC,.slice aE np cE⟩ B.o.1 (agj B.o.2.1 yZ.o a9.o cw.o) B.o.2.2 Wx Tc Wy);have OE:Hid (aI (λb=>bN v b) WB wG):=(q.o _ (B.o.1.alloc B.o.1.size _)).trans (aI.grown Wx (λ_ e=>e)) (λ_ _ g=>g);have d5:=(uZ.o wG OE.o).1;have cV:wG.frozen? (Ad cb 3)=false:=cv.o wG OE.o;clear Tc Wx Wy B ab yZ;refine hK.out _ _ (λ_=>OE.o) ?_;clear hK K
     try simp only[Act.put,eQ,eI,ed]
     refine Mm 15 OE.o ?_;refine gS (rs:=[16]) κ ξ ?_;refine b7.cons rfl (λK hK=>?_) b7.nil;go_simp;refine hK.out _ _ (λg=>absurd rfl g) ?_;refine Ab ρ ?_ _;go_wp2;go_roundw
     case rel =>
      obtain⟨S',h1,h2⟩:=ct.o;exact⟨m+1,S',ω,by go_num,h1,h2⟩
     case measure=>simp[intOf];omega
   obtain rfl:m=k.aj.length:=by omega
   rw[sW] at mL;obtain⟨bS,nS,dS,eS⟩:∃b n d,S.vS=.slice b n d:=by obtain⟨b,d,e,_⟩:=bh mL.aD;grind
   obtain⟨bF,nF,dF,eF⟩:∃b n d,S.vF=.slice b n d:=by obtain⟨b,d,e,_⟩:=bh mL.frames;grind
   obtain⟨bL,nL,dL,eL⟩:∃b n d,S.vL=.slice b n d:=by obtain⟨b,d,e,_⟩:=bh mL.slots;grind
   obtain⟨bP,nP,dP,eP⟩:∃b n d,S.vP=.slice b n d:=by obtain⟨b,d,e,_⟩:=bh mL.aj;grind
   have x3:wr.cell? (Ad w.heap.size 3)=some (.slice a.aP k.aj.length a.cP):=aA r 3 rfl;have c0:=mL.c0;have c1:=mL.c1;have c2:=mL.c2;have c3:=mL.c3;have c4:wr.cell? (Ad cb 4)=some (I k.hand):=mL.c4;rw[eS] at c0;rw[eF] at c1;rw[eL] at c2;rw[eP] at c3;have R1:=Kc.o _ ov;obtain⟨y0,y1,y2,y3,y4⟩:=kj R1;have f0:=br R1 0;have f1:=br R1 1;have f2:=br R1 2;have f3:=br R1 3;have f4:=br R1 4;have eW:Hid (∀V,aI (λb=>b=w.heap.size+1) wr V->P (.returned (.agg #[.slice bS nS dS,.slice bF nF dF,.slice bL nL dL,.slice bP nP dP,I k.hand])) V):=λV hV=>by
    rw[HP.o];refine⟨S,hs',cg.o,Γ,(mL.toKr.kp hV (λb hb e=>by have:=(mL.vD b hb).1;omega)).mono ω,?_⟩
    grind [aI.below]
   have h5:Hid (∀s f l p h,(((((wr.setCell (Ad (w.heap.size+1) 0) s).setCell (Ad (w.heap.size+1) 1) f).setCell (Ad (w.heap.size+1) 2) l).setCell (Ad (w.heap.size+1) 3) p).setCell (Ad (w.heap.size+1) 4) h).heap[w.heap.size+1]?=some (.cells #[s,f,l,p,h] 30 (0,0))/\aI (λb=>b=w.heap.size+1) wr (((((wr.setCell (Ad (w.heap.size+1) 0) s).setCell (Ad (w.heap.size+1) 1) f).setCell (Ad (w.heap.size+1) 2) l).setCell (Ad (w.heap.size+1) 3) p).setCell (Ad (w.heap.size+1) 4) h)):=λs f l p h=>⟨dm (dm (dm (dm (dm R1 0 s) 1 f) 2 l) 3 p) 4 h,((((aI.set (λb=>b=w.heap.size+1) wr (Ad (w.heap.size+1) 0) s rfl).trans (aI.set (λb=>b=w.heap.size+1) _ (Ad (w.heap.size+1) 1) f rfl) (λ_ _ g=>g)).trans (aI.set (λb=>b=w.heap.size+1) _ (Ad (w.heap.size+1) 2) l rfl) (λ_ _ g=>g)).trans (aI.set (λb=>b=w.heap.size+1) _ (Ad (w.heap.size+1) 3) p rfl) (λ_ _ g=>g)).trans (aI.set (λb=>b=w.heap.size+1) _ (Ad (w.heap.size+1) 4) h rfl) (λ_ _ g=>g)⟩
   clear mL ov eS eF eL eP Js R1 r Am;go_wp2;obtain⟨q1,q2⟩:=h5.out (.slice bS nS dS) (.slice bF nF dF) (.slice bL nL dL) (.slice bP nP dP) (I k.hand);obtain⟨y0,y1,y2,y3,y4⟩:=kj q1;refine bW (v:=.agg #[.slice bS nS dS,.slice bF nF dF,.slice bL nL dL,.slice bP nP dP,I k.hand]) (by simp[results,results83,go_sem,y0,y1,y2,y3,y4]) rfl ?_;exact eW.o _ q2
theorem U3 (b off cap:Nat) (w:World) (hl:ru w b off l) (hc:bf l=0) :
  Calls prog 34 #[.slice (some (Ad b off)) l.length cap] w λe w'=>e=.returned (I (iy l l.length))/\Below w.heap.size w w':=by
 have r:=mK l hc;have HK:Hid (bf l=0):=hc;clear hc;go_enter func34,ntmps34;go_wp2;go_loopw [3,4] (λs i wr=>∃k:Nat,k<=l.length/\i=I k/\s=I (iy l k)/\Below w.heap.size w wr) (λ_ i _=>l.length-(intOf i).toNat)
 case atStart=>exact⟨0,ω,rfl,rfl,aN _ _⟩
 case round =>
  obtain⟨k,hk,rfl,rfl,hb⟩:=hrel;have QN:=CG l HK.o k hk;by_cases hlt:k<l.length
  . obtain⟨c0,c1,c2,c3⟩:=(hl.below hb) k hlt;have h:Hid (iy l (k+1)=iy l k+(bw l k).aY):=rfl;have q:=gB l k (gp l HK.o k hlt);generalize bw l k=a at c0 c1 c2 c3 h q;go_wp2;go_roundw
    case rel=>exact⟨k+1,ω,by go_num,by rw[h.out],hb⟩
    case measure=>simp[intOf];omega
  obtain rfl:k=l.length:=by omega
  go_wp2;go_ret
  simp_all
theorem Zn (ao:Option Addr) (cap:Nat) (w:World) :
  Calls prog 34 #[.slice ao 0 cap] w λe w'=>e=.returned (I 0)/\Below w.heap.size w w':=by
 go_enter func34,ntmps34;go_wp2;refine zE 1 ?_;rw[zz];go_wp2;go_ret;exact⟨rfl,aN _ _⟩
theorem EZ (v:Value) (w:World) (h:eN w v l) (hc:bf l=0) :
  Calls prog 34 #[v] w λe w'=>e=.returned (I (bR l))/\Below w.heap.size w w':=by
 have e:bR l=iy l l.length:=by grind [bR]
 rw[e];obtain⟨ao,cap,rfl,h⟩:=h;rcases h with rfl | ⟨b,off,rfl,hl⟩
 . exact Zn ao cap w
 exact U3 l b off cap w hl hc
theorem S6 (b off cap:Nat) (p:Int) (w:World) (hl:ru w b off l) (hc:bf l=0) :
  Calls prog 82 #[.slice (some (Ad b off)) l.length cap,I p] w λe w'=>e=.returned (.tuple #[.agg (ou (bc l p).1),.bool (bc l p).2])/\Below w.heap.size w w':=by
 have A:Below w.heap.size w (w.alloc (.cells #[I 0,I 0,I 0,.bool false] 139)):=(aN _ _).alloc (aJ _) _;have B:=mK l hc;have HC:Hid (bc l p=bE l p):=by show _=_;grind [bc]
 have HK:Hid (bf l=0):=hc;clear hc;go_enter func82,ntmps82;go_wp2;go_loopw [6] (λi wr=>∃k:Nat,k<=l.length/\i=I k/\(∀j,j<k->gW (bw l j) p=false)/\Below (w.heap.size+1) (w.alloc (.cells #[I 0,I 0,I 0,.bool false] 139)) wr) (λi _=>l.length-(intOf i).toNat)
 case atStart=>grind [Below.refl]
 case round =>
  obtain⟨k,hk,rfl,q,hb⟩:=hrel;have HN:Hid (∀j,j<k->gW (bw l j) p=false):=q;have ov:Hid (Below w.heap.size w wr):=A.trans (hb.mono (iO _));have y:=hl.below ov.out;have hR:wr.heap[w.heap.size]?=some (.cells #[I 0,I 0,I 0,.bool false] 139 (0,0)):=aO (bG w _ _) hb (Kp _);have HB:Hid (Below (w.heap.size+1) (w.alloc (.cells #[I 0,I 0,I 0,.bool false] 139)) wr):=hb;have t0:=aA hR 0 rfl;have t1:=aA hR 1 rfl;have t2:=aA hR 2 rfl;have t3:=aA hR 3 rfl;have u0:=br hR;clear q hR hb;by_cases hlt:k<l.length
  . obtain⟨c0,c1,c2,c3⟩:=y k hlt;have r:=gB l k (gp l HK.o k hlt);obtain⟨a,ha⟩:=ex (bw l k);rw[<- ha] at c0 c1 c2 c3 r;have HA:Hid (a=bw l k):=ha;clear ha;have Il:(k:Int)<(l.length:Int):=by omega
    by_cases h1:a.page<=p
    . by_cases h2:p<a.page+a.aY
      . have h:Hid (bc l p=(a,true)):=by
         show _=_;rw[HC.o,rp l p k hlt HN.o (by rw[<- HA.o];simp[gW,aU.pL,h1,h2]),<- HA.o]
        go_wp2
        go_quiet (fail)
        go_wp2;have QN:=lJ ov.out nq;exact bW (v:=.tuple #[.agg #[I a.page,I a.aY,I a.gh,.bool a.zero],.bool true]) (by simp[results,results82,go_sem,t0,t1,t2,t3]) rfl ⟨by rw[h.out];rfl,(((QN.setCell (aJ _) _).setCell (aJ _) _).setCell (aJ _) _).setCell (aJ _) _⟩
      have E6:Hid (gW (bw l k) p=false):=by show _=_;rw[<- HA.o];unfold gW aU.pL;exact eH ω
      have d2:decide (p<a.page+a.aY)=false:=eH h2;go_wp2
      go_quiet (fail)
      go_wp2;go_roundw
      case rel=>exact⟨k+1,ω,by go_num,λj hj=>if e:j=k then by rw[e];exact E6.out else HN.o j ω,lJ HB.o _⟩
      case measure=>simp[intOf];omega
    have E6:Hid (gW (bw l k) p=false):=by show _=_;rw[<- HA.o];unfold gW aU.pL;exact eH ω
    have d1:decide (a.page<=p)=false:=eH h1;go_wp2
    go_quiet (fail)
    go_wp2;go_roundw
    case rel=>exact⟨k+1,ω,by go_num,λj hj=>if e:j=k then by rw[e];exact E6.out else HN.o j ω,lJ HB.o _⟩
    case measure=>simp[intOf];omega
  obtain rfl:k=l.length:=by omega
  have h:Hid (bc l p=(vB,false)):=by show _=_;rw[HC.o,rh l p HN.o]
  go_wp2;exact bW (v:=.tuple #[.agg #[I 0,I 0,I 0,.bool false],.bool false]) (by simp[results,results82,go_sem,t0,t1,t2,t3]) rfl ⟨by rw[h.out];rfl,(((ov.out.setCell (aJ _) _).setCell (aJ _) _).setCell (aJ _) _).setCell (aJ _) _⟩
theorem U7 (ao:Option Addr) (cap:Nat) (p:Int) (w:World) :
  Calls prog 82 #[.slice ao 0 cap,I p] w λe w'=>e=.returned (.tuple #[.agg (ou (bc [] p).1),.bool (bc [] p).2])/\Below w.heap.size w w':=by
 have b:Below w.heap.size w (w.alloc (.cells #[I 0,I 0,I 0,.bool false] 139)):=(aN _ _).alloc (aJ _) _;go_enter func82,ntmps82;go_wp2;refine zE 1 ?_;rw[zz];go_wp2;exact bW (v:=.tuple #[.agg #[I 0,I 0,I 0,.bool false],.bool false]) (by simp[results,results82,go_sem]) rfl ⟨rfl,b⟩
theorem Db (v:Value) (p:Int) (w:World) (h:eN w v l) (hc:bf l=0) :
  Calls prog 82 #[v,I p] w λe w'=>e=.returned (.tuple #[.agg (ou (bc l p).1),.bool (bc l p).2])/\Below w.heap.size w w':=by
 obtain⟨ao,cap,rfl,h⟩:=h;rcases h with rfl | ⟨b,off,rfl,hl⟩
 . exact U7 ao cap p w
 exact S6 l b off cap p w hl hc
end Go.Proofs.YtlgoihmkgaaemaaGreat
