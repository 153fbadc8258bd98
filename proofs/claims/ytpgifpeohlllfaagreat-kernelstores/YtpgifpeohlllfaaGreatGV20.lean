import Derived.Test.YtpgifpeohlllfaaGreatGV19
set_option maxHeartbeats 20000000
set_option linter.unusedVariables false
set_option maxRecDepth 100000
set_option linter.unusedSimpArgs false
namespace Go.Proofs.YtpgifpeohlllfaaGreat
namespace Go.Proofs.YtpgifpeohlllfaaGreat
open Go.RowKit
theorem uM {N:Nat} {w0 w w':World} {row:Option Nat} (h:Below N w0 w) (hN:N<=w0.heap.size) (g:w.grownBy w' row) (hr:∀k,row=some k->N<=k):Below N w0 w' :=
 h.trans ⟨g.os,g.tape,g.output,g.size,fun b hb=>g.block b (jt hb (gJ hN h.size)) (fun e=>by grind)⟩
theorem Pr {N GD na:Nat} {W V wE:World} {vC vE:Value} {xs:List Value} (hb:Below N W V) (hW:N<=W.heap.size) (hrc:V.ownsRow N 47 4 vC na xs) (hN:N<=GD) (hne:∀b,bI vC b->b≠GD) (hg:V.grownBy wE (some GD)) (ha:vE.ownBlock=some GD∨vE.ownBlock=some V.heap.size):Below N W wE/\wE.ownsRow N 47 4 vC na xs/\∀b,bI vE b->¬bI vC b :=
 ⟨uM hb hW hg (fun k hk=>by grind),aH.row (aH.grown (D:=fun b=>b=GD) hg (fun k hk=>by grind)) hrc (fun g hg e=>hne g hg e),fun b hb hb2=>by
  have hb':vE.ownBlock=some b:=hb;rcases ha with g | g
  · grind
  · rw[g] at hb';injection hb' with hb';have:=(hrc.lt b hb2).2;omega⟩
theorem Yk {N GB GD:Nat} {W V wC:World} {vC:Value} (hb:Below N W V) (hW:N<=W.heap.size) (hrd:V.ownsRow N 45 3 (.slice (some (Ad GD 0)) 0 0) 0 []) (hne:GD≠GB) (hN:N<=GB) (hg:V.grownBy wC (some GB)) (ha:vC.ownBlock=some GB∨vC.ownBlock=some V.heap.size):Below N W wC/\wC.ownsRow N 45 3 (.slice (some (Ad GD 0)) 0 0) 0 []/\∀b,bI vC b->b≠GD :=
 ⟨uM hb hW hg (fun k hk=>by grind),aH.row (aH.grown (D:=fun b=>b=GB) hg (fun k hk=>by grind)) hrd (fun g hg e=>by have hg':some GD=some g:=hg;grind),fun b hb e=>by
  have hb':vC.ownBlock=some b:=hb;rcases ha with g | g
  · grind
  · rw[g] at hb';injection hb' with hb';have:=(hrd.lt GD rfl).2;omega⟩
theorem uL (w:World) (xs:List Value) (e:TypeId):∀j u,xs[j]?=some u->(w.alloc (.cells xs.toArray e)).cell? (((Ad w.heap.size 0):Addr).add j)=some u:=fun j u hu=>by
 grind [Addr.add_lit,aB,bG]
theorem Li (l:Bool) (a b:Option Addr) (n m c d:Nat):∀u∈fL ⟨l,.slice a n c,.slice b m d⟩,u.oneCell'=true:=fun u hu=>by
 simp[fL] at hu;rcases hu with rfl | rfl | rfl <;> rfl
theorem adi:∀(l:List bC),∀u∈l.flatMap bk,u.oneCell'=true:=fun l u hu=>by
 obtain⟨y,_,hy⟩:=vZ.1 hu;simp[bk] at hy;rcases hy with rfl | rfl | rfl <;> rfl
theorem Yl (s:bM):∀u∈ic s,u.oneCell'=true:=fun u hu=>by
 simp[ic] at hu;rcases hu with rfl | rfl | rfl <;> rfl
theorem Ll {N na np:Nat} {wE:World} {lv:Bool} {vC vE:Value} {nj:List bc} {py:List bC} (ha:wE.ownsRow N 47 4 vC na ([]++cj nj)) (hp:wE.ownsRow N 45 3 vE np ([]++py.flatMap bk)) (G0:np=py.length) (wh:na=nj.length):l6 N wE ⟨lv,vC,vE⟩ ⟨lv,nj,py⟩:=by
 subst G0 wh;exact⟨rfl,by grind [dC],by grind⟩
theorem Vf (W:World) (o:Obj):Below W.heap.size W (W.alloc o).drew:=((aK _ _).alloc (aM _) _).drew
theorem Lt (W:World) (o o':Obj):Below W.heap.size W ((W.alloc o).alloc o').drew:=(((aK _ _).alloc (aM _) _).alloc (by simp) _).drew
theorem Eu {N:Nat} {V:World} (h:N<=V.heap.size) (e:TypeId) (size:Nat):(V.alloc (.cells #[] e)).ownsRow N e size (.slice (some (Ad V.heap.size 0)) 0 0) 0 []:=zM V #[] 0 h (by omega) (by simp)
theorem Ew {w:World} {base:Nat} {e:TypeId} {size:Nat} {v:Value} {n:Nat} {xs:List Value} (h:w.ownsRow base e size v n xs):w.drew.ownsRow base e size v n xs:=aH.row (aH.drew (fun _=>False) w) h (fun _ _ g=>g)
theorem ajz (W:World) (e:TypeId) (size:Nat):(W.alloc (.cells #[] e)).drew.ownsRow W.heap.size e size (.slice (some (Ad W.heap.size 0)) 0 0) 0 []:=Ew (Eu (aM _) e size)
theorem aeS (W:World) (e:TypeId) (o:Obj) (size:Nat):((W.alloc (.cells #[] e)).alloc o).drew.ownsRow W.heap.size e size (.slice (some (Ad W.heap.size 0)) 0 0) 0 []:=Ew (aH.row (aH.alloc (fun _=>False) _ o) (Eu (aM _) e size) (fun _ _ g=>g))
theorem aeR (W:World) (e:TypeId) (o:Obj) (size:Nat):((W.alloc o).alloc (.cells #[] e)).drew.ownsRow W.heap.size e size (.slice (some (Ad (W.heap.size+1) 0)) 0 0) 0 []:=by
 grind [Eu,World.size_alloc,Ew]
theorem aaz (l:List bM) (m:Nat) (h:m<l.length):l.take (m+1)=l.take m++[bj l m]:=by
 grind [List.take_add_one,bj]
theorem U5 {l hs:List bM} {m:Nat} {s:bM} (h:dw (l.take m) hs) (hm:m<l.length) (hp:eQ s=eQ (bj l m)):dw (l.take (m+1)) (hs++[s]):=by
 grind [dw,aaz]
theorem aaJ {wr WS wX:World} {pg:Int} {dt:ByteArray} {c0:Value} {n:Nat} {aX:Option Addr} {cX:Nat} {xs:List Value} (hb:Below wr.heap.size wr WS) (hsz:WS.heap.size=wr.heap.size+1) (BS:WS.heap[wr.heap.size]?=some (.cells #[I pg,.string dt,c0] 50 (0,0)))
  (ho:wX.ownsRow wr.heap.size 52 2 (.slice aX n cX) n ([]++xs)) (hg:(WS.alloc (.cells #[] 52)).grownBy wX (some WS.heap.size)) (ha:(Value.slice aX n cX).ownBlock=some WS.heap.size∨(Value.slice aX n cX).ownBlock=some (WS.alloc (.cells #[] 52)).heap.size) :
  wX.cell? (Ad wr.heap.size 2)=some c0/\wX.frozen? (Ad wr.heap.size 2)=false/\Below wr.heap.size wr (wX.setCell (Ad wr.heap.size 2) (.slice aX n cX))/\(wX.setCell (Ad wr.heap.size 2) (.slice aX n cX)).heap[wr.heap.size]?=some (.cells #[I pg,.string dt,.slice aX n cX] 50 (0,0))/\(wX.setCell (Ad wr.heap.size 2) (.slice aX n cX)).ownsRow wr.heap.size 52 2 (.slice aX n cX) n xs:=by
 have h1:Below WS.heap.size WS wX:=uM ((aK _ _).alloc (aM _) _) (aM _) hg (fun k hk=>by grind);have h2:=aQ BS h1 (aO BS);refine⟨aB h2 2 rfl,aJ h2 2,(hb.trans (h1.mono hb.size)).setCell (p:=(Ad wr.heap.size 2)) (aM _) _,dG h2 2 (.slice aX n cX),?_⟩;refine(aH.set (fun b=>b=wr.heap.size) _ _ _ rfl).row (by grind) (fun b hx e=>?_)
 grind [World.size_alloc]
theorem CS (k:aN) (a:fP) (w:World) (hK:fT w a k) (hs:yH k) :
  Calls Tryz.prog 16 #[.agg (aT a k)] w (qu w k):=by
 obtain⟨P,hP⟩:=ex (qu w k);rw[<- hP];have HP:=ai hP;clear hP;have HKS:=ai hK.aj;have WN:Hid (∀V i,Below w.heap.size w V->i<k.aA.length->∃b off,a.aS=some (Ad b off)/\V.cell? (Ad b (off+i*3))=some (I (bj k.aA i).page)/\V.cell? (Ad b (off+i*3+1))=some (.string (bj k.aA i).data)/\V.cell? (Ad b (off+i*3+2))=some (.slice (bj k.aA i).ao (bj k.aA i).dn.length (bj k.aA i).cap)/\(bj k.aA i).dn.length<=1000000):=fun V i hV hi=>by
  obtain⟨b,off,e1,e2,e3⟩:=((SY hK.aA).below hV) (by omega);have z:=e3 i hi 0 (by omega);rw[gV] at z;exact⟨b,off,e1,z,e3 i hi 1 (by omega),e3 i hi 2 (by omega),hs.dn i hi⟩
 have HFX:Hid (∀V n,Below w.heap.size w V->n<k.aA.length->lJ V (bj k.aA n).ao (bj k.aA n).dn.length ((bj k.aA n).dn.flatMap ji)):=fun V n hb hn=>by
  obtain⟨b,off,_,_,hi⟩:=hK.aA (by omega);have h4:mr w (bj k.aA n).ao (bj k.aA n).dn:=(hi n hn).2.2.2;exact qh (f:=ji) (n:=2) (fun _=>rfl) (S9 (h4.below hb))
 have Hs:Hid (∀V,Below w.heap.size w V->lJ V a.aF k.frames.length (k.frames.flatMap gq)):=fun V hV=>qh (f:=gq) (n:=4) (fun _=>rfl) (hK.frames.below hV)
 have ZH:Hid (∀V,Below w.heap.size w V->lJ V a.aL k.slots.length (k.slots.flatMap gp)):=fun V hV=>qh (f:=gp) (n:=2) (fun _=>rfl) (hK.slots.below hV)
 have HLF:=ai (fF gq 4 (fun _=>rfl) k.frames);have HLL:=ai (fF gp 2 (fun _=>rfl) k.slots);have rU:=hs.frames;have hnl:=hs.slots;have G0:=hs.aj;have hns:=hs.aA;have Y8:=ai hs.aZ;have px:=ai hs.aW;obtain⟨WA,iK⟩:=ex ((w.alloc (.cells (aT a k) 27)).alloc (.cells #[Nl,Nl,Nl,Nl,I 0] 27));have hBA:Below w.heap.size w WA:=by simp_all [aK,mq]
 have kb:WA.heap[w.heap.size]?=some (.cells (aT a k) 27 (0,0)):=by grind [bE,bG]
 have rb:WA.heap[w.heap.size+1]?=some (.cells #[Nl,Nl,Nl,Nl,I 0] 27 (0,0)):=by
  grind [bG,World.size_alloc]
 obtain⟨cb,hcb⟩:=ex WA.heap.size;have TC:Hid (∀V,Below cb WA V->V.heap[w.heap.size]?=some (.cells #[.slice a.aS k.aA.length a.cS,.slice a.aF k.frames.length a.cF,.slice a.aL k.slots.length a.cL,.slice a.aP k.aj.length a.cP,I k.hand] 27 (0,0))):=fun V hV=>aQ kb (hcb ▸ hV) (aO kb)
 have LI:Hid (∀V,Below cb WA V->V.heap[w.heap.size+1]?=some (.cells #[Nl,Nl,Nl,Nl,I 0] 27 (0,0))):=fun V hV=>aQ rb (hcb ▸ hV) (aO rb)
 have Wl:Hid (∀V,Below cb WA V->Below w.heap.size w V):=fun V hV=>hBA.trans (hV.mono (by grind))
 have hwc:w.heap.size+1<cb:=by grind
 have HWC:=ai hwc;have k4:WA.cell? (Ad w.heap.size 4)=some (I k.hand):=aB kb 4 rfl;obtain⟨WC,hWC⟩:=ex (WA.alloc (.cells #[Nl,Nl,Nl,Nl,I k.hand] 27));have HM0:Hid (bQ cb cb 27 [] WC ⟨fun b=>if b=cb then .head else .no,Nl,Nl,Nl,Nl,[]⟩ ⟨[],[],[],[],k.hand⟩):=by
  grind [Yy,bG]
 have eO:Hid (Below cb WA WC):=by grind [Below.refl,Below.alloc]
 have iG:=ai iK;have aqF:=ai hWC;have HCB:=ai hcb;obtain⟨ix,i0,i1,i2,i3⟩:=iq TJ;have arj:=ai i0;have ari:=ai i1;have arh:=ai i2;have arf:=ai i3;clear i0 i1 i2 i3;obtain⟨ih,i0,i1,i2,i3⟩:=iq TI;have arw:=ai i0;have arv:=ai i1;have aru:=ai i2;have art:=ai i3;clear i0 i1 i2 i3;obtain⟨jf,i0,i1,i2,i3⟩:=iq TL;have arA:=ai i0;have arz:=ai i1;have ary:=ai i2;have arx:=ai i3;clear i0 i1 i2 i3;obtain⟨jl,i0,i1,i2,i3⟩:=iq TH;have arq:=ai i0;have arp:=ai i1;have aro:=ai i2;have arn:=ai i3;clear i0 i1 i2 i3;obtain⟨ia,i0,i1,i2,i3⟩:=iq TM;have akj:=ai i0;have aki:=ai i1;have akh:=ai i2;have akg:=ai i3;clear i0 i1 i2 i3;obtain⟨ip,i0,i1,i2,i3⟩:=iq uk;have akf:=ai i0;have ake:=ai i1;have akd:=ai i2;have akc:=ai i3;clear i0 i1 i2 i3;obtain⟨is,i0,i1,i2,i3⟩:=iq Lc;have akb:=ai i0;have aka:=ai i1;have aj9:=ai i2;have aj8:=ai i3;clear i0 i1 i2 i3;unfold aT at iG ⊢;clear iK hK kb rb hBA hcb hWC hs;go_enter Tryz.func16,Tryz.ntmps16;go_upto_region 1 with fail;rw[<- iG.o];go_upto_region 2 with fail;rw[<- aqF.o,<- HCB.o];clear k4 iG;go_wp2;go_loopw [4] (fun iv wq=>∃(i:Nat) (lab:Nat->iH) (vS:Value) (hs:List bM),i<=k.aA.length/\iv=I (i:Int)/\dw (k.aA.take i) hs/\bQ cb cb 27 [] wq ⟨lab,vS,Nl,Nl,Nl,[]⟩ ⟨hs,[],[],[],k.hand⟩/\Below cb WA wq) (fun iv _=>k.aA.length-(intOf iv).toNat)
 case atStart=>exact⟨0,_,_,[],by omega,rfl,rfl,HM0.o,eO.o⟩
 case round =>
  obtain⟨i,lab,vS,hs',hi,rfl,hsame,jn,iF⟩:=hrel;clear HM0 eO;have hsl:hs'.length=i:=by
   have:=fp List.length hsame
   grind
  obtain⟨aS,cS,eS,_⟩:=aY jn.aA;have eS:vS=.slice aS hs'.length cS:=eS;rw[hsl] at eS;subst eS;have hcl:cb<wr.heap.size:=jn.lt;have ID:Below w.heap.size w wr:=Wl.o _ iF;have hk1:=TC.o _ iF;by_cases hlt:i<k.aA.length
  · have x0:wr.cell? (Ad w.heap.size 0)=some (.slice a.aS k.aA.length a.cS):=aB hk1 0 rfl;have Gd:(i:Int)<(k.aA.length:Int):=by omega
    obtain⟨sB,sO,e1,z0,z1,z2,hfl⟩:=WN.o wr i ID hlt;rw[e1] at x0;have HFY:Hid (∀V,Below w.heap.size w V->lJ V (bj k.aA i).ao (bj k.aA i).dn.length ((bj k.aA i).dn.flatMap ji)):=fun V hV=>HFX.o V i hV hlt
    have QL:Hid (∀s,eQ s=eQ (bj k.aA i)->dw (k.aA.take (i+1)) (hs'++[s])):=fun s hp=>U5 hsame hlt hp
    obtain⟨s,hse⟩:=ex (bj k.aA i);rw[<- hse] at z0 z1 z2 hfl HFY QL;obtain⟨pg,dt,fx,ao,cap⟩:=s;simp only at z0 z1 z2 hfl HFY QL;obtain⟨WS,hWS⟩:=ex (wr.alloc (.cells #[I pg,.string dt,.slice ao fx.length cap] 50));have hbS:Below wr.heap.size wr WS:=by grind [Below.refl,Below.alloc]
    have hzS:WS.heap.size=wr.heap.size+1:=by simp_all
    have BS:WS.heap[wr.heap.size]?=some (.cells #[I pg,.string dt,.slice ao fx.length cap] 50 (0,0)):=by grind [bG]
    have s2':(WS.alloc (.cells #[] 52)).cell? (Ad wr.heap.size 2)=some (.slice ao fx.length cap):=aB (bE BS _) 2 rfl;have HMK:Hid ((WS.alloc (.cells #[] 52)).ownsRow wr.heap.size 52 2 (.slice (some (Ad WS.heap.size 0)) 0 0) 0 []):=Eu hbS.size _ _;have HFW:Hid (lJ (WS.alloc (.cells #[] 52)) ao fx.length (fx.flatMap ji)):=HFY.o _ ((ID.trans (hbS.mono ID.size)).alloc (gJ ID.size hbS.size) _);have ZJ:=ai (fF ji 2 (fun _=>rfl) fx);have HSZ:Hid (wr.heap.size<=(WS.alloc (.cells #[] 52)).heap.size):=by grind [World.size_alloc]
    have HST:Hid (∀wX aX cX,wX.ownsRow wr.heap.size 52 2 (.slice aX fx.length cX) fx.length ([]++fx.flatMap ji)->(WS.alloc (.cells #[] 52)).grownBy wX (some WS.heap.size)->((Value.slice aX fx.length cX).ownBlock=some WS.heap.size∨(Value.slice aX fx.length cX).ownBlock=some (WS.alloc (.cells #[] 52)).heap.size)->wX.cell? (Ad wr.heap.size 2)=some (.slice ao fx.length cap)/\wX.frozen? (Ad wr.heap.size 2)=false/\Below wr.heap.size wr (wX.setCell (Ad wr.heap.size 2) (.slice aX fx.length cX))/\(wX.setCell (Ad wr.heap.size 2) (.slice aX fx.length cX)).heap[wr.heap.size]?=some (.cells #[I pg,.string dt,.slice aX fx.length cX] 50 (0,0))/\(wX.setCell (Ad wr.heap.size 2) (.slice aX fx.length cX)).ownsRow wr.heap.size 52 2 (.slice aX fx.length cX) fx.length (fx.flatMap ji)):=fun wX aX cX h1 h2 h3=>aaJ hbS hzS BS h1 h2 h3
    have Sh:Hid (∀V O,Below wr.heap.size wr V->(V.alloc O).ownsRow cb 50 3 (.slice aS i cS) i (hs'.flatMap ic)):=fun V O hV=>by
     have:=((aH.b7 (D:=fun _=>False) hV).trans (aH.alloc _ V O) (fun _ _ g=>g)).row jn.aA (fun _ _ g=>g)
     grind
    have Wa:Hid (∀W6 wG O v' aX cX,Below wr.heap.size wr W6->W6.ownsRow wr.heap.size 52 2 (.slice aX fx.length cX) fx.length (fx.flatMap ji)->(W6.alloc O).grownBy wG (Value.slice aS i cS).ownBlock->wG.ownsRow cb 50 3 v' (i+1) (hs'.flatMap ic++ic ⟨pg,dt,fx,aX,cX⟩)->(v'.ownBlock=(Value.slice aS i cS).ownBlock∨v'.ownBlock=some (W6.alloc O).heap.size)->wG.cell? (Ad cb 0)=some (.slice aS i cS)/\wG.frozen? (Ad cb 0)=false/\(∃lab',bQ cb cb 27 [] (wG.setCell (Ad cb 0) v') ⟨lab',v',Nl,Nl,Nl,[]⟩ ⟨hs'++[⟨pg,dt,fx,aX,cX⟩],[],[],[],k.hand⟩)/\Below cb WA (wG.setCell (Ad cb 0) v')):=fun W6 wG O v' aX cX h1 h2 h3 h4 h5=>by
     have m1:=jn.ak5 (s:=⟨pg,dt,fx,aX,cX⟩) (rV hcl) h1 h2 h3 (by grind) h5;have hgH:wG.heap[cb]?=some (.cells #[.slice aS i cS,Nl,Nl,Nl,I k.hand] 27 (0,0)):=(((aH.b7 (D:=bI (.slice aS i cS)) h1).trans (aH.alloc _ W6 O) (fun _ _ g=>g)).trans (aH.grown h3 (fun _ e=>e)) (fun _ _ g=>g)).keep jn.head (fun x=>by have:=jn.lS cb x;rw[jn.lH] at this;grind);refine⟨aB hgH 0 rfl,aJ hgH 0,⟨_,m1.1⟩,?_⟩;exact aH.below iF m1.2 (rV hcl) (fun b hb=>(jn.qF b hb).1)
    have HC6:Hid (∀V,Below wr.heap.size wr V->V.cell? (Ad cb 0)=some (.slice aS i cS)):=fun V hV=>(jn.below hV).c0
    have HWS:=ai hWS;clear jn iF ID hk1 hsame hse hWS hbS BS HFY WN hsl hzS;go_upto_region 6 with fail;rw[<- HWS.o];go_upto_region 7 with(at_builtin;refine dU (P:=Tryz.prog) rfl _ _ 48 rfl wr.heap.size 52 ix (.agg #[I 0,.string ⟨#[]⟩]) 2 24 Tryz.underlying48 arj.o ari.o arh.o arf.o rfl (by decide) (.slice (some (Ad WS.heap.size 0)) 0 0) 0 [] (by rfl) HMK.o ao fx.length cap (fx.flatMap ji) (by rfl) ZJ.o HFW.o (Ta _) (by unfold maxLen;omega) (by omega) HSZ.o ?_;intro yM wX hoX hgX haX;rw[iI] at hoX;obtain⟨aX,cX,hvX,_,_⟩:=aY hoX;subst hvX;obtain⟨y0,y1,Bi,h6,SI⟩:=HST.o _ _ _ hoX hgX haX;have Sn:=ai Bi;have HH6:=ai h6;have HR6:=ai SI;clear hoX hgX haX Bi h6 SI)
    obtain⟨W6,hW6⟩:=ex (wX.setCell (Ad wr.heap.size 2) (.slice aX fx.length cX));rw[<- hW6] at Sn HH6 HR6 ⊢;have q0:W6.cell? (Ad wr.heap.size 0)=some (I pg):=aB HH6.o 0 rfl;have q1:W6.cell? (Ad wr.heap.size 1)=some (.string dt):=aB HH6.o 1 rfl;have q2:W6.cell? (Ad wr.heap.size 2)=some (.slice aX fx.length cX):=aB HH6.o 2 rfl;have q3:W6.cell? (Ad cb 0)=some (.slice aS i cS):=HC6.o _ Sn.o;have HZ6:Hid (∀O,cb<=(W6.alloc O).heap.size):=fun O=>by rw[iJ];have:=Sn.o.size;omega
    clear hW6 HST HMK HFW HSZ y0 y1 s2' x0 z0 z1 z2;go_wp2_with (at_builtin;refine dU (P:=Tryz.prog) rfl _ _ 22 rfl cb 50 ih (.agg #[I 0,.string ⟨#[]⟩,Nl]) 3 48 Tryz.underlying22 arw.o arv.o aru.o art.o rfl (by decide) (.slice aS i cS) i (hs'.flatMap ic) (by rfl) (Sh.o _ _ Sn.o) (some (Ad W6.heap.size 0)) 1 1 (ic ⟨pg,dt,fx,aX,cX⟩) (by rfl) rfl (fun _=>⟨_,rfl,uL W6 _ _⟩) (Yl _) (by unfold maxLen;omega) (by omega) (HZ6.o _) ?_;intro vG wG zu Ce D5;obtain⟨aG,cG,MT,_,_⟩:=aY zu;subst MT;obtain⟨p0,p1,hp2,hp3⟩:=Wa.o _ _ _ _ _ _ Sn.o HR6.o Ce zu D5;have Gh:=ai hp2;have FZ:=ai hp3;clear zu Ce D5 hp2 hp3)
    go_roundw
    case rel =>
     obtain⟨lab',h1⟩:=Gh.o;refine⟨_,?_,?_,lab',_,_,QL.o ⟨pg,dt,fx,aX,cX⟩ rfl,h1,FZ.o⟩
     · omega
     · go_num
    grind [intOf]
  · obtain rfl:i=k.aA.length:=by omega
    rw[tF] at hsame;have HSM:=ai hsame;have x1:wr.cell? (Ad w.heap.size 1)=some (.slice a.aF k.frames.length a.cF):=aB hk1 1 rfl;have x0:wr.cell? (Ad w.heap.size 0)=some (.slice a.aS k.aA.length a.cS):=aB hk1 0 rfl;have y1:wr.cell? (Ad cb 1)=some Nl:=jn.c1;have HFF:=ai (Hs.o _ ID);have Wc:Hid (∀w1 v',wr.grownBy w1 none->w1.ownsRow cb 40 4 v' k.frames.length (k.frames.flatMap gq)->(v'.ownBlock=none∨v'.ownBlock=some wr.heap.size)->w1.cell? (Ad cb 1)=some Nl/\w1.frozen? (Ad cb 1)=false/\(∃lab',bQ cb cb 27 [] (w1.setCell (Ad cb 1) v') ⟨lab',.slice aS k.aA.length cS,v',Nl,Nl,[]⟩ ⟨hs',k.frames,[],[],k.hand⟩)/\Below cb WA (w1.setCell (Ad cb 1) v')):=fun w1 v' h1 h2 h3=>by
     have m1:=jn.aoV h1 h2 h3;have hh:=(aH.grown (D:=fun _=>False) h1 (fun _ e=>nomatch e)).keep jn.head (fun g=>g);refine⟨aB hh 1 rfl,aJ hh 1,⟨_,m1.1⟩,?_⟩;exact aH.below iF m1.2 (rV hcl) (fun b hb=>(jn.qF b hb).1)
    clear jn iF ID hk1 hsame WN HFX hlt;go_upto_region 9 with(at_builtin;refine dU (P:=Tryz.prog) rfl _ _ 23 rfl cb 40 jf (.agg #[.string ⟨#[]⟩,I 0,.bool false,.bool false]) 4 32 Tryz.underlying23 arA.o arz.o ary.o arx.o rfl (by decide) Nl 0 [] (by rfl) (km _ _ _ _) a.aF k.frames.length a.cF (k.frames.flatMap gq) (by rfl) HLF.o HFF.o (Tb _) (by grind [maxLen]) (by omega) (rV hcl) ?_;intro vF w1 hoF hgF haF;rw[iI,Fq] at hoF;obtain⟨aF,cF,hvF,_,_⟩:=aY hoF;subst hvF;obtain⟨p0,p1,hp2,hp3⟩:=Wc.o _ _ hgF hoF haF;have Gh:=ai hp2;have FZ:=ai hp3;clear hoF hgF haF hp2 hp3)
    obtain⟨W8,hW8⟩:=ex (w1.setCell (Ad cb 1) (.slice aF k.frames.length cF));rw[<- hW8] at Gh FZ ⊢;obtain⟨auT,jn⟩:=Gh.o;have iF:=FZ.o;have ID:Below w.heap.size w W8:=Wl.o _ iF;have hk1:=TC.o _ iF;have alT:cb<W8.heap.size:=jn.lt;have x2:W8.cell? (Ad w.heap.size 2)=some (.slice a.aL k.slots.length a.cL):=aB hk1 2 rfl;have y2:W8.cell? (Ad cb 2)=some Nl:=jn.c2;have ZL:=ai (ZH.o _ ID);have HNL:Hid (∀w1 v',W8.grownBy w1 none->w1.ownsRow cb 86 2 v' k.slots.length (k.slots.flatMap gp)->(v'.ownBlock=none∨v'.ownBlock=some W8.heap.size)->w1.cell? (Ad cb 2)=some Nl/\w1.frozen? (Ad cb 2)=false/\(∃lab',bQ cb cb 27 [] (w1.setCell (Ad cb 2) v') ⟨lab',.slice aS k.aA.length cS,.slice aF k.frames.length cF,v',Nl,[]⟩ ⟨hs',k.frames,k.slots,[],k.hand⟩)/\Below cb WA (w1.setCell (Ad cb 2) v')):=fun w1 v' h1 h2 h3=>by
     have m1:=jn.aoU h1 h2 h3;have hh:=(aH.grown (D:=fun _=>False) h1 (fun _ e=>nomatch e)).keep jn.head (fun g=>g);refine⟨aB hh 2 rfl,aJ hh 2,⟨_,m1.1⟩,?_⟩;exact aH.below iF m1.2 (rV alT) (fun b hb=>(jn.qF b hb).1)
    clear jn iF ID hk1 hW8 Gh FZ Wc HFF p0 p1 x0 x1 y1;go_upto_region 10 with(at_builtin;refine dU (P:=Tryz.prog) rfl _ _ 24 rfl cb 86 jl (.agg #[.string ⟨#[]⟩,I 0]) 2 24 Tryz.underlying24 arq.o arp.o aro.o arn.o rfl (by decide) Nl 0 [] (by rfl) (km _ _ _ _) a.aL k.slots.length a.cL (k.slots.flatMap gp) (by rfl) HLL.o ZL.o (SX _) (by grind [maxLen]) (by omega) (rV alT) ?_;intro vL w2 hoL hgL haL;rw[iI,Fq] at hoL;obtain⟨aL,cL,hvL,_,_⟩:=aY hoL;subst hvL;obtain⟨p0,p1,hp2,hp3⟩:=HNL.o _ _ hgL hoL haL;have Gh:=ai hp2;have FZ:=ai hp3;clear hoL hgL haL hp2 hp3)
    obtain⟨W9,hW9⟩:=ex (w2.setCell (Ad cb 2) (.slice aL k.slots.length cL));rw[<- hW9] at Gh FZ ⊢;clear hW9 p0 p1 x2 y2 HNL ZL;go_wp2;go_loopw [6] (fun iv wq=>∃(m:Nat) (S:dN),m<=k.aj.length/\iv=I (m:Int)/\bQ cb cb 27 [] wq S (bu ⟨k.aA,k.frames,k.slots,k.aj.take m,k.hand⟩ hs')/\Below cb WA wq) (fun iv _=>k.aj.length-(intOf iv).toNat)
    case atStart =>
     obtain⟨auS,h9⟩:=Gh.o;exact⟨0,_,by omega,rfl,h9,FZ.o⟩
    case round =>
     obtain⟨m,S,hm,rfl,jn,iF⟩:=hrel;clear Gh FZ;have hcl:cb<wr.heap.size:=jn.lt;have ID:Below w.heap.size w wr:=Wl.o _ iF;have hk1:=TC.o _ iF;by_cases Bl:m<k.aj.length
     · have hmi:(m:Int)<(k.aj.length:Int):=by omega
       have x3:wr.cell? (Ad w.heap.size 3)=some (.slice a.aP k.aj.length a.cP):=aB hk1 3 rfl;obtain⟨pb,po,hpo,hpl,Aw⟩:=HKS.o (by omega);rw[hpo] at x3;obtain⟨va,ap,cp,v0,v1,v2,L3,Bn,_⟩:=Aw m Bl;have oU:=L3;obtain⟨aa,ca,yt,_⟩:=L3;subst yt;have z0:=(ID.cell (p:=(Ad pb (po+m*3))) hpl).trans v0;have z1:=(ID.cell (p:=(Ad pb (po+m*3+1))) hpl).trans v1;have z2:=(ID.cell (p:=(Ad pb (po+m*3+2))) hpl).trans v2;have har:=Y8.o m Bl;have hen:=px.o m Bl;have htk:=Pg k.aj m Bl;obtain⟨sp,hsp⟩:=ex (ak k.aj m);rw[<- hsp] at z0 z1 z2 har hen htk oU Bn;obtain⟨lv,nj,py⟩:=sp;simp only at z0 z1 z2 har hen oU Bn;obtain⟨na,wh⟩:=ex nj.length;obtain⟨np,acJ⟩:=ex py.length;rw[<- wh] at z1 har oU;rw[<- acJ] at z2 hen;have HNA:=ai wh;have HNP:=ai acJ;have hLl:S.L.length<=1000000:=by have:=jn.len;grind [bu]
       obtain⟨v,hv⟩:=ex S.vP;obtain⟨WB,Xm⟩:=ex (wr.alloc (.cells #[.bool lv,.slice aa na ca,.slice ap np cp] 43));have hbL:Below wr.heap.size wr WB:=by grind [Below.refl,Below.alloc]
       have BL:WB.heap[wr.heap.size]?=some (.cells #[.bool lv,.slice aa na ca,.slice ap np cp] 43 (0,0)):=by grind [bG]
       have hkB:=jn.below hbL;have hlB:cb<=WB.heap.size:=gJ (rV hcl) hbL.size;have nH:¬bI v cb:=fun g=>by rw[hv] at g;have:=jn.lP _ g;grind [bQ.lH]
       have nS:¬bI v wr.heap.size:=fun g=>by rw[hv] at g;have:=(jn.aj.lt _ g).2;omega
       have ij:Hid (∀V,aH (fun b=>bI v b) WB V->V.cell? (Ad cb 3)=some v/\V.cell? (Ad wr.heap.size 0)=some (.bool lv)/\V.cell? (Ad wr.heap.size 1)=some (.slice aa na ca)/\V.cell? (Ad wr.heap.size 2)=some (.slice ap np cp)):=fun V hV=>by
        have b1:=hV.keep hkB.head nH;have b2:=hV.keep BL nS;refine⟨?_,aB b2 0 rfl,aB b2 1 rfl,aB b2 2 rfl⟩;rw[hv];exact aB b1 3 rfl
       have HFZ:Hid (∀V,aH (fun b=>bI v b) WB V->V.frozen? (Ad cb 3)=false):=fun V hV=>aJ (hV.keep hkB.head nH) 3
       have gj:Hid (aH (fun b=>bI v b) WB WB.drew):=aH.drew _ _;have Qh:Hid (∀V,Below WB.heap.size WB V->aH (fun b=>bI v b) WB V):=fun V h=>aH.b7 h
       have HBV:Hid (∀V,aH (fun b=>bI v b) WB V->Below w.heap.size w V):=fun V hV=>aH.below (ID.trans (hbL.mono ID.size)) hV (gJ ID.size hbL.size) (fun g hg=>by rw[hv] at hg;have:=(jn.aj.lt g hg).1;omega)
       have zx:Hid (∀V,aH (fun b=>bI v b) WB V->lJ V aa na (cj nj)):=fun V hV=>(Gy (oU.below (HBV.o V hV))).2
       have JZ:Hid ((cj nj).length=na*4):=by grind [sV]
       have HOA:Hid (∀u∈cj nj,u.oneCell'=true):=qa _;have xJ:Hid (∀V,aH (fun b=>bI v b) WB V->lJ V ap np (py.flatMap bk)):=fun V hV=>by rw[HNP.o];exact qh (f:=bk) (n:=3) (fun _=>rfl) (Bn.below (HBV.o V hV))
       have WQ:Hid ((py.flatMap bk).length=np*3):=by show _=_;rw[HNP.o];exact fF bk 3 (fun _=>rfl) _
       have vt:Hid (∀u∈py.flatMap bk,u.oneCell'=true):=adi _;have Sh:Hid (∀w2 o,Below WB.heap.size WB w2->(w2.alloc o).ownsRow cb 43 3 v S.L.length (S.L.flatMap fL)):=fun w2 o hb=>by
        have:=((aH.b7 (D:=fun _=>False) hb).trans (aH.alloc _ w2 o) (fun _ _ g=>g)).row hkB.aj (fun _ _ g=>g)
        grind
       have Wa:Hid (∀w2 w4 O v' l,Below WB.heap.size WB w2->l6 WB.heap.size w2 l ⟨lv,nj,py⟩->(∀b,bI l.vp b->¬bI l.va b)->(w2.alloc O).grownBy w4 v.ownBlock->w4.ownsRow cb 43 3 v' (S.L.length+1) (S.L.flatMap fL++fL l)->(v'.ownBlock=v.ownBlock∨v'.ownBlock=some (w2.alloc O).heap.size)->∃S',bQ cb cb 27 [] (w4.setCell (Ad cb 3) v') S' (bu ⟨k.aA,k.frames,k.slots,k.aj.take (m+1),k.hand⟩ hs')/\Below cb WA (w4.setCell (Ad cb 3) v')):=fun w2 w4 O v' l h1 h2 h3 h4 h5 h6=>by
        rw[hv] at h4 h6;have m1:=hkB.push hlB h1 h2 h3 h4 h5 h6;have m2:=m1.1;rw[htk];have D4:=iF.trans (hbL.mono (rV hcl));exact⟨_,m2,aH.below D4 m1.2.2 hlB (fun b hb=>(hkB.qF b hb).1)⟩
       have HWB:=ai Xm;clear jn hkB iF ID hk1 v0 v1 v2 oU Bn htk hsp Xm hbL BL Aw wh acJ nH nS hv hpo;go_upto_region 14 with fail;rw[<- HWB.o];refine nB (S:=fun V=>aH (fun b=>bI v b) WB V) (z:=16) (by rfl) ?_;refine cB 0 gj.o ?_ ?_ ?_;rotate_left 1
       · intro V hSw;rfl
       refine cB 1 gj.o ?_ ?_ ?_;rotate_left 1
       · intro V hSw;obtain⟨k0,k1,k2,k3⟩:=ij.o V hSw;go_simp;rfl
       refine cB 2 gj.o ?_ ?_ ?_;rotate_left 1
       · intro V hSw;obtain⟨k0,k1,k2,k3⟩:=ij.o V hSw;go_simp;rfl
       refine cB 3 gj.o ?_ ?_ ?_;rotate_left 1
       · intro V hSw;obtain⟨k0,k1,k2,k3⟩:=ij.o V hSw;go_simp;rfl
       refine cB 5 gj.o ?_ ?_ ?_;rotate_left 1
       · intro V hSw;obtain⟨k0,k1,k2,k3⟩:=ij.o V hSw;go_simp;rfl
       refine cB 6 gj.o ?_ ?_ ?_;rotate_left 1
       · intro V hSw;obtain⟨k0,k1,k2,k3⟩:=ij.o V hSw;go_simp;rfl
       refine cB 9 gj.o ?_ ?_ ?_;rotate_left 1
       · intro V hSw;obtain⟨k0,k1,k2,k3⟩:=ij.o V hSw;go_simp;rfl
       refine cB 10 gj.o ?_ ?_ ?_;rotate_left 1
       · intro V hSw;obtain⟨k0,k1,k2,k3⟩:=ij.o V hSw;go_simp;rfl
       refine ck (rs:=[4,8]) (by kernel_rfl) (by simp) ?_;refine aU.cons rfl (fun K hK=>?_) ?_
       · go_simp;refine hK.out _ _ (fun _=>?_) ?_
         · exact Qh.o _ (Vf WB _)
         clear hK K
         try simp only[Act.put,bW,bV,bU]
         refine ck (rs:=[7,8]) (by kernel_rfl) (by simp) ?_;refine aU.cons rfl (fun K hK=>?_) ?_
         · rw[bf (by rfl)];refine eK (P:=Tryz.prog) _ _ 28 rfl WB.heap.size 47 ia (.agg #[I 0,I 0,I 0,.bool false]) 4 32 Tryz.underlying28 akj.o aki.o akh.o akg.o rfl (by decide) (.slice (some (Ad WB.heap.size 0)) 0 0) 0 [] rfl (ajz WB _ _) aa na ca (cj nj) rfl JZ.o (zx.o _ (Qh.o _ (Vf WB _))) HOA.o (by unfold maxLen;omega) (by omega) (by simp_all) ?_;intro vC wC IH Uh haC;rw[iI] at IH;obtain⟨aC,cC,hvC,_,_⟩:=aY IH;subst hvC;have Gj:Hid (Below WB.heap.size WB wC):=uM (Vf WB _) (aM _) Uh (fun g hg=>by have hg':some WB.heap.size=some g:=hg;injection hg' with hg';omega);have HRC:=ai IH;clear IH Uh haC;refine hK.out _ _ (fun _=>?_) ?_
           · exact Qh.o _ Gj.o
           clear hK K
           try simp only[Act.put,bW,bV,bU]
           refine ck (rs:=[8]) (by kernel_rfl) (by simp) ?_;refine aU.cons rfl (fun K hK=>?_) ?_
           · go_simp;refine hK.out _ _ (fun _=>?_) ?_
             · exact Qh.o _ (Gj.o.alloc Gj.o.size _)
             clear hK K
             try simp only[Act.put,bW,bV,bU]
             refine ck (rs:=[11]) (by kernel_rfl) (by simp) ?_;refine aU.cons rfl (fun K hK=>?_) ?_
             · rw[bf (by rfl)];refine eK (P:=Tryz.prog) _ _ 41 rfl WB.heap.size 45 ip (.agg #[I 0,I 0,I 0]) 3 24 Tryz.underlying41 akf.o ake.o akd.o akc.o rfl (by decide) (.slice (some (Ad wC.heap.size 0)) 0 0) 0 [] rfl (Eu Gj.o.size _ _) ap np cp (py.flatMap bk) rfl WQ.o (xJ.o _ (Qh.o _ (Gj.o.alloc Gj.o.size _))) vt.o (by unfold maxLen;omega) (by omega) (by rw[iJ];have:=Gj.o.size;omega) ?_;intro vE wE LZ Xj haE;rw[iI] at LZ;obtain⟨aE,cE,hvE,_,_⟩:=aY LZ;subst hvE;have DU:=ai (Pr (Gj.o.alloc Gj.o.size _) (aM _) (aH.row (aH.alloc (fun _=>False) wC _) HRC.o (fun _ _ g=>g)) Gj.o.size (fun b hb=>Nat.ne_of_lt (HRC.o.lt b hb).2) Xj haE);clear Gj HRC;have HSE:=ai (Qh.o _ DU.o.1);have sS:=ai LZ;clear LZ Xj haE;refine hK.out _ _ (fun _=>?_) ?_
               · exact HSE.o
               clear hK K
               try simp only[Act.put,bW,bV,bU]
               refine cB 12 HSE.o ?_ ?_ ?_;rotate_left 1
               · intro V hSw;obtain⟨k0,k1,k2,k3⟩:=ij.o V hSw;go_simp;rfl
               refine ck (rs:=[13]) (by kernel_rfl) (by simp) ?_;refine aU.cons rfl (fun K hK=>?_) ?_
               · go_simp;refine hK.out _ _ (fun _=>?_) ?_
                 · exact Qh.o _ (DU.o.1.alloc DU.o.1.size _)
                 clear hK K
                 try simp only[Act.put,bW,bV,bU]
                 refine ck (rs:=[14]) (by kernel_rfl) (by simp) ?_;refine aU.cons rfl (fun K hK=>?_) ?_
                 · rw[bf (by rfl)];refine eK (P:=Tryz.prog) _ _ 25 rfl cb 43 is (.agg #[.bool false,Nl,Nl]) 3 56 Tryz.underlying25 akb.o aka.o aj9.o aj8.o rfl (by decide) (v) S.L.length (S.L.flatMap fL) rfl (Sh.o _ _ DU.o.1) (some (Ad wE.heap.size 0)) 1 1 (fL ⟨lv,.slice aC na cC,.slice aE np cE⟩) rfl rfl (fun _=>⟨_,rfl,uL wE _ _⟩) (Li _ _ _ _ _ _ _) (by unfold maxLen;omega) (by omega) (by rw[iJ];have:=DU.o.1.size;omega) ?_;intro vG wG zu Ce D5;obtain⟨aG,cG,MT,_,_⟩:=aY zu;subst MT;have HPF:=ai (Wa.o wE wG _ _ ⟨lv,.slice aC na cC,.slice aE np cE⟩ DU.o.1 (Ll DU.o.2.1 sS.o HNP.o HNA.o) DU.o.2.2 Ce zu D5);have BJ:Hid (aH (fun b=>bI v b) WB wG):=(Qh.o _ (DU.o.1.alloc DU.o.1.size _)).trans (aH.grown Ce (fun _ e=>e)) (fun _ _ g=>g);have hoc:=(ij.o wG BJ.o).1;have hof:wG.frozen? (Ad cb 3)=false:=HFZ.o wG BJ.o;clear zu Ce D5 DU HSE sS;refine hK.out _ _ (fun _=>?_) ?_
                   · exact BJ.o
                   clear hK K
                   try simp only[Act.put,bW,bV,bU]
                   refine cB 15 BJ.o ?_ ?_ ?_;rotate_left 1
                   · intro V hSw;rfl
                   refine ck (rs:=[16]) (by kernel_rfl) (by simp) ?_;refine aU.cons rfl (fun K hK=>?_) aU.nil;go_simp;refine hK.out _ _ (fun g=>absurd rfl g) ?_;refine jL (by rfl) ?_ _;go_wp2;go_roundw
                   case rel =>
                    obtain⟨S',h1,h2⟩:=HPF.o;exact⟨m+1,S',by omega,by go_num,h1,h2⟩
                   case measure=>simp[intOf];omega
                 exact aU.nil
               exact aU.nil
             exact aU.nil
           exact aU.nil
         refine aU.cons rfl (fun K hK=>?_) ?_
         · go_simp;refine hK.out _ _ (fun _=>?_) ?_
           · exact Qh.o _ (Lt WB _ _)
           clear hK K
           try simp only[Act.put,bW,bV,bU]
           refine ck (rs:=[7]) (by kernel_rfl) (by simp) ?_;refine aU.cons rfl (fun K hK=>?_) ?_
           · rw[bf (by rfl)];refine eK (P:=Tryz.prog) _ _ 28 rfl WB.heap.size 47 ia (.agg #[I 0,I 0,I 0,.bool false]) 4 32 Tryz.underlying28 akj.o aki.o akh.o akg.o rfl (by decide) (.slice (some (Ad WB.heap.size 0)) 0 0) 0 [] rfl (aeS WB _ _ _) aa na ca (cj nj) rfl JZ.o (zx.o _ (Qh.o _ (Lt WB _ _))) HOA.o (by unfold maxLen;omega) (by omega) (by first | omega | (simp;done) | (simp;omega)) ?_;intro vC wC IH Uh haC;rw[iI] at IH;obtain⟨aC,cC,hvC,_,_⟩:=aY IH;subst hvC;have HTC:=ai (Yk (GB:=WB.heap.size) (GD:=WB.heap.size+1) (Lt WB _ _) (aM _) (aeR WB _ _ 3) (by omega) (by omega) Uh haC);have HRC:=ai IH;clear IH Uh haC;refine hK.out _ _ (fun _=>?_) ?_
             · exact Qh.o _ HTC.o.1
             clear hK K
             try simp only[Act.put,bW,bV,bU]
             refine ck (rs:=[11]) (by kernel_rfl) (by simp) ?_;refine aU.cons rfl (fun K hK=>?_) ?_
             · rw[bf (by rfl)];refine eK (P:=Tryz.prog) _ _ 41 rfl WB.heap.size 45 ip (.agg #[I 0,I 0,I 0]) 3 24 Tryz.underlying41 akf.o ake.o akd.o akc.o rfl (by decide) (.slice (some (Ad (WB.heap.size+1) 0)) 0 0) 0 [] rfl HTC.o.2.1 ap np cp (py.flatMap bk) rfl WQ.o (xJ.o _ (Qh.o _ HTC.o.1)) vt.o (by unfold maxLen;omega) (by omega) HTC.o.1.size ?_;intro vE wE LZ Xj haE;rw[iI] at LZ;obtain⟨aE,cE,hvE,_,_⟩:=aY LZ;subst hvE;have DU:=ai (Pr HTC.o.1 (aM _) HRC.o (by omega) HTC.o.2.2 Xj haE);clear HTC HRC;have HSE:=ai (Qh.o _ DU.o.1);have sS:=ai LZ;clear LZ Xj haE;refine hK.out _ _ (fun _=>?_) ?_
               · exact HSE.o
               clear hK K
               try simp only[Act.put,bW,bV,bU]
               refine cB 12 HSE.o ?_ ?_ ?_;rotate_left 1
               · intro V hSw;obtain⟨k0,k1,k2,k3⟩:=ij.o V hSw;go_simp;rfl
               refine ck (rs:=[13]) (by kernel_rfl) (by simp) ?_;refine aU.cons rfl (fun K hK=>?_) ?_
               · go_simp;refine hK.out _ _ (fun _=>?_) ?_
                 · exact Qh.o _ (DU.o.1.alloc DU.o.1.size _)
                 clear hK K
                 try simp only[Act.put,bW,bV,bU]
                 refine ck (rs:=[14]) (by kernel_rfl) (by simp) ?_;refine aU.cons rfl (fun K hK=>?_) ?_
                 · rw[bf (by rfl)];refine eK (P:=Tryz.prog) _ _ 25 rfl cb 43 is (.agg #[.bool false,Nl,Nl]) 3 56 Tryz.underlying25 akb.o aka.o aj9.o aj8.o rfl (by decide) (v) S.L.length (S.L.flatMap fL) rfl (Sh.o _ _ DU.o.1) (some (Ad wE.heap.size 0)) 1 1 (fL ⟨lv,.slice aC na cC,.slice aE np cE⟩) rfl rfl (fun _=>⟨_,rfl,uL wE _ _⟩) (Li _ _ _ _ _ _ _) (by unfold maxLen;omega) (by omega) (by rw[iJ];have:=DU.o.1.size;omega) ?_;intro vG wG zu Ce D5;obtain⟨aG,cG,MT,_,_⟩:=aY zu;subst MT;have HPF:=ai (Wa.o wE wG _ _ ⟨lv,.slice aC na cC,.slice aE np cE⟩ DU.o.1 (Ll DU.o.2.1 sS.o HNP.o HNA.o) DU.o.2.2 Ce zu D5);have BJ:Hid (aH (fun b=>bI v b) WB wG):=(Qh.o _ (DU.o.1.alloc DU.o.1.size _)).trans (aH.grown Ce (fun _ e=>e)) (fun _ _ g=>g);have hoc:=(ij.o wG BJ.o).1;have hof:wG.frozen? (Ad cb 3)=false:=HFZ.o wG BJ.o;clear zu Ce D5 DU HSE sS;refine hK.out _ _ (fun _=>?_) ?_
                   · exact BJ.o
                   clear hK K
                   try simp only[Act.put,bW,bV,bU]
                   refine cB 15 BJ.o ?_ ?_ ?_;rotate_left 1
                   · intro V hSw;rfl
                   refine ck (rs:=[16]) (by kernel_rfl) (by simp) ?_;refine aU.cons rfl (fun K hK=>?_) aU.nil;go_simp;refine hK.out _ _ (fun g=>absurd rfl g) ?_;refine jL (by rfl) ?_ _;go_wp2;go_roundw
                   case rel =>
                    obtain⟨S',h1,h2⟩:=HPF.o;exact⟨m+1,S',by omega,by go_num,h1,h2⟩
                   case measure=>simp[intOf];omega
                 exact aU.nil
               exact aU.nil
             exact aU.nil
           exact aU.nil
         exact aU.nil
       refine aU.cons rfl (fun K hK=>?_) ?_
       · go_simp;refine hK.out _ _ (fun _=>?_) ?_
         · exact Qh.o _ (Vf WB _)
         clear hK K
         try simp only[Act.put,bW,bV,bU]
         refine ck (rs:=[4]) (by kernel_rfl) (by simp) ?_;refine aU.cons rfl (fun K hK=>?_) ?_
         · go_simp;refine hK.out _ _ (fun _=>?_) ?_
           · exact Qh.o _ (Lt WB _ _)
           clear hK K
           try simp only[Act.put,bW,bV,bU]
           refine ck (rs:=[7]) (by kernel_rfl) (by simp) ?_;refine aU.cons rfl (fun K hK=>?_) ?_
           · rw[bf (by rfl)];refine eK (P:=Tryz.prog) _ _ 28 rfl WB.heap.size 47 ia (.agg #[I 0,I 0,I 0,.bool false]) 4 32 Tryz.underlying28 akj.o aki.o akh.o akg.o rfl (by decide) (.slice (some (Ad (WB.heap.size+1) 0)) 0 0) 0 [] rfl (aeR WB _ _ _) aa na ca (cj nj) rfl JZ.o (zx.o _ (Qh.o _ (Lt WB _ _))) HOA.o (by unfold maxLen;omega) (by omega) (by first | omega | (simp;done) | (simp;omega)) ?_;intro vC wC IH Uh haC;rw[iI] at IH;obtain⟨aC,cC,hvC,_,_⟩:=aY IH;subst hvC;have HTC:=ai (Yk (GB:=WB.heap.size+1) (GD:=WB.heap.size) (Lt WB _ _) (aM _) (aeS WB _ _ 3) (by omega) (by omega) Uh haC);have HRC:=ai IH;clear IH Uh haC;refine hK.out _ _ (fun _=>?_) ?_
             · exact Qh.o _ HTC.o.1
             clear hK K
             try simp only[Act.put,bW,bV,bU]
             refine ck (rs:=[11]) (by kernel_rfl) (by simp) ?_;refine aU.cons rfl (fun K hK=>?_) ?_
             · rw[bf (by rfl)];refine eK (P:=Tryz.prog) _ _ 41 rfl WB.heap.size 45 ip (.agg #[I 0,I 0,I 0]) 3 24 Tryz.underlying41 akf.o ake.o akd.o akc.o rfl (by decide) (.slice (some (Ad WB.heap.size 0)) 0 0) 0 [] rfl HTC.o.2.1 ap np cp (py.flatMap bk) rfl WQ.o (xJ.o _ (Qh.o _ HTC.o.1)) vt.o (by unfold maxLen;omega) (by omega) HTC.o.1.size ?_;intro vE wE LZ Xj haE;rw[iI] at LZ;obtain⟨aE,cE,hvE,_,_⟩:=aY LZ;subst hvE;have DU:=ai (Pr HTC.o.1 (aM _) HRC.o (by omega) HTC.o.2.2 Xj haE);clear HTC HRC;have HSE:=ai (Qh.o _ DU.o.1);have sS:=ai LZ;clear LZ Xj haE;refine hK.out _ _ (fun _=>?_) ?_
               · exact HSE.o
               clear hK K
               try simp only[Act.put,bW,bV,bU]
               refine cB 12 HSE.o ?_ ?_ ?_;rotate_left 1
               · intro V hSw;obtain⟨k0,k1,k2,k3⟩:=ij.o V hSw;go_simp;rfl
               refine ck (rs:=[13]) (by kernel_rfl) (by simp) ?_;refine aU.cons rfl (fun K hK=>?_) ?_
               · go_simp;refine hK.out _ _ (fun _=>?_) ?_
                 · exact Qh.o _ (DU.o.1.alloc DU.o.1.size _)
                 clear hK K
                 try simp only[Act.put,bW,bV,bU]
                 refine ck (rs:=[14]) (by kernel_rfl) (by simp) ?_;refine aU.cons rfl (fun K hK=>?_) ?_
                 · rw[bf (by rfl)];refine eK (P:=Tryz.prog) _ _ 25 rfl cb 43 is (.agg #[.bool false,Nl,Nl]) 3 56 Tryz.underlying25 akb.o aka.o aj9.o aj8.o rfl (by decide) (v) S.L.length (S.L.flatMap fL) rfl (Sh.o _ _ DU.o.1) (some (Ad wE.heap.size 0)) 1 1 (fL ⟨lv,.slice aC na cC,.slice aE np cE⟩) rfl rfl (fun _=>⟨_,rfl,uL wE _ _⟩) (Li _ _ _ _ _ _ _) (by unfold maxLen;omega) (by omega) (by rw[iJ];have:=DU.o.1.size;omega) ?_;intro vG wG zu Ce D5;obtain⟨aG,cG,MT,_,_⟩:=aY zu;subst MT;have HPF:=ai (Wa.o wE wG _ _ ⟨lv,.slice aC na cC,.slice aE np cE⟩ DU.o.1 (Ll DU.o.2.1 sS.o HNP.o HNA.o) DU.o.2.2 Ce zu D5);have BJ:Hid (aH (fun b=>bI v b) WB wG):=(Qh.o _ (DU.o.1.alloc DU.o.1.size _)).trans (aH.grown Ce (fun _ e=>e)) (fun _ _ g=>g);have hoc:=(ij.o wG BJ.o).1;have hof:wG.frozen? (Ad cb 3)=false:=HFZ.o wG BJ.o;clear zu Ce D5 DU HSE sS;refine hK.out _ _ (fun _=>?_) ?_
                   · exact BJ.o
                   clear hK K
                   try simp only[Act.put,bW,bV,bU]
                   refine cB 15 BJ.o ?_ ?_ ?_;rotate_left 1
                   · intro V hSw;rfl
                   refine ck (rs:=[16]) (by kernel_rfl) (by simp) ?_;refine aU.cons rfl (fun K hK=>?_) aU.nil;go_simp;refine hK.out _ _ (fun g=>absurd rfl g) ?_;refine jL (by rfl) ?_ _;go_wp2;go_roundw
                   case rel =>
                    obtain⟨S',h1,h2⟩:=HPF.o;exact⟨m+1,S',by omega,by go_num,h1,h2⟩
                   case measure=>simp[intOf];omega
                 exact aU.nil
               exact aU.nil
             exact aU.nil
           exact aU.nil
         exact aU.nil
       exact aU.nil
     · obtain rfl:m=k.aj.length:=by omega
       rw[tF] at jn;obtain⟨bS,nS,dS,eS⟩:∃b n d,S.vS=.slice b n d:=by obtain⟨b,d,e,_⟩:=aY jn.aA;grind
       obtain⟨bF,nF,dF,eF⟩:∃b n d,S.vF=.slice b n d:=by obtain⟨b,d,e,_⟩:=aY jn.frames;grind
       obtain⟨bL,nL,dL,eL⟩:∃b n d,S.vL=.slice b n d:=by obtain⟨b,d,e,_⟩:=aY jn.slots;grind
       obtain⟨bP,nP,dP,eP⟩:∃b n d,S.vP=.slice b n d:=by obtain⟨b,d,e,_⟩:=aY jn.aj;grind
       have x3:wr.cell? (Ad w.heap.size 3)=some (.slice a.aP k.aj.length a.cP):=aB hk1 3 rfl;have c0:=jn.c0;have c1:=jn.c1;have c2:=jn.c2;have c3:=jn.c3;have c4:wr.cell? (Ad cb 4)=some (I k.hand):=jn.c4;rw[eS] at c0;rw[eF] at c1;rw[eL] at c2;rw[eP] at c3;have R1:=LI.o _ iF;obtain⟨y0,y1,y2,y3,y4⟩:=dx R1;have f0:=aJ R1 0;have f1:=aJ R1 1;have f2:=aJ R1 2;have f3:=aJ R1 3;have f4:=aJ R1 4;have cZ:Hid (∀V,aH (fun b=>b=w.heap.size+1) wr V->P (.returned (.agg #[.slice bS nS dS,.slice bF nF dF,.slice bL nL dL,.slice bP nP dP,I k.hand])) V):=fun V hV=>by
        rw[HP.o];refine⟨S,hs',HSM.o,by grind,(jn.toiZ.kp hV (fun b hb e=>by have:=(jn.qF b hb).1;omega)).mono (by omega),?_⟩
        grind [aH.below]
       have h5:Hid (∀s f l p h,(((((wr.setCell (Ad (w.heap.size+1) 0) s).setCell (Ad (w.heap.size+1) 1) f).setCell (Ad (w.heap.size+1) 2) l).setCell (Ad (w.heap.size+1) 3) p).setCell (Ad (w.heap.size+1) 4) h).heap[w.heap.size+1]?=some (.cells #[s,f,l,p,h] 27 (0,0))/\aH (fun b=>b=w.heap.size+1) wr (((((wr.setCell (Ad (w.heap.size+1) 0) s).setCell (Ad (w.heap.size+1) 1) f).setCell (Ad (w.heap.size+1) 2) l).setCell (Ad (w.heap.size+1) 3) p).setCell (Ad (w.heap.size+1) 4) h)):=fun s f l p h=>⟨dG (dG (dG (dG (dG R1 0 s) 1 f) 2 l) 3 p) 4 h,((((aH.set (fun b=>b=w.heap.size+1) wr (Ad (w.heap.size+1) 0) s rfl).trans (aH.set (fun b=>b=w.heap.size+1) _ (Ad (w.heap.size+1) 1) f rfl) (fun _ _ g=>g)).trans (aH.set (fun b=>b=w.heap.size+1) _ (Ad (w.heap.size+1) 2) l rfl) (fun _ _ g=>g)).trans (aH.set (fun b=>b=w.heap.size+1) _ (Ad (w.heap.size+1) 3) p rfl) (fun _ _ g=>g)).trans (aH.set (fun b=>b=w.heap.size+1) _ (Ad (w.heap.size+1) 4) h rfl) (fun _ _ g=>g)⟩
       clear jn iF eS eF eL eP ID R1 hk1 Bl;go_wp2;obtain⟨q1,q2⟩:=h5.out (.slice bS nS dS) (.slice bF nF dF) (.slice bL nL dL) (.slice bP nP dP) (I k.hand);obtain⟨y0,y1,y2,y3,y4⟩:=dx q1;refine bR (v:=.agg #[.slice bS nS dS,.slice bF nF dF,.slice bL nL dL,.slice bP nP dP,I k.hand]) (by simp[results,Tryz.results16,go_sem,y0,y1,y2,y3,y4]) rfl ?_;exact cZ.o _ q2
end Go.Proofs.YtpgifpeohlllfaaGreat
end Go.Proofs.YtpgifpeohlllfaaGreat
