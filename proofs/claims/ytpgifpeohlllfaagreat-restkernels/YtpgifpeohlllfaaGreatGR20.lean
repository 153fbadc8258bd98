import Derived.Test.YtpgifpeohlllfaaGreatGR19
set_option maxHeartbeats 20000000
set_option linter.unusedVariables false
set_option maxRecDepth 100000
set_option linter.unusedSimpArgs false
namespace Go.Proofs.YtpgifpeohlllfaaGreat
open Go.RowKit
theorem sJ {N:Nat} {w0 w w':World} {row:Option Nat} (h:Below N w0 w) (hN:N<=w0.heap.size) (g:w.grownBy w' row) (hr:∀k,row=some k->N<=k):Below N w0 w' :=
 h.trans ⟨g.os,g.tape,g.output,g.size,fun b hb=>g.block b (iH hb (gy hN h.size)) (fun e=>by grind)⟩
theorem LP {N GD na:Nat} {W V wE:World} {vC vE:Value} {xs:List Value} (hb:Below N W V) (hW:N<=W.heap.size) (hrc:V.ownsRow N 47 4 vC na xs) (hN:N<=GD) (hne:∀b,bQ vC b->b≠GD) (hg:V.grownBy wE (some GD)) (ha:vE.ownBlock=some GD∨vE.ownBlock=some V.heap.size):Below N W wE/\wE.ownsRow N 47 4 vC na xs/\∀b,bQ vE b->¬bQ vC b :=
 ⟨sJ hb hW hg (fun k hk=>by grind),aM.row (aM.grown (D:=fun b=>b=GD) hg (fun k hk=>by grind)) hrc (fun g hg e=>hne g hg e),fun b hb hb2=>by
  have hb':vE.ownBlock=some b:=hb;rcases ha with g | g
  · grind
  · rw[g] at hb';injection hb' with hb';have:=(hrc.lt b hb2).2;omega⟩
theorem TX {N GB GD:Nat} {W V wC:World} {vC:Value} (hb:Below N W V) (hW:N<=W.heap.size) (hrd:V.ownsRow N 45 3 (.slice (some (Ad GD 0)) 0 0) 0 []) (hne:GD≠GB) (hN:N<=GB) (hg:V.grownBy wC (some GB)) (ha:vC.ownBlock=some GB∨vC.ownBlock=some V.heap.size):Below N W wC/\wC.ownsRow N 45 3 (.slice (some (Ad GD 0)) 0 0) 0 []/\∀b,bQ vC b->b≠GD :=
 ⟨sJ hb hW hg (fun k hk=>by grind),aM.row (aM.grown (D:=fun b=>b=GB) hg (fun k hk=>by grind)) hrd (fun g hg e=>by have hg':some GD=some g:=hg;grind),fun b hb e=>by
  have hb':vC.ownBlock=some b:=hb;rcases ha with g | g
  · grind
  · rw[g] at hb';injection hb' with hb';have:=(hrd.lt GD rfl).2;omega⟩
theorem vK (w:World) (xs:List Value) (e:TypeId):∀j u,xs[j]?=some u->(w.alloc (.cells xs.toArray e)).cell? (((Ad w.heap.size 0):Addr).add j)=some u:=fun j u hu=>by
 grind [Addr.add_lit,aB,bO]
theorem H4 (l:Bool) (a b:Option Addr) (n m c d:Nat):∀u∈eT ⟨l,.slice a n c,.slice b m d⟩,u.oneCell'=true:=fun u hu=>by
 simp[eT] at hu;rcases hu with rfl | rfl | rfl <;> rfl
theorem Zk:∀(l:List bG),∀u∈l.flatMap bj,u.oneCell'=true:=fun l u hu=>by
 obtain⟨y,_,hy⟩:=ua.1 hu;simp[bj] at hy;rcases hy with rfl | rfl | rfl <;> rfl
theorem TY (s:bR):∀u∈fN s,u.oneCell'=true:=fun u hu=>by
 simp[fN] at hu;rcases hu with rfl | rfl | rfl <;> rfl
theorem H5 {N na np:Nat} {wE:World} {lv:Bool} {vC vE:Value} {pH:List aZ} {nN:List bG} (ha:wE.ownsRow N 47 4 vC na ([]++bZ pH)) (hp:wE.ownsRow N 45 3 vE np ([]++nN.flatMap bj)) (Ee:np=nN.length) (Ax:na=pH.length):kF N wE ⟨lv,vC,vE⟩ ⟨lv,pH,nN⟩:=by
 subst Ee Ax;exact⟨rfl,by grind [gQ],by grind⟩
theorem QW (W:World) (o:Obj):Below W.heap.size W (W.alloc o).drew:=((aK _ _).alloc (aI _) _).drew
theorem Ic (W:World) (o o':Obj):Below W.heap.size W ((W.alloc o).alloc o').drew:=(((aK _ _).alloc (aI _) _).alloc (by simp) _).drew
theorem Ca {N:Nat} {V:World} (h:N<=V.heap.size) (e:TypeId) (size:Nat):(V.alloc (.cells #[] e)).ownsRow N e size (.slice (some (Ad V.heap.size 0)) 0 0) 0 []:=xG V #[] 0 h (by omega) (by simp)
theorem Cc {w:World} {base:Nat} {e:TypeId} {size:Nat} {v:Value} {n:Nat} {xs:List Value} (h:w.ownsRow base e size v n xs):w.drew.ownsRow base e size v n xs:=aM.row (aM.drew (fun _=>False) w) h (fun _ _ g=>g)
theorem aft (W:World) (e:TypeId) (size:Nat):(W.alloc (.cells #[] e)).drew.ownsRow W.heap.size e size (.slice (some (Ad W.heap.size 0)) 0 0) 0 []:=Cc (Ca (aI _) e size)
theorem aa3 (W:World) (e:TypeId) (o:Obj) (size:Nat):((W.alloc (.cells #[] e)).alloc o).drew.ownsRow W.heap.size e size (.slice (some (Ad W.heap.size 0)) 0 0) 0 []:=Cc (aM.row (aM.alloc (fun _=>False) _ o) (Ca (aI _) e size) (fun _ _ g=>g))
theorem aa2 (W:World) (e:TypeId) (o:Obj) (size:Nat):((W.alloc o).alloc (.cells #[] e)).drew.ownsRow W.heap.size e size (.slice (some (Ad (W.heap.size+1) 0)) 0 0) 0 []:=by
 grind [Ca,World.size_alloc,Cc]
theorem Wc (l:List bR) (m:Nat) (h:m<l.length):l.take (m+1)=l.take m++[aV l m]:=by
 grind [List.take_add_one,aV]
theorem QQ {l hs:List bR} {m:Nat} {s:bR} (h:cW (l.take m) hs) (hm:m<l.length) (hp:dB s=dB (aV l m)):cW (l.take (m+1)) (hs++[s]):=by
 grind [cW,Wc]
theorem Wn {wr WS wX:World} {pg:Int} {dt:ByteArray} {c0:Value} {n:Nat} {aX:Option Addr} {cX:Nat} {xs:List Value} (hb:Below wr.heap.size wr WS) (hsz:WS.heap.size=wr.heap.size+1) (BS:WS.heap[wr.heap.size]?=some (.cells #[I pg,.string dt,c0] 50 (0,0)))
  (ho:wX.ownsRow wr.heap.size 52 2 (.slice aX n cX) n ([]++xs)) (hg:(WS.alloc (.cells #[] 52)).grownBy wX (some WS.heap.size)) (ha:(Value.slice aX n cX).ownBlock=some WS.heap.size∨(Value.slice aX n cX).ownBlock=some (WS.alloc (.cells #[] 52)).heap.size) :
  wX.cell? (Ad wr.heap.size 2)=some c0/\wX.frozen? (Ad wr.heap.size 2)=false/\Below wr.heap.size wr (wX.setCell (Ad wr.heap.size 2) (.slice aX n cX))/\(wX.setCell (Ad wr.heap.size 2) (.slice aX n cX)).heap[wr.heap.size]?=some (.cells #[I pg,.string dt,.slice aX n cX] 50 (0,0))/\(wX.setCell (Ad wr.heap.size 2) (.slice aX n cX)).ownsRow wr.heap.size 52 2 (.slice aX n cX) n xs:=by
 have h1:Below WS.heap.size WS wX:=sJ ((aK _ _).alloc (aI _) _) (aI _) hg (fun k hk=>by grind);have h2:=aQ BS h1 (aT BS);refine⟨aB h2 2 rfl,aO h2 2,(hb.trans (h1.mono hb.size)).setCell (p:=(Ad wr.heap.size 2)) (aI _) _,dD h2 2 (.slice aX n cX),?_⟩;refine(aM.set (fun b=>b=wr.heap.size) _ _ _ rfl).row (by grind) (fun b hx e=>?_)
 grind [World.size_alloc]
theorem Ev (k:aN) (a:fR) (w:World) (hK:gD w a k) (hs:zg k) :
  Calls Tryz.prog 16 #[.agg (bg a k)] w (oW w k):=by
 obtain⟨P,hP⟩:=ex (oW w k);rw[<- hP];have HP:=ai hP;clear hP;have HKS:=ai hK.aj;have SF:Hid (∀V i,Below w.heap.size w V->i<k.aD.length->∃b off,a.aS=some (Ad b off)/\V.cell? (Ad b (off+i*3))=some (I (aV k.aD i).page)/\V.cell? (Ad b (off+i*3+1))=some (.string (aV k.aD i).data)/\V.cell? (Ad b (off+i*3+2))=some (.slice (aV k.aD i).ao (aV k.aD i).cM.length (aV k.aD i).cap)/\(aV k.aD i).cM.length<=1000000):=fun V i hV hi=>by
  obtain⟨b,off,e1,e2,e3⟩:=((OV hK.aD).below hV) (by omega);have z:=e3 i hi 0 (by omega);rw[fW] at z;exact⟨b,off,e1,z,e3 i hi 1 (by omega),e3 i hi 2 (by omega),hs.cM i hi⟩
 have Xt:Hid (∀V n,Below w.heap.size w V->n<k.aD.length->kj V (aV k.aD n).ao (aV k.aD n).cM.length ((aV k.aD n).cM.flatMap gZ)):=fun V n hb hn=>by
  obtain⟨b,off,_,_,hi⟩:=hK.aD (by omega);have h4:kQ w (aV k.aD n).ao (aV k.aD n).cM:=(hi n hn).2.2.2;exact oK (f:=gZ) (n:=2) (fun _=>rfl) (OX (h4.below hb))
 have EH:Hid (∀V,Below w.heap.size w V->kj V a.aF k.frames.length (k.frames.flatMap fB)):=fun V hV=>oK (f:=fB) (n:=4) (fun _=>rfl) (hK.frames.below hV)
 have Vn:Hid (∀V,Below w.heap.size w V->kj V a.aL k.slots.length (k.slots.flatMap fA)):=fun V hV=>oK (f:=fA) (n:=2) (fun _=>rfl) (hK.slots.below hV)
 have HLF:=ai (eG fB 4 (fun _=>rfl) k.frames);have HLL:=ai (eG fA 2 (fun _=>rfl) k.slots);have tq:=hs.frames;have hnl:=hs.slots;have Ee:=hs.aj;have hns:=hs.aD;have HAR:=ai hs.bk;have oD:=ai hs.aU;obtain⟨WA,jG⟩:=ex ((w.alloc (.cells (bg a k) 27)).alloc (.cells #[Nl,Nl,Nl,Nl,I 0] 27));have hBA:Below w.heap.size w WA:=by simp_all [aK,m9]
 have kb:WA.heap[w.heap.size]?=some (.cells (bg a k) 27 (0,0)):=by grind [bM,bO]
 have rb:WA.heap[w.heap.size+1]?=some (.cells #[Nl,Nl,Nl,Nl,I 0] 27 (0,0)):=by
  grind [bO,World.size_alloc]
 obtain⟨cb,hcb⟩:=ex WA.heap.size;have Ps:Hid (∀V,Below cb WA V->V.heap[w.heap.size]?=some (.cells #[.slice a.aS k.aD.length a.cS,.slice a.aF k.frames.length a.cF,.slice a.aL k.slots.length a.cL,.slice a.aP k.aj.length a.cP,I k.hand] 27 (0,0))):=fun V hV=>aQ kb (hcb ▸ hV) (aT kb)
 have Ip:Hid (∀V,Below cb WA V->V.heap[w.heap.size+1]?=some (.cells #[Nl,Nl,Nl,Nl,I 0] 27 (0,0))):=fun V hV=>aQ rb (hcb ▸ hV) (aT rb)
 have R8:Hid (∀V,Below cb WA V->Below w.heap.size w V):=fun V hV=>hBA.trans (hV.mono (by grind))
 have hwc:w.heap.size+1<cb:=by grind
 have HWC:=ai hwc;have k4:WA.cell? (Ad w.heap.size 4)=some (I k.hand):=aB kb 4 rfl;obtain⟨WC,hWC⟩:=ex (WA.alloc (.cells #[Nl,Nl,Nl,Nl,I k.hand] 27));have HM0:Hid (bu cb cb 27 [] WC ⟨fun b=>if b=cb then .head else .no,Nl,Nl,Nl,Nl,[]⟩ ⟨[],[],[],[],k.hand⟩):=by
  grind [Ud,bO]
 have eU:Hid (Below cb WA WC):=by grind [Below.refl,Below.alloc]
 have lI:=ai jG;have amK:=ai hWC;have HCB:=ai hcb;obtain⟨ix,i0,i1,i2,i3⟩:=gm PA;have anl:=ai i0;have ank:=ai i1;have anj:=ai i2;have ani:=ai i3;clear i0 i1 i2 i3;obtain⟨ih,i0,i1,i2,i3⟩:=gm Pz;have anv:=ai i0;have anu:=ai i1;have ant:=ai i2;have ans:=ai i3;clear i0 i1 i2 i3;obtain⟨jf,i0,i1,i2,i3⟩:=gm PB;have anA:=ai i0;have anz:=ai i1;have anx:=ai i2;have anw:=ai i3;clear i0 i1 i2 i3;obtain⟨jl,i0,i1,i2,i3⟩:=gm Py;have anr:=ai i0;have anq:=ai i1;have anp:=ai i2;have ano:=ai i3;clear i0 i1 i2 i3;obtain⟨ia,i0,i1,i2,i3⟩:=gm PC;have af7:=ai i0;have af6:=ai i1;have af5:=ai i2;have af4:=ai i3;clear i0 i1 i2 i3;obtain⟨ip,i0,i1,i2,i3⟩:=gm tS;have af3:=ai i0;have af2:=ai i1;have af1:=ai i2;have af0:=ai i3;clear i0 i1 i2 i3;obtain⟨is,i0,i1,i2,i3⟩:=gm Hx;have afZ:=ai i0;have afY:=ai i1;have afX:=ai i2;have afW:=ai i3;clear i0 i1 i2 i3;unfold bg at lI ⊢;clear jG hK kb rb hBA hcb hWC hs;go_enter Tryz.func16,Tryz.ntmps16;go_upto_region 1 with fail;rw[<- lI.o];go_upto_region 2 with fail;rw[<- amK.o,<- HCB.o];clear k4 lI;go_wp2;go_loopw [4] (fun iv wq=>∃(i:Nat) (lab:Nat->jO) (vS:Value) (hs:List bR),i<=k.aD.length/\iv=I (i:Int)/\cW (k.aD.take i) hs/\bu cb cb 27 [] wq ⟨lab,vS,Nl,Nl,Nl,[]⟩ ⟨hs,[],[],[],k.hand⟩/\Below cb WA wq) (fun iv _=>k.aD.length-(intOf iv).toNat)
 case atStart=>exact⟨0,_,_,[],by omega,rfl,rfl,HM0.o,eU.o⟩
 case round =>
  obtain⟨i,lab,vS,hs',hi,rfl,hsame,iU,jQ⟩:=hrel;clear HM0 eU;have hsl:hs'.length=i:=by
   have:=dQ List.length hsame
   grind
  obtain⟨aS,cS,eS,_⟩:=aY iU.aD;have eS:vS=.slice aS hs'.length cS:=eS;rw[hsl] at eS;subst eS;have hcl:cb<wr.heap.size:=iU.lt;have E9:Below w.heap.size w wr:=R8.o _ jQ;have hk1:=Ps.o _ jQ;by_cases hlt:i<k.aD.length
  · have x0:wr.cell? (Ad w.heap.size 0)=some (.slice a.aS k.aD.length a.cS):=aB hk1 0 rfl;have Dw:(i:Int)<(k.aD.length:Int):=by omega
    obtain⟨sB,sO,e1,z0,z1,z2,hfl⟩:=SF.o wr i E9 hlt;rw[e1] at x0;have HFY:Hid (∀V,Below w.heap.size w V->kj V (aV k.aD i).ao (aV k.aD i).cM.length ((aV k.aD i).cM.flatMap gZ)):=fun V hV=>Xt.o V i hV hlt
    have M0:Hid (∀s,dB s=dB (aV k.aD i)->cW (k.aD.take (i+1)) (hs'++[s])):=fun s hp=>QQ hsame hlt hp
    obtain⟨s,XZ⟩:=ex (aV k.aD i);rw[<- XZ] at z0 z1 z2 hfl HFY M0;obtain⟨pg,dt,fx,ao,cap⟩:=s;simp only at z0 z1 z2 hfl HFY M0;obtain⟨WS,hWS⟩:=ex (wr.alloc (.cells #[I pg,.string dt,.slice ao fx.length cap] 50));have hbS:Below wr.heap.size wr WS:=by grind [Below.refl,Below.alloc]
    have hzS:WS.heap.size=wr.heap.size+1:=by simp_all
    have BS:WS.heap[wr.heap.size]?=some (.cells #[I pg,.string dt,.slice ao fx.length cap] 50 (0,0)):=by grind [bO]
    have s2':(WS.alloc (.cells #[] 52)).cell? (Ad wr.heap.size 2)=some (.slice ao fx.length cap):=aB (bM BS _) 2 rfl;have HMK:Hid ((WS.alloc (.cells #[] 52)).ownsRow wr.heap.size 52 2 (.slice (some (Ad WS.heap.size 0)) 0 0) 0 []):=Ca hbS.size _ _;have HFW:Hid (kj (WS.alloc (.cells #[] 52)) ao fx.length (fx.flatMap gZ)):=HFY.o _ ((E9.trans (hbS.mono E9.size)).alloc (gy E9.size hbS.size) _);have HLX:=ai (eG gZ 2 (fun _=>rfl) fx);have ZX:Hid (wr.heap.size<=(WS.alloc (.cells #[] 52)).heap.size):=by grind [World.size_alloc]
    have HST:Hid (∀wX aX cX,wX.ownsRow wr.heap.size 52 2 (.slice aX fx.length cX) fx.length ([]++fx.flatMap gZ)->(WS.alloc (.cells #[] 52)).grownBy wX (some WS.heap.size)->((Value.slice aX fx.length cX).ownBlock=some WS.heap.size∨(Value.slice aX fx.length cX).ownBlock=some (WS.alloc (.cells #[] 52)).heap.size)->wX.cell? (Ad wr.heap.size 2)=some (.slice ao fx.length cap)/\wX.frozen? (Ad wr.heap.size 2)=false/\Below wr.heap.size wr (wX.setCell (Ad wr.heap.size 2) (.slice aX fx.length cX))/\(wX.setCell (Ad wr.heap.size 2) (.slice aX fx.length cX)).heap[wr.heap.size]?=some (.cells #[I pg,.string dt,.slice aX fx.length cX] 50 (0,0))/\(wX.setCell (Ad wr.heap.size 2) (.slice aX fx.length cX)).ownsRow wr.heap.size 52 2 (.slice aX fx.length cX) fx.length (fx.flatMap gZ)):=fun wX aX cX h1 h2 h3=>Wn hbS hzS BS h1 h2 h3
    have SG:Hid (∀V O,Below wr.heap.size wr V->(V.alloc O).ownsRow cb 50 3 (.slice aS i cS) i (hs'.flatMap fN)):=fun V O hV=>by
     have:=((aM.cH (D:=fun _=>False) hV).trans (aM.alloc _ V O) (fun _ _ g=>g)).row iU.aD (fun _ _ g=>g)
     grind
    have UH:Hid (∀W6 wG O v' aX cX,Below wr.heap.size wr W6->W6.ownsRow wr.heap.size 52 2 (.slice aX fx.length cX) fx.length (fx.flatMap gZ)->(W6.alloc O).grownBy wG (Value.slice aS i cS).ownBlock->wG.ownsRow cb 50 3 v' (i+1) (hs'.flatMap fN++fN ⟨pg,dt,fx,aX,cX⟩)->(v'.ownBlock=(Value.slice aS i cS).ownBlock∨v'.ownBlock=some (W6.alloc O).heap.size)->wG.cell? (Ad cb 0)=some (.slice aS i cS)/\wG.frozen? (Ad cb 0)=false/\(∃lab',bu cb cb 27 [] (wG.setCell (Ad cb 0) v') ⟨lab',v',Nl,Nl,Nl,[]⟩ ⟨hs'++[⟨pg,dt,fx,aX,cX⟩],[],[],[],k.hand⟩)/\Below cb WA (wG.setCell (Ad cb 0) v')):=fun W6 wG O v' aX cX h1 h2 h3 h4 h5=>by
     have m1:=iU.ag1 (s:=⟨pg,dt,fx,aX,cX⟩) (qc hcl) h1 h2 h3 (by grind) h5;have hgH:wG.heap[cb]?=some (.cells #[.slice aS i cS,Nl,Nl,Nl,I k.hand] 27 (0,0)):=(((aM.cH (D:=bQ (.slice aS i cS)) h1).trans (aM.alloc _ W6 O) (fun _ _ g=>g)).trans (aM.grown h3 (fun _ e=>e)) (fun _ _ g=>g)).keep iU.head (fun x=>by have:=iU.lS cb x;rw[iU.lH] at this;grind);refine⟨aB hgH 0 rfl,aO hgH 0,⟨_,m1.1⟩,?_⟩;exact aM.below jQ m1.2 (qc hcl) (fun b hb=>(iU.rV b hb).1)
    have HC6:Hid (∀V,Below wr.heap.size wr V->V.cell? (Ad cb 0)=some (.slice aS i cS)):=fun V hV=>(iU.below hV).c0
    have HWS:=ai hWS;clear iU jQ E9 hk1 hsame XZ hWS hbS BS HFY SF hsl hzS;go_upto_region 6 with fail;rw[<- HWS.o];go_upto_region 7 with(at_builtin;refine cZ (P:=Tryz.prog) rfl _ _ 48 rfl wr.heap.size 52 ix (.agg #[I 0,.string ⟨#[]⟩]) 2 24 Tryz.underlying48 anl.o ank.o anj.o ani.o rfl (by decide) (.slice (some (Ad WS.heap.size 0)) 0 0) 0 [] (by rfl) HMK.o ao fx.length cap (fx.flatMap gZ) (by rfl) HLX.o HFW.o (OY _) (by unfold maxLen;omega) (by omega) ZX.o ?_;intro vd wX hoX hgX haX;rw[gM] at hoX;obtain⟨aX,cX,hvX,_,_⟩:=aY hoX;subst hvX;obtain⟨y0,y1,AA,h6,Aw⟩:=HST.o _ _ _ hoX hgX haX;have HB6:=ai AA;have HH6:=ai h6;have HR6:=ai Aw;clear hoX hgX haX AA h6 Aw)
    obtain⟨W6,hW6⟩:=ex (wX.setCell (Ad wr.heap.size 2) (.slice aX fx.length cX));rw[<- hW6] at HB6 HH6 HR6 ⊢;have q0:W6.cell? (Ad wr.heap.size 0)=some (I pg):=aB HH6.o 0 rfl;have q1:W6.cell? (Ad wr.heap.size 1)=some (.string dt):=aB HH6.o 1 rfl;have q2:W6.cell? (Ad wr.heap.size 2)=some (.slice aX fx.length cX):=aB HH6.o 2 rfl;have q3:W6.cell? (Ad cb 0)=some (.slice aS i cS):=HC6.o _ HB6.o;have HZ6:Hid (∀O,cb<=(W6.alloc O).heap.size):=fun O=>by rw[ig];have:=HB6.o.size;omega
    clear hW6 HST HMK HFW ZX y0 y1 s2' x0 z0 z1 z2;go_wp2_with (at_builtin;refine cZ (P:=Tryz.prog) rfl _ _ 22 rfl cb 50 ih (.agg #[I 0,.string ⟨#[]⟩,Nl]) 3 48 Tryz.underlying22 anv.o anu.o ant.o ans.o rfl (by decide) (.slice aS i cS) i (hs'.flatMap fN) (by rfl) (SG.o _ _ HB6.o) (some (Ad W6.heap.size 0)) 1 1 (fN ⟨pg,dt,fx,aX,cX⟩) (by rfl) rfl (fun _=>⟨_,rfl,vK W6 _ _⟩) (TY _) (by unfold maxLen;omega) (by omega) (HZ6.o _) ?_;intro vG wG yR Bj Dy;obtain⟨aG,cG,KR,_,_⟩:=aY yR;subst KR;obtain⟨p0,p1,hp2,Yb⟩:=UH.o _ _ _ _ _ _ HB6.o HR6.o Bj yR Dy;have ES:=ai hp2;have Dl:=ai Yb;clear yR Bj Dy hp2 Yb)
    go_roundw
    case rel =>
     obtain⟨lab',h1⟩:=ES.o;refine⟨_,?_,?_,lab',_,_,M0.o ⟨pg,dt,fx,aX,cX⟩ rfl,h1,Dl.o⟩
     · omega
     · go_num
    grind [intOf]
  · obtain rfl:i=k.aD.length:=by omega
    rw[qd] at hsame;have HSM:=ai hsame;have x1:wr.cell? (Ad w.heap.size 1)=some (.slice a.aF k.frames.length a.cF):=aB hk1 1 rfl;have x0:wr.cell? (Ad w.heap.size 0)=some (.slice a.aS k.aD.length a.cS):=aB hk1 0 rfl;have y1:wr.cell? (Ad cb 1)=some Nl:=iU.c1;have HFF:=ai (EH.o _ E9);have HNF:Hid (∀w1 v',wr.grownBy w1 none->w1.ownsRow cb 40 4 v' k.frames.length (k.frames.flatMap fB)->(v'.ownBlock=none∨v'.ownBlock=some wr.heap.size)->w1.cell? (Ad cb 1)=some Nl/\w1.frozen? (Ad cb 1)=false/\(∃lab',bu cb cb 27 [] (w1.setCell (Ad cb 1) v') ⟨lab',.slice aS k.aD.length cS,v',Nl,Nl,[]⟩ ⟨hs',k.frames,[],[],k.hand⟩)/\Below cb WA (w1.setCell (Ad cb 1) v')):=fun w1 v' h1 h2 h3=>by
     have m1:=iU.ak6 h1 h2 h3;have hh:=(aM.grown (D:=fun _=>False) h1 (fun _ e=>nomatch e)).keep iU.head (fun g=>g);refine⟨aB hh 1 rfl,aO hh 1,⟨_,m1.1⟩,?_⟩;exact aM.below jQ m1.2 (qc hcl) (fun b hb=>(iU.rV b hb).1)
    clear iU jQ E9 hk1 hsame SF Xt hlt;go_upto_region 9 with(at_builtin;refine cZ (P:=Tryz.prog) rfl _ _ 23 rfl cb 40 jf (.agg #[.string ⟨#[]⟩,I 0,.bool false,.bool false]) 4 32 Tryz.underlying23 anA.o anz.o anx.o anw.o rfl (by decide) Nl 0 [] (by rfl) (jz _ _ _ _) a.aF k.frames.length a.cF (k.frames.flatMap fB) (by rfl) HLF.o HFF.o (OZ _) (by grind [maxLen]) (by omega) (qc hcl) ?_;intro vF w1 hoF hgF haF;rw[gM,CW] at hoF;obtain⟨aF,cF,hvF,_,_⟩:=aY hoF;subst hvF;obtain⟨p0,p1,hp2,Yb⟩:=HNF.o _ _ hgF hoF haF;have ES:=ai hp2;have Dl:=ai Yb;clear hoF hgF haF hp2 Yb)
    obtain⟨W8,hW8⟩:=ex (w1.setCell (Ad cb 1) (.slice aF k.frames.length cF));rw[<- hW8] at ES Dl ⊢;obtain⟨arp,iU⟩:=ES.o;have jQ:=Dl.o;have E9:Below w.heap.size w W8:=R8.o _ jQ;have hk1:=Ps.o _ jQ;have ahH:cb<W8.heap.size:=iU.lt;have x2:W8.cell? (Ad w.heap.size 2)=some (.slice a.aL k.slots.length a.cL):=aB hk1 2 rfl;have y2:W8.cell? (Ad cb 2)=some Nl:=iU.c2;have Vp:=ai (Vn.o _ E9);have HNL:Hid (∀w1 v',W8.grownBy w1 none->w1.ownsRow cb 86 2 v' k.slots.length (k.slots.flatMap fA)->(v'.ownBlock=none∨v'.ownBlock=some W8.heap.size)->w1.cell? (Ad cb 2)=some Nl/\w1.frozen? (Ad cb 2)=false/\(∃lab',bu cb cb 27 [] (w1.setCell (Ad cb 2) v') ⟨lab',.slice aS k.aD.length cS,.slice aF k.frames.length cF,v',Nl,[]⟩ ⟨hs',k.frames,k.slots,[],k.hand⟩)/\Below cb WA (w1.setCell (Ad cb 2) v')):=fun w1 v' h1 h2 h3=>by
     have m1:=iU.ak5 h1 h2 h3;have hh:=(aM.grown (D:=fun _=>False) h1 (fun _ e=>nomatch e)).keep iU.head (fun g=>g);refine⟨aB hh 2 rfl,aO hh 2,⟨_,m1.1⟩,?_⟩;exact aM.below jQ m1.2 (qc ahH) (fun b hb=>(iU.rV b hb).1)
    clear iU jQ E9 hk1 hW8 ES Dl HNF HFF p0 p1 x0 x1 y1;go_upto_region 10 with(at_builtin;refine cZ (P:=Tryz.prog) rfl _ _ 24 rfl cb 86 jl (.agg #[.string ⟨#[]⟩,I 0]) 2 24 Tryz.underlying24 anr.o anq.o anp.o ano.o rfl (by decide) Nl 0 [] (by rfl) (jz _ _ _ _) a.aL k.slots.length a.cL (k.slots.flatMap fA) (by rfl) HLL.o Vp.o (OU _) (by grind [maxLen]) (by omega) (qc ahH) ?_;intro vL w2 hoL hgL haL;rw[gM,CW] at hoL;obtain⟨aL,cL,hvL,_,_⟩:=aY hoL;subst hvL;obtain⟨p0,p1,hp2,Yb⟩:=HNL.o _ _ hgL hoL haL;have ES:=ai hp2;have Dl:=ai Yb;clear hoL hgL haL hp2 Yb)
    obtain⟨W9,hW9⟩:=ex (w2.setCell (Ad cb 2) (.slice aL k.slots.length cL));rw[<- hW9] at ES Dl ⊢;clear hW9 p0 p1 x2 y2 HNL Vp;go_wp2;go_loopw [6] (fun iv wq=>∃(m:Nat) (S:dE),m<=k.aj.length/\iv=I (m:Int)/\bu cb cb 27 [] wq S (bN ⟨k.aD,k.frames,k.slots,k.aj.take m,k.hand⟩ hs')/\Below cb WA wq) (fun iv _=>k.aj.length-(intOf iv).toNat)
    case atStart =>
     obtain⟨aro,h9⟩:=ES.o;exact⟨0,_,by omega,rfl,h9,Dl.o⟩
    case round =>
     obtain⟨m,S,hm,rfl,iU,jQ⟩:=hrel;clear ES Dl;have hcl:cb<wr.heap.size:=iU.lt;have E9:Below w.heap.size w wr:=R8.o _ jQ;have hk1:=Ps.o _ jQ;by_cases zF:m<k.aj.length
     · have hmi:(m:Int)<(k.aj.length:Int):=by omega
       have x3:wr.cell? (Ad w.heap.size 3)=some (.slice a.aP k.aj.length a.cP):=aB hk1 3 rfl;obtain⟨pb,po,hpo,hpl,Sv⟩:=HKS.o (by omega);rw[hpo] at x3;obtain⟨va,ap,cp,v0,v1,v2,hha,SZ,_⟩:=Sv m zF;have Bc:=hha;obtain⟨aa,ca,Av,_⟩:=hha;subst Av;have z0:=(E9.cell (p:=(Ad pb (po+m*3))) hpl).trans v0;have z1:=(E9.cell (p:=(Ad pb (po+m*3+1))) hpl).trans v1;have z2:=(E9.cell (p:=(Ad pb (po+m*3+2))) hpl).trans v2;have har:=HAR.o m zF;have hen:=oD.o m zF;have htk:=LC k.aj m zF;obtain⟨sp,hsp⟩:=ex (ak k.aj m);rw[<- hsp] at z0 z1 z2 har hen htk Bc SZ;obtain⟨lv,pH,nN⟩:=sp;simp only at z0 z1 z2 har hen Bc SZ;obtain⟨na,Ax⟩:=ex pH.length;obtain⟨np,YO⟩:=ex nN.length;rw[<- Ax] at z1 har Bc;rw[<- YO] at z2 hen;have HNA:=ai Ax;have HNP:=ai YO;have hLl:S.L.length<=1000000:=by have:=iU.len;grind [bN]
       obtain⟨v,hv⟩:=ex S.vP;obtain⟨WB,Tc⟩:=ex (wr.alloc (.cells #[.bool lv,.slice aa na ca,.slice ap np cp] 43));have hbL:Below wr.heap.size wr WB:=by grind [Below.refl,Below.alloc]
       have BL:WB.heap[wr.heap.size]?=some (.cells #[.bool lv,.slice aa na ca,.slice ap np cp] 43 (0,0)):=by grind [bO]
       have hkB:=iU.below hbL;have hlB:cb<=WB.heap.size:=gy (qc hcl) hbL.size;have nH:¬bQ v cb:=fun g=>by rw[hv] at g;have:=iU.lP _ g;grind [bu.lH]
       have nS:¬bQ v wr.heap.size:=fun g=>by rw[hv] at g;have:=(iU.aj.lt _ g).2;omega
       have gq:Hid (∀V,aM (fun b=>bQ v b) WB V->V.cell? (Ad cb 3)=some v/\V.cell? (Ad wr.heap.size 0)=some (.bool lv)/\V.cell? (Ad wr.heap.size 1)=some (.slice aa na ca)/\V.cell? (Ad wr.heap.size 2)=some (.slice ap np cp)):=fun V hV=>by
        have b1:=hV.keep hkB.head nH;have b2:=hV.keep BL nS;refine⟨?_,aB b2 0 rfl,aB b2 1 rfl,aB b2 2 rfl⟩;rw[hv];exact aB b1 3 rfl
       have ZC:Hid (∀V,aM (fun b=>bQ v b) WB V->V.frozen? (Ad cb 3)=false):=fun V hV=>aO (hV.keep hkB.head nH) 3
       have gu:Hid (aM (fun b=>bQ v b) WB WB.drew):=aM.drew _ _;have Mr:Hid (∀V,Below WB.heap.size WB V->aM (fun b=>bQ v b) WB V):=fun V h=>aM.cH h
       have HBV:Hid (∀V,aM (fun b=>bQ v b) WB V->Below w.heap.size w V):=fun V hV=>aM.below (E9.trans (hbL.mono E9.size)) hV (gy E9.size hbL.size) (fun g hg=>by rw[hv] at hg;have:=(iU.aj.lt g hg).1;omega)
       have xx:Hid (∀V,aM (fun b=>bQ v b) WB V->kj V aa na (bZ pH)):=fun V hV=>(DL (Bc.below (HBV.o V hV))).2
       have Pr:Hid ((bZ pH).length=na*4):=by grind [qI]
       have HOA:Hid (∀u∈bZ pH,u.oneCell'=true):=oH _;have A3:Hid (∀V,aM (fun b=>bQ v b) WB V->kj V ap np (nN.flatMap bj)):=fun V hV=>by rw[HNP.o];exact oK (f:=bj) (n:=3) (fun _=>rfl) (SZ.below (HBV.o V hV))
       have SH:Hid ((nN.flatMap bj).length=np*3):=by show _=_;rw[HNP.o];exact eG bj 3 (fun _=>rfl) _
       have vY:Hid (∀u∈nN.flatMap bj,u.oneCell'=true):=Zk _;have SG:Hid (∀w2 o,Below WB.heap.size WB w2->(w2.alloc o).ownsRow cb 43 3 v S.L.length (S.L.flatMap eT)):=fun w2 o hb=>by
        have:=((aM.cH (D:=fun _=>False) hb).trans (aM.alloc _ w2 o) (fun _ _ g=>g)).row hkB.aj (fun _ _ g=>g)
        grind
       have UH:Hid (∀w2 w4 O v' l,Below WB.heap.size WB w2->kF WB.heap.size w2 l ⟨lv,pH,nN⟩->(∀b,bQ l.vp b->¬bQ l.va b)->(w2.alloc O).grownBy w4 v.ownBlock->w4.ownsRow cb 43 3 v' (S.L.length+1) (S.L.flatMap eT++eT l)->(v'.ownBlock=v.ownBlock∨v'.ownBlock=some (w2.alloc O).heap.size)->∃S',bu cb cb 27 [] (w4.setCell (Ad cb 3) v') S' (bN ⟨k.aD,k.frames,k.slots,k.aj.take (m+1),k.hand⟩ hs')/\Below cb WA (w4.setCell (Ad cb 3) v')):=fun w2 w4 O v' l h1 h2 h3 h4 h5 h6=>by
        rw[hv] at h4 h6;have m1:=hkB.push hlB h1 h2 h3 h4 h5 h6;have m2:=m1.1;rw[htk];have JF:=jQ.trans (hbL.mono (qc hcl));exact⟨_,m2,aM.below JF m1.2.2 hlB (fun b hb=>(hkB.rV b hb).1)⟩
       have Zw:=ai Tc;clear iU hkB jQ E9 hk1 v0 v1 v2 Bc SZ htk hsp Tc hbL BL Sv Ax YO nH nS hv hpo;go_upto_region 14 with fail;rw[<- Zw.o];refine m7 (S:=fun V=>aM (fun b=>bQ v b) WB V) (z:=16) (by rfl) ?_;refine cN 0 gu.o ?_ ?_ ?_;rotate_left 1
       · intro V hSw;rfl
       refine cN 1 gu.o ?_ ?_ ?_;rotate_left 1
       · intro V hSw;obtain⟨k0,k1,k2,k3⟩:=gq.o V hSw;go_simp;rfl
       refine cN 2 gu.o ?_ ?_ ?_;rotate_left 1
       · intro V hSw;obtain⟨k0,k1,k2,k3⟩:=gq.o V hSw;go_simp;rfl
       refine cN 3 gu.o ?_ ?_ ?_;rotate_left 1
       · intro V hSw;obtain⟨k0,k1,k2,k3⟩:=gq.o V hSw;go_simp;rfl
       refine cN 5 gu.o ?_ ?_ ?_;rotate_left 1
       · intro V hSw;obtain⟨k0,k1,k2,k3⟩:=gq.o V hSw;go_simp;rfl
       refine cN 6 gu.o ?_ ?_ ?_;rotate_left 1
       · intro V hSw;obtain⟨k0,k1,k2,k3⟩:=gq.o V hSw;go_simp;rfl
       refine cN 9 gu.o ?_ ?_ ?_;rotate_left 1
       · intro V hSw;obtain⟨k0,k1,k2,k3⟩:=gq.o V hSw;go_simp;rfl
       refine cN 10 gu.o ?_ ?_ ?_;rotate_left 1
       · intro V hSw;obtain⟨k0,k1,k2,k3⟩:=gq.o V hSw;go_simp;rfl
       refine bW (rs:=[4,8]) (by kernel_rfl) (by simp) ?_;refine aJ.cons rfl (fun K hK=>?_) ?_
       · go_simp;refine hK.out _ _ (fun _=>?_) ?_
         · exact Mr.o _ (QW WB _)
         clear hK K
         try simp only[Act.put,bJ,bI,bH]
         refine bW (rs:=[7,8]) (by kernel_rfl) (by simp) ?_;refine aJ.cons rfl (fun K hK=>?_) ?_
         · rw[aR (by rfl)];refine dM (P:=Tryz.prog) _ _ 28 rfl WB.heap.size 47 ia (.agg #[I 0,I 0,I 0,.bool false]) 4 32 Tryz.underlying28 af7.o af6.o af5.o af4.o rfl (by decide) (.slice (some (Ad WB.heap.size 0)) 0 0) 0 [] rfl (aft WB _ _) aa na ca (bZ pH) rfl Pr.o (xx.o _ (Mr.o _ (QW WB _))) HOA.o (by unfold maxLen;omega) (by omega) (by simp_all) ?_;intro vC wC Fe Qb YY;rw[gM] at Fe;obtain⟨aC,cC,hvC,_,_⟩:=aY Fe;subst hvC;have Dm:Hid (Below WB.heap.size WB wC):=sJ (QW WB _) (aI _) Qb (fun g hg=>by have hg':some WB.heap.size=some g:=hg;injection hg' with hg';omega);have RX:=ai Fe;clear Fe Qb YY;refine hK.out _ _ (fun _=>?_) ?_
           · exact Mr.o _ Dm.o
           clear hK K
           try simp only[Act.put,bJ,bI,bH]
           refine bW (rs:=[8]) (by kernel_rfl) (by simp) ?_;refine aJ.cons rfl (fun K hK=>?_) ?_
           · go_simp;refine hK.out _ _ (fun _=>?_) ?_
             · exact Mr.o _ (Dm.o.alloc Dm.o.size _)
             clear hK K
             try simp only[Act.put,bJ,bI,bH]
             refine bW (rs:=[11]) (by kernel_rfl) (by simp) ?_;refine aJ.cons rfl (fun K hK=>?_) ?_
             · rw[aR (by rfl)];refine dM (P:=Tryz.prog) _ _ 41 rfl WB.heap.size 45 ip (.agg #[I 0,I 0,I 0]) 3 24 Tryz.underlying41 af3.o af2.o af1.o af0.o rfl (by decide) (.slice (some (Ad wC.heap.size 0)) 0 0) 0 [] rfl (Ca Dm.o.size _ _) ap np cp (nN.flatMap bj) rfl SH.o (A3.o _ (Mr.o _ (Dm.o.alloc Dm.o.size _))) vY.o (by unfold maxLen;omega) (by omega) (by rw[ig];have:=Dm.o.size;omega) ?_;intro vE wE IH S9 Yg;rw[gM] at IH;obtain⟨aE,cE,hvE,_,_⟩:=aY IH;subst hvE;have Bh:=ai (LP (Dm.o.alloc Dm.o.size _) (aI _) (aM.row (aM.alloc (fun _=>False) wC _) RX.o (fun _ _ g=>g)) Dm.o.size (fun b hb=>Nat.ne_of_lt (RX.o.lt b hb).2) S9 Yg);clear Dm RX;have HSE:=ai (Mr.o _ Bh.o.1);have rD:=ai IH;clear IH S9 Yg;refine hK.out _ _ (fun _=>?_) ?_
               · exact HSE.o
               clear hK K
               try simp only[Act.put,bJ,bI,bH]
               refine cN 12 HSE.o ?_ ?_ ?_;rotate_left 1
               · intro V hSw;obtain⟨k0,k1,k2,k3⟩:=gq.o V hSw;go_simp;rfl
               refine bW (rs:=[13]) (by kernel_rfl) (by simp) ?_;refine aJ.cons rfl (fun K hK=>?_) ?_
               · go_simp;refine hK.out _ _ (fun _=>?_) ?_
                 · exact Mr.o _ (Bh.o.1.alloc Bh.o.1.size _)
                 clear hK K
                 try simp only[Act.put,bJ,bI,bH]
                 refine bW (rs:=[14]) (by kernel_rfl) (by simp) ?_;refine aJ.cons rfl (fun K hK=>?_) ?_
                 · rw[aR (by rfl)];refine dM (P:=Tryz.prog) _ _ 25 rfl cb 43 is (.agg #[.bool false,Nl,Nl]) 3 56 Tryz.underlying25 afZ.o afY.o afX.o afW.o rfl (by decide) (v) S.L.length (S.L.flatMap eT) rfl (SG.o _ _ Bh.o.1) (some (Ad wE.heap.size 0)) 1 1 (eT ⟨lv,.slice aC na cC,.slice aE np cE⟩) rfl rfl (fun _=>⟨_,rfl,vK wE _ _⟩) (H4 _ _ _ _ _ _ _) (by unfold maxLen;omega) (by omega) (by rw[ig];have:=Bh.o.1.size;omega) ?_;intro vG wG yR Bj Dy;obtain⟨aG,cG,KR,_,_⟩:=aY yR;subst KR;have HPF:=ai (UH.o wE wG _ _ ⟨lv,.slice aC na cC,.slice aE np cE⟩ Bh.o.1 (H5 Bh.o.2.1 rD.o HNP.o HNA.o) Bh.o.2.2 Bj yR Dy);have Bl:Hid (aM (fun b=>bQ v b) WB wG):=(Mr.o _ (Bh.o.1.alloc Bh.o.1.size _)).trans (aM.grown Bj (fun _ e=>e)) (fun _ _ g=>g);have hoc:=(gq.o wG Bl.o).1;have hof:wG.frozen? (Ad cb 3)=false:=ZC.o wG Bl.o;clear yR Bj Dy Bh HSE rD;refine hK.out _ _ (fun _=>?_) ?_
                   · exact Bl.o
                   clear hK K
                   try simp only[Act.put,bJ,bI,bH]
                   refine cN 15 Bl.o ?_ ?_ ?_;rotate_left 1
                   · intro V hSw;rfl
                   refine bW (rs:=[16]) (by kernel_rfl) (by simp) ?_;refine aJ.cons rfl (fun K hK=>?_) aJ.nil;go_simp;refine hK.out _ _ (fun g=>absurd rfl g) ?_;refine ij (by rfl) ?_ _;go_wp2;go_roundw
                   case rel =>
                    obtain⟨S',h1,h2⟩:=HPF.o;exact⟨m+1,S',by omega,by go_num,h1,h2⟩
                   case measure=>simp[intOf];omega
                 exact aJ.nil
               exact aJ.nil
             exact aJ.nil
           exact aJ.nil
         refine aJ.cons rfl (fun K hK=>?_) ?_
         · go_simp;refine hK.out _ _ (fun _=>?_) ?_
           · exact Mr.o _ (Ic WB _ _)
           clear hK K
           try simp only[Act.put,bJ,bI,bH]
           refine bW (rs:=[7]) (by kernel_rfl) (by simp) ?_;refine aJ.cons rfl (fun K hK=>?_) ?_
           · rw[aR (by rfl)];refine dM (P:=Tryz.prog) _ _ 28 rfl WB.heap.size 47 ia (.agg #[I 0,I 0,I 0,.bool false]) 4 32 Tryz.underlying28 af7.o af6.o af5.o af4.o rfl (by decide) (.slice (some (Ad WB.heap.size 0)) 0 0) 0 [] rfl (aa3 WB _ _ _) aa na ca (bZ pH) rfl Pr.o (xx.o _ (Mr.o _ (Ic WB _ _))) HOA.o (by unfold maxLen;omega) (by omega) (by first | omega | (simp;done) | (simp;omega)) ?_;intro vC wC Fe Qb YY;rw[gM] at Fe;obtain⟨aC,cC,hvC,_,_⟩:=aY Fe;subst hvC;have Xm:=ai (TX (GB:=WB.heap.size) (GD:=WB.heap.size+1) (Ic WB _ _) (aI _) (aa2 WB _ _ 3) (by omega) (by omega) Qb YY);have RX:=ai Fe;clear Fe Qb YY;refine hK.out _ _ (fun _=>?_) ?_
             · exact Mr.o _ Xm.o.1
             clear hK K
             try simp only[Act.put,bJ,bI,bH]
             refine bW (rs:=[11]) (by kernel_rfl) (by simp) ?_;refine aJ.cons rfl (fun K hK=>?_) ?_
             · rw[aR (by rfl)];refine dM (P:=Tryz.prog) _ _ 41 rfl WB.heap.size 45 ip (.agg #[I 0,I 0,I 0]) 3 24 Tryz.underlying41 af3.o af2.o af1.o af0.o rfl (by decide) (.slice (some (Ad (WB.heap.size+1) 0)) 0 0) 0 [] rfl Xm.o.2.1 ap np cp (nN.flatMap bj) rfl SH.o (A3.o _ (Mr.o _ Xm.o.1)) vY.o (by unfold maxLen;omega) (by omega) Xm.o.1.size ?_;intro vE wE IH S9 Yg;rw[gM] at IH;obtain⟨aE,cE,hvE,_,_⟩:=aY IH;subst hvE;have Bh:=ai (LP Xm.o.1 (aI _) RX.o (by omega) Xm.o.2.2 S9 Yg);clear Xm RX;have HSE:=ai (Mr.o _ Bh.o.1);have rD:=ai IH;clear IH S9 Yg;refine hK.out _ _ (fun _=>?_) ?_
               · exact HSE.o
               clear hK K
               try simp only[Act.put,bJ,bI,bH]
               refine cN 12 HSE.o ?_ ?_ ?_;rotate_left 1
               · intro V hSw;obtain⟨k0,k1,k2,k3⟩:=gq.o V hSw;go_simp;rfl
               refine bW (rs:=[13]) (by kernel_rfl) (by simp) ?_;refine aJ.cons rfl (fun K hK=>?_) ?_
               · go_simp;refine hK.out _ _ (fun _=>?_) ?_
                 · exact Mr.o _ (Bh.o.1.alloc Bh.o.1.size _)
                 clear hK K
                 try simp only[Act.put,bJ,bI,bH]
                 refine bW (rs:=[14]) (by kernel_rfl) (by simp) ?_;refine aJ.cons rfl (fun K hK=>?_) ?_
                 · rw[aR (by rfl)];refine dM (P:=Tryz.prog) _ _ 25 rfl cb 43 is (.agg #[.bool false,Nl,Nl]) 3 56 Tryz.underlying25 afZ.o afY.o afX.o afW.o rfl (by decide) (v) S.L.length (S.L.flatMap eT) rfl (SG.o _ _ Bh.o.1) (some (Ad wE.heap.size 0)) 1 1 (eT ⟨lv,.slice aC na cC,.slice aE np cE⟩) rfl rfl (fun _=>⟨_,rfl,vK wE _ _⟩) (H4 _ _ _ _ _ _ _) (by unfold maxLen;omega) (by omega) (by rw[ig];have:=Bh.o.1.size;omega) ?_;intro vG wG yR Bj Dy;obtain⟨aG,cG,KR,_,_⟩:=aY yR;subst KR;have HPF:=ai (UH.o wE wG _ _ ⟨lv,.slice aC na cC,.slice aE np cE⟩ Bh.o.1 (H5 Bh.o.2.1 rD.o HNP.o HNA.o) Bh.o.2.2 Bj yR Dy);have Bl:Hid (aM (fun b=>bQ v b) WB wG):=(Mr.o _ (Bh.o.1.alloc Bh.o.1.size _)).trans (aM.grown Bj (fun _ e=>e)) (fun _ _ g=>g);have hoc:=(gq.o wG Bl.o).1;have hof:wG.frozen? (Ad cb 3)=false:=ZC.o wG Bl.o;clear yR Bj Dy Bh HSE rD;refine hK.out _ _ (fun _=>?_) ?_
                   · exact Bl.o
                   clear hK K
                   try simp only[Act.put,bJ,bI,bH]
                   refine cN 15 Bl.o ?_ ?_ ?_;rotate_left 1
                   · intro V hSw;rfl
                   refine bW (rs:=[16]) (by kernel_rfl) (by simp) ?_;refine aJ.cons rfl (fun K hK=>?_) aJ.nil;go_simp;refine hK.out _ _ (fun g=>absurd rfl g) ?_;refine ij (by rfl) ?_ _;go_wp2;go_roundw
                   case rel =>
                    obtain⟨S',h1,h2⟩:=HPF.o;exact⟨m+1,S',by omega,by go_num,h1,h2⟩
                   case measure=>simp[intOf];omega
                 exact aJ.nil
               exact aJ.nil
             exact aJ.nil
           exact aJ.nil
         exact aJ.nil
       refine aJ.cons rfl (fun K hK=>?_) ?_
       · go_simp;refine hK.out _ _ (fun _=>?_) ?_
         · exact Mr.o _ (QW WB _)
         clear hK K
         try simp only[Act.put,bJ,bI,bH]
         refine bW (rs:=[4]) (by kernel_rfl) (by simp) ?_;refine aJ.cons rfl (fun K hK=>?_) ?_
         · go_simp;refine hK.out _ _ (fun _=>?_) ?_
           · exact Mr.o _ (Ic WB _ _)
           clear hK K
           try simp only[Act.put,bJ,bI,bH]
           refine bW (rs:=[7]) (by kernel_rfl) (by simp) ?_;refine aJ.cons rfl (fun K hK=>?_) ?_
           · rw[aR (by rfl)];refine dM (P:=Tryz.prog) _ _ 28 rfl WB.heap.size 47 ia (.agg #[I 0,I 0,I 0,.bool false]) 4 32 Tryz.underlying28 af7.o af6.o af5.o af4.o rfl (by decide) (.slice (some (Ad (WB.heap.size+1) 0)) 0 0) 0 [] rfl (aa2 WB _ _ _) aa na ca (bZ pH) rfl Pr.o (xx.o _ (Mr.o _ (Ic WB _ _))) HOA.o (by unfold maxLen;omega) (by omega) (by first | omega | (simp;done) | (simp;omega)) ?_;intro vC wC Fe Qb YY;rw[gM] at Fe;obtain⟨aC,cC,hvC,_,_⟩:=aY Fe;subst hvC;have Xm:=ai (TX (GB:=WB.heap.size+1) (GD:=WB.heap.size) (Ic WB _ _) (aI _) (aa3 WB _ _ 3) (by omega) (by omega) Qb YY);have RX:=ai Fe;clear Fe Qb YY;refine hK.out _ _ (fun _=>?_) ?_
             · exact Mr.o _ Xm.o.1
             clear hK K
             try simp only[Act.put,bJ,bI,bH]
             refine bW (rs:=[11]) (by kernel_rfl) (by simp) ?_;refine aJ.cons rfl (fun K hK=>?_) ?_
             · rw[aR (by rfl)];refine dM (P:=Tryz.prog) _ _ 41 rfl WB.heap.size 45 ip (.agg #[I 0,I 0,I 0]) 3 24 Tryz.underlying41 af3.o af2.o af1.o af0.o rfl (by decide) (.slice (some (Ad WB.heap.size 0)) 0 0) 0 [] rfl Xm.o.2.1 ap np cp (nN.flatMap bj) rfl SH.o (A3.o _ (Mr.o _ Xm.o.1)) vY.o (by unfold maxLen;omega) (by omega) Xm.o.1.size ?_;intro vE wE IH S9 Yg;rw[gM] at IH;obtain⟨aE,cE,hvE,_,_⟩:=aY IH;subst hvE;have Bh:=ai (LP Xm.o.1 (aI _) RX.o (by omega) Xm.o.2.2 S9 Yg);clear Xm RX;have HSE:=ai (Mr.o _ Bh.o.1);have rD:=ai IH;clear IH S9 Yg;refine hK.out _ _ (fun _=>?_) ?_
               · exact HSE.o
               clear hK K
               try simp only[Act.put,bJ,bI,bH]
               refine cN 12 HSE.o ?_ ?_ ?_;rotate_left 1
               · intro V hSw;obtain⟨k0,k1,k2,k3⟩:=gq.o V hSw;go_simp;rfl
               refine bW (rs:=[13]) (by kernel_rfl) (by simp) ?_;refine aJ.cons rfl (fun K hK=>?_) ?_
               · go_simp;refine hK.out _ _ (fun _=>?_) ?_
                 · exact Mr.o _ (Bh.o.1.alloc Bh.o.1.size _)
                 clear hK K
                 try simp only[Act.put,bJ,bI,bH]
                 refine bW (rs:=[14]) (by kernel_rfl) (by simp) ?_;refine aJ.cons rfl (fun K hK=>?_) ?_
                 · rw[aR (by rfl)];refine dM (P:=Tryz.prog) _ _ 25 rfl cb 43 is (.agg #[.bool false,Nl,Nl]) 3 56 Tryz.underlying25 afZ.o afY.o afX.o afW.o rfl (by decide) (v) S.L.length (S.L.flatMap eT) rfl (SG.o _ _ Bh.o.1) (some (Ad wE.heap.size 0)) 1 1 (eT ⟨lv,.slice aC na cC,.slice aE np cE⟩) rfl rfl (fun _=>⟨_,rfl,vK wE _ _⟩) (H4 _ _ _ _ _ _ _) (by unfold maxLen;omega) (by omega) (by rw[ig];have:=Bh.o.1.size;omega) ?_;intro vG wG yR Bj Dy;obtain⟨aG,cG,KR,_,_⟩:=aY yR;subst KR;have HPF:=ai (UH.o wE wG _ _ ⟨lv,.slice aC na cC,.slice aE np cE⟩ Bh.o.1 (H5 Bh.o.2.1 rD.o HNP.o HNA.o) Bh.o.2.2 Bj yR Dy);have Bl:Hid (aM (fun b=>bQ v b) WB wG):=(Mr.o _ (Bh.o.1.alloc Bh.o.1.size _)).trans (aM.grown Bj (fun _ e=>e)) (fun _ _ g=>g);have hoc:=(gq.o wG Bl.o).1;have hof:wG.frozen? (Ad cb 3)=false:=ZC.o wG Bl.o;clear yR Bj Dy Bh HSE rD;refine hK.out _ _ (fun _=>?_) ?_
                   · exact Bl.o
                   clear hK K
                   try simp only[Act.put,bJ,bI,bH]
                   refine cN 15 Bl.o ?_ ?_ ?_;rotate_left 1
                   · intro V hSw;rfl
                   refine bW (rs:=[16]) (by kernel_rfl) (by simp) ?_;refine aJ.cons rfl (fun K hK=>?_) aJ.nil;go_simp;refine hK.out _ _ (fun g=>absurd rfl g) ?_;refine ij (by rfl) ?_ _;go_wp2;go_roundw
                   case rel =>
                    obtain⟨S',h1,h2⟩:=HPF.o;exact⟨m+1,S',by omega,by go_num,h1,h2⟩
                   case measure=>simp[intOf];omega
                 exact aJ.nil
               exact aJ.nil
             exact aJ.nil
           exact aJ.nil
         exact aJ.nil
       exact aJ.nil
     · obtain rfl:m=k.aj.length:=by omega
       rw[qd] at iU;obtain⟨bS,nS,dS,eS⟩:∃b n d,S.vS=.slice b n d:=by obtain⟨b,d,e,_⟩:=aY iU.aD;grind
       obtain⟨bF,nF,dF,eF⟩:∃b n d,S.vF=.slice b n d:=by obtain⟨b,d,e,_⟩:=aY iU.frames;grind
       obtain⟨bL,nL,dL,eL⟩:∃b n d,S.vL=.slice b n d:=by obtain⟨b,d,e,_⟩:=aY iU.slots;grind
       obtain⟨bP,nP,dP,eP⟩:∃b n d,S.vP=.slice b n d:=by obtain⟨b,d,e,_⟩:=aY iU.aj;grind
       have x3:wr.cell? (Ad w.heap.size 3)=some (.slice a.aP k.aj.length a.cP):=aB hk1 3 rfl;have c0:=iU.c0;have c1:=iU.c1;have c2:=iU.c2;have c3:=iU.c3;have c4:wr.cell? (Ad cb 4)=some (I k.hand):=iU.c4;rw[eS] at c0;rw[eF] at c1;rw[eL] at c2;rw[eP] at c3;have R1:=Ip.o _ jQ;obtain⟨y0,y1,y2,y3,y4⟩:=fy R1;have f0:=aO R1 0;have f1:=aO R1 1;have f2:=aO R1 2;have f3:=aO R1 3;have f4:=aO R1 4;have cV:Hid (∀V,aM (fun b=>b=w.heap.size+1) wr V->P (.returned (.agg #[.slice bS nS dS,.slice bF nF dF,.slice bL nL dL,.slice bP nP dP,I k.hand])) V):=fun V hV=>by
        rw[HP.o];refine⟨S,hs',HSM.o,by grind,(iU.toKr.kp hV (fun b hb e=>by have:=(iU.rV b hb).1;omega)).mono (by omega),?_⟩
        grind [aM.below]
       have h5:Hid (∀s f l p h,(((((wr.setCell (Ad (w.heap.size+1) 0) s).setCell (Ad (w.heap.size+1) 1) f).setCell (Ad (w.heap.size+1) 2) l).setCell (Ad (w.heap.size+1) 3) p).setCell (Ad (w.heap.size+1) 4) h).heap[w.heap.size+1]?=some (.cells #[s,f,l,p,h] 27 (0,0))/\aM (fun b=>b=w.heap.size+1) wr (((((wr.setCell (Ad (w.heap.size+1) 0) s).setCell (Ad (w.heap.size+1) 1) f).setCell (Ad (w.heap.size+1) 2) l).setCell (Ad (w.heap.size+1) 3) p).setCell (Ad (w.heap.size+1) 4) h)):=fun s f l p h=>⟨dD (dD (dD (dD (dD R1 0 s) 1 f) 2 l) 3 p) 4 h,((((aM.set (fun b=>b=w.heap.size+1) wr (Ad (w.heap.size+1) 0) s rfl).trans (aM.set (fun b=>b=w.heap.size+1) _ (Ad (w.heap.size+1) 1) f rfl) (fun _ _ g=>g)).trans (aM.set (fun b=>b=w.heap.size+1) _ (Ad (w.heap.size+1) 2) l rfl) (fun _ _ g=>g)).trans (aM.set (fun b=>b=w.heap.size+1) _ (Ad (w.heap.size+1) 3) p rfl) (fun _ _ g=>g)).trans (aM.set (fun b=>b=w.heap.size+1) _ (Ad (w.heap.size+1) 4) h rfl) (fun _ _ g=>g)⟩
       clear iU jQ eS eF eL eP E9 R1 hk1 zF;go_wp2;obtain⟨q1,q2⟩:=h5.out (.slice bS nS dS) (.slice bF nF dF) (.slice bL nL dL) (.slice bP nP dP) (I k.hand);obtain⟨y0,y1,y2,y3,y4⟩:=fy q1;refine cm (v:=.agg #[.slice bS nS dS,.slice bF nF dF,.slice bL nL dL,.slice bP nP dP,I k.hand]) (by simp[results,Tryz.results16,go_sem,y0,y1,y2,y3,y4]) rfl ?_;exact cV.o _ q2
end Go.Proofs.YtpgifpeohlllfaaGreat
