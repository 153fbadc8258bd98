import Derived.Test.YtpgifpeohlllfaaGreatGT22
set_option maxHeartbeats 20000000
set_option linter.unusedVariables false
set_option maxRecDepth 100000
set_option linter.unusedSimpArgs false
namespace Go.Proofs.YtpgifpeohlllfaaGreat
namespace KR
open Go.RowKit GK KO
open FW (ai aD)
open KW (bJ bI aK aZ fh cK aI dA bU)
open KS (Lc bw kM cD blk cJ)
open KY (Small vh GM Ig NN Ih Ii GJ fF CF uP sH)
theorem nJ {N:Nat} {w0 w w':World} {row:Option Nat} (h:Below N w0 w) (hN:N<=w0.heap.size) (g:w.grownBy w' row) (hr:∀k,row=some k->N<=k):Below N w0 w' :=
 h.trans ⟨g.os,g.tape,g.output,g.size,fun b hb=>g.block b (Nat.lt_of_lt_of_le hb (Nat.le_trans hN h.size)) (fun e=>by have:=hr b e.symm;omega)⟩
theorem NH {N GD na:Nat} {W V wE:World} {vC vE:Value} {xs:List Value} (hb:Below N W V) (hW:N<=W.heap.size) (hrc:V.ownsRow N 47 4 vC na xs) (hN:N<=GD) (hne:∀b,blk vC b->b≠GD) (hg:V.grownBy wE (some GD)) (ha:vE.ownBlock=some GD∨vE.ownBlock=some V.heap.size):Below N W wE/\wE.ownsRow N 47 4 vC na xs/\∀b,blk vE b->¬blk vC b :=
 ⟨nJ hb hW hg (fun k hk=>by injection hk with hk;omega),Kp.row (Kp.grown (D:=fun b=>b=GD) hg (fun k hk=>by injection hk with hk;exact hk.symm)) hrc (fun g hg e=>hne g hg e),fun b hb hb2=>by
  have hb':vE.ownBlock=some b:=hb;rcases ha with g | g
  · rw[g] at hb';injection hb' with hb';exact hne b hb2 hb'.symm
  · rw[g] at hb';injection hb' with hb';have:=(hrc.lt b hb2).2;omega⟩
theorem U5 {N GB GD:Nat} {W V wC:World} {vC:Value} (hb:Below N W V) (hW:N<=W.heap.size) (hrd:V.ownsRow N 45 3 (.slice (some (Ad GD 0)) 0 0) 0 []) (hne:GD≠GB) (hN:N<=GB) (hg:V.grownBy wC (some GB)) (ha:vC.ownBlock=some GB∨vC.ownBlock=some V.heap.size):Below N W wC/\wC.ownsRow N 45 3 (.slice (some (Ad GD 0)) 0 0) 0 []/\∀b,blk vC b->b≠GD :=
 ⟨nJ hb hW hg (fun k hk=>by injection hk with hk;omega),Kp.row (Kp.grown (D:=fun b=>b=GB) hg (fun k hk=>by injection hk with hk;exact hk.symm)) hrd (fun g hg e=>by have hg':some GD=some g:=hg;injection hg' with hg';omega),fun b hb e=>by
  have hb':vC.ownBlock=some b:=hb;rcases ha with g | g
  · rw[g] at hb';injection hb' with hb';omega
  · rw[g] at hb';injection hb' with hb';have:=(hrd.lt GD rfl).2;omega⟩
theorem qL (w:World) (xs:List Value) (e:TypeId):∀j u,xs[j]?=some u->(w.alloc (.cells xs.toArray e)).cell? (((Ad w.heap.size 0):Addr).add j)=some u:=fun j u hu=>by
 rw[Addr.add_lit,Nat.zero_add];exact B.cell (B.new w xs.toArray e) j (by simpa using hu)
theorem Hm (l:Bool) (a b:Option Addr) (n m c d:Nat):∀u∈bw ⟨l,.slice a n c,.slice b m d⟩,u.oneCell'=true:=fun u hu=>by
 simp[bw] at hu;rcases hu with rfl | rfl | rfl <;> rfl
theorem Xd:∀(l:List KM.En),∀u∈l.flatMap aK,u.oneCell'=true:=fun l u hu=>by
 obtain⟨y,_,hy⟩:=List.mem_flatMap.1 hu;simp[aK] at hy;rcases hy with rfl | rfl | rfl <;> rfl
theorem NP (s:LM.Sh):∀u∈eN s,u.oneCell'=true:=fun u hu=>by
 simp[eN] at hu;rcases hu with rfl | rfl | rfl <;> rfl
theorem Ib {N na np:Nat} {wE:World} {lv:Bool} {vC vE:Value} {iu:List AM.Ar} {gj:List KM.En} (ha:wE.ownsRow N 47 4 vC na ([]++AM.bk iu)) (hp:wE.ownsRow N 45 3 vE np ([]++gj.flatMap aK)) (rH:np=gj.length) (nZ:na=iu.length):cJ N wE ⟨lv,vC,vE⟩ ⟨lv,iu,gj⟩:=by
 subst rH nZ;exact⟨rfl,by simpa [AW.Own] using ha,by simpa using hp⟩
theorem al1 (W:World) (o:Obj):Below W.heap.size W (W.alloc o).drew:=((Below.refl _ _).alloc (Nat.le_refl _) _).drew
theorem YE (W:World) (o o':Obj):Below W.heap.size W ((W.alloc o).alloc o').drew:=(((Below.refl _ _).alloc (Nat.le_refl _) _).alloc (by simp) _).drew
theorem Za {N:Nat} {V:World} (h:N<=V.heap.size) (e:TypeId) (size:Nat):(V.alloc (.cells #[] e)).ownsRow N e size (.slice (some (Ad V.heap.size 0)) 0 0) 0 []:=World.ownsRow_made V #[] 0 h (by unfold maxLen;omega) (by simp)
theorem zI {w:World} {base:Nat} {e:TypeId} {size:Nat} {v:Value} {n:Nat} {xs:List Value} (h:w.ownsRow base e size v n xs):w.drew.ownsRow base e size v n xs:=Kp.row (Kp.drew (fun _=>False) w) h (fun _ _ g=>g)
theorem mk1 (W:World) (e:TypeId) (size:Nat):(W.alloc (.cells #[] e)).drew.ownsRow W.heap.size e size (.slice (some (Ad W.heap.size 0)) 0 0) 0 []:=zI (Za (Nat.le_refl _) e size)
theorem mk2 (W:World) (e:TypeId) (o:Obj) (size:Nat):((W.alloc (.cells #[] e)).alloc o).drew.ownsRow W.heap.size e size (.slice (some (Ad W.heap.size 0)) 0 0) 0 []:=zI (Kp.row (Kp.alloc (fun _=>False) _ o) (Za (Nat.le_refl _) e size) (fun _ _ g=>g))
theorem mk3 (W:World) (e:TypeId) (o:Obj) (size:Nat):((W.alloc o).alloc (.cells #[] e)).drew.ownsRow W.heap.size e size (.slice (some (Ad (W.heap.size+1) 0)) 0 0) 0 []:=by
 have:=Za (V:=W.alloc o) (N:=W.heap.size) (by simp) e size;rw[World.size_alloc] at this;exact zI this
theorem SG (l:List LM.Sh) (m:Nat) (h:m<l.length):l.take (m+1)=l.take m++[LM.aY l m]:=by
 rw[List.take_add_one,List.getElem?_eq_getElem h];unfold LM.aY;rw[List.getD_eq_getElem?_getD,List.getElem?_eq_getElem h];rfl
theorem K7 {l hs:List LM.Sh} {m:Nat} {s:LM.Sh} (h:KM.Same (l.take m) hs) (hm:m<l.length) (hp:LM.plain s=LM.plain (LM.aY l m)):KM.Same (l.take (m+1)) (hs++[s]):=by
 unfold KM.Same at h ⊢;rw[SG l m hm,List.map_append,List.map_append,h];simp[hp]
theorem TN {wr WS wX:World} {pg:Int} {dt:ByteArray} {c0:Value} {n:Nat} {aX:Option Addr} {cX:Nat} {xs:List Value} (hb:Below wr.heap.size wr WS) (hsz:WS.heap.size=wr.heap.size+1) (BS:WS.heap[wr.heap.size]?=some (.cells #[I pg,.string dt,c0] 50 (0,0)))
  (ho:wX.ownsRow wr.heap.size 52 2 (.slice aX n cX) n ([]++xs)) (hg:(WS.alloc (.cells #[] 52)).grownBy wX (some WS.heap.size)) (ha:(Value.slice aX n cX).ownBlock=some WS.heap.size∨(Value.slice aX n cX).ownBlock=some (WS.alloc (.cells #[] 52)).heap.size) :
  wX.cell? (Ad wr.heap.size 2)=some c0/\wX.frozen? (Ad wr.heap.size 2)=false/\Below wr.heap.size wr (wX.setCell (Ad wr.heap.size 2) (.slice aX n cX))/\(wX.setCell (Ad wr.heap.size 2) (.slice aX n cX)).heap[wr.heap.size]?=some (.cells #[I pg,.string dt,.slice aX n cX] 50 (0,0))/\(wX.setCell (Ad wr.heap.size 2) (.slice aX n cX)).ownsRow wr.heap.size 52 2 (.slice aX n cX) n xs:=by
 have h1:Below WS.heap.size WS wX:=nJ ((Below.refl _ _).alloc (Nat.le_refl _) _) (Nat.le_refl _) hg (fun k hk=>by injection hk with hk;omega);have h2:=B.below BS h1 (B.isLt BS);refine⟨B.cell h2 2 rfl,B.free h2 2,(hb.trans (h1.mono hb.size)).setCell (p:=(Ad wr.heap.size 2)) (Nat.le_refl _) _,B.set h2 2 (.slice aX n cX),?_⟩;refine(Kp.set (fun b=>b=wr.heap.size) _ _ _ rfl).row (by simpa using ho) (fun b hx e=>?_);have hx:(Value.slice aX n cX).ownBlock=some b:=hx;rcases ha with g | g
 · rw[g] at hx;injection hx with hx;omega
 · rw[g] at hx;injection hx with hx;rw[World.size_alloc] at hx;omega
theorem qG (k:KM.Kn) (a:fh) (w:World) (hK:cK w a k) (hs:Small k) :
  Calls Tryz.prog 16 #[.agg (aI a k)] w (vh w k):=by
 obtain⟨P,hP⟩:=ex (vh w k);rw[<- hP];have HP:=ai hP;clear hP;have VH:=ai hK.aj;have DV:Hid (∀V i,Below w.heap.size w V->i<k.ak.length->∃b off,a.aS=some (Ad b off)/\V.cell? (Ad b (off+i*3))=some (I (LM.aY k.ak i).page)/\V.cell? (Ad b (off+i*3+1))=some (.string (LM.aY k.ak i).data)/\V.cell? (Ad b (off+i*3+2))=some (.slice (LM.aY k.ak i).ao (LM.aY k.ak i).bg.length (LM.aY k.ak i).cap)/\(LM.aY k.ak i).bg.length<=1000000):=fun V i hV hi=>by
  obtain⟨b,off,e1,e2,e3⟩:=((GM hK.ak).below hV) (by omega);have z:=e3 i hi 0 (by omega);rw[Nat.add_zero] at z;exact⟨b,off,e1,z,e3 i hi 1 (by omega),e3 i hi 2 (by omega),hs.bg i hi⟩
 have I9:Hid (∀V n,Below w.heap.size w V->n<k.ak.length->From V (LM.aY k.ak n).ao (LM.aY k.ak n).bg.length ((LM.aY k.ak n).bg.flatMap fP)):=fun V n hb hn=>by
  obtain⟨b,off,_,_,hi⟩:=hK.ak (by omega);have h4:LM.oc w (LM.aY k.ak n).ao (LM.aY k.ak n).bg:=(hi n hn).2.2.2;exact fF (f:=fP) (n:=2) (fun _=>rfl) (Ig (h4.below hb))
 have ru:Hid (∀V,Below w.heap.size w V->From V a.aF k.frames.length (k.frames.flatMap bJ)):=fun V hV=>fF (f:=bJ) (n:=4) (fun _=>rfl) (hK.frames.below hV)
 have DX:Hid (∀V,Below w.heap.size w V->From V a.aL k.slots.length (k.slots.flatMap bI)):=fun V hV=>fF (f:=bI) (n:=2) (fun _=>rfl) (hK.slots.below hV)
 have UI:=ai (bK bJ 4 (fun _=>rfl) k.frames);have UG:=ai (bK bI 2 (fun _=>rfl) k.slots);have lj:=hs.frames;have hnl:=hs.slots;have rH:=hs.aj;have hns:=hs.ak;have Yj:=ai hs.aB;have iy:=ai hs.aA;obtain⟨WA,di⟩:=ex ((w.alloc (.cells (aI a k) 27)).alloc (.cells #[Nl,Nl,Nl,Nl,I 0] 27));have hBA:Below w.heap.size w WA:=by rw[di];exact((Below.refl _ _).alloc (Nat.le_refl _) _).alloc (by simp) _
 have kb:WA.heap[w.heap.size]?=some (.cells (aI a k) 27 (0,0)):=by rw[di];exact B.alloc (B.new w _ _) _
 have rb:WA.heap[w.heap.size+1]?=some (.cells #[Nl,Nl,Nl,Nl,I 0] 27 (0,0)):=by
  have:=B.new (w.alloc (.cells (aI a k) 27)) #[Nl,Nl,Nl,Nl,I 0] 27;rw[World.size_alloc] at this;rw[di];exact this
 obtain⟨cb,hcb⟩:=ex WA.heap.size;have Cv:Hid (∀V,Below cb WA V->V.heap[w.heap.size]?=some (.cells #[.slice a.aS k.ak.length a.cS,.slice a.aF k.frames.length a.cF,.slice a.aL k.slots.length a.cL,.slice a.aP k.aj.length a.cP,I k.hand] 27 (0,0))):=fun V hV=>B.below kb (hcb ▸ hV) (B.isLt kb)
 have vt:Hid (∀V,Below cb WA V->V.heap[w.heap.size+1]?=some (.cells #[Nl,Nl,Nl,Nl,I 0] 27 (0,0))):=fun V hV=>B.below rb (hcb ▸ hV) (B.isLt rb)
 have DC:Hid (∀V,Below cb WA V->Below w.heap.size w V):=fun V hV=>hBA.trans (hV.mono (by rw[hcb];exact hBA.size))
 have hwc:w.heap.size+1<cb:=by rw[hcb];exact B.isLt rb
 have HWC:=ai hwc;have k4:WA.cell? (Ad w.heap.size 4)=some (I k.hand):=B.cell kb 4 rfl;obtain⟨WC,hWC⟩:=ex (WA.alloc (.cells #[Nl,Nl,Nl,Nl,I k.hand] 27));have HM0:Hid (Km cb cb 27 [] WC ⟨fun b=>if b=cb then .head else .no,Nl,Nl,Nl,Nl,[]⟩ ⟨[],[],[],[],k.hand⟩):=by
  refine OM ?_;rw[hWC,hcb];exact B.new WA _ _
 have bR:Hid (Below cb WA WC):=by rw[hWC,hcb];exact(Below.refl _ _).alloc (Nat.le_refl _) _
 have eZ:=ai di;have ae3:=ai hWC;have HCB:=ai hcb;obtain⟨ix,i0,i1,i2,i3⟩:=info_parts C7;have afH:=ai i0;have afG:=ai i1;have afF:=ai i2;have afE:=ai i3;clear i0 i1 i2 i3;obtain⟨ih,i0,i1,i2,i3⟩:=info_parts y8;have afR:=ai i0;have afQ:=ai i1;have afP:=ai i2;have afO:=ai i3;clear i0 i1 i2 i3;obtain⟨jf,i0,i1,i2,i3⟩:=info_parts OX;have afV:=ai i0;have afU:=ai i1;have afT:=ai i2;have afS:=ai i3;clear i0 i1 i2 i3;obtain⟨jl,i0,i1,i2,i3⟩:=info_parts OW;have afN:=ai i0;have afM:=ai i1;have afL:=ai i2;have afK:=ai i3;clear i0 i1 i2 i3;obtain⟨ia,i0,i1,i2,i3⟩:=info_parts OY;have Ya:=ai i0;have XZ:=ai i1;have XY:=ai i2;have XX:=ai i3;clear i0 i1 i2 i3;obtain⟨ip,i0,i1,i2,i3⟩:=info_parts y9;have XV:=ai i0;have XU:=ai i1;have XT:=ai i2;have XR:=ai i3;clear i0 i1 i2 i3;obtain⟨is,i0,i1,i2,i3⟩:=info_parts sH;have XQ:=ai i0;have XO:=ai i1;have XN:=ai i2;have XM:=ai i3;clear i0 i1 i2 i3;unfold aI at eZ ⊢;clear di hK kb rb hBA hcb hWC hs;go_enter Tryz.func16,Tryz.ntmps16;go_upto_region 1 with fail;rw[<- eZ.o];go_upto_region 2 with fail;rw[<- ae3.o,<- HCB.o];clear k4 eZ;go_wp2;go_loopw [4] (fun iv wq=>∃(i:Nat) (lab:Nat->Lb) (vS:Value) (hs:List LM.Sh),i<=k.ak.length/\iv=I (i:Int)/\KM.Same (k.ak.take i) hs/\Km cb cb 27 [] wq ⟨lab,vS,Nl,Nl,Nl,[]⟩ ⟨hs,[],[],[],k.hand⟩/\Below cb WA wq) (fun iv _=>k.ak.length-(intOf iv).toNat)
 case atStart=>exact⟨0,_,_,[],by omega,rfl,rfl,HM0.o,bR.o⟩
 case round =>
  obtain⟨i,lab,vS,hs',hi,rfl,hsame,dG,ek⟩:=hrel;clear HM0 bR;have hsl:hs'.length=i:=by
   have:=congrArg List.length hsame;rw[List.length_map,List.length_map,List.length_take] at this;omega
  obtain⟨aS,cS,eS,_⟩:=aN dG.ak;have eS:vS=.slice aS hs'.length cS:=eS;rw[hsl] at eS;subst eS;have hcl:cb<wr.heap.size:=dG.lt;have pN:Below w.heap.size w wr:=DC.o _ ek;have hk1:=Cv.o _ ek;by_cases hlt:i<k.ak.length
  · have x0:wr.cell? (Ad w.heap.size 0)=some (.slice a.aS k.ak.length a.cS):=B.cell hk1 0 rfl;have H6:(i:Int)<(k.ak.length:Int):=by omega
    obtain⟨sB,sO,e1,z0,z1,z2,hfl⟩:=DV.o wr i pN hlt;rw[e1] at x0;have HFY:Hid (∀V,Below w.heap.size w V->From V (LM.aY k.ak i).ao (LM.aY k.ak i).bg.length ((LM.aY k.ak i).bg.flatMap fP)):=fun V hV=>I9.o V i hV hlt
    have vq:Hid (∀s,LM.plain s=LM.plain (LM.aY k.ak i)->KM.Same (k.ak.take (i+1)) (hs'++[s])):=fun s hp=>K7 hsame hlt hp
    obtain⟨s,JM⟩:=ex (LM.aY k.ak i);rw[<- JM] at z0 z1 z2 hfl HFY vq;obtain⟨pg,dt,fx,ao,cap⟩:=s;simp only at z0 z1 z2 hfl HFY vq;obtain⟨WS,hWS⟩:=ex (wr.alloc (.cells #[I pg,.string dt,.slice ao fx.length cap] 50));have hbS:Below wr.heap.size wr WS:=by rw[hWS];exact(Below.refl _ _).alloc (Nat.le_refl _) _
    have hzS:WS.heap.size=wr.heap.size+1:=by rw[hWS];exact World.size_alloc _ _
    have BS:WS.heap[wr.heap.size]?=some (.cells #[I pg,.string dt,.slice ao fx.length cap] 50 (0,0)):=by rw[hWS];exact B.new _ _ _
    have s2:WS.cell? (Ad wr.heap.size 2)=some (.slice ao fx.length cap):=B.cell BS 2 rfl;have s2':(WS.alloc (.cells #[] 52)).cell? (Ad wr.heap.size 2)=some (.slice ao fx.length cap):=B.cell (B.alloc BS _) 2 rfl;have XK:Hid ((WS.alloc (.cells #[] 52)).ownsRow wr.heap.size 52 2 (.slice (some (Ad WS.heap.size 0)) 0 0) 0 []):=Za hbS.size _ _;have HFW:Hid (From (WS.alloc (.cells #[] 52)) ao fx.length (fx.flatMap fP)):=HFY.o _ ((pN.trans (hbS.mono pN.size)).alloc (Nat.le_trans pN.size hbS.size) _);have HLX:=ai (bK fP 2 (fun _=>rfl) fx);have HSZ:Hid (wr.heap.size<=(WS.alloc (.cells #[] 52)).heap.size):=by show _<=_;rw[World.size_alloc];omega
    have HST:Hid (∀wX aX cX,wX.ownsRow wr.heap.size 52 2 (.slice aX fx.length cX) fx.length ([]++fx.flatMap fP)->(WS.alloc (.cells #[] 52)).grownBy wX (some WS.heap.size)->((Value.slice aX fx.length cX).ownBlock=some WS.heap.size∨(Value.slice aX fx.length cX).ownBlock=some (WS.alloc (.cells #[] 52)).heap.size)->wX.cell? (Ad wr.heap.size 2)=some (.slice ao fx.length cap)/\wX.frozen? (Ad wr.heap.size 2)=false/\Below wr.heap.size wr (wX.setCell (Ad wr.heap.size 2) (.slice aX fx.length cX))/\(wX.setCell (Ad wr.heap.size 2) (.slice aX fx.length cX)).heap[wr.heap.size]?=some (.cells #[I pg,.string dt,.slice aX fx.length cX] 50 (0,0))/\(wX.setCell (Ad wr.heap.size 2) (.slice aX fx.length cX)).ownsRow wr.heap.size 52 2 (.slice aX fx.length cX) fx.length (fx.flatMap fP)):=fun wX aX cX h1 h2 h3=>TN hbS hzS BS h1 h2 h3
    have Al:Hid (∀V O,Below wr.heap.size wr V->(V.alloc O).ownsRow cb 50 3 (.slice aS i cS) i (hs'.flatMap eN)):=fun V O hV=>by
     have:=((Kp.bc (D:=fun _=>False) hV).trans (Kp.alloc _ V O) (fun _ _ g=>g)).row dG.ak (fun _ _ g=>g);have:(V.alloc O).ownsRow cb 50 3 (.slice aS i cS) hs'.length (hs'.flatMap eN):=this;rw[hsl] at this;exact this
    have Gr:Hid (∀W6 wG O v' aX cX,Below wr.heap.size wr W6->W6.ownsRow wr.heap.size 52 2 (.slice aX fx.length cX) fx.length (fx.flatMap fP)->(W6.alloc O).grownBy wG (Value.slice aS i cS).ownBlock->wG.ownsRow cb 50 3 v' (i+1) (hs'.flatMap eN++eN ⟨pg,dt,fx,aX,cX⟩)->(v'.ownBlock=(Value.slice aS i cS).ownBlock∨v'.ownBlock=some (W6.alloc O).heap.size)->wG.cell? (Ad cb 0)=some (.slice aS i cS)/\wG.frozen? (Ad cb 0)=false/\(∃lab',Km cb cb 27 [] (wG.setCell (Ad cb 0) v') ⟨lab',v',Nl,Nl,Nl,[]⟩ ⟨hs'++[⟨pg,dt,fx,aX,cX⟩],[],[],[],k.hand⟩)/\Below cb WA (wG.setCell (Ad cb 0) v')):=fun W6 wG O v' aX cX h1 h2 h3 h4 h5=>by
     have m1:=dG.Y2 (s:=⟨pg,dt,fx,aX,cX⟩) (Nat.le_of_lt hcl) h1 h2 h3 (by rw[show(KM.Kn.mk hs' [] [] [] k.hand).ak.length=i from hsl];exact h4) h5;have WG:wG.heap[cb]?=some (.cells #[.slice aS i cS,Nl,Nl,Nl,I k.hand] 27 (0,0)):=(((Kp.bc (D:=blk (.slice aS i cS)) h1).trans (Kp.alloc _ W6 O) (fun _ _ g=>g)).trans (Kp.grown h3 (fun _ e=>e)) (fun _ _ g=>g)).keep dG.head (fun x=>by have:=dG.lS cb x;rw[dG.lH] at this;simp at this);refine⟨B.cell WG 0 rfl,B.free WG 0,⟨_,m1.1⟩,?_⟩;exact Kp.below ek m1.2 (Nat.le_of_lt hcl) (fun b hb=>(dG.iJ b hb).1)
    have HC6:Hid (∀V,Below wr.heap.size wr V->V.cell? (Ad cb 0)=some (.slice aS i cS)):=fun V hV=>(dG.below hV).c0
    have HWS:=ai hWS;have als:=ai hzS;clear dG ek pN hk1 hsame JM hWS hbS BS HFY DV hsl hzS;go_upto_region 6 with fail;rw[<- HWS.o];go_upto_region 7 with(at_builtin;refine bO (P:=Tryz.prog) rfl _ _ 48 rfl wr.heap.size 52 ix (.agg #[I 0,.string ⟨#[]⟩]) 2 24 Tryz.underlying48 afH.o afG.o afF.o afE.o rfl (by decide) (.slice (some (Ad WS.heap.size 0)) 0 0) 0 [] (by rfl) XK.o ao fx.length cap (fx.flatMap fP) (by rfl) HLX.o HFW.o (Ih _) (by unfold maxLen;omega) (by omega) HSZ.o ?_;intro vX wX hoX hgX haX;rw[Nat.zero_add] at hoX;obtain⟨aX,cX,hvX,_,_⟩:=aN hoX;subst hvX;obtain⟨y0,y1,uw,h6,BG⟩:=HST.o _ _ _ hoX hgX haX;have Gc:=ai uw;have HH6:=ai h6;have HR6:=ai BG;clear hoX hgX haX uw h6 BG)
    obtain⟨W6,hW6⟩:=ex (wX.setCell (Ad wr.heap.size 2) (.slice aX fx.length cX));rw[<- hW6] at Gc HH6 HR6 ⊢;have q0:W6.cell? (Ad wr.heap.size 0)=some (I pg):=B.cell HH6.o 0 rfl;have q1:W6.cell? (Ad wr.heap.size 1)=some (.string dt):=B.cell HH6.o 1 rfl;have q2:W6.cell? (Ad wr.heap.size 2)=some (.slice aX fx.length cX):=B.cell HH6.o 2 rfl;have q3:W6.cell? (Ad cb 0)=some (.slice aS i cS):=HC6.o _ Gc.o;have HZ6:Hid (∀O,cb<=(W6.alloc O).heap.size):=fun O=>by rw[World.size_alloc];have:=Gc.o.size;omega
    clear hW6 HST XK HFW HSZ y0 y1 s2 s2' x0 z0 z1 z2;go_wp2_with (at_builtin;refine bO (P:=Tryz.prog) rfl _ _ 22 rfl cb 50 ih (.agg #[I 0,.string ⟨#[]⟩,Nl]) 3 48 Tryz.underlying22 afR.o afQ.o afP.o afO.o rfl (by decide) (.slice aS i cS) i (hs'.flatMap eN) (by rfl) (Al.o _ _ Gc.o) (some (Ad W6.heap.size 0)) 1 1 (eN ⟨pg,dt,fx,aX,cX⟩) (by rfl) rfl (fun _=>⟨_,rfl,qL W6 _ _⟩) (NP _) (by unfold maxLen;omega) (by omega) (HZ6.o _) ?_;intro vG wG qR s6 ux;obtain⟨aG,cG,C9,_,_⟩:=aN qR;subst C9;obtain⟨p0,p1,hp2,Pb⟩:=Gr.o _ _ _ _ _ _ Gc.o HR6.o s6 qR ux;have s8:=ai hp2;have uk:=ai Pb;clear qR s6 ux hp2 Pb)
    go_roundw
    case rel =>
     obtain⟨lab',h1⟩:=s8.o;refine⟨_,?_,?_,lab',_,_,vq.o ⟨pg,dt,fx,aX,cX⟩ rfl,h1,uk.o⟩
     · omega
     · go_num
    case measure=>simp[intOf];omega
  · obtain rfl:i=k.ak.length:=by omega
    rw[List.take_length] at hsame;have RX:=ai hsame;have x1:wr.cell? (Ad w.heap.size 1)=some (.slice a.aF k.frames.length a.cF):=B.cell hk1 1 rfl;have x0:wr.cell? (Ad w.heap.size 0)=some (.slice a.aS k.ak.length a.cS):=B.cell hk1 0 rfl;have y1:wr.cell? (Ad cb 1)=some Nl:=dG.c1;have HFF:=ai (ru.o _ pN);have HNF:Hid (∀w1 v',wr.grownBy w1 none->w1.ownsRow cb 40 4 v' k.frames.length (k.frames.flatMap bJ)->(v'.ownBlock=none∨v'.ownBlock=some wr.heap.size)->w1.cell? (Ad cb 1)=some Nl/\w1.frozen? (Ad cb 1)=false/\(∃lab',Km cb cb 27 [] (w1.setCell (Ad cb 1) v') ⟨lab',.slice aS k.ak.length cS,v',Nl,Nl,[]⟩ ⟨hs',k.frames,[],[],k.hand⟩)/\Below cb WA (w1.setCell (Ad cb 1) v')):=fun w1 v' h1 h2 h3=>by
     have m1:=dG.adb h1 h2 h3;have hh:=(Kp.grown (D:=fun _=>False) h1 (fun _ e=>nomatch e)).keep dG.head (fun g=>g);refine⟨B.cell hh 1 rfl,B.free hh 1,⟨_,m1.1⟩,?_⟩;exact Kp.below ek m1.2 (Nat.le_of_lt hcl) (fun b hb=>(dG.iJ b hb).1)
    clear dG ek pN hk1 hsame DV I9 hlt;go_upto_region 9 with(at_builtin;refine bO (P:=Tryz.prog) rfl _ _ 23 rfl cb 40 jf (.agg #[.string ⟨#[]⟩,I 0,.bool false,.bool false]) 4 32 Tryz.underlying23 afV.o afU.o afT.o afS.o rfl (by decide) Nl 0 [] (by rfl) (World.ownsRow_nil _ _ _ _) a.aF k.frames.length a.cF (k.frames.flatMap bJ) (by rfl) UI.o HFF.o (Ii _) (by unfold maxLen;omega) (by omega) (Nat.le_of_lt hcl) ?_;intro vF w1 hoF hgF haF;rw[Nat.zero_add,List.nil_append] at hoF;obtain⟨aF,cF,hvF,_,_⟩:=aN hoF;subst hvF;obtain⟨p0,p1,hp2,Pb⟩:=HNF.o _ _ hgF hoF haF;have s8:=ai hp2;have uk:=ai Pb;clear hoF hgF haF hp2 Pb)
    obtain⟨W8,hW8⟩:=ex (w1.setCell (Ad cb 1) (.slice aF k.frames.length cF));rw[<- hW8] at s8 uk ⊢;obtain⟨ajv,dG⟩:=s8.o;have ek:=uk.o;have pN:Below w.heap.size w W8:=DC.o _ ek;have hk1:=Cv.o _ ek;have Z3:cb<W8.heap.size:=dG.lt;have x2:W8.cell? (Ad w.heap.size 2)=some (.slice a.aL k.slots.length a.cL):=B.cell hk1 2 rfl;have y2:W8.cell? (Ad cb 2)=some Nl:=dG.c2;have Nh:=ai (DX.o _ pN);have HNL:Hid (∀w1 v',W8.grownBy w1 none->w1.ownsRow cb 86 2 v' k.slots.length (k.slots.flatMap bI)->(v'.ownBlock=none∨v'.ownBlock=some W8.heap.size)->w1.cell? (Ad cb 2)=some Nl/\w1.frozen? (Ad cb 2)=false/\(∃lab',Km cb cb 27 [] (w1.setCell (Ad cb 2) v') ⟨lab',.slice aS k.ak.length cS,.slice aF k.frames.length cF,v',Nl,[]⟩ ⟨hs',k.frames,k.slots,[],k.hand⟩)/\Below cb WA (w1.setCell (Ad cb 2) v')):=fun w1 v' h1 h2 h3=>by
     have m1:=dG.ada h1 h2 h3;have hh:=(Kp.grown (D:=fun _=>False) h1 (fun _ e=>nomatch e)).keep dG.head (fun g=>g);refine⟨B.cell hh 2 rfl,B.free hh 2,⟨_,m1.1⟩,?_⟩;exact Kp.below ek m1.2 (Nat.le_of_lt Z3) (fun b hb=>(dG.iJ b hb).1)
    clear dG ek pN hk1 hW8 s8 uk HNF HFF p0 p1 x0 x1 y1;go_upto_region 10 with(at_builtin;refine bO (P:=Tryz.prog) rfl _ _ 24 rfl cb 86 jl (.agg #[.string ⟨#[]⟩,I 0]) 2 24 Tryz.underlying24 afN.o afM.o afL.o afK.o rfl (by decide) Nl 0 [] (by rfl) (World.ownsRow_nil _ _ _ _) a.aL k.slots.length a.cL (k.slots.flatMap bI) (by rfl) UG.o Nh.o (GJ _) (by unfold maxLen;omega) (by omega) (Nat.le_of_lt Z3) ?_;intro vL w2 hoL hgL haL;rw[Nat.zero_add,List.nil_append] at hoL;obtain⟨aL,cL,hvL,_,_⟩:=aN hoL;subst hvL;obtain⟨p0,p1,hp2,Pb⟩:=HNL.o _ _ hgL hoL haL;have s8:=ai hp2;have uk:=ai Pb;clear hoL hgL haL hp2 Pb)
    obtain⟨W9,hW9⟩:=ex (w2.setCell (Ad cb 2) (.slice aL k.slots.length cL));rw[<- hW9] at s8 uk ⊢;clear hW9 p0 p1 x2 y2 HNL Nh;go_wp2;go_loopw [6] (fun iv wq=>∃(m:Nat) (S:St),m<=k.aj.length/\iv=I (m:Int)/\Km cb cb 27 [] wq S (KM.aT ⟨k.ak,k.frames,k.slots,k.aj.take m,k.hand⟩ hs')/\Below cb WA wq) (fun iv _=>k.aj.length-(intOf iv).toNat)
    case atStart =>
     obtain⟨aju,h9⟩:=s8.o;exact⟨0,_,by omega,rfl,h9,uk.o⟩
    case round =>
     obtain⟨m,S,hm,rfl,dG,ek⟩:=hrel;clear s8 uk;have hcl:cb<wr.heap.size:=dG.lt;have pN:Below w.heap.size w wr:=DC.o _ ek;have hk1:=Cv.o _ ek;by_cases o6:m<k.aj.length
     · have Yv:(m:Int)<(k.aj.length:Int):=by omega
       have x3:wr.cell? (Ad w.heap.size 3)=some (.slice a.aP k.aj.length a.cP):=B.cell hk1 3 rfl;obtain⟨pb,po,hpo,hpl,Ah⟩:=VH.o (by omega);rw[hpo] at x3;obtain⟨va,ap,cp,v0,v1,v2,Po,BQ,_⟩:=Ah m o6;have ng:=Po;obtain⟨aa,ca,sI,_⟩:=Po;subst sI;have z0:=(pN.cell (p:=(Ad pb (po+m*3))) hpl).trans v0;have z1:=(pN.cell (p:=(Ad pb (po+m*3+1))) hpl).trans v1;have z2:=(pN.cell (p:=(Ad pb (po+m*3+2))) hpl).trans v2;have har:=Yj.o m o6;have hen:=iy.o m o6;have htk:=CF k.aj m o6;obtain⟨sp,hsp⟩:=ex (KM.au k.aj m);rw[<- hsp] at z0 z1 z2 har hen htk ng BQ;obtain⟨lv,iu,gj⟩:=sp;simp only at z0 z1 z2 har hen ng BQ;obtain⟨na,nZ⟩:=ex iu.length;obtain⟨np,LV⟩:=ex gj.length;rw[<- nZ] at z1 har ng;rw[<- LV] at z2 hen;have HNA:=ai nZ;have UD:=ai LV;have hLl:S.L.length<=1000000:=by have:=dG.len;have e:(KM.aT ⟨k.ak,k.frames,k.slots,k.aj.take m,k.hand⟩ hs').aj.length=(k.aj.take m).length:=rfl;rw[e,List.length_take] at this;omega
       obtain⟨v,hv⟩:=ex S.vP;obtain⟨WB,xP⟩:=ex (wr.alloc (.cells #[.bool lv,.slice aa na ca,.slice ap np cp] 43));have hbL:Below wr.heap.size wr WB:=by rw[xP];exact(Below.refl _ _).alloc (Nat.le_refl _) _
       have BL:WB.heap[wr.heap.size]?=some (.cells #[.bool lv,.slice aa na ca,.slice ap np cp] 43 (0,0)):=by rw[xP];exact B.new _ _ _
       have Yx:=dG.below hbL;have hlB:cb<=WB.heap.size:=Nat.le_trans (Nat.le_of_lt hcl) hbL.size;have nH:¬blk v cb:=fun g=>by rw[hv] at g;have:=dG.lP _ g;rw[dG.lH] at this;simp at this
       have nS:¬blk v wr.heap.size:=fun g=>by rw[hv] at g;have:=(dG.aj.lt _ g).2;omega
       have eQ:Hid (∀V,Kp (fun b=>blk v b) WB V->V.cell? (Ad cb 3)=some v/\V.cell? (Ad wr.heap.size 0)=some (.bool lv)/\V.cell? (Ad wr.heap.size 1)=some (.slice aa na ca)/\V.cell? (Ad wr.heap.size 2)=some (.slice ap np cp)):=fun V hV=>by
        have b1:=hV.keep Yx.head nH;have b2:=hV.keep BL nS;refine⟨?_,B.cell b2 0 rfl,B.cell b2 1 rfl,B.cell b2 2 rfl⟩;rw[hv];exact B.cell b1 3 rfl
       have MH:Hid (∀V,Kp (fun b=>blk v b) WB V->V.frozen? (Ad cb 3)=false):=fun V hV=>B.free (hV.keep Yx.head nH) 3
       have gG:Hid (Kp (fun b=>blk v b) WB WB.drew):=Kp.drew _ _;have zZ:Hid (∀V,Below WB.heap.size WB V->Kp (fun b=>blk v b) WB V):=fun V h=>Kp.bc h
       have VJ:Hid (∀V,Kp (fun b=>blk v b) WB V->Below w.heap.size w V):=fun V hV=>Kp.below (pN.trans (hbL.mono pN.size)) hV (Nat.le_trans pN.size hbL.size) (fun g hg=>by rw[hv] at hg;have:=(dG.aj.lt g hg).1;have:=HWC.o;omega)
       have om:Hid (∀V,Kp (fun b=>blk v b) WB V->From V aa na (AM.bk iu)):=fun V hV=>(KS.zU (ng.below (VJ.o V hV))).2
       have I8:Hid ((AM.bk iu).length=na*4):=by show _=_;rw[nZ];exact AM.kU _
       have XG:Hid (∀u∈AM.bk iu,u.oneCell'=true):=AM.jt _;have pG:Hid (∀V,Kp (fun b=>blk v b) WB V->From V ap np (gj.flatMap aK)):=fun V hV=>by rw[UD.o];exact fF (f:=aK) (n:=3) (fun _=>rfl) (BQ.below (VJ.o V hV))
       have xH:Hid ((gj.flatMap aK).length=np*3):=by show _=_;rw[UD.o];exact bK aK 3 (fun _=>rfl) _
       have og:Hid (∀u∈gj.flatMap aK,u.oneCell'=true):=Xd _;have Al:Hid (∀w2 o,Below WB.heap.size WB w2->(w2.alloc o).ownsRow cb 43 3 v S.L.length (S.L.flatMap bw)):=fun w2 o hb=>by
        have:=((Kp.bc (D:=fun _=>False) hb).trans (Kp.alloc _ w2 o) (fun _ _ g=>g)).row Yx.aj (fun _ _ g=>g);rw[hv];exact this
       have Gr:Hid (∀w2 w4 O v' l,Below WB.heap.size WB w2->cJ WB.heap.size w2 l ⟨lv,iu,gj⟩->(∀b,blk l.vp b->¬blk l.va b)->(w2.alloc O).grownBy w4 v.ownBlock->w4.ownsRow cb 43 3 v' (S.L.length+1) (S.L.flatMap bw++bw l)->(v'.ownBlock=v.ownBlock∨v'.ownBlock=some (w2.alloc O).heap.size)->∃S',Km cb cb 27 [] (w4.setCell (Ad cb 3) v') S' (KM.aT ⟨k.ak,k.frames,k.slots,k.aj.take (m+1),k.hand⟩ hs')/\Below cb WA (w4.setCell (Ad cb 3) v')):=fun w2 w4 O v' l h1 h2 h3 h4 h5 h6=>by
        rw[hv] at h4 h6;have m1:=Yx.push hlB h1 h2 h3 h4 h5 h6;have m2:=m1.1;rw[htk];have Aj:=ek.trans (hbL.mono (Nat.le_of_lt hcl));exact⟨_,m2,Kp.below Aj m1.2.2 hlB (fun b hb=>(Yx.iJ b hb).1)⟩
       have Uv:=ai xP;clear dG Yx ek pN hk1 v0 v1 v2 ng BQ htk hsp xP hbL BL Ah nZ LV nH nS hv hpo;go_upto_region 14 with fail;rw[<- Uv.o];refine GZ.sW (S:=fun V=>Kp (fun b=>blk v b) WB V) (z:=16) (by kernel_rfl) ?_;refine GZ.tk 0 gG.o ?_ ?_ ?_;rotate_left 1
       · intro V hSw;obtain⟨k0,k1,k2,k3⟩:=eQ.o V hSw;go_simp
         try with_reducible rfl
       refine GZ.tk 1 gG.o ?_ ?_ ?_;rotate_left 1
       · intro V hSw;obtain⟨k0,k1,k2,k3⟩:=eQ.o V hSw;go_simp
         try with_reducible rfl
       refine GZ.tk 2 gG.o ?_ ?_ ?_;rotate_left 1
       · intro V hSw;obtain⟨k0,k1,k2,k3⟩:=eQ.o V hSw;go_simp
         try with_reducible rfl
       refine GZ.tk 3 gG.o ?_ ?_ ?_;rotate_left 1
       · intro V hSw;obtain⟨k0,k1,k2,k3⟩:=eQ.o V hSw;go_simp
         try with_reducible rfl
       refine GZ.tk 5 gG.o ?_ ?_ ?_;rotate_left 1
       · intro V hSw;obtain⟨k0,k1,k2,k3⟩:=eQ.o V hSw;go_simp
         try with_reducible rfl
       refine GZ.tk 6 gG.o ?_ ?_ ?_;rotate_left 1
       · intro V hSw;obtain⟨k0,k1,k2,k3⟩:=eQ.o V hSw;go_simp
         try with_reducible rfl
       refine GZ.tk 9 gG.o ?_ ?_ ?_;rotate_left 1
       · intro V hSw;obtain⟨k0,k1,k2,k3⟩:=eQ.o V hSw;go_simp
         try with_reducible rfl
       refine GZ.tk 10 gG.o ?_ ?_ ?_;rotate_left 1
       · intro V hSw;obtain⟨k0,k1,k2,k3⟩:=eQ.o V hSw;go_simp
         try with_reducible rfl
       refine GZ.all (rs:=[4,8]) (by kernel_rfl) (by simp) ?_;refine GZ.bl.cons rfl (fun K hK=>?_) ?_
       · go_simp;refine hK.out _ _ (fun _=>?_) ?_
         · exact zZ.o _ (al1 WB _)
         clear hK K
         try simp only[Act.put,List.setIfInBounds_toArray,List.set_cons_zero,List.set_cons_succ]
         refine GZ.all (rs:=[7,8]) (by kernel_rfl) (by simp) ?_;refine GZ.bl.cons rfl (fun K hK=>?_) ?_
         · rw[if_pos (by rfl)];refine df (P:=Tryz.prog) _ _ 28 rfl WB.heap.size 47 ia (.agg #[I 0,I 0,I 0,.bool false]) 4 32 Tryz.underlying28 Ya.o XZ.o XY.o XX.o rfl (by decide) (.slice (some (Ad WB.heap.size 0)) 0 0) 0 [] rfl (mk1 WB _ _) aa na ca (AM.bk iu) rfl I8.o (om.o _ (zZ.o _ (al1 WB _))) XG.o (by unfold maxLen;omega) (by omega) (by first | omega | (simp;done) | (simp;omega)) ?_;intro vC wC JO Vk WU;rw[Nat.zero_add] at JO;obtain⟨aC,cC,Zo,_,_⟩:=aN JO;subst Zo;have D6:Hid (Below WB.heap.size WB wC):=nJ (al1 WB _) (Nat.le_refl _) Vk (fun g hg=>by have hg':some WB.heap.size=some g:=hg;injection hg' with hg';exact Nat.le_of_eq hg');have Uy:=ai JO;clear JO Vk WU;refine hK.out _ _ (fun _=>?_) ?_
           · exact zZ.o _ D6.o
           clear hK K
           try simp only[Act.put,List.setIfInBounds_toArray,List.set_cons_zero,List.set_cons_succ]
           refine GZ.all (rs:=[8]) (by kernel_rfl) (by simp) ?_;refine GZ.bl.cons rfl (fun K hK=>?_) ?_
           · go_simp;refine hK.out _ _ (fun _=>?_) ?_
             · exact zZ.o _ (D6.o.alloc D6.o.size _)
             clear hK K
             try simp only[Act.put,List.setIfInBounds_toArray,List.set_cons_zero,List.set_cons_succ]
             refine GZ.all (rs:=[11]) (by kernel_rfl) (by simp) ?_;refine GZ.bl.cons rfl (fun K hK=>?_) ?_
             · rw[if_pos (by rfl)];refine df (P:=Tryz.prog) _ _ 41 rfl WB.heap.size 45 ip (.agg #[I 0,I 0,I 0]) 3 24 Tryz.underlying41 XV.o XU.o XT.o XR.o rfl (by decide) (.slice (some (Ad wC.heap.size 0)) 0 0) 0 [] rfl (Za D6.o.size _ _) ap np cp (gj.flatMap aK) rfl xH.o (pG.o _ (zZ.o _ (D6.o.alloc D6.o.size _))) og.o (by unfold maxLen;omega) (by omega) (by rw[World.size_alloc];have:=D6.o.size;omega) ?_;intro vE wE JN Vj Vr;rw[Nat.zero_add] at JN;obtain⟨aE,cE,Zn,_,_⟩:=aN JN;subst Zn;have pK:=ai (NH (D6.o.alloc D6.o.size _) (Nat.le_refl _) (Kp.row (Kp.alloc (fun _=>False) wC _) Uy.o (fun _ _ g=>g)) D6.o.size (fun b hb=>Nat.ne_of_lt (Uy.o.lt b hb).2) Vj Vr);clear D6 Uy;have QH:=ai (zZ.o _ pK.o.1);have m6:=ai JN;clear JN Vj Vr;refine hK.out _ _ (fun _=>?_) ?_
               · exact QH.o
               clear hK K
               try simp only[Act.put,List.setIfInBounds_toArray,List.set_cons_zero,List.set_cons_succ]
               refine GZ.tk 12 QH.o ?_ ?_ ?_;rotate_left 1
               · intro V hSw;obtain⟨k0,k1,k2,k3⟩:=eQ.o V hSw;go_simp
                 try with_reducible rfl
               refine GZ.all (rs:=[13]) (by kernel_rfl) (by simp) ?_;refine GZ.bl.cons rfl (fun K hK=>?_) ?_
               · go_simp;refine hK.out _ _ (fun _=>?_) ?_
                 · exact zZ.o _ (pK.o.1.alloc pK.o.1.size _)
                 clear hK K
                 try simp only[Act.put,List.setIfInBounds_toArray,List.set_cons_zero,List.set_cons_succ]
                 refine GZ.all (rs:=[14]) (by kernel_rfl) (by simp) ?_;refine GZ.bl.cons rfl (fun K hK=>?_) ?_
                 · rw[if_pos (by rfl)];refine df (P:=Tryz.prog) _ _ 25 rfl cb 43 is (.agg #[.bool false,Nl,Nl]) 3 56 Tryz.underlying25 XQ.o XO.o XN.o XM.o rfl (by decide) (v) S.L.length (S.L.flatMap bw) rfl (Al.o _ _ pK.o.1) (some (Ad wE.heap.size 0)) 1 1 (bw ⟨lv,.slice aC na cC,.slice aE np cE⟩) rfl rfl (fun _=>⟨_,rfl,qL wE _ _⟩) (Hm _ _ _ _ _ _ _) (by unfold maxLen;omega) (by omega) (by rw[World.size_alloc];have:=pK.o.1.size;omega) ?_;intro vG wG qR s6 ux;obtain⟨aG,cG,C9,_,_⟩:=aN qR;subst C9;have UB:=ai (Gr.o wE wG _ _ ⟨lv,.slice aC na cC,.slice aE np cE⟩ pK.o.1 (Ib pK.o.2.1 m6.o UD.o HNA.o) pK.o.2.2 s6 qR ux);have pP:Hid (Kp (fun b=>blk v b) WB wG):=(zZ.o _ (pK.o.1.alloc pK.o.1.size _)).trans (Kp.grown s6 (fun _ e=>e)) (fun _ _ g=>g);have hoc:=(eQ.o wG pP.o).1;have hof:wG.frozen? (Ad cb 3)=false:=MH.o wG pP.o;clear qR s6 ux pK QH m6;refine hK.out _ _ (fun _=>?_) ?_
                   · exact pP.o
                   clear hK K
                   try simp only[Act.put,List.setIfInBounds_toArray,List.set_cons_zero,List.set_cons_succ]
                   refine GZ.tk 15 pP.o ?_ ?_ ?_;rotate_left 1
                   · intro V hSw;obtain⟨k0,k1,k2,k3⟩:=eQ.o V hSw;go_simp
                     try with_reducible rfl
                   refine GZ.all (rs:=[16]) (by kernel_rfl) (by simp) ?_;refine GZ.bl.cons rfl (fun K hK=>?_) GZ.bl.nil;go_simp;refine hK.out _ _ (fun g=>absurd rfl g) ?_;refine GZ.done (by kernel_rfl) ?_ _;go_wp2;go_roundw
                   case rel =>
                    obtain⟨S',h1,h2⟩:=UB.o;exact⟨m+1,S',by omega,by go_num,h1,h2⟩
                   case measure=>simp[intOf];omega
                 exact GZ.bl.nil
               exact GZ.bl.nil
             exact GZ.bl.nil
           exact GZ.bl.nil
         refine GZ.bl.cons rfl (fun K hK=>?_) ?_
         · go_simp;refine hK.out _ _ (fun _=>?_) ?_
           · exact zZ.o _ (YE WB _ _)
           clear hK K
           try simp only[Act.put,List.setIfInBounds_toArray,List.set_cons_zero,List.set_cons_succ]
           refine GZ.all (rs:=[7]) (by kernel_rfl) (by simp) ?_;refine GZ.bl.cons rfl (fun K hK=>?_) ?_
           · rw[if_pos (by rfl)];refine df (P:=Tryz.prog) _ _ 28 rfl WB.heap.size 47 ia (.agg #[I 0,I 0,I 0,.bool false]) 4 32 Tryz.underlying28 Ya.o XZ.o XY.o XX.o rfl (by decide) (.slice (some (Ad WB.heap.size 0)) 0 0) 0 [] rfl (mk2 WB _ _ _) aa na ca (AM.bk iu) rfl I8.o (om.o _ (zZ.o _ (YE WB _ _))) XG.o (by unfold maxLen;omega) (by omega) (by first | omega | (simp;done) | (simp;omega)) ?_;intro vC wC JO Vk WU;rw[Nat.zero_add] at JO;obtain⟨aC,cC,Zo,_,_⟩:=aN JO;subst Zo;have I6:=ai (U5 (GB:=WB.heap.size) (GD:=WB.heap.size+1) (YE WB _ _) (Nat.le_refl _) (mk3 WB _ _ 3) (by omega) (by omega) Vk WU);have Uy:=ai JO;clear JO Vk WU;refine hK.out _ _ (fun _=>?_) ?_
             · exact zZ.o _ I6.o.1
             clear hK K
             try simp only[Act.put,List.setIfInBounds_toArray,List.set_cons_zero,List.set_cons_succ]
             refine GZ.all (rs:=[11]) (by kernel_rfl) (by simp) ?_;refine GZ.bl.cons rfl (fun K hK=>?_) ?_
             · rw[if_pos (by rfl)];refine df (P:=Tryz.prog) _ _ 41 rfl WB.heap.size 45 ip (.agg #[I 0,I 0,I 0]) 3 24 Tryz.underlying41 XV.o XU.o XT.o XR.o rfl (by decide) (.slice (some (Ad (WB.heap.size+1) 0)) 0 0) 0 [] rfl I6.o.2.1 ap np cp (gj.flatMap aK) rfl xH.o (pG.o _ (zZ.o _ I6.o.1)) og.o (by unfold maxLen;omega) (by omega) I6.o.1.size ?_;intro vE wE JN Vj Vr;rw[Nat.zero_add] at JN;obtain⟨aE,cE,Zn,_,_⟩:=aN JN;subst Zn;have pK:=ai (NH I6.o.1 (Nat.le_refl _) Uy.o (by first | exact Nat.le_refl _ | exact Nat.le_succ _) I6.o.2.2 Vj Vr);clear I6 Uy;have QH:=ai (zZ.o _ pK.o.1);have m6:=ai JN;clear JN Vj Vr;refine hK.out _ _ (fun _=>?_) ?_
               · exact QH.o
               clear hK K
               try simp only[Act.put,List.setIfInBounds_toArray,List.set_cons_zero,List.set_cons_succ]
               refine GZ.tk 12 QH.o ?_ ?_ ?_;rotate_left 1
               · intro V hSw;obtain⟨k0,k1,k2,k3⟩:=eQ.o V hSw;go_simp
                 try with_reducible rfl
               refine GZ.all (rs:=[13]) (by kernel_rfl) (by simp) ?_;refine GZ.bl.cons rfl (fun K hK=>?_) ?_
               · go_simp;refine hK.out _ _ (fun _=>?_) ?_
                 · exact zZ.o _ (pK.o.1.alloc pK.o.1.size _)
                 clear hK K
                 try simp only[Act.put,List.setIfInBounds_toArray,List.set_cons_zero,List.set_cons_succ]
                 refine GZ.all (rs:=[14]) (by kernel_rfl) (by simp) ?_;refine GZ.bl.cons rfl (fun K hK=>?_) ?_
                 · rw[if_pos (by rfl)];refine df (P:=Tryz.prog) _ _ 25 rfl cb 43 is (.agg #[.bool false,Nl,Nl]) 3 56 Tryz.underlying25 XQ.o XO.o XN.o XM.o rfl (by decide) (v) S.L.length (S.L.flatMap bw) rfl (Al.o _ _ pK.o.1) (some (Ad wE.heap.size 0)) 1 1 (bw ⟨lv,.slice aC na cC,.slice aE np cE⟩) rfl rfl (fun _=>⟨_,rfl,qL wE _ _⟩) (Hm _ _ _ _ _ _ _) (by unfold maxLen;omega) (by omega) (by rw[World.size_alloc];have:=pK.o.1.size;omega) ?_;intro vG wG qR s6 ux;obtain⟨aG,cG,C9,_,_⟩:=aN qR;subst C9;have UB:=ai (Gr.o wE wG _ _ ⟨lv,.slice aC na cC,.slice aE np cE⟩ pK.o.1 (Ib pK.o.2.1 m6.o UD.o HNA.o) pK.o.2.2 s6 qR ux);have pP:Hid (Kp (fun b=>blk v b) WB wG):=(zZ.o _ (pK.o.1.alloc pK.o.1.size _)).trans (Kp.grown s6 (fun _ e=>e)) (fun _ _ g=>g);have hoc:=(eQ.o wG pP.o).1;have hof:wG.frozen? (Ad cb 3)=false:=MH.o wG pP.o;clear qR s6 ux pK QH m6;refine hK.out _ _ (fun _=>?_) ?_
                   · exact pP.o
                   clear hK K
                   try simp only[Act.put,List.setIfInBounds_toArray,List.set_cons_zero,List.set_cons_succ]
                   refine GZ.tk 15 pP.o ?_ ?_ ?_;rotate_left 1
                   · intro V hSw;obtain⟨k0,k1,k2,k3⟩:=eQ.o V hSw;go_simp
                     try with_reducible rfl
                   refine GZ.all (rs:=[16]) (by kernel_rfl) (by simp) ?_;refine GZ.bl.cons rfl (fun K hK=>?_) GZ.bl.nil;go_simp;refine hK.out _ _ (fun g=>absurd rfl g) ?_;refine GZ.done (by kernel_rfl) ?_ _;go_wp2;go_roundw
                   case rel =>
                    obtain⟨S',h1,h2⟩:=UB.o;exact⟨m+1,S',by omega,by go_num,h1,h2⟩
                   case measure=>simp[intOf];omega
                 exact GZ.bl.nil
               exact GZ.bl.nil
             exact GZ.bl.nil
           exact GZ.bl.nil
         exact GZ.bl.nil
       refine GZ.bl.cons rfl (fun K hK=>?_) ?_
       · go_simp;refine hK.out _ _ (fun _=>?_) ?_
         · exact zZ.o _ (al1 WB _)
         clear hK K
         try simp only[Act.put,List.setIfInBounds_toArray,List.set_cons_zero,List.set_cons_succ]
         refine GZ.all (rs:=[4]) (by kernel_rfl) (by simp) ?_;refine GZ.bl.cons rfl (fun K hK=>?_) ?_
         · go_simp;refine hK.out _ _ (fun _=>?_) ?_
           · exact zZ.o _ (YE WB _ _)
           clear hK K
           try simp only[Act.put,List.setIfInBounds_toArray,List.set_cons_zero,List.set_cons_succ]
           refine GZ.all (rs:=[7]) (by kernel_rfl) (by simp) ?_;refine GZ.bl.cons rfl (fun K hK=>?_) ?_
           · rw[if_pos (by rfl)];refine df (P:=Tryz.prog) _ _ 28 rfl WB.heap.size 47 ia (.agg #[I 0,I 0,I 0,.bool false]) 4 32 Tryz.underlying28 Ya.o XZ.o XY.o XX.o rfl (by decide) (.slice (some (Ad (WB.heap.size+1) 0)) 0 0) 0 [] rfl (mk3 WB _ _ _) aa na ca (AM.bk iu) rfl I8.o (om.o _ (zZ.o _ (YE WB _ _))) XG.o (by unfold maxLen;omega) (by omega) (by first | omega | (simp;done) | (simp;omega)) ?_;intro vC wC JO Vk WU;rw[Nat.zero_add] at JO;obtain⟨aC,cC,Zo,_,_⟩:=aN JO;subst Zo;have I6:=ai (U5 (GB:=WB.heap.size+1) (GD:=WB.heap.size) (YE WB _ _) (Nat.le_refl _) (mk2 WB _ _ 3) (by omega) (by omega) Vk WU);have Uy:=ai JO;clear JO Vk WU;refine hK.out _ _ (fun _=>?_) ?_
             · exact zZ.o _ I6.o.1
             clear hK K
             try simp only[Act.put,List.setIfInBounds_toArray,List.set_cons_zero,List.set_cons_succ]
             refine GZ.all (rs:=[11]) (by kernel_rfl) (by simp) ?_;refine GZ.bl.cons rfl (fun K hK=>?_) ?_
             · rw[if_pos (by rfl)];refine df (P:=Tryz.prog) _ _ 41 rfl WB.heap.size 45 ip (.agg #[I 0,I 0,I 0]) 3 24 Tryz.underlying41 XV.o XU.o XT.o XR.o rfl (by decide) (.slice (some (Ad WB.heap.size 0)) 0 0) 0 [] rfl I6.o.2.1 ap np cp (gj.flatMap aK) rfl xH.o (pG.o _ (zZ.o _ I6.o.1)) og.o (by unfold maxLen;omega) (by omega) I6.o.1.size ?_;intro vE wE JN Vj Vr;rw[Nat.zero_add] at JN;obtain⟨aE,cE,Zn,_,_⟩:=aN JN;subst Zn;have pK:=ai (NH I6.o.1 (Nat.le_refl _) Uy.o (by first | exact Nat.le_refl _ | exact Nat.le_succ _) I6.o.2.2 Vj Vr);clear I6 Uy;have QH:=ai (zZ.o _ pK.o.1);have m6:=ai JN;clear JN Vj Vr;refine hK.out _ _ (fun _=>?_) ?_
               · exact QH.o
               clear hK K
               try simp only[Act.put,List.setIfInBounds_toArray,List.set_cons_zero,List.set_cons_succ]
               refine GZ.tk 12 QH.o ?_ ?_ ?_;rotate_left 1
               · intro V hSw;obtain⟨k0,k1,k2,k3⟩:=eQ.o V hSw;go_simp
                 try with_reducible rfl
               refine GZ.all (rs:=[13]) (by kernel_rfl) (by simp) ?_;refine GZ.bl.cons rfl (fun K hK=>?_) ?_
               · go_simp;refine hK.out _ _ (fun _=>?_) ?_
                 · exact zZ.o _ (pK.o.1.alloc pK.o.1.size _)
                 clear hK K
                 try simp only[Act.put,List.setIfInBounds_toArray,List.set_cons_zero,List.set_cons_succ]
                 refine GZ.all (rs:=[14]) (by kernel_rfl) (by simp) ?_;refine GZ.bl.cons rfl (fun K hK=>?_) ?_
                 · rw[if_pos (by rfl)];refine df (P:=Tryz.prog) _ _ 25 rfl cb 43 is (.agg #[.bool false,Nl,Nl]) 3 56 Tryz.underlying25 XQ.o XO.o XN.o XM.o rfl (by decide) (v) S.L.length (S.L.flatMap bw) rfl (Al.o _ _ pK.o.1) (some (Ad wE.heap.size 0)) 1 1 (bw ⟨lv,.slice aC na cC,.slice aE np cE⟩) rfl rfl (fun _=>⟨_,rfl,qL wE _ _⟩) (Hm _ _ _ _ _ _ _) (by unfold maxLen;omega) (by omega) (by rw[World.size_alloc];have:=pK.o.1.size;omega) ?_;intro vG wG qR s6 ux;obtain⟨aG,cG,C9,_,_⟩:=aN qR;subst C9;have UB:=ai (Gr.o wE wG _ _ ⟨lv,.slice aC na cC,.slice aE np cE⟩ pK.o.1 (Ib pK.o.2.1 m6.o UD.o HNA.o) pK.o.2.2 s6 qR ux);have pP:Hid (Kp (fun b=>blk v b) WB wG):=(zZ.o _ (pK.o.1.alloc pK.o.1.size _)).trans (Kp.grown s6 (fun _ e=>e)) (fun _ _ g=>g);have hoc:=(eQ.o wG pP.o).1;have hof:wG.frozen? (Ad cb 3)=false:=MH.o wG pP.o;clear qR s6 ux pK QH m6;refine hK.out _ _ (fun _=>?_) ?_
                   · exact pP.o
                   clear hK K
                   try simp only[Act.put,List.setIfInBounds_toArray,List.set_cons_zero,List.set_cons_succ]
                   refine GZ.tk 15 pP.o ?_ ?_ ?_;rotate_left 1
                   · intro V hSw;obtain⟨k0,k1,k2,k3⟩:=eQ.o V hSw;go_simp
                     try with_reducible rfl
                   refine GZ.all (rs:=[16]) (by kernel_rfl) (by simp) ?_;refine GZ.bl.cons rfl (fun K hK=>?_) GZ.bl.nil;go_simp;refine hK.out _ _ (fun g=>absurd rfl g) ?_;refine GZ.done (by kernel_rfl) ?_ _;go_wp2;go_roundw
                   case rel =>
                    obtain⟨S',h1,h2⟩:=UB.o;exact⟨m+1,S',by omega,by go_num,h1,h2⟩
                   case measure=>simp[intOf];omega
                 exact GZ.bl.nil
               exact GZ.bl.nil
             exact GZ.bl.nil
           exact GZ.bl.nil
         exact GZ.bl.nil
       exact GZ.bl.nil
     · obtain rfl:m=k.aj.length:=by omega
       rw[List.take_length] at dG;obtain⟨bS,nS,dS,eS⟩:∃b n d,S.vS=.slice b n d:=by obtain⟨b,d,e,_⟩:=aN dG.ak;exact⟨b,_,d,e⟩
       obtain⟨bF,nF,dF,eF⟩:∃b n d,S.vF=.slice b n d:=by obtain⟨b,d,e,_⟩:=aN dG.frames;exact⟨b,_,d,e⟩
       obtain⟨bL,nL,dL,eL⟩:∃b n d,S.vL=.slice b n d:=by obtain⟨b,d,e,_⟩:=aN dG.slots;exact⟨b,_,d,e⟩
       obtain⟨bP,nP,dP,eP⟩:∃b n d,S.vP=.slice b n d:=by obtain⟨b,d,e,_⟩:=aN dG.aj;exact⟨b,_,d,e⟩
       have x3:wr.cell? (Ad w.heap.size 3)=some (.slice a.aP k.aj.length a.cP):=B.cell hk1 3 rfl;have c0:=dG.c0;have c1:=dG.c1;have c2:=dG.c2;have c3:=dG.c3;have c4:wr.cell? (Ad cb 4)=some (I k.hand):=dG.c4;rw[eS] at c0;rw[eF] at c1;rw[eL] at c2;rw[eP] at c3;have R1:=vt.o _ ek;obtain⟨y0,y1,y2,y3,y4⟩:=B.c5 R1;have f0:=B.free R1 0;have f1:=B.free R1 1;have f2:=B.free R1 2;have f3:=B.free R1 3;have f4:=B.free R1 4;have bB:Hid (∀V,Kp (fun b=>b=w.heap.size+1) wr V->P (.returned (.agg #[.slice bS nS dS,.slice bF nF dF,.slice bL nL dL,.slice bP nP dP,I k.hand])) V):=fun V hV=>by
        rw[HP.o];refine⟨S,hs',RX.o,by rw[eS,eF,eL,eP],(dG.toKr.kp hV (fun b hb e=>by have:=(dG.iJ b hb).1;have:=HWC.o;omega)).mono (by have:=HWC.o;omega),?_⟩;exact Kp.below pN hV pN.size (fun b e=>by omega)
       have h5:Hid (∀s f l p h,(((((wr.setCell (Ad (w.heap.size+1) 0) s).setCell (Ad (w.heap.size+1) 1) f).setCell (Ad (w.heap.size+1) 2) l).setCell (Ad (w.heap.size+1) 3) p).setCell (Ad (w.heap.size+1) 4) h).heap[w.heap.size+1]?=some (.cells #[s,f,l,p,h] 27 (0,0))/\Kp (fun b=>b=w.heap.size+1) wr (((((wr.setCell (Ad (w.heap.size+1) 0) s).setCell (Ad (w.heap.size+1) 1) f).setCell (Ad (w.heap.size+1) 2) l).setCell (Ad (w.heap.size+1) 3) p).setCell (Ad (w.heap.size+1) 4) h)):=fun s f l p h=>⟨B.set (B.set (B.set (B.set (B.set R1 0 s) 1 f) 2 l) 3 p) 4 h,((((Kp.set (fun b=>b=w.heap.size+1) wr (Ad (w.heap.size+1) 0) s rfl).trans (Kp.set (fun b=>b=w.heap.size+1) _ (Ad (w.heap.size+1) 1) f rfl) (fun _ _ g=>g)).trans (Kp.set (fun b=>b=w.heap.size+1) _ (Ad (w.heap.size+1) 2) l rfl) (fun _ _ g=>g)).trans (Kp.set (fun b=>b=w.heap.size+1) _ (Ad (w.heap.size+1) 3) p rfl) (fun _ _ g=>g)).trans (Kp.set (fun b=>b=w.heap.size+1) _ (Ad (w.heap.size+1) 4) h rfl) (fun _ _ g=>g)⟩
       clear dG ek eS eF eL eP pN R1 hk1 o6;go_wp2;obtain⟨q1,q2⟩:=h5.out (.slice bS nS dS) (.slice bF nF dF) (.slice bL nL dL) (.slice bP nP dP) (I k.hand);obtain⟨y0,y1,y2,y3,y4⟩:=B.c5 q1;refine bodyPost_ret (v:=.agg #[.slice bS nS dS,.slice bF nF dF,.slice bL nL dL,.slice bP nP dP,I k.hand]) (by simp[results,Tryz.results16,go_sem,y0,y1,y2,y3,y4]) rfl ?_;exact bB.o _ q2
end KR
end Go.Proofs.YtpgifpeohlllfaaGreat
