import Derived.Test.YtpgifpeohlllfaaGreatGS00
import Derived.Test.YtpgifpeohlllfaaGreatGS18
import Derived.Test.YtpgifpeohlllfaaGreatGS22
set_option maxHeartbeats 20000000
set_option linter.unusedVariables false
set_option maxRecDepth 100000
set_option linter.unusedSimpArgs false
namespace Go.Proofs.YtpgifpeohlllfaaGreat
namespace KR
open Go.RowKit GK KO
open FW (ai aB)
open KW (bE bD aK aZ fu cI aJ dN bT)
open KS (Lc bJ oY dC blk cU)
open KY (Small sF Gj Hh MQ Hi Hj Gg fA Ca Cv yD)
theorem mZ {N:Nat} {w0 w w':World} {row:Option Nat} (h:Below N w0 w) (hN:N<=w0.heap.size) (g:w.grownBy w' row) (hr:∀k,row=some k->N<=k):Below N w0 w' :=
 h.trans ⟨g.os,g.tape,g.output,g.size,fun b hb=>g.block b (Nat.lt_of_lt_of_le hb (Nat.le_trans hN h.size)) (fun e=>by have:=hr b e.symm;omega)⟩
theorem MI {N GD na:Nat} {W V wE:World} {vC vE:Value} {xs:List Value} (hb:Below N W V) (hW:N<=W.heap.size) (hrc:V.ownsRow N 47 4 vC na xs) (hN:N<=GD) (hne:∀b,blk vC b->b≠GD) (hg:V.grownBy wE (some GD)) (ha:vE.ownBlock=some GD∨vE.ownBlock=some V.heap.size):Below N W wE/\wE.ownsRow N 47 4 vC na xs/\∀b,blk vE b->¬blk vC b :=
 ⟨mZ hb hW hg (fun k hk=>by injection hk with hk;omega),Kp.row (Kp.grown (D:=fun b=>b=GD) hg (fun k hk=>by injection hk with hk;exact hk.symm)) hrc (fun g hg e=>hne g hg e),fun b hb hb2=>by
  have hb':vE.ownBlock=some b:=hb
  rcases ha with g | g
  · rw[g] at hb';injection hb' with hb';exact hne b hb2 hb'.symm
  · rw[g] at hb';injection hb' with hb';have:=(hrc.lt b hb2).2;omega⟩
theorem Tu {N GB GD:Nat} {W V wC:World} {vC:Value} (hb:Below N W V) (hW:N<=W.heap.size) (hrd:V.ownsRow N 45 3 (.slice (some (Ad GD 0)) 0 0) 0 []) (hne:GD≠GB) (hN:N<=GB) (hg:V.grownBy wC (some GB)) (ha:vC.ownBlock=some GB∨vC.ownBlock=some V.heap.size):Below N W wC/\wC.ownsRow N 45 3 (.slice (some (Ad GD 0)) 0 0) 0 []/\∀b,blk vC b->b≠GD :=
 ⟨mZ hb hW hg (fun k hk=>by injection hk with hk;omega),Kp.row (Kp.grown (D:=fun b=>b=GB) hg (fun k hk=>by injection hk with hk;exact hk.symm)) hrd (fun g hg e=>by have hg':some GD=some g:=hg;injection hg' with hg';omega),fun b hb e=>by
  have hb':vC.ownBlock=some b:=hb
  rcases ha with g | g
  · rw[g] at hb';injection hb' with hb';omega
  · rw[g] at hb';injection hb' with hb';have:=(hrd.lt GD rfl).2;omega⟩
theorem qq (w:World) (xs:List Value) (e:TypeId):∀j u,xs[j]?=some u->(w.alloc (.cells xs.toArray e)).cell? (((Ad w.heap.size 0):Addr).add j)=some u:=fun j u hu=>by
 rw[Addr.add_lit,Nat.zero_add]
 exact B.cell (B.new w xs.toArray e) j (by simpa using hu)
theorem GM (l:Bool) (a b:Option Addr) (n m c d:Nat):∀u∈bJ ⟨l,.slice a n c,.slice b m d⟩,u.oneCell'=true:=fun u hu=>by
 simp[bJ] at hu
 rcases hu with rfl | rfl | rfl <;> rfl
theorem Vw:∀(l:List KM.En),∀u∈l.flatMap aK,u.oneCell'=true:=fun l u hu=>by
 obtain⟨y,_,hy⟩:=List.mem_flatMap.1 hu
 simp[aK] at hy
 rcases hy with rfl | rfl | rfl <;> rfl
theorem MR (s:LM.Sh):∀u∈eI s,u.oneCell'=true:=fun u hu=>by
 simp[eI] at hu
 rcases hu with rfl | rfl | rfl <;> rfl
theorem He {N na np:Nat} {wE:World} {lv:Bool} {vC vE:Value} {iq:List AM.Ar} {fY:List KM.En} (ha:wE.ownsRow N 47 4 vC na ([]++AM.bj iq)) (hp:wE.ownsRow N 45 3 vE np ([]++fY.flatMap aK)) (rX:np=fY.length) (oH:na=iq.length):cU N wE ⟨lv,vC,vE⟩ ⟨lv,iq,fY⟩:=by
 subst rX oH
 exact⟨rfl,by simpa [AW.Own] using ha,by simpa using hp⟩
theorem al1 (W:World) (o:Obj):Below W.heap.size W (W.alloc o).drew:=((Below.refl _ _).alloc (Nat.le_refl _) _).drew
theorem Xb (W:World) (o o':Obj):Below W.heap.size W ((W.alloc o).alloc o').drew:=(((Below.refl _ _).alloc (Nat.le_refl _) _).alloc (by simp) _).drew
theorem XI {N:Nat} {V:World} (h:N<=V.heap.size) (e:TypeId) (size:Nat):(V.alloc (.cells #[] e)).ownsRow N e size (.slice (some (Ad V.heap.size 0)) 0 0) 0 []:=World.ownsRow_made V #[] 0 h (by unfold maxLen;omega) (by simp)
theorem y7 {w:World} {base:Nat} {e:TypeId} {size:Nat} {v:Value} {n:Nat} {xs:List Value} (h:w.ownsRow base e size v n xs):w.drew.ownsRow base e size v n xs:=Kp.row (Kp.drew (fun _=>False) w) h (fun _ _ g=>g)
theorem mk1 (W:World) (e:TypeId) (size:Nat):(W.alloc (.cells #[] e)).drew.ownsRow W.heap.size e size (.slice (some (Ad W.heap.size 0)) 0 0) 0 []:=y7 (XI (Nat.le_refl _) e size)
theorem mk2 (W:World) (e:TypeId) (o:Obj) (size:Nat):((W.alloc (.cells #[] e)).alloc o).drew.ownsRow W.heap.size e size (.slice (some (Ad W.heap.size 0)) 0 0) 0 []:=y7 (Kp.row (Kp.alloc (fun _=>False) _ o) (XI (Nat.le_refl _) e size) (fun _ _ g=>g))
theorem mk3 (W:World) (e:TypeId) (o:Obj) (size:Nat):((W.alloc o).alloc (.cells #[] e)).drew.ownsRow W.heap.size e size (.slice (some (Ad (W.heap.size+1) 0)) 0 0) 0 []:=by
 have:=XI (V:=W.alloc o) (N:=W.heap.size) (by simp) e size
 rw[World.size_alloc] at this
 exact y7 this
theorem QF (l:List LM.Sh) (m:Nat) (h:m<l.length):l.take (m+1)=l.take m++[LM.aW l m]:=by
 rw[List.take_add_one,List.getElem?_eq_getElem h]
 unfold LM.aW
 rw[List.getD_eq_getElem?_getD,List.getElem?_eq_getElem h]
 rfl
theorem J4 {l hs:List LM.Sh} {m:Nat} {s:LM.Sh} (h:KM.Same (l.take m) hs) (hm:m<l.length) (hp:LM.plain s=LM.plain (LM.aW l m)):KM.Same (l.take (m+1)) (hs++[s]):=by
 unfold KM.Same at h ⊢
 rw[QF l m hm,List.map_append,List.map_append,h]
 simp[hp]
theorem Rz {wr WS wX:World} {pg:Int} {dt:ByteArray} {c0:Value} {n:Nat} {aX:Option Addr} {cX:Nat} {xs:List Value} (hb:Below wr.heap.size wr WS) (hsz:WS.heap.size=wr.heap.size+1) (BS:WS.heap[wr.heap.size]?=some (.cells #[I pg,.string dt,c0] 50 (0,0)))
  (ho:wX.ownsRow wr.heap.size 52 2 (.slice aX n cX) n ([]++xs)) (hg:(WS.alloc (.cells #[] 52)).grownBy wX (some WS.heap.size)) (ha:(Value.slice aX n cX).ownBlock=some WS.heap.size∨(Value.slice aX n cX).ownBlock=some (WS.alloc (.cells #[] 52)).heap.size) :
  wX.cell? (Ad wr.heap.size 2)=some c0/\wX.frozen? (Ad wr.heap.size 2)=false/\Below wr.heap.size wr (wX.setCell (Ad wr.heap.size 2) (.slice aX n cX))/\(wX.setCell (Ad wr.heap.size 2) (.slice aX n cX)).heap[wr.heap.size]?=some (.cells #[I pg,.string dt,.slice aX n cX] 50 (0,0))/\(wX.setCell (Ad wr.heap.size 2) (.slice aX n cX)).ownsRow wr.heap.size 52 2 (.slice aX n cX) n xs:=by
 have h1:Below WS.heap.size WS wX:=mZ ((Below.refl _ _).alloc (Nat.le_refl _) _) (Nat.le_refl _) hg (fun k hk=>by injection hk with hk;omega)
 have h2:=B.below BS h1 (B.isLt BS)
 refine⟨B.cell h2 2 rfl,B.free h2 2,(hb.trans (h1.mono hb.size)).setCell (p:=(Ad wr.heap.size 2)) (Nat.le_refl _) _,B.set h2 2 (.slice aX n cX),?_⟩
 refine(Kp.set (fun b=>b=wr.heap.size) _ _ _ rfl).row (by simpa using ho) (fun b hx e=>?_)
 have hx:(Value.slice aX n cX).ownBlock=some b:=hx
 rcases ha with g | g
 · rw[g] at hx;injection hx with hx;omega
 · rw[g] at hx;injection hx with hx;rw[World.size_alloc] at hx;omega
theorem xd (k:KM.Kn) (a:fu) (w:World) (hK:cI w a k) (hs:Small k) :
  Calls Tryz.prog 16 #[.agg (aJ a k)] w (sF w k):=by
 obtain⟨P,hP⟩:=ex (sF w k)
 rw[<- hP]
 have HP:=ai hP
 clear hP
 have T9:=ai hK.aj
 have Dn:Hid (∀V i,Below w.heap.size w V->i<k.ak.length->∃b off,a.aS=some (Ad b off)/\V.cell? (Ad b (off+i*3))=some (I (LM.aW k.ak i).page)/\V.cell? (Ad b (off+i*3+1))=some (.string (LM.aW k.ak i).data)/\V.cell? (Ad b (off+i*3+2))=some (.slice (LM.aW k.ak i).ao (LM.aW k.ak i).bh.length (LM.aW k.ak i).cap)/\(LM.aW k.ak i).bh.length<=1000000):=fun V i hV hi=>by
  obtain⟨b,off,e1,e2,e3⟩:=((Gj hK.ak).below hV) (by omega)
  have z:=e3 i hi 0 (by omega)
  rw[Nat.add_zero] at z
  exact⟨b,off,e1,z,e3 i hi 1 (by omega),e3 i hi 2 (by omega),hs.bh i hi⟩
 have Ik:Hid (∀V n,Below w.heap.size w V->n<k.ak.length->From V (LM.aW k.ak n).ao (LM.aW k.ak n).bh.length ((LM.aW k.ak n).bh.flatMap fI)):=fun V n hb hn=>by
  obtain⟨b,off,_,_,hi⟩:=hK.ak (by omega)
  have h4:LM.nE w (LM.aW k.ak n).ao (LM.aW k.ak n).bh:=(hi n hn).2.2.2
  exact fA (f:=fI) (n:=2) (fun _=>rfl) (Hh (h4.below hb))
 have sH:Hid (∀V,Below w.heap.size w V->From V a.aF k.frames.length (k.frames.flatMap bE)):=fun V hV=>fA (f:=bE) (n:=4) (fun _=>rfl) (hK.frames.below hV)
 have FL:Hid (∀V,Below w.heap.size w V->From V a.aL k.slots.length (k.slots.flatMap bD)):=fun V hV=>fA (f:=bD) (n:=2) (fun _=>rfl) (hK.slots.below hV)
 have S4:=ai (bH bE 4 (fun _=>rfl) k.frames)
 have SZ:=ai (bH bD 2 (fun _=>rfl) k.slots)
 have l6:=hs.frames
 have hnl:=hs.slots
 have rX:=hs.aj
 have hns:=hs.ak
 have qJ:=ai hs.aD
 have iG:=ai hs.aA
 obtain⟨WA,dK⟩:=ex ((w.alloc (.cells (aJ a k) 27)).alloc (.cells #[Nl,Nl,Nl,Nl,I 0] 27))
 have hBA:Below w.heap.size w WA:=by rw[dK];exact((Below.refl _ _).alloc (Nat.le_refl _) _).alloc (by simp) _
 have kb:WA.heap[w.heap.size]?=some (.cells (aJ a k) 27 (0,0)):=by rw[dK];exact B.alloc (B.new w _ _) _
 have rb:WA.heap[w.heap.size+1]?=some (.cells #[Nl,Nl,Nl,Nl,I 0] 27 (0,0)):=by
  have:=B.new (w.alloc (.cells (aJ a k) 27)) #[Nl,Nl,Nl,Nl,I 0] 27
  rw[World.size_alloc] at this
  rw[dK];exact this
 obtain⟨cb,hcb⟩:=ex WA.heap.size
 have BG:Hid (∀V,Below cb WA V->V.heap[w.heap.size]?=some (.cells #[.slice a.aS k.ak.length a.cS,.slice a.aF k.frames.length a.cF,.slice a.aL k.slots.length a.cL,.slice a.aP k.aj.length a.cP,I k.hand] 27 (0,0))):=fun V hV=>B.below kb (hcb ▸ hV) (B.isLt kb)
 have uQ:Hid (∀V,Below cb WA V->V.heap[w.heap.size+1]?=some (.cells #[Nl,Nl,Nl,Nl,I 0] 27 (0,0))):=fun V hV=>B.below rb (hcb ▸ hV) (B.isLt rb)
 have Db:Hid (∀V,Below cb WA V->Below w.heap.size w V):=fun V hV=>hBA.trans (hV.mono (by rw[hcb];exact hBA.size))
 have hwc:w.heap.size+1<cb:=by rw[hcb];exact B.isLt rb
 have HWC:=ai hwc
 have k4:WA.cell? (Ad w.heap.size 4)=some (I k.hand):=B.cell kb 4 rfl
 obtain⟨WC,hWC⟩:=ex (WA.alloc (.cells #[Nl,Nl,Nl,Nl,I k.hand] 27))
 have HM0:Hid (Km cb cb 27 [] WC ⟨fun b=>if b=cb then .head else .no,Nl,Nl,Nl,Nl,[]⟩ ⟨[],[],[],[],k.hand⟩):=by
  refine NM ?_
  rw[hWC,hcb]
  exact B.new WA _ _
 have bW:Hid (Below cb WA WC):=by rw[hWC,hcb];exact(Below.refl _ _).alloc (Nat.le_refl _) _
 have gp:=ai dK
 have adi:=ai hWC
 have HCB:=ai hcb
 obtain⟨ix,i0,i1,i2,i3⟩:=info_parts CE
 have adP:=ai i0
 have adO:=ai i1
 have adN:=ai i2
 have adM:=ai i3
 clear i0 i1 i2 i3
 obtain⟨ih,i0,i1,i2,i3⟩:=info_parts yE
 have adZ:=ai i0
 have adY:=ai i1
 have adX:=ai i2
 have adW:=ai i3
 clear i0 i1 i2 i3
 obtain⟨jf,i0,i1,i2,i3⟩:=info_parts NY
 have ad3:=ai i0
 have ad2:=ai i1
 have ad1:=ai i2
 have ad0:=ai i3
 clear i0 i1 i2 i3
 obtain⟨jl,i0,i1,i2,i3⟩:=info_parts NW
 have adV:=ai i0
 have adU:=ai i1
 have adT:=ai i2
 have adS:=ai i3
 clear i0 i1 i2 i3
 obtain⟨ia,i0,i1,i2,i3⟩:=info_parts NZ
 have Wq:=ai i0
 have Wp:=ai i1
 have Wo:=ai i2
 have Wn:=ai i3
 clear i0 i1 i2 i3
 obtain⟨ip,i0,i1,i2,i3⟩:=info_parts yF
 have Wm:=ai i0
 have Wl:=ai i1
 have Wk:=ai i2
 have Wj:=ai i3
 clear i0 i1 i2 i3
 obtain⟨is,i0,i1,i2,i3⟩:=info_parts yD
 have Wi:=ai i0
 have Wh:=ai i1
 have Wf:=ai i2
 have We:=ai i3
 clear i0 i1 i2 i3
 unfold aJ at gp ⊢
 clear dK hK kb rb hBA hcb hWC hs
 go_enter Tryz.func16,Tryz.ntmps16
 go_upto_region 1 with fail
 rw[<- gp.o]
 go_upto_region 2 with fail
 rw[<- adi.o,<- HCB.o]
 clear k4 gp
 go_wp2
 go_loopw [4] (fun iv wq=>∃(i:Nat) (lab:Nat->Lb) (vS:Value) (hs:List LM.Sh),i<=k.ak.length/\iv=I (i:Int)/\KM.Same (k.ak.take i) hs/\Km cb cb 27 [] wq ⟨lab,vS,Nl,Nl,Nl,[]⟩ ⟨hs,[],[],[],k.hand⟩/\Below cb WA wq) (fun iv _=>k.ak.length-(intOf iv).toNat)
 case atStart=>exact⟨0,_,_,[],by omega,rfl,rfl,HM0.o,bW.o⟩
 case round =>
  obtain⟨i,lab,vS,hs',hi,rfl,hsame,dM,eK⟩:=hrel
  clear HM0 bW
  have hsl:hs'.length=i:=by
   have:=congrArg List.length hsame
   rw[List.length_map,List.length_map,List.length_take] at this
   omega
  obtain⟨aS,cS,eS,_⟩:=aQ dM.ak
  have eS:vS=.slice aS hs'.length cS:=eS
  rw[hsl] at eS
  subst eS
  have hcl:cb<wr.heap.size:=dM.lt
  have pD:Below w.heap.size w wr:=Db.o _ eK
  have hk1:=BG.o _ eK
  by_cases hlt:i<k.ak.length
  · have x0:wr.cell? (Ad w.heap.size 0)=some (.slice a.aS k.ak.length a.cS):=B.cell hk1 0 rfl
    have G9:(i:Int)<(k.ak.length:Int):=by omega
    obtain⟨sB,sO,e1,z0,z1,z2,hfl⟩:=Dn.o wr i pD hlt
    rw[e1] at x0
    have HFY:Hid (∀V,Below w.heap.size w V->From V (LM.aW k.ak i).ao (LM.aW k.ak i).bh.length ((LM.aW k.ak i).bh.flatMap fI)):=fun V hV=>Ik.o V i hV hlt
    have uP:Hid (∀s,LM.plain s=LM.plain (LM.aW k.ak i)->KM.Same (k.ak.take (i+1)) (hs'++[s])):=fun s hp=>J4 hsame hlt hp
    obtain⟨s,Ja⟩:=ex (LM.aW k.ak i)
    rw[<- Ja] at z0 z1 z2 hfl HFY uP
    obtain⟨pg,dt,fx,ao,cap⟩:=s
    simp only at z0 z1 z2 hfl HFY uP
    obtain⟨WS,WY⟩:=ex (wr.alloc (.cells #[I pg,.string dt,.slice ao fx.length cap] 50))
    have YS:Below wr.heap.size wr WS:=by rw[WY];exact(Below.refl _ _).alloc (Nat.le_refl _) _
    have hzS:WS.heap.size=wr.heap.size+1:=by rw[WY];exact World.size_alloc _ _
    have BS:WS.heap[wr.heap.size]?=some (.cells #[I pg,.string dt,.slice ao fx.length cap] 50 (0,0)):=by rw[WY];exact B.new _ _ _
    have s2:WS.cell? (Ad wr.heap.size 2)=some (.slice ao fx.length cap):=B.cell BS 2 rfl
    have s2':(WS.alloc (.cells #[] 52)).cell? (Ad wr.heap.size 2)=some (.slice ao fx.length cap):=B.cell (B.alloc BS _) 2 rfl
    have Wb:Hid ((WS.alloc (.cells #[] 52)).ownsRow wr.heap.size 52 2 (.slice (some (Ad WS.heap.size 0)) 0 0) 0 []):=XI YS.size _ _
    have HFW:Hid (From (WS.alloc (.cells #[] 52)) ao fx.length (fx.flatMap fI)):=HFY.o _ ((pD.trans (YS.mono pD.size)).alloc (Nat.le_trans pD.size YS.size) _)
    have HLX:=ai (bH fI 2 (fun _=>rfl) fx)
    have HSZ:Hid (wr.heap.size<=(WS.alloc (.cells #[] 52)).heap.size):=by show _<=_;rw[World.size_alloc];omega
    have HST:Hid (∀wX aX cX,wX.ownsRow wr.heap.size 52 2 (.slice aX fx.length cX) fx.length ([]++fx.flatMap fI)->(WS.alloc (.cells #[] 52)).grownBy wX (some WS.heap.size)->((Value.slice aX fx.length cX).ownBlock=some WS.heap.size∨(Value.slice aX fx.length cX).ownBlock=some (WS.alloc (.cells #[] 52)).heap.size)->wX.cell? (Ad wr.heap.size 2)=some (.slice ao fx.length cap)/\wX.frozen? (Ad wr.heap.size 2)=false/\Below wr.heap.size wr (wX.setCell (Ad wr.heap.size 2) (.slice aX fx.length cX))/\(wX.setCell (Ad wr.heap.size 2) (.slice aX fx.length cX)).heap[wr.heap.size]?=some (.cells #[I pg,.string dt,.slice aX fx.length cX] 50 (0,0))/\(wX.setCell (Ad wr.heap.size 2) (.slice aX fx.length cX)).ownsRow wr.heap.size 52 2 (.slice aX fx.length cX) fx.length (fx.flatMap fI)):=fun wX aX cX h1 h2 h3=>Rz YS hzS BS h1 h2 h3
    have Ii:Hid (∀V O,Below wr.heap.size wr V->(V.alloc O).ownsRow cb 50 3 (.slice aS i cS) i (hs'.flatMap eI)):=fun V O hV=>by
     have:=((Kp.aY (D:=fun _=>False) hV).trans (Kp.alloc _ V O) (fun _ _ g=>g)).row dM.ak (fun _ _ g=>g)
     have:(V.alloc O).ownsRow cb 50 3 (.slice aS i cS) hs'.length (hs'.flatMap eI):=this
     rw[hsl] at this
     exact this
    have LR:Hid (∀W6 wG O v' aX cX,Below wr.heap.size wr W6->W6.ownsRow wr.heap.size 52 2 (.slice aX fx.length cX) fx.length (fx.flatMap fI)->(W6.alloc O).grownBy wG (Value.slice aS i cS).ownBlock->wG.ownsRow cb 50 3 v' (i+1) (hs'.flatMap eI++eI ⟨pg,dt,fx,aX,cX⟩)->(v'.ownBlock=(Value.slice aS i cS).ownBlock∨v'.ownBlock=some (W6.alloc O).heap.size)->wG.cell? (Ad cb 0)=some (.slice aS i cS)/\wG.frozen? (Ad cb 0)=false/\(∃lab',Km cb cb 27 [] (wG.setCell (Ad cb 0) v') ⟨lab',v',Nl,Nl,Nl,[]⟩ ⟨hs'++[⟨pg,dt,fx,aX,cX⟩],[],[],[],k.hand⟩)/\Below cb WA (wG.setCell (Ad cb 0) v')):=fun W6 wG O v' aX cX h1 h2 h3 h4 h5=>by
     have m1:=dM.Xz (s:=⟨pg,dt,fx,aX,cX⟩) (Nat.le_of_lt hcl) h1 h2 h3 (by rw[show(KM.Kn.mk hs' [] [] [] k.hand).ak.length=i from hsl];exact h4) h5
     have U9:wG.heap[cb]?=some (.cells #[.slice aS i cS,Nl,Nl,Nl,I k.hand] 27 (0,0)):=(((Kp.aY (D:=blk (.slice aS i cS)) h1).trans (Kp.alloc _ W6 O) (fun _ _ g=>g)).trans (Kp.grown h3 (fun _ e=>e)) (fun _ _ g=>g)).keep dM.head (fun x=>by have:=dM.lS cb x;rw[dM.lH] at this;simp at this)
     refine⟨B.cell U9 0 rfl,B.free U9 0,⟨_,m1.1⟩,?_⟩
     exact Kp.below eK m1.2 (Nat.le_of_lt hcl) (fun b hb=>(dM.kP b hb).1)
    have HC6:Hid (∀V,Below wr.heap.size wr V->V.cell? (Ad cb 0)=some (.slice aS i cS)):=fun V hV=>(dM.below hV).c0
    have HWS:=ai WY
    have ajI:=ai hzS
    clear dM eK pD hk1 hsame Ja WY YS BS HFY Dn hsl hzS
    go_upto_region 6 with fail
    rw[<- HWS.o]
    go_upto_region 7 with(at_builtin;refine bQ (P:=Tryz.prog) rfl _ _ 48 rfl wr.heap.size 52 ix (.agg #[I 0,.string ⟨#[]⟩]) 2 24 Tryz.underlying48 adP.o adO.o adN.o adM.o rfl (by decide) (.slice (some (Ad WS.heap.size 0)) 0 0) 0 [] (by rfl) Wb.o ao fx.length cap (fx.flatMap fI) (by rfl) HLX.o HFW.o (Hi _) (by unfold maxLen;omega) (by omega) HSZ.o ?_;intro vX wX hoX hgX haX;rw[Nat.zero_add] at hoX;obtain⟨aX,cX,hvX,_,_⟩:=aQ hoX;subst hvX;obtain⟨y0,y1,o6,h6,oZ⟩:=HST.o _ _ _ hoX hgX haX;have Ug:=ai o6;have HH6:=ai h6;have HR6:=ai oZ;clear hoX hgX haX o6 h6 oZ)
    obtain⟨W6,hW6⟩:=ex (wX.setCell (Ad wr.heap.size 2) (.slice aX fx.length cX))
    rw[<- hW6] at Ug HH6 HR6 ⊢
    have q0:W6.cell? (Ad wr.heap.size 0)=some (I pg):=B.cell HH6.o 0 rfl
    have q1:W6.cell? (Ad wr.heap.size 1)=some (.string dt):=B.cell HH6.o 1 rfl
    have q2:W6.cell? (Ad wr.heap.size 2)=some (.slice aX fx.length cX):=B.cell HH6.o 2 rfl
    have q3:W6.cell? (Ad cb 0)=some (.slice aS i cS):=HC6.o _ Ug.o
    have HZ6:Hid (∀O,cb<=(W6.alloc O).heap.size):=fun O=>by rw[World.size_alloc];have:=Ug.o.size;omega
    clear hW6 HST Wb HFW HSZ y0 y1 s2 s2' x0 z0 z1 z2
    go_wp2_with (at_builtin;refine bQ (P:=Tryz.prog) rfl _ _ 22 rfl cb 50 ih (.agg #[I 0,.string ⟨#[]⟩,Nl]) 3 48 Tryz.underlying22 adZ.o adY.o adX.o adW.o rfl (by decide) (.slice aS i cS) i (hs'.flatMap eI) (by rfl) (Ii.o _ _ Ug.o) (some (Ad W6.heap.size 0)) 1 1 (eI ⟨pg,dt,fx,aX,cX⟩) (by rfl) rfl (fun _=>⟨_,rfl,qq W6 _ _⟩) (MR _) (by unfold maxLen;omega) (by omega) (HZ6.o _) ?_;intro vG wG sJ uE wM;obtain⟨aG,cG,Er,_,_⟩:=aQ sJ;subst Er;obtain⟨p0,p1,hp2,N8⟩:=LR.o _ _ _ _ _ _ Ug.o HR6.o uE sJ wM;have o9:=ai hp2;have tQ:=ai N8;clear sJ uE wM hp2 N8)
    go_roundw
    case rel =>
     obtain⟨lab',h1⟩:=o9.o
     refine⟨_,?_,?_,lab',_,_,uP.o ⟨pg,dt,fx,aX,cX⟩ rfl,h1,tQ.o⟩
     · omega
     · go_num
    case measure=>simp[intOf];omega
  · obtain rfl:i=k.ak.length:=by omega
    rw[List.take_length] at hsame
    have Mg:=ai hsame
    have x1:wr.cell? (Ad w.heap.size 1)=some (.slice a.aF k.frames.length a.cF):=B.cell hk1 1 rfl
    have x0:wr.cell? (Ad w.heap.size 0)=some (.slice a.aS k.ak.length a.cS):=B.cell hk1 0 rfl
    have y1:wr.cell? (Ad cb 1)=some Nl:=dM.c1
    have HFF:=ai (sH.o _ pD)
    have ZK:Hid (∀w1 v',wr.grownBy w1 none->w1.ownsRow cb 40 4 v' k.frames.length (k.frames.flatMap bE)->(v'.ownBlock=none∨v'.ownBlock=some wr.heap.size)->w1.cell? (Ad cb 1)=some Nl/\w1.frozen? (Ad cb 1)=false/\(∃lab',Km cb cb 27 [] (w1.setCell (Ad cb 1) v') ⟨lab',.slice aS k.ak.length cS,v',Nl,Nl,[]⟩ ⟨hs',k.frames,[],[],k.hand⟩)/\Below cb WA (w1.setCell (Ad cb 1) v')):=fun w1 v' h1 h2 h3=>by
     have m1:=dM.abz h1 h2 h3
     have hh:=(Kp.grown (D:=fun _=>False) h1 (fun _ e=>nomatch e)).keep dM.head (fun g=>g)
     refine⟨B.cell hh 1 rfl,B.free hh 1,⟨_,m1.1⟩,?_⟩
     exact Kp.below eK m1.2 (Nat.le_of_lt hcl) (fun b hb=>(dM.kP b hb).1)
    clear dM eK pD hk1 hsame Dn Ik hlt
    go_upto_region 9 with(at_builtin;refine bQ (P:=Tryz.prog) rfl _ _ 23 rfl cb 40 jf (.agg #[.string ⟨#[]⟩,I 0,.bool false,.bool false]) 4 32 Tryz.underlying23 ad3.o ad2.o ad1.o ad0.o rfl (by decide) Nl 0 [] (by rfl) (World.ownsRow_nil _ _ _ _) a.aF k.frames.length a.cF (k.frames.flatMap bE) (by rfl) S4.o HFF.o (Hj _) (by unfold maxLen;omega) (by omega) (Nat.le_of_lt hcl) ?_;intro vF w1 hoF hgF haF;rw[Nat.zero_add,List.nil_append] at hoF;obtain⟨aF,cF,hvF,_,_⟩:=aQ hoF;subst hvF;obtain⟨p0,p1,hp2,N8⟩:=ZK.o _ _ hgF hoF haF;have o9:=ai hp2;have tQ:=ai N8;clear hoF hgF haF hp2 N8)
    obtain⟨W8,hW8⟩:=ex (w1.setCell (Ad cb 1) (.slice aF k.frames.length cF))
    rw[<- hW8] at o9 tQ ⊢
    obtain⟨ahI,dM⟩:=o9.o
    have eK:=tQ.o
    have pD:Below w.heap.size w W8:=Db.o _ eK
    have hk1:=BG.o _ eK
    have YJ:cb<W8.heap.size:=dM.lt
    have x2:W8.cell? (Ad w.heap.size 2)=some (.slice a.aL k.slots.length a.cL):=B.cell hk1 2 rfl
    have y2:W8.cell? (Ad cb 2)=some Nl:=dM.c2
    have Ml:=ai (FL.o _ pD)
    have HNL:Hid (∀w1 v',W8.grownBy w1 none->w1.ownsRow cb 86 2 v' k.slots.length (k.slots.flatMap bD)->(v'.ownBlock=none∨v'.ownBlock=some W8.heap.size)->w1.cell? (Ad cb 2)=some Nl/\w1.frozen? (Ad cb 2)=false/\(∃lab',Km cb cb 27 [] (w1.setCell (Ad cb 2) v') ⟨lab',.slice aS k.ak.length cS,.slice aF k.frames.length cF,v',Nl,[]⟩ ⟨hs',k.frames,k.slots,[],k.hand⟩)/\Below cb WA (w1.setCell (Ad cb 2) v')):=fun w1 v' h1 h2 h3=>by
     have m1:=dM.aby h1 h2 h3
     have hh:=(Kp.grown (D:=fun _=>False) h1 (fun _ e=>nomatch e)).keep dM.head (fun g=>g)
     refine⟨B.cell hh 2 rfl,B.free hh 2,⟨_,m1.1⟩,?_⟩
     exact Kp.below eK m1.2 (Nat.le_of_lt YJ) (fun b hb=>(dM.kP b hb).1)
    clear dM eK pD hk1 hW8 o9 tQ ZK HFF p0 p1 x0 x1 y1
    go_upto_region 10 with(at_builtin;refine bQ (P:=Tryz.prog) rfl _ _ 24 rfl cb 86 jl (.agg #[.string ⟨#[]⟩,I 0]) 2 24 Tryz.underlying24 adV.o adU.o adT.o adS.o rfl (by decide) Nl 0 [] (by rfl) (World.ownsRow_nil _ _ _ _) a.aL k.slots.length a.cL (k.slots.flatMap bD) (by rfl) SZ.o Ml.o (Gg _) (by unfold maxLen;omega) (by omega) (Nat.le_of_lt YJ) ?_;intro vL w2 hoL hgL haL;rw[Nat.zero_add,List.nil_append] at hoL;obtain⟨aL,cL,hvL,_,_⟩:=aQ hoL;subst hvL;obtain⟨p0,p1,hp2,N8⟩:=HNL.o _ _ hgL hoL haL;have o9:=ai hp2;have tQ:=ai N8;clear hoL hgL haL hp2 N8)
    obtain⟨W9,hW9⟩:=ex (w2.setCell (Ad cb 2) (.slice aL k.slots.length cL))
    rw[<- hW9] at o9 tQ ⊢
    clear hW9 p0 p1 x2 y2 HNL Ml
    go_wp2
    go_loopw [6] (fun iv wq=>∃(m:Nat) (S:St),m<=k.aj.length/\iv=I (m:Int)/\Km cb cb 27 [] wq S (KM.bu ⟨k.ak,k.frames,k.slots,k.aj.take m,k.hand⟩ hs')/\Below cb WA wq) (fun iv _=>k.aj.length-(intOf iv).toNat)
    case atStart =>
     obtain⟨ahH,h9⟩:=o9.o
     exact⟨0,_,by omega,rfl,h9,tQ.o⟩
    case round =>
     obtain⟨m,S,hm,rfl,dM,eK⟩:=hrel
     clear o9 tQ
     have hcl:cb<wr.heap.size:=dM.lt
     have pD:Below w.heap.size w wr:=Db.o _ eK
     have hk1:=BG.o _ eK
     by_cases oI:m<k.aj.length
     · have WN:(m:Int)<(k.aj.length:Int):=by omega
       have x3:wr.cell? (Ad w.heap.size 3)=some (.slice a.aP k.aj.length a.cP):=B.cell hk1 3 rfl
       obtain⟨pb,po,hpo,hpl,Dg⟩:=T9.o (by omega)
       rw[hpo] at x3
       obtain⟨va,ap,cp,v0,v1,v2,TH,EC,_⟩:=Dg m oI
       have px:=TH
       obtain⟨aa,ca,qP,_⟩:=TH
       subst qP
       have z0:=(pD.cell (p:=(Ad pb (po+m*3))) hpl).trans v0
       have z1:=(pD.cell (p:=(Ad pb (po+m*3+1))) hpl).trans v1
       have z2:=(pD.cell (p:=(Ad pb (po+m*3+2))) hpl).trans v2
       have har:=qJ.o m oI
       have hen:=iG.o m oI
       have htk:=Ca k.aj m oI
       obtain⟨sp,hsp⟩:=ex (KM.au k.aj m)
       rw[<- hsp] at z0 z1 z2 har hen htk px EC
       obtain⟨lv,iq,fY⟩:=sp
       simp only at z0 z1 z2 har hen px EC
       obtain⟨na,oH⟩:=ex iq.length
       obtain⟨np,K4⟩:=ex fY.length
       rw[<- oH] at z1 har px
       rw[<- K4] at z2 hen
       have HNA:=ai oH
       have V8:=ai K4
       have Y7:S.L.length<=1000000:=by have:=dM.len;have e:(KM.bu ⟨k.ak,k.frames,k.slots,k.aj.take m,k.hand⟩ hs').aj.length=(k.aj.take m).length:=rfl;rw[e,List.length_take] at this;omega
       obtain⟨v,hv⟩:=ex S.vP
       obtain⟨WB,xo⟩:=ex (wr.alloc (.cells #[.bool lv,.slice aa na ca,.slice ap np cp] 43))
       have hbL:Below wr.heap.size wr WB:=by rw[xo];exact(Below.refl _ _).alloc (Nat.le_refl _) _
       have BL:WB.heap[wr.heap.size]?=some (.cells #[.bool lv,.slice aa na ca,.slice ap np cp] 43 (0,0)):=by rw[xo];exact B.new _ _ _
       have WQ:=dM.below hbL
       have hlB:cb<=WB.heap.size:=Nat.le_trans (Nat.le_of_lt hcl) hbL.size
       have nH:¬blk v cb:=fun g=>by rw[hv] at g;have:=dM.lP _ g;rw[dM.lH] at this;simp at this
       have nS:¬blk v wr.heap.size:=fun g=>by rw[hv] at g;have:=(dM.aj.lt _ g).2;omega
       have cA:Hid (∀V,Kp (fun b=>blk v b) WB V->V.cell? (Ad cb 3)=some v/\V.cell? (Ad wr.heap.size 0)=some (.bool lv)/\V.cell? (Ad wr.heap.size 1)=some (.slice aa na ca)/\V.cell? (Ad wr.heap.size 2)=some (.slice ap np cp)):=fun V hV=>by
        have b1:=hV.keep WQ.head nH
        have b2:=hV.keep BL nS
        refine⟨?_,B.cell b2 0 rfl,B.cell b2 1 rfl,B.cell b2 2 rfl⟩
        rw[hv]
        exact B.cell b1 3 rfl
       have LV:Hid (∀V,Kp (fun b=>blk v b) WB V->V.frozen? (Ad cb 3)=false):=fun V hV=>B.free (hV.keep WQ.head nH) 3
       have eX:Hid (Kp (fun b=>blk v b) WB WB.drew):=Kp.drew _ _
       have zz:Hid (∀V,Below WB.heap.size WB V->Kp (fun b=>blk v b) WB V):=fun V h=>Kp.aY h
       have Ue:Hid (∀V,Kp (fun b=>blk v b) WB V->Below w.heap.size w V):=fun V hV=>Kp.below (pD.trans (hbL.mono pD.size)) hV (Nat.le_trans pD.size hbL.size) (fun g hg=>by rw[hv] at hg;have:=(dM.aj.lt g hg).1;have:=HWC.o;omega)
       have nJ:Hid (∀V,Kp (fun b=>blk v b) WB V->From V aa na (AM.bj iq)):=fun V hV=>(KS.zt (px.below (Ue.o V hV))).2
       have Ij:Hid ((AM.bj iq).length=na*4):=by show _=_;rw[oH];exact AM.kG _
       have V5:Hid (∀u∈AM.bj iq,u.oneCell'=true):=AM.jh _
       have pk:Hid (∀V,Kp (fun b=>blk v b) WB V->From V ap np (fY.flatMap aK)):=fun V hV=>by rw[V8.o];exact fA (f:=aK) (n:=3) (fun _=>rfl) (EC.below (Ue.o V hV))
       have Dq:Hid ((fY.flatMap aK).length=np*3):=by show _=_;rw[V8.o];exact bH aK 3 (fun _=>rfl) _
       have pd:Hid (∀u∈fY.flatMap aK,u.oneCell'=true):=Vw _
       have Ii:Hid (∀w2 o,Below WB.heap.size WB w2->(w2.alloc o).ownsRow cb 43 3 v S.L.length (S.L.flatMap bJ)):=fun w2 o hb=>by
        have:=((Kp.aY (D:=fun _=>False) hb).trans (Kp.alloc _ w2 o) (fun _ _ g=>g)).row WQ.aj (fun _ _ g=>g)
        rw[hv]
        exact this
       have LR:Hid (∀w2 w4 O v' l,Below WB.heap.size WB w2->cU WB.heap.size w2 l ⟨lv,iq,fY⟩->(∀b,blk l.vp b->¬blk l.va b)->(w2.alloc O).grownBy w4 v.ownBlock->w4.ownsRow cb 43 3 v' (S.L.length+1) (S.L.flatMap bJ++bJ l)->(v'.ownBlock=v.ownBlock∨v'.ownBlock=some (w2.alloc O).heap.size)->∃S',Km cb cb 27 [] (w4.setCell (Ad cb 3) v') S' (KM.bu ⟨k.ak,k.frames,k.slots,k.aj.take (m+1),k.hand⟩ hs')/\Below cb WA (w4.setCell (Ad cb 3) v')):=fun w2 w4 O v' l h1 h2 h3 h4 h5 h6=>by
        rw[hv] at h4 h6
        have m1:=WQ.push hlB h1 h2 h3 h4 h5 h6
        have m2:=m1.1
        rw[htk]
        have zL:=eK.trans (hbL.mono (Nat.le_of_lt hcl))
        exact⟨_,m2,Kp.below zL m1.2.2 hlB (fun b hb=>(WQ.kP b hb).1)⟩
       have SJ:=ai xo
       clear dM WQ eK pD hk1 v0 v1 v2 px EC htk hsp xo hbL BL Dg oH K4 nH nS hv hpo
       go_upto_region 14 with fail
       rw[<- SJ.o]
       refine GZ.p8 (S:=fun V=>Kp (fun b=>blk v b) WB V) (z:=16) (by kernel_rfl) ?_
       refine GZ.tk 0 eX.o ?_ ?_ ?_
       rotate_left 1
       · intro V hSw
         obtain⟨k0,k1,k2,k3⟩:=cA.o V hSw
         go_simp
         try with_reducible rfl
       refine GZ.tk 1 eX.o ?_ ?_ ?_
       rotate_left 1
       · intro V hSw
         obtain⟨k0,k1,k2,k3⟩:=cA.o V hSw
         go_simp
         try with_reducible rfl
       refine GZ.tk 2 eX.o ?_ ?_ ?_
       rotate_left 1
       · intro V hSw
         obtain⟨k0,k1,k2,k3⟩:=cA.o V hSw
         go_simp
         try with_reducible rfl
       refine GZ.tk 3 eX.o ?_ ?_ ?_
       rotate_left 1
       · intro V hSw
         obtain⟨k0,k1,k2,k3⟩:=cA.o V hSw
         go_simp
         try with_reducible rfl
       refine GZ.tk 5 eX.o ?_ ?_ ?_
       rotate_left 1
       · intro V hSw
         obtain⟨k0,k1,k2,k3⟩:=cA.o V hSw
         go_simp
         try with_reducible rfl
       refine GZ.tk 6 eX.o ?_ ?_ ?_
       rotate_left 1
       · intro V hSw
         obtain⟨k0,k1,k2,k3⟩:=cA.o V hSw
         go_simp
         try with_reducible rfl
       refine GZ.tk 9 eX.o ?_ ?_ ?_
       rotate_left 1
       · intro V hSw
         obtain⟨k0,k1,k2,k3⟩:=cA.o V hSw
         go_simp
         try with_reducible rfl
       refine GZ.tk 10 eX.o ?_ ?_ ?_
       rotate_left 1
       · intro V hSw
         obtain⟨k0,k1,k2,k3⟩:=cA.o V hSw
         go_simp
         try with_reducible rfl
       refine GZ.all (rs:=[4,8]) (by kernel_rfl) (by simp) ?_
       refine GZ.aV.cons rfl (fun K hK=>?_) ?_
       · go_simp
         refine hK.out _ _ (fun _=>?_) ?_
         · exact zz.o _ (al1 WB _)
         clear hK K
         try simp only[Act.put,List.setIfInBounds_toArray,List.set_cons_zero,List.set_cons_succ]
         refine GZ.all (rs:=[7,8]) (by kernel_rfl) (by simp) ?_
         refine GZ.aV.cons rfl (fun K hK=>?_) ?_
         · rw[if_pos (by rfl)];refine cY (P:=Tryz.prog) _ _ 28 rfl WB.heap.size 47 ia (.agg #[I 0,I 0,I 0,.bool false]) 4 32 Tryz.underlying28 Wq.o Wp.o Wo.o Wn.o rfl (by decide) (.slice (some (Ad WB.heap.size 0)) 0 0) 0 [] rfl (mk1 WB _ _) aa na ca (AM.bj iq) rfl Ij.o (nJ.o _ (zz.o _ (al1 WB _))) V5.o (by unfold maxLen;omega) (by omega) (by first | omega | (simp;done) | (simp;omega)) ?_;intro vC wC Jc TJ Vi;rw[Nat.zero_add] at Jc;obtain⟨aC,cC,Ya,_,_⟩:=aQ Jc;subst Ya;have Ds:Hid (Below WB.heap.size WB wC):=mZ (al1 WB _) (Nat.le_refl _) TJ (fun g hg=>by have hg':some WB.heap.size=some g:=hg;injection hg' with hg';exact Nat.le_of_eq hg');have SP:=ai Jc;clear Jc TJ Vi
           refine hK.out _ _ (fun _=>?_) ?_
           · exact zz.o _ Ds.o
           clear hK K
           try simp only[Act.put,List.setIfInBounds_toArray,List.set_cons_zero,List.set_cons_succ]
           refine GZ.all (rs:=[8]) (by kernel_rfl) (by simp) ?_
           refine GZ.aV.cons rfl (fun K hK=>?_) ?_
           · go_simp
             refine hK.out _ _ (fun _=>?_) ?_
             · exact zz.o _ (Ds.o.alloc Ds.o.size _)
             clear hK K
             try simp only[Act.put,List.setIfInBounds_toArray,List.set_cons_zero,List.set_cons_succ]
             refine GZ.all (rs:=[11]) (by kernel_rfl) (by simp) ?_
             refine GZ.aV.cons rfl (fun K hK=>?_) ?_
             · rw[if_pos (by rfl)];refine cY (P:=Tryz.prog) _ _ 41 rfl WB.heap.size 45 ip (.agg #[I 0,I 0,I 0]) 3 24 Tryz.underlying41 Wm.o Wl.o Wk.o Wj.o rfl (by decide) (.slice (some (Ad wC.heap.size 0)) 0 0) 0 [] rfl (XI Ds.o.size _ _) ap np cp (fY.flatMap aK) rfl Dq.o (pk.o _ (zz.o _ (Ds.o.alloc Ds.o.size _))) pd.o (by unfold maxLen;omega) (by omega) (by rw[World.size_alloc];have:=Ds.o.size;omega) ?_;intro vE wE Jb TI TQ;rw[Nat.zero_add] at Jb;obtain⟨aE,cE,XZ,_,_⟩:=aQ Jb;subst XZ;have pA:=ai (MI (Ds.o.alloc Ds.o.size _) (Nat.le_refl _) (Kp.row (Kp.alloc (fun _=>False) wC _) SP.o (fun _ _ g=>g)) Ds.o.size (fun b hb=>Nat.ne_of_lt (SP.o.lt b hb).2) TI TQ);clear Ds SP;have PF:=ai (zz.o _ pA.o.1);have mJ:=ai Jb;clear Jb TI TQ
               refine hK.out _ _ (fun _=>?_) ?_
               · exact PF.o
               clear hK K
               try simp only[Act.put,List.setIfInBounds_toArray,List.set_cons_zero,List.set_cons_succ]
               refine GZ.tk 12 PF.o ?_ ?_ ?_
               rotate_left 1
               · intro V hSw
                 obtain⟨k0,k1,k2,k3⟩:=cA.o V hSw
                 go_simp
                 try with_reducible rfl
               refine GZ.all (rs:=[13]) (by kernel_rfl) (by simp) ?_
               refine GZ.aV.cons rfl (fun K hK=>?_) ?_
               · go_simp
                 refine hK.out _ _ (fun _=>?_) ?_
                 · exact zz.o _ (pA.o.1.alloc pA.o.1.size _)
                 clear hK K
                 try simp only[Act.put,List.setIfInBounds_toArray,List.set_cons_zero,List.set_cons_succ]
                 refine GZ.all (rs:=[14]) (by kernel_rfl) (by simp) ?_
                 refine GZ.aV.cons rfl (fun K hK=>?_) ?_
                 · rw[if_pos (by rfl)];refine cY (P:=Tryz.prog) _ _ 25 rfl cb 43 is (.agg #[.bool false,Nl,Nl]) 3 56 Tryz.underlying25 Wi.o Wh.o Wf.o We.o rfl (by decide) (v) S.L.length (S.L.flatMap bJ) rfl (Ii.o _ _ pA.o.1) (some (Ad wE.heap.size 0)) 1 1 (bJ ⟨lv,.slice aC na cC,.slice aE np cE⟩) rfl rfl (fun _=>⟨_,rfl,qq wE _ _⟩) (GM _ _ _ _ _ _ _) (by unfold maxLen;omega) (by omega) (by rw[World.size_alloc];have:=pA.o.1.size;omega) ?_;intro vG wG sJ uE wM;obtain⟨aG,cG,Er,_,_⟩:=aQ sJ;subst Er;have SQ:=ai (LR.o wE wG _ _ ⟨lv,.slice aC na cC,.slice aE np cE⟩ pA.o.1 (He pA.o.2.1 mJ.o V8.o HNA.o) pA.o.2.2 uE sJ wM);have pE:Hid (Kp (fun b=>blk v b) WB wG):=(zz.o _ (pA.o.1.alloc pA.o.1.size _)).trans (Kp.grown uE (fun _ e=>e)) (fun _ _ g=>g);have hoc:=(cA.o wG pE.o).1;have hof:wG.frozen? (Ad cb 3)=false:=LV.o wG pE.o;clear sJ uE wM pA PF mJ
                   refine hK.out _ _ (fun _=>?_) ?_
                   · exact pE.o
                   clear hK K
                   try simp only[Act.put,List.setIfInBounds_toArray,List.set_cons_zero,List.set_cons_succ]
                   refine GZ.tk 15 pE.o ?_ ?_ ?_
                   rotate_left 1
                   · intro V hSw
                     obtain⟨k0,k1,k2,k3⟩:=cA.o V hSw
                     go_simp
                     try with_reducible rfl
                   refine GZ.all (rs:=[16]) (by kernel_rfl) (by simp) ?_
                   refine GZ.aV.cons rfl (fun K hK=>?_) GZ.aV.nil
                   go_simp
                   refine hK.out _ _ (fun g=>absurd rfl g) ?_
                   refine GZ.done (by kernel_rfl) ?_ _
                   go_wp2
                   go_roundw
                   case rel =>
                    obtain⟨S',h1,h2⟩:=SQ.o
                    exact⟨m+1,S',by omega,by go_num,h1,h2⟩
                   case measure=>simp[intOf];omega
                 exact GZ.aV.nil
               exact GZ.aV.nil
             exact GZ.aV.nil
           exact GZ.aV.nil
         refine GZ.aV.cons rfl (fun K hK=>?_) ?_
         · go_simp
           refine hK.out _ _ (fun _=>?_) ?_
           · exact zz.o _ (Xb WB _ _)
           clear hK K
           try simp only[Act.put,List.setIfInBounds_toArray,List.set_cons_zero,List.set_cons_succ]
           refine GZ.all (rs:=[7]) (by kernel_rfl) (by simp) ?_
           refine GZ.aV.cons rfl (fun K hK=>?_) ?_
           · rw[if_pos (by rfl)];refine cY (P:=Tryz.prog) _ _ 28 rfl WB.heap.size 47 ia (.agg #[I 0,I 0,I 0,.bool false]) 4 32 Tryz.underlying28 Wq.o Wp.o Wo.o Wn.o rfl (by decide) (.slice (some (Ad WB.heap.size 0)) 0 0) 0 [] rfl (mk2 WB _ _ _) aa na ca (AM.bj iq) rfl Ij.o (nJ.o _ (zz.o _ (Xb WB _ _))) V5.o (by unfold maxLen;omega) (by omega) (by first | omega | (simp;done) | (simp;omega)) ?_;intro vC wC Jc TJ Vi;rw[Nat.zero_add] at Jc;obtain⟨aC,cC,Ya,_,_⟩:=aQ Jc;subst Ya;have Ie:=ai (Tu (GB:=WB.heap.size) (GD:=WB.heap.size+1) (Xb WB _ _) (Nat.le_refl _) (mk3 WB _ _ 3) (by omega) (by omega) TJ Vi);have SP:=ai Jc;clear Jc TJ Vi
             refine hK.out _ _ (fun _=>?_) ?_
             · exact zz.o _ Ie.o.1
             clear hK K
             try simp only[Act.put,List.setIfInBounds_toArray,List.set_cons_zero,List.set_cons_succ]
             refine GZ.all (rs:=[11]) (by kernel_rfl) (by simp) ?_
             refine GZ.aV.cons rfl (fun K hK=>?_) ?_
             · rw[if_pos (by rfl)];refine cY (P:=Tryz.prog) _ _ 41 rfl WB.heap.size 45 ip (.agg #[I 0,I 0,I 0]) 3 24 Tryz.underlying41 Wm.o Wl.o Wk.o Wj.o rfl (by decide) (.slice (some (Ad (WB.heap.size+1) 0)) 0 0) 0 [] rfl Ie.o.2.1 ap np cp (fY.flatMap aK) rfl Dq.o (pk.o _ (zz.o _ Ie.o.1)) pd.o (by unfold maxLen;omega) (by omega) Ie.o.1.size ?_;intro vE wE Jb TI TQ;rw[Nat.zero_add] at Jb;obtain⟨aE,cE,XZ,_,_⟩:=aQ Jb;subst XZ;have pA:=ai (MI Ie.o.1 (Nat.le_refl _) SP.o (by first | exact Nat.le_refl _ | exact Nat.le_succ _) Ie.o.2.2 TI TQ);clear Ie SP;have PF:=ai (zz.o _ pA.o.1);have mJ:=ai Jb;clear Jb TI TQ
               refine hK.out _ _ (fun _=>?_) ?_
               · exact PF.o
               clear hK K
               try simp only[Act.put,List.setIfInBounds_toArray,List.set_cons_zero,List.set_cons_succ]
               refine GZ.tk 12 PF.o ?_ ?_ ?_
               rotate_left 1
               · intro V hSw
                 obtain⟨k0,k1,k2,k3⟩:=cA.o V hSw
                 go_simp
                 try with_reducible rfl
               refine GZ.all (rs:=[13]) (by kernel_rfl) (by simp) ?_
               refine GZ.aV.cons rfl (fun K hK=>?_) ?_
               · go_simp
                 refine hK.out _ _ (fun _=>?_) ?_
                 · exact zz.o _ (pA.o.1.alloc pA.o.1.size _)
                 clear hK K
                 try simp only[Act.put,List.setIfInBounds_toArray,List.set_cons_zero,List.set_cons_succ]
                 refine GZ.all (rs:=[14]) (by kernel_rfl) (by simp) ?_
                 refine GZ.aV.cons rfl (fun K hK=>?_) ?_
                 · rw[if_pos (by rfl)];refine cY (P:=Tryz.prog) _ _ 25 rfl cb 43 is (.agg #[.bool false,Nl,Nl]) 3 56 Tryz.underlying25 Wi.o Wh.o Wf.o We.o rfl (by decide) (v) S.L.length (S.L.flatMap bJ) rfl (Ii.o _ _ pA.o.1) (some (Ad wE.heap.size 0)) 1 1 (bJ ⟨lv,.slice aC na cC,.slice aE np cE⟩) rfl rfl (fun _=>⟨_,rfl,qq wE _ _⟩) (GM _ _ _ _ _ _ _) (by unfold maxLen;omega) (by omega) (by rw[World.size_alloc];have:=pA.o.1.size;omega) ?_;intro vG wG sJ uE wM;obtain⟨aG,cG,Er,_,_⟩:=aQ sJ;subst Er;have SQ:=ai (LR.o wE wG _ _ ⟨lv,.slice aC na cC,.slice aE np cE⟩ pA.o.1 (He pA.o.2.1 mJ.o V8.o HNA.o) pA.o.2.2 uE sJ wM);have pE:Hid (Kp (fun b=>blk v b) WB wG):=(zz.o _ (pA.o.1.alloc pA.o.1.size _)).trans (Kp.grown uE (fun _ e=>e)) (fun _ _ g=>g);have hoc:=(cA.o wG pE.o).1;have hof:wG.frozen? (Ad cb 3)=false:=LV.o wG pE.o;clear sJ uE wM pA PF mJ
                   refine hK.out _ _ (fun _=>?_) ?_
                   · exact pE.o
                   clear hK K
                   try simp only[Act.put,List.setIfInBounds_toArray,List.set_cons_zero,List.set_cons_succ]
                   refine GZ.tk 15 pE.o ?_ ?_ ?_
                   rotate_left 1
                   · intro V hSw
                     obtain⟨k0,k1,k2,k3⟩:=cA.o V hSw
                     go_simp
                     try with_reducible rfl
                   refine GZ.all (rs:=[16]) (by kernel_rfl) (by simp) ?_
                   refine GZ.aV.cons rfl (fun K hK=>?_) GZ.aV.nil
                   go_simp
                   refine hK.out _ _ (fun g=>absurd rfl g) ?_
                   refine GZ.done (by kernel_rfl) ?_ _
                   go_wp2
                   go_roundw
                   case rel =>
                    obtain⟨S',h1,h2⟩:=SQ.o
                    exact⟨m+1,S',by omega,by go_num,h1,h2⟩
                   case measure=>simp[intOf];omega
                 exact GZ.aV.nil
               exact GZ.aV.nil
             exact GZ.aV.nil
           exact GZ.aV.nil
         exact GZ.aV.nil
       refine GZ.aV.cons rfl (fun K hK=>?_) ?_
       · go_simp
         refine hK.out _ _ (fun _=>?_) ?_
         · exact zz.o _ (al1 WB _)
         clear hK K
         try simp only[Act.put,List.setIfInBounds_toArray,List.set_cons_zero,List.set_cons_succ]
         refine GZ.all (rs:=[4]) (by kernel_rfl) (by simp) ?_
         refine GZ.aV.cons rfl (fun K hK=>?_) ?_
         · go_simp
           refine hK.out _ _ (fun _=>?_) ?_
           · exact zz.o _ (Xb WB _ _)
           clear hK K
           try simp only[Act.put,List.setIfInBounds_toArray,List.set_cons_zero,List.set_cons_succ]
           refine GZ.all (rs:=[7]) (by kernel_rfl) (by simp) ?_
           refine GZ.aV.cons rfl (fun K hK=>?_) ?_
           · rw[if_pos (by rfl)];refine cY (P:=Tryz.prog) _ _ 28 rfl WB.heap.size 47 ia (.agg #[I 0,I 0,I 0,.bool false]) 4 32 Tryz.underlying28 Wq.o Wp.o Wo.o Wn.o rfl (by decide) (.slice (some (Ad (WB.heap.size+1) 0)) 0 0) 0 [] rfl (mk3 WB _ _ _) aa na ca (AM.bj iq) rfl Ij.o (nJ.o _ (zz.o _ (Xb WB _ _))) V5.o (by unfold maxLen;omega) (by omega) (by first | omega | (simp;done) | (simp;omega)) ?_;intro vC wC Jc TJ Vi;rw[Nat.zero_add] at Jc;obtain⟨aC,cC,Ya,_,_⟩:=aQ Jc;subst Ya;have Ie:=ai (Tu (GB:=WB.heap.size+1) (GD:=WB.heap.size) (Xb WB _ _) (Nat.le_refl _) (mk2 WB _ _ 3) (by omega) (by omega) TJ Vi);have SP:=ai Jc;clear Jc TJ Vi
             refine hK.out _ _ (fun _=>?_) ?_
             · exact zz.o _ Ie.o.1
             clear hK K
             try simp only[Act.put,List.setIfInBounds_toArray,List.set_cons_zero,List.set_cons_succ]
             refine GZ.all (rs:=[11]) (by kernel_rfl) (by simp) ?_
             refine GZ.aV.cons rfl (fun K hK=>?_) ?_
             · rw[if_pos (by rfl)];refine cY (P:=Tryz.prog) _ _ 41 rfl WB.heap.size 45 ip (.agg #[I 0,I 0,I 0]) 3 24 Tryz.underlying41 Wm.o Wl.o Wk.o Wj.o rfl (by decide) (.slice (some (Ad WB.heap.size 0)) 0 0) 0 [] rfl Ie.o.2.1 ap np cp (fY.flatMap aK) rfl Dq.o (pk.o _ (zz.o _ Ie.o.1)) pd.o (by unfold maxLen;omega) (by omega) Ie.o.1.size ?_;intro vE wE Jb TI TQ;rw[Nat.zero_add] at Jb;obtain⟨aE,cE,XZ,_,_⟩:=aQ Jb;subst XZ;have pA:=ai (MI Ie.o.1 (Nat.le_refl _) SP.o (by first | exact Nat.le_refl _ | exact Nat.le_succ _) Ie.o.2.2 TI TQ);clear Ie SP;have PF:=ai (zz.o _ pA.o.1);have mJ:=ai Jb;clear Jb TI TQ
               refine hK.out _ _ (fun _=>?_) ?_
               · exact PF.o
               clear hK K
               try simp only[Act.put,List.setIfInBounds_toArray,List.set_cons_zero,List.set_cons_succ]
               refine GZ.tk 12 PF.o ?_ ?_ ?_
               rotate_left 1
               · intro V hSw
                 obtain⟨k0,k1,k2,k3⟩:=cA.o V hSw
                 go_simp
                 try with_reducible rfl
               refine GZ.all (rs:=[13]) (by kernel_rfl) (by simp) ?_
               refine GZ.aV.cons rfl (fun K hK=>?_) ?_
               · go_simp
                 refine hK.out _ _ (fun _=>?_) ?_
                 · exact zz.o _ (pA.o.1.alloc pA.o.1.size _)
                 clear hK K
                 try simp only[Act.put,List.setIfInBounds_toArray,List.set_cons_zero,List.set_cons_succ]
                 refine GZ.all (rs:=[14]) (by kernel_rfl) (by simp) ?_
                 refine GZ.aV.cons rfl (fun K hK=>?_) ?_
                 · rw[if_pos (by rfl)];refine cY (P:=Tryz.prog) _ _ 25 rfl cb 43 is (.agg #[.bool false,Nl,Nl]) 3 56 Tryz.underlying25 Wi.o Wh.o Wf.o We.o rfl (by decide) (v) S.L.length (S.L.flatMap bJ) rfl (Ii.o _ _ pA.o.1) (some (Ad wE.heap.size 0)) 1 1 (bJ ⟨lv,.slice aC na cC,.slice aE np cE⟩) rfl rfl (fun _=>⟨_,rfl,qq wE _ _⟩) (GM _ _ _ _ _ _ _) (by unfold maxLen;omega) (by omega) (by rw[World.size_alloc];have:=pA.o.1.size;omega) ?_;intro vG wG sJ uE wM;obtain⟨aG,cG,Er,_,_⟩:=aQ sJ;subst Er;have SQ:=ai (LR.o wE wG _ _ ⟨lv,.slice aC na cC,.slice aE np cE⟩ pA.o.1 (He pA.o.2.1 mJ.o V8.o HNA.o) pA.o.2.2 uE sJ wM);have pE:Hid (Kp (fun b=>blk v b) WB wG):=(zz.o _ (pA.o.1.alloc pA.o.1.size _)).trans (Kp.grown uE (fun _ e=>e)) (fun _ _ g=>g);have hoc:=(cA.o wG pE.o).1;have hof:wG.frozen? (Ad cb 3)=false:=LV.o wG pE.o;clear sJ uE wM pA PF mJ
                   refine hK.out _ _ (fun _=>?_) ?_
                   · exact pE.o
                   clear hK K
                   try simp only[Act.put,List.setIfInBounds_toArray,List.set_cons_zero,List.set_cons_succ]
                   refine GZ.tk 15 pE.o ?_ ?_ ?_
                   rotate_left 1
                   · intro V hSw
                     obtain⟨k0,k1,k2,k3⟩:=cA.o V hSw
                     go_simp
                     try with_reducible rfl
                   refine GZ.all (rs:=[16]) (by kernel_rfl) (by simp) ?_
                   refine GZ.aV.cons rfl (fun K hK=>?_) GZ.aV.nil
                   go_simp
                   refine hK.out _ _ (fun g=>absurd rfl g) ?_
                   refine GZ.done (by kernel_rfl) ?_ _
                   go_wp2
                   go_roundw
                   case rel =>
                    obtain⟨S',h1,h2⟩:=SQ.o
                    exact⟨m+1,S',by omega,by go_num,h1,h2⟩
                   case measure=>simp[intOf];omega
                 exact GZ.aV.nil
               exact GZ.aV.nil
             exact GZ.aV.nil
           exact GZ.aV.nil
         exact GZ.aV.nil
       exact GZ.aV.nil
     · obtain rfl:m=k.aj.length:=by omega
       rw[List.take_length] at dM
       obtain⟨bS,nS,dS,eS⟩:∃b n d,S.vS=.slice b n d:=by obtain⟨b,d,e,_⟩:=aQ dM.ak;exact⟨b,_,d,e⟩
       obtain⟨bF,nF,dF,eF⟩:∃b n d,S.vF=.slice b n d:=by obtain⟨b,d,e,_⟩:=aQ dM.frames;exact⟨b,_,d,e⟩
       obtain⟨bL,nL,dL,eL⟩:∃b n d,S.vL=.slice b n d:=by obtain⟨b,d,e,_⟩:=aQ dM.slots;exact⟨b,_,d,e⟩
       obtain⟨bP,nP,dP,eP⟩:∃b n d,S.vP=.slice b n d:=by obtain⟨b,d,e,_⟩:=aQ dM.aj;exact⟨b,_,d,e⟩
       have x3:wr.cell? (Ad w.heap.size 3)=some (.slice a.aP k.aj.length a.cP):=B.cell hk1 3 rfl
       have c0:=dM.c0
       have c1:=dM.c1
       have c2:=dM.c2
       have c3:=dM.c3
       have c4:wr.cell? (Ad cb 4)=some (I k.hand):=dM.c4
       rw[eS] at c0
       rw[eF] at c1
       rw[eL] at c2
       rw[eP] at c3
       have R1:=uQ.o _ eK
       obtain⟨y0,y1,y2,y3,y4⟩:=B.c5 R1
       have f0:=B.free R1 0
       have f1:=B.free R1 1
       have f2:=B.free R1 2
       have f3:=B.free R1 3
       have f4:=B.free R1 4
       have bw:Hid (∀V,Kp (fun b=>b=w.heap.size+1) wr V->P (.returned (.agg #[.slice bS nS dS,.slice bF nF dF,.slice bL nL dL,.slice bP nP dP,I k.hand])) V):=fun V hV=>by
        rw[HP.o]
        refine⟨S,hs',Mg.o,by rw[eS,eF,eL,eP],(dM.toKr.kp hV (fun b hb e=>by have:=(dM.kP b hb).1;have:=HWC.o;omega)).mono (by have:=HWC.o;omega),?_⟩
        exact Kp.below pD hV pD.size (fun b e=>by omega)
       have h5:Hid (∀s f l p h,(((((wr.setCell (Ad (w.heap.size+1) 0) s).setCell (Ad (w.heap.size+1) 1) f).setCell (Ad (w.heap.size+1) 2) l).setCell (Ad (w.heap.size+1) 3) p).setCell (Ad (w.heap.size+1) 4) h).heap[w.heap.size+1]?=some (.cells #[s,f,l,p,h] 27 (0,0))/\Kp (fun b=>b=w.heap.size+1) wr (((((wr.setCell (Ad (w.heap.size+1) 0) s).setCell (Ad (w.heap.size+1) 1) f).setCell (Ad (w.heap.size+1) 2) l).setCell (Ad (w.heap.size+1) 3) p).setCell (Ad (w.heap.size+1) 4) h)):=fun s f l p h=>⟨B.set (B.set (B.set (B.set (B.set R1 0 s) 1 f) 2 l) 3 p) 4 h,((((Kp.set (fun b=>b=w.heap.size+1) wr (Ad (w.heap.size+1) 0) s rfl).trans (Kp.set (fun b=>b=w.heap.size+1) _ (Ad (w.heap.size+1) 1) f rfl) (fun _ _ g=>g)).trans (Kp.set (fun b=>b=w.heap.size+1) _ (Ad (w.heap.size+1) 2) l rfl) (fun _ _ g=>g)).trans (Kp.set (fun b=>b=w.heap.size+1) _ (Ad (w.heap.size+1) 3) p rfl) (fun _ _ g=>g)).trans (Kp.set (fun b=>b=w.heap.size+1) _ (Ad (w.heap.size+1) 4) h rfl) (fun _ _ g=>g)⟩
       clear dM eK eS eF eL eP pD R1 hk1 oI
       go_wp2
       obtain⟨q1,q2⟩:=h5.out (.slice bS nS dS) (.slice bF nF dF) (.slice bL nL dL) (.slice bP nP dP) (I k.hand)
       obtain⟨y0,y1,y2,y3,y4⟩:=B.c5 q1
       refine bodyPost_ret (v:=.agg #[.slice bS nS dS,.slice bF nF dF,.slice bL nL dL,.slice bP nP dP,I k.hand]) (by simp[results,Tryz.results16,go_sem,y0,y1,y2,y3,y4]) rfl ?_
       exact bw.o _ q2
end KR
end Go.Proofs.YtpgifpeohlllfaaGreat
