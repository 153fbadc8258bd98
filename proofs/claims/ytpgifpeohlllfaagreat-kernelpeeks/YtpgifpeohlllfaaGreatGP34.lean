import Derived.Test.YtpgifpeohlllfaaGreatGP00
import Derived.Test.YtpgifpeohlllfaaGreatGP31
import Derived.Test.YtpgifpeohlllfaaGreatGP33
import Derived.Test.YtpgifpeohlllfaaGreatGP13
import Derived.Test.YtpgifpeohlllfaaGreatGP01
set_option maxHeartbeats 20000000
set_option linter.unusedVariables false
set_option maxRecDepth 100000
set_option linter.unusedSimpArgs false
namespace Go.Proofs.YtpgifpeohlllfaaGreat
namespace KZ
open Go.RowKit GK KO
open FW (ai aC)
open KW (bE bD aI aU fe cO aH dH bQ kF eY b6 il fF)
open KS (Lc bO oD dm blk cT)
open KX (tN Held ids)
open KY (l4 fp cW nY EW EE)
def uy (k:KM.Kn) (sp:Int):KM.Kn×Int×Int:=if b6 k sp≠0 then (l8,0,b6 k sp) else if k.aj.length=4 then (l8,0,2) else if KM.room k.aj+AM.cD (KM.aq k.aj sp.toNat).aA>(k.slots.length:Int) then (l8,0,8) else (KM.qd k sp.toNat,(k.aj.length:Int),0)
theorem KU {k:KM.Kn} (hR:KM.aQ k) {j:Nat} (hj:j<k.aj.length) {s:KM.Sp} (hs:s=KM.aq k.aj j) (n:Nat) (hn:n<=s.au.length):(∀i,i<k.frames.length->-1000000<=(KM.aD (KM.cE k s.au n).frames i).refs/\(KM.aD (KM.cE k s.au n).frames i).refs<=1000000)/\(∀i,i<k.slots.length->-1000000<=(KM.bk (KM.cE k s.au n).slots i).refs/\(KM.bk (KM.cE k s.au n).slots i).refs<=1000000):=by
 subst hs
 obtain⟨_,_,_,_,_,h6,h7⟩:=KM.oM hR hj n hn
 obtain⟨r1,r2⟩:=KX.m7 hR
 have hen:=KX.iI hR hj
 have hl:∀(kd i:Int),(KM.nm (KM.aq k.aj j).aA kd i ((KM.aq k.aj j).au.take n)).length<=512:=fun kd i=>by
  unfold KM.nm
  rw[List.length_map]
  refine Nat.le_trans (List.length_filter_le _ _) ?_
  rw[List.length_take]
  omega
 refine⟨fun i hi=>?_,fun i hi=>?_⟩
 · rw[h6 i hi]
   have:=r1 i hi
   have:=hl 1 i
   show _<=(KM.aD k.frames i).refs+_/\(KM.aD k.frames i).refs+_<=_
   omega
 · rw[h7 i hi]
   have:=r2 i hi
   have:=hl 2 i
   show _<=(KM.bk k.slots i).refs+_/\(KM.bk k.slots i).refs+_<=_
   omega
def Xt (WA W:World) (mb:Nat) (k:KM.Kn) (X:List Value) (v':Value):Prop:=∃S hs,KM.Same k.ak hs/\Km WA.heap.size mb 104 X W S (KM.bl k hs)/\S.vP=v'/\Below WA.heap.size WA W
theorem Jq {w WA W:World} {mb:Nat} {k:KM.Kn} {X:List Value} {aG:Option Addr} {nG cG:Nat} (h:Xt WA W mb k X (.slice aG nG cG)) (V6:∀V,Below WA.heap.size WA V->V.heap[w.heap.size+1]?=some (.cells #[Nl,Nl,Nl,Nl,I 0] 27 (0,0))) (hb0:Below w.heap.size w WA) (hrl:w.heap.size+1<WA.heap.size) (vs:List Value) :
  ∃aS nS cS aF nF cF aL nL cL hd,(W.cell? (Ad mb 0)=some (.slice aS nS cS)/\W.cell? (Ad mb 1)=some (.slice aF nF cF)/\W.cell? (Ad mb 2)=some (.slice aL nL cL)/\W.cell? (Ad mb 3)=some (.slice aG nG cG)/\W.cell? (Ad mb 4)=some (I hd))/\W.heap[w.heap.size+1]?=some (.cells #[Nl,Nl,Nl,Nl,I 0] 27 (0,0))/\∀U,Kp (fun b=>b=w.heap.size+1) W U->dw w k vs (.returned (.tuple (Value.agg #[.slice aS nS cS,.slice aF nF cF,.slice aL nL cL,.slice aG nG cG,I hd]::vs).toArray)) U:=by
 obtain⟨S,hs,hsame,fQ,hv,hbl⟩:=h
 obtain⟨aS,nS,cS,eS⟩:∃b n d,S.vS=.slice b n d:=by obtain⟨b,d,e,_⟩:=aR fQ.ak;exact⟨b,_,d,e⟩
 obtain⟨aF,nF,cF,eF⟩:∃b n d,S.vF=.slice b n d:=by obtain⟨b,d,e,_⟩:=aR fQ.frames;exact⟨b,_,d,e⟩
 obtain⟨aL,nL,cL,eL⟩:∃b n d,S.vL=.slice b n d:=by obtain⟨b,d,e,_⟩:=aR fQ.slots;exact⟨b,_,d,e⟩
 have eW:Below w.heap.size w W:=hb0.trans (hbl.mono hb0.size)
 refine⟨aS,nS,cS,aF,nF,cF,aL,nL,cL,_,⟨by rw[<- eS];exact fQ.c0,by rw[<- eF];exact fQ.c1,by rw[<- eL];exact fQ.c2,by rw[<- hv];exact fQ.c3,fQ.c4⟩,V6 _ hbl,fun U hU=>⟨S,hs,hsame,by rw[eS,eF,eL,hv];rfl,(fQ.toKr.kp hU (fun b hb e=>by have:=(fQ.mW b hb).1;omega)).mono hb0.size,Kp.below eW hU eW.size (fun b e=>by omega)⟩⟩
theorem MF (yw:l4) (k:KM.Kn) (a:fe) (sp:Int) (w:World) (hK:cO w a k) (hF:eY k) (hsp:M.fR sp) :
  Calls Tryz.prog 39 #[.agg (aH a k),I sp] w (dw w (uy k sp).1 [I (uy k sp).2.1,I (uy k sp).2.2]):=by
 obtain⟨WA,dx⟩:=ex ((w.alloc (.cells (aH a k) 27)).alloc (.cells #[Nl,Nl,Nl,Nl,I 0] 27))
 have hb0:Below w.heap.size w WA:=by rw[dx];exact((Below.refl _ _).alloc (Nat.le_refl _) _).alloc (by simp) _
 have kb:WA.heap[w.heap.size]?=some (.cells (aH a k) 27 (0,0)):=by rw[dx];exact B.alloc (B.new w _ _) _
 have rb:WA.heap[w.heap.size+1]?=some (.cells #[Nl,Nl,Nl,Nl,I 0] 27 (0,0)):=by
  have:=B.new (w.alloc (.cells (aH a k) 27)) #[Nl,Nl,Nl,Nl,I 0] 27
  rw[World.size_alloc] at this
  rw[dx];exact this
 have RB:Hid (∀V,Below WA.heap.size WA V->V.heap[w.heap.size+1]?=some (.cells #[Nl,Nl,Nl,Nl,I 0] 27 (0,0))):=fun V hb=>B.below rb hb (B.isLt rb)
 have k0:WA.cell? (Ad w.heap.size 0)=some (.slice a.aS k.ak.length a.cS):=B.cell kb 0 rfl
 have k1:WA.cell? (Ad w.heap.size 1)=some (.slice a.aF k.frames.length a.cF):=B.cell kb 1 rfl
 have k2:WA.cell? (Ad w.heap.size 2)=some (.slice a.aL k.slots.length a.cL):=B.cell kb 2 rfl
 have k3:WA.cell? (Ad w.heap.size 3)=some (.slice a.aP k.aj.length a.cP):=B.cell kb 3 rfl
 have k4:WA.cell? (Ad w.heap.size 4)=some (I k.hand):=B.cell kb 4 rfl
 have eV:=ai dx
 have bI:=ai hb0
 have hrl:=B.isLt rb
 have pP:=ai (KW.rI k a sp WA (hK.below hb0) hF hsp)
 have Bh:Hid (∀(V:World) (C:Int),Below w.heap.size w V->dw w l8 [I 0,I C] (.returned (.tuple #[.agg #[Nl,Nl,Nl,Nl,I 0],I 0,I C])) V):=fun V C hV=>ng _ hV
 by_cases c:b6 k sp=0
 · obtain⟨hR,AO,hj,mv⟩:=KY.lI c
   obtain⟨j,Pj⟩:∃j:Nat,sp=(j:Int):=⟨sp.toNat,by omega⟩
   subst Pj
   rw[Int.toNat_natCast] at hj mv
   have hsm:=KY.tQ hR hF
   have ow:Hid (Calls Tryz.prog 69 #[.agg (aH a k),I (j:Int)] WA fun e w'=>∃mb,e=.returned (.tuple #[.pointer (some (Ad mb 0)),I 0])/\WA.heap.size<=mb/\w'.heap[mb]?=some (.cells (kF a k) 104 (0,0))/\Below WA.heap.size WA w'):=pP.o.mono fun e w' ⟨h1,h2⟩=>by
    rcases h2 with⟨_,mb,e1,e2,e3⟩ | ⟨g,_⟩
    · exact⟨mb,e1,e2,e3,h1⟩
    · exact absurd c g
   obtain⟨pb,po,hpo,hpl,zj⟩:=hK.aj (by omega)
   obtain⟨va,ap,cp,v0,v1,v2,Q5,yu,_⟩:=zj j hj
   have nO:=Q5
   obtain⟨aa,ca,rU,_⟩:=Q5
   subst rU
   have Zm:=KW.rz k.aj k.aj.length
   have hcc:=hR.c
   have Td:uy k (j:Int)=if k.aj.length=4 then (l8,0,2) else if KM.room k.aj+AM.cD (KM.aq k.aj j).aA>(k.slots.length:Int) then (l8,0,8) else (KM.qd k j,(k.aj.length:Int),0):=by
    unfold uy
    rw[if_neg (fun x=>x c),Int.toNat_natCast]
   rw[Td]
   have hfit:=(hF.sp j hj).aA
   have eW:∀{V:World},Below WA.heap.size WA V->Below w.heap.size w V:=fun hV=>hb0.trans (hV.mono hb0.size)
   have AU:(j:Int)<(k.aj.length:Int):=by omega
   have hsj:=hR.sp hj
   have xk:∀n,n<(KM.aq k.aj j).au.length->((KM.aJ (KM.aq k.aj j).au n).kind=1->0<=(KM.aJ (KM.aq k.aj j).au n).loc/\(KM.aJ (KM.aq k.aj j).au n).loc<(k.frames.length:Int))/\((KM.aJ (KM.aq k.aj j).au n).kind≠1->0<=(KM.aJ (KM.aq k.aj j).au n).loc/\(KM.aJ (KM.aq k.aj j).au n).loc<(k.slots.length:Int)):=fun n hn=>by
    obtain⟨_,e2⟩:=hsj.tH _ (KM.dB (d:=KM.jz) hn)
    rcases e2 with⟨e4,e5,e6⟩ | ⟨e4,e5,e6⟩
    · exact⟨fun _=>⟨e5,e6⟩,fun g=>absurd e4 g⟩
    · exact⟨fun g=>absurd (e4.symm.trans g) (by decide),fun _=>⟨e5,e6⟩⟩
   have hen:=KX.iI hR hj
   have har:=AM.gm _ hsj.aA
   have hrf:=KX.m7 hR
   have CU:=fun n hn=>KM.oM hR hj n hn
   obtain⟨sj,Ja⟩:=ex (KM.aq k.aj j)
   have sF:KM.qd k j={ KM.cE k sj.au sj.au.length with aj:=(KM.cE k sj.au sj.au.length).aj++[sj] }:=by rw[Ja];rfl
   rw[<- Ja] at v0 v1 v2 nO yu hfit xk hen har mv CU ⊢
   obtain⟨lv,fT,gK⟩:=sj
   simp only at v0 v1 v2 nO yu hfit xk hen har mv CU sF
   have HV:Hid (∀V,Below WA.heap.size WA V->V.cell? (Ad pb (po+j*3))=some (.bool lv)/\V.cell? (Ad pb (po+j*3+1))=some (.slice aa fT.length ca)/\V.cell? (Ad pb (po+j*3+2))=some (.slice ap gK.length cp)):=fun V hV=>⟨((eW hV).cell (p:=(Ad pb (po+j*3))) hpl).trans v0,((eW hV).cell (p:=(Ad pb (po+j*3+1))) hpl).trans v1,((eW hV).cell (p:=(Ad pb (po+j*3+2))) hpl).trans v2⟩
   have Hn:Hid (∀(V:World) mb,V.heap[mb]?=some (.cells (kF a k) 104 (0,0))->V.cell? (Ad mb 3)=some (.slice (some (Ad pb po)) k.aj.length a.cP)):=fun V mb h=>by
    have:=B.cell (v:=.slice a.aP k.aj.length a.cP) h 3 rfl
    rw[hpo] at this
    exact this
   have D2:Hid (∀(V:World) mb,V.heap[mb]?=some (.cells (kF a k) 104 (0,0))->V.cell? (Ad mb 2)=some (.slice a.aL k.slots.length a.cL)):=fun V mb h=>B.cell h 2 rfl
   by_cases c4:k.aj.length=4
   · rw[if_pos c4]
     have bh:=ai (fun V (h:Below w.heap.size w V)=>Bh.o V 2 h)
     obtain⟨P,hP⟩:=ex (dw w l8 [I 0,I 2])
     show Calls _ _ _ _ (dw w l8 [I 0,I 2])
     rw[<- hP] at bh ⊢
     have c4i:(k.aj.length:Int)=4:=by omega
     unfold aH at ow eV ⊢
     clear hK hF hsp Td c hP dx hb0 kb rb pP hR AO hj zj v0 v1 v2 nO yu hfit hpo hcc Zm hsm c4 Bh Ja sF xk hen har mv CU hsj hrf eW
     go_enter Tryz.func39,Tryz.ntmps39
     go_upto_region 1 with fail
     rw[<- eV.o]
     go_upto_region 5 with(go_at_call 69;refine ow.o.mono ?_;rintro e w1 ⟨mb,rfl,jE,hm2,hb1⟩;have N5:=ai jE;have BB:=ai hm2;have aZ:=ai hb1;have m3:=Hn.o _ _ hm2;obtain⟨u0,u1,u2⟩:=HV.o _ hb1;clear jE hm2 hb1)
     have dC:=ai (aZ.o.alloc aZ.o.size (.cells #[.bool lv,.slice aa fT.length ca,.slice ap gK.length cp] 43))
     have B3:=ai (B.new w1 #[.bool lv,.slice aa fT.length ca,.slice ap gK.length cp] 43)
     have M3:=ai (B.alloc BB.o (.cells #[.bool lv,.slice aa fT.length ca,.slice ap gK.length cp] 43))
     have N3:Hid (w1.heap.size≠mb):=(show w1.heap.size≠mb from fun e=>by have:=B.isLt BB.o;omega)
     obtain⟨W3,hW3⟩:=ex (w1.alloc (.cells #[.bool lv,.slice aa fT.length ca,.slice ap gK.length cp] 43))
     obtain⟨fb,qY⟩:=ex w1.heap.size
     rw[<- hW3] at dC B3 M3 ⊢
     rw[<- qY] at B3 N3 ⊢
     clear hW3 qY m3 u0 u1 u2
     have m3:=Hn.o _ _ M3.o
     go_upto_region 6 with fail
     have R1:=ai (RB.o _ dC.o)
     have gN:=ai (bI.o.trans (dC.o.mono bI.o.size))
     obtain⟨y0,y1,y2,y3,y4⟩:=B.c5 R1.o
     have f0:=B.free R1.o 0
     have f1:=B.free R1.o 1
     have f2:=B.free R1.o 2
     have f3:=B.free R1.o 3
     have f4:=B.free R1.o 4
     have h5:=ai (fun V=>rA R1.o Nl Nl Nl Nl (I 0) (V:=V))
     go_wp2
     obtain⟨r1,r2⟩:=h5.out _ rfl
     obtain⟨y0,y1,y2,y3,y4⟩:=B.c5 r1
     refine bodyPost_ret (v:=.tuple #[.agg #[Nl,Nl,Nl,Nl,I 0],I 0,I 2]) (by simp[results,Tryz.results39,go_sem,y0,y1,y2,y3,y4]) rfl ?_
     exact bh.o _ (Kp.below gN.o r2 gN.o.size (fun b e=>by omega))
   rw[if_neg c4]
   have yG:Hid (∀V mb,Below WA.heap.size WA V->V.heap[mb]?=some (.cells (kF a k) 104 (0,0))->Calls Tryz.prog 83 #[.pointer (some (Ad mb 0))] V fun e w'=>e=.returned (I (KM.room k.aj))/\Below V.heap.size V w'):=fun V mb hV hm=>KW.px k.aj a.aP a.cP mb V (hK.aj.below (eW hV)) (fun i hi=>(hF.sp i hi).aA) (by omega) (B.cell hm 3 rfl)
   have Wx:Hid (∀V,Below WA.heap.size WA V->Calls Tryz.prog 54 #[.slice aa fT.length ca] V fun e w'=>e=.returned (I (AM.cD fT))/\Below V.heap.size V w'):=fun V hV=>AW.sL _ _ V (nO.below (eW hV)) hfit
   have hd1:=KW.kg fT
   have c4i:¬(k.aj.length:Int)=4:=by omega
   by_cases cr:KM.room k.aj+AM.cD fT>(k.slots.length:Int)
   · rw[if_pos cr]
     obtain⟨RM,G0⟩:=ex (KM.room k.aj)
     obtain⟨T1,Rb⟩:=ex (AM.cD fT)
     have SF:0<=RM/\RM<=65025*4:=by
      rw[G0]
      unfold KM.room
      omega
     rw[<- Rb] at hd1 Wx cr
     rw[<- G0] at yG cr
     have bh:=ai (fun V (h:Below w.heap.size w V)=>Bh.o V 8 h)
     obtain⟨P,hP⟩:=ex (dw w l8 [I 0,I 8])
     show Calls _ _ _ _ (dw w l8 [I 0,I 8])
     rw[<- hP] at bh ⊢
     have c2:(k.slots.length:Int)<RM+T1:=cr
     unfold aH at ow eV ⊢
     clear hK hF hsp Td c hP dx hb0 kb rb pP hR AO hj zj v0 v1 v2 nO yu hfit hpo hcc Zm hsm c4 Bh Ja sF xk hen har mv CU hsj hrf eW G0 Rb cr
     go_enter Tryz.func39,Tryz.ntmps39
     go_upto_region 1 with fail
     rw[<- eV.o]
     go_upto_region 5 with(go_at_call 69;refine ow.o.mono ?_;rintro e w1 ⟨mb,rfl,jE,hm2,hb1⟩;have N5:=ai jE;have BB:=ai hm2;have aZ:=ai hb1;have m3:=Hn.o _ _ hm2;obtain⟨u0,u1,u2⟩:=HV.o _ hb1;clear jE hm2 hb1)
     have dC:=ai (aZ.o.alloc aZ.o.size (.cells #[.bool lv,.slice aa fT.length ca,.slice ap gK.length cp] 43))
     have B3:=ai (B.new w1 #[.bool lv,.slice aa fT.length ca,.slice ap gK.length cp] 43)
     have M3:=ai (B.alloc BB.o (.cells #[.bool lv,.slice aa fT.length ca,.slice ap gK.length cp] 43))
     have N3:Hid (w1.heap.size≠mb):=(show w1.heap.size≠mb from fun e=>by have:=B.isLt BB.o;omega)
     obtain⟨W3,hW3⟩:=ex (w1.alloc (.cells #[.bool lv,.slice aa fT.length ca,.slice ap gK.length cp] 43))
     obtain⟨fb,qY⟩:=ex w1.heap.size
     rw[<- hW3] at dC B3 M3 ⊢
     rw[<- qY] at B3 N3 ⊢
     clear hW3 qY m3 u0 u1 u2
     have m3:=Hn.o _ _ M3.o
     go_upto_region 7 with fail
     have mN:=Q.dO W3
     have q1:∀x:Q.eU W3.heap.size W3,x.world.cell? (Ad fb 1)=some (.slice aa fT.length ca):=fun x=>B.cell (B.below B3.o x.keeps (B.isLt B3.o)) 1 rfl
     have q2:∀x:Q.eU W3.heap.size W3,x.world.cell? (Ad mb 2)=some (.slice a.aL k.slots.length a.cL):=fun x=>D2.o _ _ (B.below M3.o x.keeps (B.isLt M3.o))
     have JN:=ai (fun V (hV:Below W3.heap.size W3 V)=>yG.o V mb (dC.o.trans (hV.mono dC.o.size)) (B.below M3.o hV (B.isLt M3.o)))
     have JK:=ai (fun V (hV:Below W3.heap.size W3 V)=>Wx.o V (dC.o.trans (hV.mono dC.o.size)))
     clear m3
     refine Q.bc (by kernel_rfl) (by kernel_rfl) ?_
     repeat (first | go_big_quiet_step ((first | (go_at_call 83;exact fF _ JN.o) | (go_at_call 54;exact fF _ JK.o))) | quiet_step ((first | (go_at_call 83;exact fF _ JN.o) | (go_at_call 54;exact fF _ JK.o))))
     refine wpQuiet_nil ?_
     rintro _ ⟨X,rfl⟩
     have n7:=ai (dC.o.trans (X.keeps.mono dC.o.size))
     have R1:=ai (RB.o _ n7.o)
     have gN:=ai (bI.o.trans (n7.o.mono bI.o.size))
     obtain⟨y0,y1,y2,y3,y4⟩:=B.c5 R1.o
     have f0:=B.free R1.o 0
     have f1:=B.free R1.o 1
     have f2:=B.free R1.o 2
     have f3:=B.free R1.o 3
     have f4:=B.free R1.o 4
     have h5:=ai (fun V=>rA R1.o Nl Nl Nl Nl (I 0) (V:=V))
     go_wp2
     obtain⟨r1,r2⟩:=h5.out _ rfl
     obtain⟨y0,y1,y2,y3,y4⟩:=B.c5 r1
     refine bodyPost_ret (v:=.tuple #[.agg #[Nl,Nl,Nl,Nl,I 0],I 0,I 8]) (by simp[results,Tryz.results39,go_sem,y0,y1,y2,y3,y4]) rfl ?_
     exact bh.o _ (Kp.below gN.o r2 gN.o.size (fun b e=>by omega))
   rw[if_neg cr]
   have HOW:Hid (∀V mb,Below WA.heap.size WA V->WA.heap.size<=mb->V.heap[mb]?=some (.cells (kF a k) 104 (0,0))->Calls Tryz.prog 84 #[.pointer (some (Ad mb 0))] V fun e w'=>e=.returned (.tuple #[])/\∃S hs,KM.Same k.ak hs/\Km WA.heap.size mb 104 (fp k) w' S (KM.bl k hs)/\(∀b,S.lab b≠.no->b=mb∨V.heap.size<=b)/\Kp (fun b=>b=mb) V w'):=fun V mb hV jE hm2=>KY.Gs yw k a mb V (hK.below (eW hV)) hsm hm2 WA.heap.size jE
   have fX:Hid (∀V n,Below WA.heap.size WA V->n<gK.length->∃eb eo,ap=some (Ad eb eo)/\V.cell? (Ad eb (eo+n*3))=some (I (KM.aJ gK n).page)/\V.cell? (Ad eb (eo+n*3+1))=some (I (KM.aJ gK n).kind)/\V.cell? (Ad eb (eo+n*3+2))=some (I (KM.aJ gK n).loc)):=fun V n hV hn=>by
    obtain⟨eb,eo,e1,e2,e3⟩:=(yu.below (eW hV)) (by omega)
    have z0:=e3 n hn 0 (by omega)
    rw[Nat.add_zero] at z0
    exact⟨eb,eo,e1,z0,e3 n hn 1 (by omega),e3 n hn 2 (by omega)⟩
   have ND:Hid (∀V S mb hs n,n<gK.length->Km WA.heap.size mb 104 (fp k) V S (KM.bl (KM.cE k gK n) hs)->Calls Tryz.prog 85 #[.pointer (some (Ad mb 0)),.agg #[I (KM.aJ gK n).page,I (KM.aJ gK n).kind,I (KM.aJ gK n).loc],I 1] V fun e w'=>e=.returned (.tuple #[])/\Km WA.heap.size mb 104 (fp k) w' S (KM.bl (KM.cE k gK (n+1)) hs)/\Ch S V S w'):=fun V S mb hs n hn hV=>by
    have hp:=CU n (by omega)
    have Bu:=KU hR hj Ja n (Nat.le_of_lt hn)
    refine(KX.tI (KM.bl (KM.cE k gK n) hs) S V (KM.aJ gK n) 1 hV (fun g=>?_) (fun g=>?_) (.inl rfl) ⟨fun g=>?_,fun g=>?_⟩).mono fun e w' ⟨h1,h2,h3⟩=>⟨h1,?_,h3⟩
    · show _/\_<((KM.cE k gK n).frames.length:Int)
      rw[hp.2.2.2.1];exact(xk n hn).1 g
    · show _/\_<((KM.cE k gK n).slots.length:Int)
      rw[hp.2.2.2.2.1];exact(xk n hn).2 g
    · exact Bu.1 _ (by have:=(xk n hn).1 g;omega)
    · exact Bu.2 _ (by have:=(xk n hn).2 g;omega)
    · rw[KM.Dk] at h2
      exact h2
   have Hj:Hid (∀n,n<=gK.length->(KM.cE k gK n).aj.length=k.aj.length):=fun n hn=>by rw[(CU n hn).2.2.1]
   have Yp:Hid ((KM.qd k j).ak=k.ak/\(KM.qd k j).hand=k.hand/\(KM.qd k j).aj.length=k.aj.length+1):=by
    have hp:=CU gK.length (Nat.le_refl _)
    rw[sF]
    refine⟨hp.1,hp.2.1,?_⟩
    show((KM.cE k gK gK.length).aj++[_]).length=_
    rw[List.length_append,hp.2.2.1]
    rfl
   have Yy:Hid (∀hs,KM.bl (KM.qd k j) hs={ KM.bl (KM.cE k gK gK.length) hs with aj:=(KM.bl (KM.cE k gK gK.length) hs).aj++[⟨lv,fT,gK⟩] }):=fun hs=>by rw[sF];rfl
   have W9:Hid (∀V,Below WA.heap.size WA V->AW.Has V (.slice aa fT.length ca) fT/\aU aI 3 KM.jz V ap gK):=fun V hV=>⟨nO.below (eW hV),yu.below (eW hV)⟩
   obtain⟨RM,G0⟩:=ex (KM.room k.aj)
   obtain⟨T1,Rb⟩:=ex (AM.cD fT)
   have SF:0<=RM/\RM<=65025*4:=by
    rw[G0]
    unfold KM.room
    omega
   rw[<- Rb] at hd1 Wx cr
   rw[<- G0] at yG cr
   obtain⟨P,hP⟩:=ex (dw w (KM.qd k j) [I (k.aj.length:Int),I 0])
   show Calls _ _ _ _ (dw w (KM.qd k j) [I (k.aj.length:Int),I 0])
   rw[<- hP]
   have HP:=ai hP
   have c2:¬(k.slots.length:Int)<RM+T1:=cr
   have aev:k.aj.length<=4:=by omega
   unfold aH at ow eV ⊢
   clear hK hF hsp Td c hP dx hb0 kb rb pP hR AO hj zj v0 v1 v2 nO yu hfit hpo hcc Zm hsm c4 Bh Ja sF xk mv CU hsj hrf eW G0 Rb cr yw
   go_enter Tryz.func39,Tryz.ntmps39
   go_upto_region 1 with fail
   rw[<- eV.o]
   go_upto_region 5 with(go_at_call 69;refine ow.o.mono ?_;rintro e w1 ⟨mb,rfl,jE,hm2,hb1⟩;have N5:=ai jE;have BB:=ai hm2;have aZ:=ai hb1;have m3:=Hn.o _ _ hm2;obtain⟨u0,u1,u2⟩:=HV.o _ hb1;clear jE hm2 hb1)
   have dC:=ai (aZ.o.alloc aZ.o.size (.cells #[.bool lv,.slice aa fT.length ca,.slice ap gK.length cp] 43))
   have B3:=ai (B.new w1 #[.bool lv,.slice aa fT.length ca,.slice ap gK.length cp] 43)
   have M3:=ai (B.alloc BB.o (.cells #[.bool lv,.slice aa fT.length ca,.slice ap gK.length cp] 43))
   have N3:Hid (w1.heap.size≠mb):=(show w1.heap.size≠mb from fun e=>by have:=B.isLt BB.o;omega)
   obtain⟨W3,hW3⟩:=ex (w1.alloc (.cells #[.bool lv,.slice aa fT.length ca,.slice ap gK.length cp] 43))
   obtain⟨fb,qY⟩:=ex w1.heap.size
   rw[<- hW3] at dC B3 M3 ⊢
   rw[<- qY] at B3 N3 ⊢
   clear hW3 qY m3 u0 u1 u2
   have m3:=Hn.o _ _ M3.o
   go_upto_region 7 with fail
   have mN:=Q.dO W3
   have q1:∀x:Q.eU W3.heap.size W3,x.world.cell? (Ad fb 1)=some (.slice aa fT.length ca):=fun x=>B.cell (B.below B3.o x.keeps (B.isLt B3.o)) 1 rfl
   have q2:∀x:Q.eU W3.heap.size W3,x.world.cell? (Ad mb 2)=some (.slice a.aL k.slots.length a.cL):=fun x=>D2.o _ _ (B.below M3.o x.keeps (B.isLt M3.o))
   have JN:=ai (fun V (hV:Below W3.heap.size W3 V)=>yG.o V mb (dC.o.trans (hV.mono dC.o.size)) (B.below M3.o hV (B.isLt M3.o)))
   have JK:=ai (fun V (hV:Below W3.heap.size W3 V)=>Wx.o V (dC.o.trans (hV.mono dC.o.size)))
   clear m3
   refine Q.bc (by kernel_rfl) (by kernel_rfl) ?_
   repeat (first | go_big_quiet_step ((first | (go_at_call 83;exact fF _ JN.o) | (go_at_call 54;exact fF _ JK.o))) | quiet_step ((first | (go_at_call 83;exact fF _ JN.o) | (go_at_call 54;exact fF _ JK.o))))
   refine wpQuiet_nil ?_
   rintro _ ⟨X,rfl⟩
   have n7:=ai (dC.o.trans (X.keeps.mono dC.o.size))
   have MX:=ai (B.below M3.o X.keeps (B.isLt M3.o))
   have BX:=ai (B.below B3.o X.keeps (B.isLt B3.o))
   clear mN q2 q1 JN JK yG Wx
   obtain⟨WX,hWX⟩:=ex X.world
   rw[<- hWX] at n7 MX BX ⊢
   clear hWX
   go_upto_region 10 with(go_at_call 84;refine(HOW.o _ _ n7.o N5.o MX.o).mono ?_;rintro e w4 ⟨rfl,S,hs,hs2,hk2,Vn,Vx⟩;have iy:=ai hs2;have jh:=ai hk2;have DG:=ai Vn;have W6:=ai Vx;clear hs2 hk2 Vn Vx)
   have lJ:S.lab fb=.no:=Classical.not_not.1 fun g=>by
    rcases DG.o fb g with e | e
    · exact N3.o e
    · have:=B.isLt BX.o;omega
   have HNF:=ai lJ
   have B4:=ai (W6.o.keep BX.o N3.o)
   have VQ:Below WA.heap.size WA w4:=Kp.below n7.o W6.o n7.o.size (fun b e=>by have:=N5.o;omega)
   have gN:=ai VQ
   have x2:w4.cell? (Ad fb 2)=some (.slice ap gK.length cp):=B.cell B4.o 2 rfl
   have Wy:Hid (∀V,Kp (fun b=>S.lab b≠.no) w4 V->V.heap[fb]?=some (.cells #[.bool lv,.slice aa fT.length ca,.slice ap gK.length cp] 43 (0,0))/\Below WA.heap.size WA V):=fun V hV=>⟨hV.keep B4.o (fun g=>g HNF.o),Kp.below gN.o hV gN.o.size (fun b hb=>(jh.o.mW b hb).1)⟩
   clear lJ VQ
   go_wp2
   go_loopw [59] (fun iv wq=>∃n:Nat,n<=gK.length/\iv=I (n:Int)/\Km WA.heap.size mb 104 (fp k) wq S (KM.bl (KM.cE k gK n) hs)/\Kp (fun b=>S.lab b≠.no) w4 wq) (fun iv _=>gK.length-(intOf iv).toNat)
   case atStart=>exact⟨0,by omega,rfl,jh.o,Kp.refl _ _⟩
   case round =>
    obtain⟨n,hn,rfl,fQ,Vw⟩:=hrel
    by_cases hlt:n<gK.length
    · have hni:(n:Int)<(gK.length:Int):=by omega
      obtain⟨qY,sG⟩:=Wy.o wr Vw
      obtain⟨eb,eo,hap,z0,z1,z2⟩:=fX.o wr n sG hlt
      have kv:Hid (Calls Tryz.prog 85 #[.pointer (some (Ad mb 0)),.agg #[I (KM.aJ gK n).page,I (KM.aJ gK n).kind,I (KM.aJ gK n).loc],I 1] (wr.alloc (.cells #[I (KM.aJ gK n).page,I (KM.aJ gK n).kind,I (KM.aJ gK n).loc] 45)) fun e w'=>e=.returned (.tuple #[])/\Km WA.heap.size mb 104 (fp k) w' S (KM.bl (KM.cE k gK (n+1)) hs)/\Kp (fun b=>S.lab b≠.no) w4 w'):=(ND.o _ S mb hs n hlt (fQ.below ((Below.refl _ _).alloc (Nat.le_refl _) _))).mono fun e w' ⟨h1,h2,h3⟩=>⟨h1,h2,(Vw.trans (Kp.alloc _ _ _) (fun _ _ g=>g)).trans h3.kp (fun _ _ g=>g)⟩
      obtain⟨en,Mk⟩:=ex (KM.aJ gK n)
      rw[<- Mk] at z0 z1 z2 kv
      obtain⟨g1,g2,g3⟩:=en
      simp only at z0 z1 z2 kv
      subst hap
      clear fQ Vw qY sG Mk ND fX
      go_wp2_with (go_at_call 85;refine kv.o.mono ?_;rintro e w5 ⟨rfl,h5,h6⟩;have NA:=ai h5;have HP5:=ai h6;clear h5 h6)
      go_roundw
      case rel=>exact⟨n+1,by omega,by go_num,NA.o,HP5.o⟩
      case measure=>simp[intOf];omega
    · obtain rfl:n=gK.length:=by omega
      obtain⟨qY,sG⟩:=Wy.o wr Vw
      obtain⟨bP,dP,eP,_⟩:=aR fQ.aj
      have XY:S.L.length<=1000000:=by
       have:=fQ.len
       have e:(KM.bl (KM.cE k gK gK.length) hs).aj.length=k.aj.length:=Hj.o _ (Nat.le_refl _)
       omega
      have Qy:Hid (S.L.length=k.aj.length):=by
       have:=fQ.len
       have e:(KM.bl (KM.cE k gK gK.length) hs).aj.length=k.aj.length:=Hj.o _ (Nat.le_refl _)
       exact(show S.L.length=k.aj.length by omega)
      have Bv:Below wr.heap.size wr wr.drew:=(Below.refl _ _).drew
      have BD:wr.drew.heap[fb]?=some (.cells #[.bool lv,.slice aa fT.length ca,.slice ap gK.length cp] 43 (0,0)):=B.below qY Bv (B.isLt qY)
      obtain⟨WD,NT⟩:=ex wr.drew
      rw[<- NT] at Bv BD
      have HWD:=ai NT
      have Mf:=fQ.below Bv
      have Vu:WA.heap.size<=WD.heap.size:=Nat.le_trans sG.size Bv.size
      have Pq:Below WA.heap.size WA WD:=sG.trans (Bv.mono sG.size)
      obtain⟨hh1,hh2⟩:=W9.o WD Pq
      have Kg:Hid (Calls Tryz.prog 86 #[.agg #[.bool lv,.slice aa fT.length ca,.slice ap gK.length cp]] WD fun e w'=>∃xa nx cx ya ny cy,e=.returned (.agg #[.bool lv,.slice xa nx cx,.slice ya ny cy])/\cT WD.heap.size w' ⟨lv,.slice xa nx cx,.slice ya ny cy⟩ ⟨lv,fT,gK⟩/\(∀b,blk (.slice ya ny cy) b->¬blk (.slice xa nx cx) b)/\Below WD.heap.size WD w'):=(KS.xG ⟨lv,fT,gK⟩ aa ap fT.length ca cp WD hh1 hh2 (by show fT.length<=_;omega) (by show gK.length<=_;omega)).mono fun e w' ⟨va,vp,h1,h2,h3,h4⟩=>by
       obtain⟨xa,cx,ex,_⟩:=aR h2.aA
       obtain⟨ya,cy,ey,_⟩:=aR h2.aB
       have ex:va=_:=ex
       have ey:vp=_:=ey
       subst ex ey
       exact⟨xa,_,cx,ya,_,cy,h1,h2,h3,h4⟩
      have T5:Hid (∀V,Kp (fun b=>blk S.vP b) WD V->V.cell? (Ad mb 3)=some (.slice bP S.L.length dP)/\V.cell? (Ad fb 0)=some (.bool lv)/\V.cell? (Ad fb 1)=some (.slice aa fT.length ca)/\V.cell? (Ad fb 2)=some (.slice ap gK.length cp)/\V.frozen? (Ad mb 3)=false):=fun V hV=>by
       have b1:=hV.keep Mf.head (fun g=>by have:=fQ.lP _ g;rw[fQ.lH] at this;simp at this)
       have b2:=hV.keep BD (fun g=>by have:=fQ.lP _ g;rw[HNF.o] at this;simp at this)
       refine⟨?_,B.cell b2 0 rfl,B.cell b2 1 rfl,B.cell b2 2 rfl,B.free b1 3⟩
       rw[<- eP]
       exact B.cell b1 3 rfl
      have Qs:Hid (∀w2 o,Below WD.heap.size WD w2->(w2.alloc o).ownsRow WA.heap.size 43 3 (.slice bP S.L.length dP) S.L.length (S.L.flatMap bO)):=fun w2 o hb=>by
       have:=((Kp.aW (D:=fun _=>False) hb).trans (Kp.alloc _ w2 o) (fun _ _ g=>g)).row Mf.aj (fun _ _ g=>g)
       rw[eP] at this
       exact this
      have TL:Hid (∀w2 w4 O v' l,Below WD.heap.size WD w2->cT WD.heap.size w2 l ⟨lv,fT,gK⟩->(∀b,blk l.vp b->¬blk l.va b)->(w2.alloc O).grownBy w4 S.vP.ownBlock->w4.ownsRow WA.heap.size 43 3 v' (S.L.length+1) (S.L.flatMap bO++bO l)->(v'.ownBlock=S.vP.ownBlock∨v'.ownBlock=some (w2.alloc O).heap.size)->Xt WA (w4.setCell (Ad mb 3) v') mb (KM.qd k j) (fp k) v'):=fun w2 w4 O v' l h1 h2 h3 h4 h5 h6=>by
       have m1:=Mf.push Vu h1 h2 h3 h4 h5 h6
       have m2:=m1.1
       rw[<- Yy.o hs] at m2
       exact⟨_,hs,by rw[Yp.o.1];exact iy.o,m2,rfl,Kp.below Pq m1.2.2 Pq.size (fun b hb=>(Mf.mW b hb).1)⟩
      have uO:Hid (∀w2,Below WD.heap.size WD w2->Kp (fun b=>blk S.vP b) WD w2):=fun w2 h=>Kp.aW h
      have HEP:=ai eP
      obtain⟨i0,hin,hz0,hz1,hz2⟩:=info_parts EW
      have qX:=ai hin
      have vh:=ai hz0
      have vg:=ai hz1
      have tM:=ai hz2
      have hlw:WA.heap.size<=WD.heap.size:=Vu
      clear fQ Mf Vw sG qY hh1 hh2 NT Bv BD eP hin hz0 hz1 hz2 Pq ND fX
      go_upto_region 15 with fail
      refine GZ.tK (S:=fun V=>Kp (fun b=>blk S.vP b) WD V) (z:=13) (by kernel_rfl) ?_
      rw[<- HWD.o]
      have fh:=T5
      have gL:Hid (Kp (fun b=>blk S.vP b) WD WD):=Kp.refl _ _
      refine GZ.tk 0 gL.o ?_ ?_ ?_
      rotate_left 1
      · intro V h
        obtain⟨k0,k1,k2,k3,k4⟩:=fh.o V h
        go_simp
        try with_reducible rfl
      refine GZ.tk 1 gL.o ?_ ?_ ?_
      rotate_left 1
      · intro V h
        obtain⟨k0,k1,k2,k3,k4⟩:=fh.o V h
        go_simp
        try with_reducible rfl
      refine GZ.tk 2 gL.o ?_ ?_ ?_
      rotate_left 1
      · intro V h
        obtain⟨k0,k1,k2,k3,k4⟩:=fh.o V h
        go_simp
        try with_reducible rfl
      refine GZ.tk 3 gL.o ?_ ?_ ?_
      rotate_left 1
      · intro V h
        obtain⟨k0,k1,k2,k3,k4⟩:=fh.o V h
        go_simp
        try with_reducible rfl
      refine GZ.tk 4 gL.o ?_ ?_ ?_
      rotate_left 1
      · intro V h
        obtain⟨k0,k1,k2,k3,k4⟩:=fh.o V h
        go_simp
        try with_reducible rfl
      refine GZ.tk 5 gL.o ?_ ?_ ?_
      rotate_left 1
      · intro V h
        obtain⟨k0,k1,k2,k3,k4⟩:=fh.o V h
        go_simp
        try with_reducible rfl
      refine GZ.tk 6 gL.o ?_ ?_ ?_
      rotate_left 1
      · intro V h
        obtain⟨k0,k1,k2,k3,k4⟩:=fh.o V h
        go_simp
        try with_reducible rfl
      refine GZ.all (rs:=[7]) (by kernel_rfl) (by simp) ?_
      refine GZ.bu.cons rfl (fun K hK=>?_) GZ.bu.nil
      rw[if_pos (by rfl)];go_simp;go_at_call 86;refine Kg.o.mono ?_;rintro e w6 ⟨xa,nx,cx,ya,ny,cy,rfl,O9,hap,hb2⟩;have FU:=ai O9;have Ki:=ai hap;have bY:=ai hb2;have jF:=ai (uO.o _ hb2);clear O9 hap hb2;try go_simp
      refine hK.out _ _ (fun _=>?_) ?_
      · exact jF.o
      clear hK K
      try simp only[Act.put,List.setIfInBounds_toArray,List.set_cons_zero,List.set_cons_succ]
      refine GZ.all (rs:=[8]) (by kernel_rfl) (by simp) ?_
      refine GZ.bu.cons rfl (fun K hK=>?_) GZ.bu.nil
      go_simp
      refine hK.out _ _ (fun _=>?_) ?_
      · exact jF.o.trans (Kp.alloc _ _ _) (fun _ _ g=>g)
      clear hK K
      try simp only[Act.put,List.setIfInBounds_toArray,List.set_cons_zero,List.set_cons_succ]
      have Zk:=bY.o.size
      refine GZ.all (rs:=[9]) (by kernel_rfl) (by simp) ?_
      refine GZ.bu.cons rfl (fun K hK=>?_) GZ.bu.nil
      rw[if_pos (by rfl)];refine jW (P:=Tryz.prog) _ _ 25 rfl WA.heap.size 43 i0 (.agg #[.bool false,Nl,Nl]) 3 56 Tryz.underlying25 qX.o vh.o vg.o tM.o rfl (by decide) (.slice bP S.L.length dP) S.L.length (S.L.flatMap bO) rfl (Qs.o _ _ bY.o) (some (Ad w6.heap.size 0)) 1 1 (bO ⟨lv,.slice xa nx cx,.slice ya ny cy⟩) rfl rfl (fun _=>⟨_,rfl,EE w6 _ _⟩) (by intro u hu;simp[bO] at hu;rcases hu with rfl | rfl | rfl <;> rfl) (by unfold maxLen;omega) (by omega) (by rw[World.size_alloc];omega) ?_;intro vG wG GU J1 Jl;obtain⟨aG,cG,O8,_,_⟩:=aR GU;subst O8;rw[<- HEP.o] at J1 Jl;have yE:Hid (Kp (fun b=>blk S.vP b) WD wG):=(jF.o.trans (Kp.alloc _ _ _) (fun _ _ g=>g)).trans (Kp.grown J1 (fun q hq=>hq)) (fun _ _ g=>g);have HPF:=ai (TL.o w6 wG _ _ ⟨lv,.slice xa nx cx,.slice ya ny cy⟩ bY.o FU.o Ki.o J1 GU Jl);clear GU J1 Jl
      refine hK.out _ _ (fun _=>?_) ?_
      · exact yE.o
      clear hK K
      try simp only[Act.put,List.setIfInBounds_toArray,List.set_cons_zero,List.set_cons_succ]
      refine GZ.all (rs:=[10]) (by kernel_rfl) (by simp) ?_
      refine GZ.bu.cons rfl (fun K hK=>?_) GZ.bu.nil
      go_simp
      refine hK.out _ _ (fun _=>?_) ?_
      · exact yE.o
      clear hK K
      try simp only[Act.put,List.setIfInBounds_toArray,List.set_cons_zero,List.set_cons_succ]
      refine GZ.all (rs:=[11]) (by kernel_rfl) (by simp) ?_
      refine GZ.bu.cons rfl (fun K hK=>?_) GZ.bu.nil
      go_simp
      refine hK.out _ _ (fun _=>?_) ?_
      · exact yE.o
      clear hK K
      try simp only[Act.put,List.setIfInBounds_toArray,List.set_cons_zero,List.set_cons_succ]
      refine GZ.tk 12 yE.o ?_ ?_ ?_
      rotate_left 1
      · intro V h
        obtain⟨k0,k1,k2,k3,k4⟩:=fh.o V h
        go_simp
        try with_reducible rfl
      obtain⟨k0,k1,k2,k3,k4⟩:=fh.o _ yE.o
      refine GZ.all (rs:=[13]) (by kernel_rfl) (by simp) ?_
      refine GZ.bu.cons rfl (fun K hK=>?_) GZ.bu.nil
      go_simp
      refine hK.out _ _ (fun g=>absurd rfl g) ?_
      refine GZ.done (by kernel_rfl) ?_ _
      clear k0 k1 k2 k3 k4
      obtain⟨aS,nS,cS,aF,nF,cF,aL,nL,cL,hd,hcells,hr3,hfin⟩:=Jq HPF.o RB.o bI.o hrl [I (k.aj.length:Int),I 0]
      have ky:=ai hfin
      have R3:=ai hr3
      have yI:=ai hcells
      obtain⟨W5,VX⟩:=ex (wG.setCell (Ad mb 3) (.slice aG (S.L.length+1) cG))
      rw[<- VX] at yI R3 ky ⊢
      clear VX hfin hr3 hcells
      obtain⟨q0,q1,q2,q3,q4⟩:=yI.o
      obtain⟨y0,y1,y2,y3,y4⟩:=B.c5 R3.o
      have f0:=B.free R3.o 0
      have f1:=B.free R3.o 1
      have f2:=B.free R3.o 2
      have f3:=B.free R3.o 3
      have f4:=B.free R3.o 4
      have h5:=ai (fun V=>rA R3.o (.slice aS nS cS) (.slice aF nF cF) (.slice aL nL cL) (.slice aG (S.L.length+1) cG) (I hd) (V:=V))
      have yt:¬mb=w.heap.size+1:=by have:=N5.o;omega
      have Pe:¬w.heap.size+1=mb:=by omega
      have NM:((S.L.length+1:Nat):Int)-1=(S.L.length:Int):=by omega
      go_upto_region 16 with fail
      go_region
      go_wp2
      obtain⟨r1,r2⟩:=h5.out _ rfl
      obtain⟨y0,y1,y2,y3,y4⟩:=B.c5 (B.below r1 (Below.refl _ _).drew (B.isLt r1))
      refine bodyPost_ret (v:=.tuple #[.agg #[.slice aS nS cS,.slice aF nF cF,.slice aL nL cL,.slice aG (S.L.length+1) cG,I hd],I (S.L.length:Int),I 0]) (by simp[results,Tryz.results39,go_sem,y0,y1,y2,y3,y4]) rfl ?_
      have e:(I (S.L.length:Int):Value)=I (k.aj.length:Int):=by rw[Qy.o]
      rw[e,HP.o]
      exact ky.o _ (r2.trans (Kp.drew _ _) (fun _ _ g=>g))
 · have hA:uy k sp=(l8,0,b6 k sp):=by unfold uy;rw[if_pos c]
   rw[hA]
   have TQ:=ai (KY.CE pP.o c)
   obtain⟨C,hC2⟩:=ex (b6 k sp)
   rw[<- hC2] at TQ c ⊢
   have cb:(C != 0)=true:=by simpa using c
   have bh:=ai (fun V (h:Below w.heap.size w V)=>Bh.o V C h)
   obtain⟨P,hP⟩:=ex (dw w l8 [I 0,I C])
   show Calls _ _ _ _ (dw w l8 [I 0,I C])
   rw[<- hP] at bh ⊢
   unfold aH at TQ eV ⊢
   clear hK hF hsp hA hC2 c hP dx hb0 kb rb pP Bh yw
   go_enter Tryz.func39,Tryz.ntmps39
   go_upto_region 1 with fail
   rw[<- eV.o]
   go_upto_region 3 with(go_at_call 69;refine TQ.o.mono ?_;rintro e w1 ⟨rfl,hb1⟩;have gN:=ai (bI.o.trans (hb1.mono bI.o.size));have R1:=ai (RB.o _ hb1);clear hb1)
   obtain⟨y0,y1,y2,y3,y4⟩:=B.c5 R1.o
   have f0:=B.free R1.o 0
   have f1:=B.free R1.o 1
   have f2:=B.free R1.o 2
   have f3:=B.free R1.o 3
   have f4:=B.free R1.o 4
   have h5:=ai (fun V=>rA R1.o Nl Nl Nl Nl (I 0) (V:=V))
   go_wp2
   obtain⟨r1,r2⟩:=h5.out _ rfl
   obtain⟨y0,y1,y2,y3,y4⟩:=B.c5 r1
   refine bodyPost_ret (v:=.tuple #[.agg #[Nl,Nl,Nl,Nl,I 0],I 0,I C]) (by simp[results,Tryz.results39,go_sem,y0,y1,y2,y3,y4]) rfl ?_
   exact bh.o _ (Kp.below gN.o r2 gN.o.size (fun b e=>by omega))
end KZ
namespace KZ
open Go.RowKit GK KO
open KW (bE bD aI aU fe cO aH eY)
open KY (Small)
theorem qO {l:List AM.Ar} {hs:List LM.Sh} {en:Int} (h:LM.lR l hs en=0):AM.aO l=0/\LM.cZ hs=true/\(hs.length:Int)=AM.cD l:=by
 rw[LM.jO] at h
 unfold LM.jw at h
 by_cases c:AM.aO l=0
 · rw[if_pos c] at h
   by_cases d:(decide ((hs.length:Int)=AM.sumTo l l.length)&&(LM.cZ hs&&(LM.u5 l hs hs.length&&LM.kH l en)))=true
   · simp only[Bool.and_eq_true,decide_eq_true_eq] at d
     refine⟨c,d.2.1,?_⟩
     unfold AM.cD
     rw[if_pos c]
     exact d.1
   · rw[if_neg d] at h;cases h
 · rw[if_neg c] at h;exact absurd h c
def OS (l:List AM.Ar) (hs:List LM.Sh) (nf ns:Int):KM.Kn:=⟨hs,List.replicate nf.toNat KM.l9,List.replicate ns.toNat KM.xY,[⟨true,l,[]⟩],0⟩
def OT (l:List AM.Ar) (hs:List LM.Sh) (en nf ns:Int):KM.Kn×Int:=if LM.lR l hs en≠0 then (l8,LM.lR l hs en) else if nf<3 then (l8,9) else if nf>64∨ns<0∨ns>512 then (l8,3) else if AM.cD l>ns then (l8,8) else (OS l hs nf ns,0)
def zf (n:Nat):Array Value:=madeCells #[.string ⟨#[]⟩,I 0,.bool false,.bool false] (n*4)
def zl (n:Nat):Array Value:=madeCells #[.string ⟨#[]⟩,I 0] (n*2)
theorem U5:(Tryz.prog.info? 40).map (fun i=>(i.zero,i.size,i.bytes))=some (some (.agg #[.string ⟨#[]⟩,I 0,.bool false,.bool false]),4,32):=by kernel_rfl
theorem U4:(Tryz.prog.info? 86).map (fun i=>(i.zero,i.size,i.bytes))=some (some (.agg #[.string ⟨#[]⟩,I 0]),2,24):=by kernel_rfl
theorem mkF (V:World) (n:Int) (h0:0<=n) (hn:n<=1000):(Instr.makeSlice 23 (I n) (I n)).run Tryz.prog V=.ok (.slice (some (Ad V.heap.size 0)) n.toNat n.toNat) (V.alloc (.cells (zf n.toNat) 40)):=by
 obtain⟨i0,hi,hz0,hz1,hz2⟩:=info_parts U5
 have h:=run_make (P:=Tryz.prog) V 23 40 i0 _ Tryz.underlying23 hi hz0 .i64 .i64 n n h0 (Int.le_refl _) (by rw[hz2];omega) (by omega)
 rw[hz1] at h
 exact h
theorem mkL (V:World) (n:Int) (h0:0<=n) (hn:n<=1000):(Instr.makeSlice 24 (I n) (I n)).run Tryz.prog V=.ok (.slice (some (Ad V.heap.size 0)) n.toNat n.toNat) (V.alloc (.cells (zl n.toNat) 86)):=by
 obtain⟨i0,hi,hz0,hz1,hz2⟩:=info_parts U4
 have h:=run_make (P:=Tryz.prog) V 24 86 i0 _ Tryz.underlying24 hi hz0 .i64 .i64 n n h0 (Int.le_refl _) (by rw[hz2];omega) (by omega)
 rw[hz1] at h
 exact h
theorem K8 {α:Type} (x d:α) (n i:Nat) (hi:i<n):(List.replicate n x).getD i d=x:=by
 rw[List.getD_eq_getElem?_getD,List.getElem?_replicate,if_pos hi];rfl
theorem GD (c:Array Value) (n i j m:Nat) (hc:c.size=m) (hi:i<n) (hj:j<m):(madeCells c (n*m))[i*m+j]?=c[j]?:=by
 have h1:i*m+j<n*m:=by
  have:(i+1)*m<=n*m:=Nat.mul_le_mul_right m hi
  rw[Nat.add_mul,Nat.one_mul] at this
  omega
 have h2:(i*m+j)%m=j:=by rw[Nat.mul_comm,Nat.mul_add_mod,Nat.mod_eq_of_lt hj]
 have h3:j<c.size:=by omega
 unfold madeCells
 simp[h1,hc,h2]
 rw[getElem!_pos c j h3,Array.getElem?_eq_getElem h3]
theorem Pw {W:World} {l:List AM.Ar} {hs:List LM.Sh} {nf ns:Nat} {va:Value} {ao:Option Addr} {cap fb sb pb:Nat} (ha:AW.Has W va l) (hh:LM.jg W ao hs) (hf:W.heap[fb]?=some (.cells (zf nf) 40 (0,0))) (hl:W.heap[sb]?=some (.cells (zl ns) 86 (0,0))) (hp:W.heap[pb]?=some (.cells #[.bool true,va,Nl] 43 (0,0))) :
  cO W ⟨ao,cap,some (Ad fb 0),nf,some (Ad sb 0),ns,some (Ad pb 0),1⟩ ⟨hs,List.replicate nf KM.l9,List.replicate ns KM.xY,[⟨true,l,[]⟩],0⟩:=by
 refine⟨hh,fun _=>⟨fb,0,rfl,B.isLt hf,fun i hi j hj=>?_⟩,fun _=>⟨sb,0,rfl,B.isLt hl,fun i hi j hj=>?_⟩,fun _=>⟨pb,0,rfl,B.isLt hp,fun i hi=>?_⟩⟩
 · rw[List.length_replicate] at hi
   rw[K8 _ _ _ _ hi]
   have e:=GD #[.string ⟨#[]⟩,I 0,.bool false,.bool false] nf i j 4 rfl hi hj
   rw[Nat.zero_add]
   match j,hj with
   | 0,_=>exact B.cell hf _ e
   | 1,_=>exact B.cell hf _ e
   | 2,_=>exact B.cell hf _ e
   | 3,_=>exact B.cell hf _ e
   | j+4,h=>exact absurd h (by omega)
 · rw[List.length_replicate] at hi
   rw[K8 _ _ _ _ hi]
   have e:=GD #[.string ⟨#[]⟩,I 0] ns i j 2 rfl hi hj
   rw[Nat.zero_add]
   match j,hj with
   | 0,_=>exact B.cell hl _ e
   | 1,_=>exact B.cell hl _ e
   | j+2,h=>exact absurd h (by omega)
 · obtain rfl:i=0:=by
    have:i<1:=hi
    omega
   exact⟨va,none,0,B.cell hp 0 rfl,B.cell hp 1 rfl,B.cell hp 2 rfl,ha,fun h=>absurd h (Nat.not_lt_zero _),Nat.le_refl _⟩
theorem Iz {l:List AM.Ar} {hs:List LM.Sh} {en:Int} (h:LM.lR l hs en=0) (nf ns:Nat) (hf:nf<=1000) (hn:ns<=1000):Small ⟨hs,List.replicate nf KM.l9,List.replicate ns KM.xY,[⟨true,l,[]⟩],0⟩:=by
 obtain⟨h1,h2,h3⟩:=qO h
 have h4:=KW.kg l
 have h5:=AM.gm _ h1
 refine⟨by show hs.length<=_;omega,fun i hi=>?_,by show(List.replicate nf KM.l9).length<=_;rw[List.length_replicate];omega,by show(List.replicate ns KM.xY).length<=_;rw[List.length_replicate];omega,by show 1<=1000000;omega,fun i hi=>?_,fun i hi=>?_⟩
 · have:=KY.wA h2 i hi
   show(LM.aY hs i).bq.length<=_
   omega
 · obtain rfl:i=0:=by
    have:i<1:=hi
    omega
   show l.length<=_
   omega
 · obtain rfl:i=0:=by
    have:i<1:=hi
    omega
   exact Nat.zero_le _
end KZ
end Go.Proofs.YtpgifpeohlllfaaGreat
