import Derived.Test.YtpgifpeohlllfaaGreatGS00
import Derived.Test.YtpgifpeohlllfaaGreatGS38
import Derived.Test.YtpgifpeohlllfaaGreatGS22
import Derived.Test.YtpgifpeohlllfaaGreatGS34
set_option maxHeartbeats 20000000
set_option linter.unusedVariables false
set_option maxRecDepth 100000
set_option linter.unusedSimpArgs false
namespace Go.Proofs.YtpgifpeohlllfaaGreat
namespace KZ
open Go.RowKit GK KO
open FW (ai aB)
open KW (bE bD aK aZ fu cI aJ dN bT lh eW dw iN fW)
open KS (Lc bJ oY dC blk cU)
open KX (uS Held ids)
open KY (kX fL dR oP yD Cv)
def vK (k:KM.Kn) (sp:Int):KM.Kn×Int×Int:=if dw k sp≠0 then (kN,0,dw k sp) else if k.aj.length=4 then (kN,0,2) else if KM.room k.aj+AM.cm (KM.au k.aj sp.toNat).aD>(k.slots.length:Int) then (kN,0,8) else (KM.ru k sp.toNat,(k.aj.length:Int),0)
theorem MP {k:KM.Kn} (hR:KM.aU k) {j:Nat} (hj:j<k.aj.length) {s:KM.Sp} (hs:s=KM.au k.aj j) (n:Nat) (hn:n<=s.aA.length):(∀i,i<k.frames.length->-1000000<=(KM.aI (KM.cQ k s.aA n).frames i).refs/\(KM.aI (KM.cQ k s.aA n).frames i).refs<=1000000)/\(∀i,i<k.slots.length->-1000000<=(KM.bG (KM.cQ k s.aA n).slots i).refs/\(KM.bG (KM.cQ k s.aA n).slots i).refs<=1000000):=by
 subst hs
 obtain⟨_,_,_,_,_,h6,h7⟩:=KM.pN hR hj n hn
 obtain⟨r1,r2⟩:=KX.nR hR
 have hen:=KX.je hR hj
 have hl:∀(kd i:Int),(KM.nm (KM.au k.aj j).aD kd i ((KM.au k.aj j).aA.take n)).length<=512:=fun kd i=>by
  unfold KM.nm
  rw[List.length_map]
  refine Nat.le_trans (List.length_filter_le _ _) ?_
  rw[List.length_take]
  omega
 refine⟨fun i hi=>?_,fun i hi=>?_⟩
 · rw[h6 i hi]
   have:=r1 i hi
   have:=hl 1 i
   show _<=(KM.aI k.frames i).refs+_/\(KM.aI k.frames i).refs+_<=_
   omega
 · rw[h7 i hi]
   have:=r2 i hi
   have:=hl 2 i
   show _<=(KM.bG k.slots i).refs+_/\(KM.bG k.slots i).refs+_<=_
   omega
def aac (WA W:World) (mb:Nat) (k:KM.Kn) (X:List Value) (v':Value):Prop:=∃S hs,KM.Same k.ak hs/\Km WA.heap.size mb 104 X W S (KM.bu k hs)/\S.vP=v'/\Below WA.heap.size WA W
theorem Lr {w WA W:World} {mb:Nat} {k:KM.Kn} {X:List Value} {aG:Option Addr} {nG cG:Nat} (h:aac WA W mb k X (.slice aG nG cG)) (Y2:∀V,Below WA.heap.size WA V->V.heap[w.heap.size+1]?=some (.cells #[Nl,Nl,Nl,Nl,I 0] 27 (0,0))) (hb0:Below w.heap.size w WA) (hrl:w.heap.size+1<WA.heap.size) (vs:List Value) :
  ∃aS nS cS aF nF cF aL nL cL hd,(W.cell? (Ad mb 0)=some (.slice aS nS cS)/\W.cell? (Ad mb 1)=some (.slice aF nF cF)/\W.cell? (Ad mb 2)=some (.slice aL nL cL)/\W.cell? (Ad mb 3)=some (.slice aG nG cG)/\W.cell? (Ad mb 4)=some (I hd))/\W.heap[w.heap.size+1]?=some (.cells #[Nl,Nl,Nl,Nl,I 0] 27 (0,0))/\∀U,Kp (fun b=>b=w.heap.size+1) W U->dJ w k vs (.returned (.tuple (Value.agg #[.slice aS nS cS,.slice aF nF cF,.slice aL nL cL,.slice aG nG cG,I hd]::vs).toArray)) U:=by
 obtain⟨S,hs,hsame,dM,hv,hbl⟩:=h
 obtain⟨aS,nS,cS,eS⟩:∃b n d,S.vS=.slice b n d:=by obtain⟨b,d,e,_⟩:=aQ dM.ak;exact⟨b,_,d,e⟩
 obtain⟨aF,nF,cF,eF⟩:∃b n d,S.vF=.slice b n d:=by obtain⟨b,d,e,_⟩:=aQ dM.frames;exact⟨b,_,d,e⟩
 obtain⟨aL,nL,cL,eL⟩:∃b n d,S.vL=.slice b n d:=by obtain⟨b,d,e,_⟩:=aQ dM.slots;exact⟨b,_,d,e⟩
 have eK:Below w.heap.size w W:=hb0.trans (hbl.mono hb0.size)
 refine⟨aS,nS,cS,aF,nF,cF,aL,nL,cL,_,⟨by rw[<- eS];exact dM.c0,by rw[<- eF];exact dM.c1,by rw[<- eL];exact dM.c2,by rw[<- hv];exact dM.c3,dM.c4⟩,Y2 _ hbl,fun U hU=>⟨S,hs,hsame,by rw[eS,eF,eL,hv];rfl,(dM.toKr.kp hU (fun b hb e=>by have:=(dM.kP b hb).1;omega)).mono hb0.size,Kp.below eK hU eK.size (fun b e=>by omega)⟩⟩
theorem OU (xk:kX) (k:KM.Kn) (a:fu) (sp:Int) (w:World) (hK:cI w a k) (hF:eW k) (hsp:M.gj sp) :
  Calls Tryz.prog 39 #[.agg (aJ a k),I sp] w (dJ w (vK k sp).1 [I (vK k sp).2.1,I (vK k sp).2.2]):=by
 obtain⟨WA,dK⟩:=ex ((w.alloc (.cells (aJ a k) 27)).alloc (.cells #[Nl,Nl,Nl,Nl,I 0] 27))
 have hb0:Below w.heap.size w WA:=by rw[dK];exact((Below.refl _ _).alloc (Nat.le_refl _) _).alloc (by simp) _
 have kb:WA.heap[w.heap.size]?=some (.cells (aJ a k) 27 (0,0)):=by rw[dK];exact B.alloc (B.new w _ _) _
 have rb:WA.heap[w.heap.size+1]?=some (.cells #[Nl,Nl,Nl,Nl,I 0] 27 (0,0)):=by
  have:=B.new (w.alloc (.cells (aJ a k) 27)) #[Nl,Nl,Nl,Nl,I 0] 27
  rw[World.size_alloc] at this
  rw[dK];exact this
 have RB:Hid (∀V,Below WA.heap.size WA V->V.heap[w.heap.size+1]?=some (.cells #[Nl,Nl,Nl,Nl,I 0] 27 (0,0))):=fun V hb=>B.below rb hb (B.isLt rb)
 have k0:WA.cell? (Ad w.heap.size 0)=some (.slice a.aS k.ak.length a.cS):=B.cell kb 0 rfl
 have k1:WA.cell? (Ad w.heap.size 1)=some (.slice a.aF k.frames.length a.cF):=B.cell kb 1 rfl
 have k2:WA.cell? (Ad w.heap.size 2)=some (.slice a.aL k.slots.length a.cL):=B.cell kb 2 rfl
 have k3:WA.cell? (Ad w.heap.size 3)=some (.slice a.aP k.aj.length a.cP):=B.cell kb 3 rfl
 have k4:WA.cell? (Ad w.heap.size 4)=some (I k.hand):=B.cell kb 4 rfl
 have gp:=ai dK
 have bW:=ai hb0
 have hrl:=B.isLt rb
 have pd:=ai (KW.s9 k a sp WA (hK.below hb0) hF hsp)
 have C3:Hid (∀(V:World) (C:Int),Below w.heap.size w V->dJ w kN [I 0,I C] (.returned (.tuple #[.agg #[Nl,Nl,Nl,Nl,I 0],I 0,I C])) V):=fun V C hV=>nW _ hV
 by_cases c:dw k sp=0
 · obtain⟨hR,CG,hj,mX⟩:=KY.oG c
   obtain⟨j,U7⟩:∃j:Nat,sp=(j:Int):=⟨sp.toNat,by omega⟩
   subst U7
   rw[Int.toNat_natCast] at hj mX
   have hsm:=KY.uV hR hF
   have pB:Hid (Calls Tryz.prog 69 #[.agg (aJ a k),I (j:Int)] WA fun e w'=>∃mb,e=.returned (.tuple #[.pointer (some (Ad mb 0)),I 0])/\WA.heap.size<=mb/\w'.heap[mb]?=some (.cells (lh a k) 104 (0,0))/\Below WA.heap.size WA w'):=pd.o.mono fun e w' ⟨h1,h2⟩=>by
    rcases h2 with⟨_,mb,e1,e2,e3⟩ | ⟨g,_⟩
    · exact⟨mb,e1,e2,e3,h1⟩
    · exact absurd c g
   obtain⟨pb,po,hpo,hpl,Dg⟩:=hK.aj (by omega)
   obtain⟨va,ap,cp,v0,v1,v2,TH,EC,_⟩:=Dg j hj
   have px:=TH
   obtain⟨aa,ca,qP,_⟩:=TH
   subst qP
   have hrm:=KW.sV k.aj k.aj.length
   have hcc:=hR.c
   have Vs:vK k (j:Int)=if k.aj.length=4 then (kN,0,2) else if KM.room k.aj+AM.cm (KM.au k.aj j).aD>(k.slots.length:Int) then (kN,0,8) else (KM.ru k j,(k.aj.length:Int),0):=by
    unfold vK
    rw[if_neg (fun x=>x c),Int.toNat_natCast]
   rw[Vs]
   have hfit:=(hF.sp j hj).aD
   have eK:∀{V:World},Below WA.heap.size WA V->Below w.heap.size w V:=fun hV=>hb0.trans (hV.mono hb0.size)
   have La:(j:Int)<(k.aj.length:Int):=by omega
   have hsj:=hR.sp hj
   have FE:∀n,n<(KM.au k.aj j).aA.length->((KM.aN (KM.au k.aj j).aA n).kind=1->0<=(KM.aN (KM.au k.aj j).aA n).loc/\(KM.aN (KM.au k.aj j).aA n).loc<(k.frames.length:Int))/\((KM.aN (KM.au k.aj j).aA n).kind≠1->0<=(KM.aN (KM.au k.aj j).aA n).loc/\(KM.aN (KM.au k.aj j).aA n).loc<(k.slots.length:Int)):=fun n hn=>by
    obtain⟨_,e2⟩:=hsj.vW _ (KM.dX (d:=KM.jI) hn)
    rcases e2 with⟨e4,e5,e6⟩ | ⟨e4,e5,e6⟩
    · exact⟨fun _=>⟨e5,e6⟩,fun g=>absurd e4 g⟩
    · exact⟨fun g=>absurd (e4.symm.trans g) (by decide),fun _=>⟨e5,e6⟩⟩
   have hen:=KX.je hR hj
   have har:=AM.gQ _ hsj.aD
   have hrf:=KX.nR hR
   have Eu:=fun n hn=>KM.pN hR hj n hn
   obtain⟨sj,KT⟩:=ex (KM.au k.aj j)
   have ra:KM.ru k j={ KM.cQ k sj.aA sj.aA.length with aj:=(KM.cQ k sj.aA sj.aA.length).aj++[sj] }:=by rw[KT];rfl
   rw[<- KT] at v0 v1 v2 px EC hfit FE hen har mX Eu ⊢
   obtain⟨lv,iq,fY⟩:=sj
   simp only at v0 v1 v2 px EC hfit FE hen har mX Eu ra
   have HV:Hid (∀V,Below WA.heap.size WA V->V.cell? (Ad pb (po+j*3))=some (.bool lv)/\V.cell? (Ad pb (po+j*3+1))=some (.slice aa iq.length ca)/\V.cell? (Ad pb (po+j*3+2))=some (.slice ap fY.length cp)):=fun V hV=>⟨((eK hV).cell (p:=(Ad pb (po+j*3))) hpl).trans v0,((eK hV).cell (p:=(Ad pb (po+j*3+1))) hpl).trans v1,((eK hV).cell (p:=(Ad pb (po+j*3+2))) hpl).trans v2⟩
   have Jy:Hid (∀(V:World) mb,V.heap[mb]?=some (.cells (lh a k) 104 (0,0))->V.cell? (Ad mb 3)=some (.slice (some (Ad pb po)) k.aj.length a.cP)):=fun V mb h=>by
    have:=B.cell (v:=.slice a.aP k.aj.length a.cP) h 3 rfl
    rw[hpo] at this
    exact this
   have FO:Hid (∀(V:World) mb,V.heap[mb]?=some (.cells (lh a k) 104 (0,0))->V.cell? (Ad mb 2)=some (.slice a.aL k.slots.length a.cL)):=fun V mb h=>B.cell h 2 rfl
   by_cases c4:k.aj.length=4
   · rw[if_pos c4]
     have bw:=ai (fun V (h:Below w.heap.size w V)=>C3.o V 2 h)
     obtain⟨P,hP⟩:=ex (dJ w kN [I 0,I 2])
     show Calls _ _ _ _ (dJ w kN [I 0,I 2])
     rw[<- hP] at bw ⊢
     have c4i:(k.aj.length:Int)=4:=by omega
     unfold aJ at pB gp ⊢
     clear hK hF hsp Vs c hP dK hb0 kb rb pd hR CG hj Dg v0 v1 v2 px EC hfit hpo hcc hrm hsm c4 C3 KT ra FE hen har mX Eu hsj hrf eK
     go_enter Tryz.func39,Tryz.ntmps39
     go_upto_region 1 with fail
     rw[<- gp.o]
     go_upto_region 5 with(go_at_call 69;refine pB.o.mono ?_;rintro e w1 ⟨mb,rfl,kj,hm2,hb1⟩;have Qi:=ai kj;have Dp:=ai hm2;have bI:=ai hb1;have m3:=Jy.o _ _ hm2;obtain⟨u0,u1,u2⟩:=HV.o _ hb1;clear kj hm2 hb1)
     have cZ:=ai (bI.o.alloc bI.o.size (.cells #[.bool lv,.slice aa iq.length ca,.slice ap fY.length cp] 43))
     have B3:=ai (B.new w1 #[.bool lv,.slice aa iq.length ca,.slice ap fY.length cp] 43)
     have M3:=ai (B.alloc Dp.o (.cells #[.bool lv,.slice aa iq.length ca,.slice ap fY.length cp] 43))
     have Qg:Hid (w1.heap.size≠mb):=(show w1.heap.size≠mb from fun e=>by have:=B.isLt Dp.o;omega)
     obtain⟨W3,hW3⟩:=ex (w1.alloc (.cells #[.bool lv,.slice aa iq.length ca,.slice ap fY.length cp] 43))
     obtain⟨fb,rY⟩:=ex w1.heap.size
     rw[<- hW3] at cZ B3 M3 ⊢
     rw[<- rY] at B3 Qg ⊢
     clear hW3 rY m3 u0 u1 u2
     have m3:=Jy.o _ _ M3.o
     go_upto_region 6 with fail
     have R1:=ai (RB.o _ cZ.o)
     have iF:=ai (bW.o.trans (cZ.o.mono bW.o.size))
     obtain⟨y0,y1,y2,y3,y4⟩:=B.c5 R1.o
     have f0:=B.free R1.o 0
     have f1:=B.free R1.o 1
     have f2:=B.free R1.o 2
     have f3:=B.free R1.o 3
     have f4:=B.free R1.o 4
     have h5:=ai (fun V=>mg R1.o Nl Nl Nl Nl (I 0) (V:=V))
     go_wp2
     obtain⟨r1,r2⟩:=h5.out _ rfl
     obtain⟨y0,y1,y2,y3,y4⟩:=B.c5 r1
     refine bodyPost_ret (v:=.tuple #[.agg #[Nl,Nl,Nl,Nl,I 0],I 0,I 2]) (by simp[results,Tryz.results39,go_sem,y0,y1,y2,y3,y4]) rfl ?_
     exact bw.o _ (Kp.below iF.o r2 iF.o.size (fun b e=>by omega))
   rw[if_neg c4]
   have wY:Hid (∀V mb,Below WA.heap.size WA V->V.heap[mb]?=some (.cells (lh a k) 104 (0,0))->Calls Tryz.prog 83 #[.pointer (some (Ad mb 0))] V fun e w'=>e=.returned (I (KM.room k.aj))/\Below V.heap.size V w'):=fun V mb hV hm=>KW.lV k.aj a.aP a.cP mb V (hK.aj.below (eK hV)) (fun i hi=>(hF.sp i hi).aD) (by omega) (B.cell hm 3 rfl)
   have SM:Hid (∀V,Below WA.heap.size WA V->Calls Tryz.prog 54 #[.slice aa iq.length ca] V fun e w'=>e=.returned (I (AM.cm iq))/\Below V.heap.size V w'):=fun V hV=>AW.ub _ _ V (px.below (eK hV)) hfit
   have hd1:=KW.iY iq
   have c4i:¬(k.aj.length:Int)=4:=by omega
   by_cases cr:KM.room k.aj+AM.cm iq>(k.slots.length:Int)
   · rw[if_pos cr]
     obtain⟨RM,Je⟩:=ex (KM.room k.aj)
     obtain⟨T1,OG⟩:=ex (AM.cm iq)
     have UT:0<=RM/\RM<=65025*4:=by
      rw[Je]
      unfold KM.room
      omega
     rw[<- OG] at hd1 SM cr
     rw[<- Je] at wY cr
     have bw:=ai (fun V (h:Below w.heap.size w V)=>C3.o V 8 h)
     obtain⟨P,hP⟩:=ex (dJ w kN [I 0,I 8])
     show Calls _ _ _ _ (dJ w kN [I 0,I 8])
     rw[<- hP] at bw ⊢
     have c2:(k.slots.length:Int)<RM+T1:=cr
     unfold aJ at pB gp ⊢
     clear hK hF hsp Vs c hP dK hb0 kb rb pd hR CG hj Dg v0 v1 v2 px EC hfit hpo hcc hrm hsm c4 C3 KT ra FE hen har mX Eu hsj hrf eK Je OG cr
     go_enter Tryz.func39,Tryz.ntmps39
     go_upto_region 1 with fail
     rw[<- gp.o]
     go_upto_region 5 with(go_at_call 69;refine pB.o.mono ?_;rintro e w1 ⟨mb,rfl,kj,hm2,hb1⟩;have Qi:=ai kj;have Dp:=ai hm2;have bI:=ai hb1;have m3:=Jy.o _ _ hm2;obtain⟨u0,u1,u2⟩:=HV.o _ hb1;clear kj hm2 hb1)
     have cZ:=ai (bI.o.alloc bI.o.size (.cells #[.bool lv,.slice aa iq.length ca,.slice ap fY.length cp] 43))
     have B3:=ai (B.new w1 #[.bool lv,.slice aa iq.length ca,.slice ap fY.length cp] 43)
     have M3:=ai (B.alloc Dp.o (.cells #[.bool lv,.slice aa iq.length ca,.slice ap fY.length cp] 43))
     have Qg:Hid (w1.heap.size≠mb):=(show w1.heap.size≠mb from fun e=>by have:=B.isLt Dp.o;omega)
     obtain⟨W3,hW3⟩:=ex (w1.alloc (.cells #[.bool lv,.slice aa iq.length ca,.slice ap fY.length cp] 43))
     obtain⟨fb,rY⟩:=ex w1.heap.size
     rw[<- hW3] at cZ B3 M3 ⊢
     rw[<- rY] at B3 Qg ⊢
     clear hW3 rY m3 u0 u1 u2
     have m3:=Jy.o _ _ M3.o
     go_upto_region 7 with fail
     have mv:=Q.dW W3
     have q1:∀x:Q.fF W3.heap.size W3,x.world.cell? (Ad fb 1)=some (.slice aa iq.length ca):=fun x=>B.cell (B.below B3.o x.keeps (B.isLt B3.o)) 1 rfl
     have q2:∀x:Q.fF W3.heap.size W3,x.world.cell? (Ad mb 2)=some (.slice a.aL k.slots.length a.cL):=fun x=>FO.o _ _ (B.below M3.o x.keeps (B.isLt M3.o))
     have LU:=ai (fun V (hV:Below W3.heap.size W3 V)=>wY.o V mb (cZ.o.trans (hV.mono cZ.o.size)) (B.below M3.o hV (B.isLt M3.o)))
     have LP:=ai (fun V (hV:Below W3.heap.size W3 V)=>SM.o V (cZ.o.trans (hV.mono cZ.o.size)))
     clear m3
     refine Q.br (by kernel_rfl) (by kernel_rfl) ?_
     repeat (first | go_big_quiet_step ((first | (go_at_call 83;exact fW _ LU.o) | (go_at_call 54;exact fW _ LP.o))) | quiet_step ((first | (go_at_call 83;exact fW _ LU.o) | (go_at_call 54;exact fW _ LP.o))))
     refine wpQuiet_nil ?_
     rintro _ ⟨X,rfl⟩
     have nK:=ai (cZ.o.trans (X.keeps.mono cZ.o.size))
     have R1:=ai (RB.o _ nK.o)
     have iF:=ai (bW.o.trans (nK.o.mono bW.o.size))
     obtain⟨y0,y1,y2,y3,y4⟩:=B.c5 R1.o
     have f0:=B.free R1.o 0
     have f1:=B.free R1.o 1
     have f2:=B.free R1.o 2
     have f3:=B.free R1.o 3
     have f4:=B.free R1.o 4
     have h5:=ai (fun V=>mg R1.o Nl Nl Nl Nl (I 0) (V:=V))
     go_wp2
     obtain⟨r1,r2⟩:=h5.out _ rfl
     obtain⟨y0,y1,y2,y3,y4⟩:=B.c5 r1
     refine bodyPost_ret (v:=.tuple #[.agg #[Nl,Nl,Nl,Nl,I 0],I 0,I 8]) (by simp[results,Tryz.results39,go_sem,y0,y1,y2,y3,y4]) rfl ?_
     exact bw.o _ (Kp.below iF.o r2 iF.o.size (fun b e=>by omega))
   rw[if_neg cr]
   have HOW:Hid (∀V mb,Below WA.heap.size WA V->WA.heap.size<=mb->V.heap[mb]?=some (.cells (lh a k) 104 (0,0))->Calls Tryz.prog 84 #[.pointer (some (Ad mb 0))] V fun e w'=>e=.returned (.tuple #[])/\∃S hs,KM.Same k.ak hs/\Km WA.heap.size mb 104 (fL k) w' S (KM.bu k hs)/\(∀b,S.lab b≠.no->b=mb∨V.heap.size<=b)/\Kp (fun b=>b=mb) V w'):=fun V mb hV kj hm2=>KY.xd xk k a mb V (hK.below (eK hV)) hsm hm2 WA.heap.size kj
   have iG:Hid (∀V n,Below WA.heap.size WA V->n<fY.length->∃eb eo,ap=some (Ad eb eo)/\V.cell? (Ad eb (eo+n*3))=some (I (KM.aN fY n).page)/\V.cell? (Ad eb (eo+n*3+1))=some (I (KM.aN fY n).kind)/\V.cell? (Ad eb (eo+n*3+2))=some (I (KM.aN fY n).loc)):=fun V n hV hn=>by
    obtain⟨eb,eo,e1,e2,e3⟩:=(EC.below (eK hV)) (by omega)
    have z0:=e3 n hn 0 (by omega)
    rw[Nat.add_zero] at z0
    exact⟨eb,eo,e1,z0,e3 n hn 1 (by omega),e3 n hn 2 (by omega)⟩
   have PS:Hid (∀V S mb hs n,n<fY.length->Km WA.heap.size mb 104 (fL k) V S (KM.bu (KM.cQ k fY n) hs)->Calls Tryz.prog 85 #[.pointer (some (Ad mb 0)),.agg #[I (KM.aN fY n).page,I (KM.aN fY n).kind,I (KM.aN fY n).loc],I 1] V fun e w'=>e=.returned (.tuple #[])/\Km WA.heap.size mb 104 (fL k) w' S (KM.bu (KM.cQ k fY (n+1)) hs)/\Ch S V S w'):=fun V S mb hs n hn hV=>by
    have hp:=Eu n (by omega)
    have Di:=MP hR hj KT n (Nat.le_of_lt hn)
    refine(KX.uL (KM.bu (KM.cQ k fY n) hs) S V (KM.aN fY n) 1 hV (fun g=>?_) (fun g=>?_) (.inl rfl) ⟨fun g=>?_,fun g=>?_⟩).mono fun e w' ⟨h1,h2,h3⟩=>⟨h1,?_,h3⟩
    · show _/\_<((KM.cQ k fY n).frames.length:Int)
      rw[hp.2.2.2.1];exact(FE n hn).1 g
    · show _/\_<((KM.cQ k fY n).slots.length:Int)
      rw[hp.2.2.2.2.1];exact(FE n hn).2 g
    · exact Di.1 _ (by have:=(FE n hn).1 g;omega)
    · exact Di.2 _ (by have:=(FE n hn).2 g;omega)
    · rw[KM.EW] at h2
      exact h2
   have Dn:Hid (∀n,n<=fY.length->(KM.cQ k fY n).aj.length=k.aj.length):=fun n hn=>by rw[(Eu n hn).2.2.1]
   have HSK:Hid ((KM.ru k j).ak=k.ak/\(KM.ru k j).hand=k.hand/\(KM.ru k j).aj.length=k.aj.length+1):=by
    have hp:=Eu fY.length (Nat.le_refl _)
    rw[ra]
    refine⟨hp.1,hp.2.1,?_⟩
    show((KM.cQ k fY fY.length).aj++[_]).length=_
    rw[List.length_append,hp.2.2.1]
    rfl
   have Ub:Hid (∀hs,KM.bu (KM.ru k j) hs={ KM.bu (KM.cQ k fY fY.length) hs with aj:=(KM.bu (KM.cQ k fY fY.length) hs).aj++[⟨lv,iq,fY⟩] }):=fun hs=>by rw[ra];rfl
   have ZR:Hid (∀V,Below WA.heap.size WA V->AW.Has V (.slice aa iq.length ca) iq/\aZ aK 3 KM.jI V ap fY):=fun V hV=>⟨px.below (eK hV),EC.below (eK hV)⟩
   obtain⟨RM,Je⟩:=ex (KM.room k.aj)
   obtain⟨T1,OG⟩:=ex (AM.cm iq)
   have UT:0<=RM/\RM<=65025*4:=by
    rw[Je]
    unfold KM.room
    omega
   rw[<- OG] at hd1 SM cr
   rw[<- Je] at wY cr
   obtain⟨P,hP⟩:=ex (dJ w (KM.ru k j) [I (k.aj.length:Int),I 0])
   show Calls _ _ _ _ (dJ w (KM.ru k j) [I (k.aj.length:Int),I 0])
   rw[<- hP]
   have HP:=ai hP
   have c2:¬(k.slots.length:Int)<RM+T1:=cr
   have aia:k.aj.length<=4:=by omega
   unfold aJ at pB gp ⊢
   clear hK hF hsp Vs c hP dK hb0 kb rb pd hR CG hj Dg v0 v1 v2 px EC hfit hpo hcc hrm hsm c4 C3 KT ra FE mX Eu hsj hrf eK Je OG cr xk
   go_enter Tryz.func39,Tryz.ntmps39
   go_upto_region 1 with fail
   rw[<- gp.o]
   go_upto_region 5 with(go_at_call 69;refine pB.o.mono ?_;rintro e w1 ⟨mb,rfl,kj,hm2,hb1⟩;have Qi:=ai kj;have Dp:=ai hm2;have bI:=ai hb1;have m3:=Jy.o _ _ hm2;obtain⟨u0,u1,u2⟩:=HV.o _ hb1;clear kj hm2 hb1)
   have cZ:=ai (bI.o.alloc bI.o.size (.cells #[.bool lv,.slice aa iq.length ca,.slice ap fY.length cp] 43))
   have B3:=ai (B.new w1 #[.bool lv,.slice aa iq.length ca,.slice ap fY.length cp] 43)
   have M3:=ai (B.alloc Dp.o (.cells #[.bool lv,.slice aa iq.length ca,.slice ap fY.length cp] 43))
   have Qg:Hid (w1.heap.size≠mb):=(show w1.heap.size≠mb from fun e=>by have:=B.isLt Dp.o;omega)
   obtain⟨W3,hW3⟩:=ex (w1.alloc (.cells #[.bool lv,.slice aa iq.length ca,.slice ap fY.length cp] 43))
   obtain⟨fb,rY⟩:=ex w1.heap.size
   rw[<- hW3] at cZ B3 M3 ⊢
   rw[<- rY] at B3 Qg ⊢
   clear hW3 rY m3 u0 u1 u2
   have m3:=Jy.o _ _ M3.o
   go_upto_region 7 with fail
   have mv:=Q.dW W3
   have q1:∀x:Q.fF W3.heap.size W3,x.world.cell? (Ad fb 1)=some (.slice aa iq.length ca):=fun x=>B.cell (B.below B3.o x.keeps (B.isLt B3.o)) 1 rfl
   have q2:∀x:Q.fF W3.heap.size W3,x.world.cell? (Ad mb 2)=some (.slice a.aL k.slots.length a.cL):=fun x=>FO.o _ _ (B.below M3.o x.keeps (B.isLt M3.o))
   have LU:=ai (fun V (hV:Below W3.heap.size W3 V)=>wY.o V mb (cZ.o.trans (hV.mono cZ.o.size)) (B.below M3.o hV (B.isLt M3.o)))
   have LP:=ai (fun V (hV:Below W3.heap.size W3 V)=>SM.o V (cZ.o.trans (hV.mono cZ.o.size)))
   clear m3
   refine Q.br (by kernel_rfl) (by kernel_rfl) ?_
   repeat (first | go_big_quiet_step ((first | (go_at_call 83;exact fW _ LU.o) | (go_at_call 54;exact fW _ LP.o))) | quiet_step ((first | (go_at_call 83;exact fW _ LU.o) | (go_at_call 54;exact fW _ LP.o))))
   refine wpQuiet_nil ?_
   rintro _ ⟨X,rfl⟩
   have nK:=ai (cZ.o.trans (X.keeps.mono cZ.o.size))
   have MX:=ai (B.below M3.o X.keeps (B.isLt M3.o))
   have BX:=ai (B.below B3.o X.keeps (B.isLt B3.o))
   clear mv q2 q1 LU LP wY SM
   obtain⟨WX,hWX⟩:=ex X.world
   rw[<- hWX] at nK MX BX ⊢
   clear hWX
   go_upto_region 10 with(go_at_call 84;refine(HOW.o _ _ nK.o Qi.o MX.o).mono ?_;rintro e w4 ⟨rfl,S,hs,hs2,hk2,Yo,Yy⟩;have eD:=ai hs2;have jJ:=ai hk2;have Fk:=ai Yo;have ZP:=ai Yy;clear hs2 hk2 Yo Yy)
   have l6:S.lab fb=.no:=Classical.not_not.1 fun g=>by
    rcases Fk.o fb g with e | e
    · exact Qg.o e
    · have:=B.isLt BX.o;omega
   have ZK:=ai l6
   have B4:=ai (ZP.o.keep BX.o Qg.o)
   have YQ:Below WA.heap.size WA w4:=Kp.below nK.o ZP.o nK.o.size (fun b e=>by have:=Qi.o;omega)
   have iF:=ai YQ
   have x2:w4.cell? (Ad fb 2)=some (.slice ap fY.length cp):=B.cell B4.o 2 rfl
   have Zt:Hid (∀V,Kp (fun b=>S.lab b≠.no) w4 V->V.heap[fb]?=some (.cells #[.bool lv,.slice aa iq.length ca,.slice ap fY.length cp] 43 (0,0))/\Below WA.heap.size WA V):=fun V hV=>⟨hV.keep B4.o (fun g=>g ZK.o),Kp.below iF.o hV iF.o.size (fun b hb=>(jJ.o.kP b hb).1)⟩
   clear l6 YQ
   go_wp2
   go_loopw [59] (fun iv wq=>∃n:Nat,n<=fY.length/\iv=I (n:Int)/\Km WA.heap.size mb 104 (fL k) wq S (KM.bu (KM.cQ k fY n) hs)/\Kp (fun b=>S.lab b≠.no) w4 wq) (fun iv _=>fY.length-(intOf iv).toNat)
   case atStart=>exact⟨0,by omega,rfl,jJ.o,Kp.refl _ _⟩
   case round =>
    obtain⟨n,hn,rfl,dM,Yx⟩:=hrel
    by_cases hlt:n<fY.length
    · have hni:(n:Int)<(fY.length:Int):=by omega
      obtain⟨rY,tW⟩:=Zt.o wr Yx
      obtain⟨eb,eo,hap,z0,z1,z2⟩:=iG.o wr n tW hlt
      have j6:Hid (Calls Tryz.prog 85 #[.pointer (some (Ad mb 0)),.agg #[I (KM.aN fY n).page,I (KM.aN fY n).kind,I (KM.aN fY n).loc],I 1] (wr.alloc (.cells #[I (KM.aN fY n).page,I (KM.aN fY n).kind,I (KM.aN fY n).loc] 45)) fun e w'=>e=.returned (.tuple #[])/\Km WA.heap.size mb 104 (fL k) w' S (KM.bu (KM.cQ k fY (n+1)) hs)/\Kp (fun b=>S.lab b≠.no) w4 w'):=(PS.o _ S mb hs n hlt (dM.below ((Below.refl _ _).alloc (Nat.le_refl _) _))).mono fun e w' ⟨h1,h2,h3⟩=>⟨h1,h2,(Yx.trans (Kp.alloc _ _ _) (fun _ _ g=>g)).trans h3.kp (fun _ _ g=>g)⟩
      obtain⟨en,Oq⟩:=ex (KM.aN fY n)
      rw[<- Oq] at z0 z1 z2 j6
      obtain⟨g1,g2,g3⟩:=en
      simp only at z0 z1 z2 j6
      subst hap
      clear dM Yx rY tW Oq PS iG
      go_wp2_with (go_at_call 85;refine j6.o.mono ?_;rintro e w5 ⟨rfl,h5,h6⟩;have Jz:=ai h5;have HP5:=ai h6;clear h5 h6)
      go_roundw
      case rel=>exact⟨n+1,by omega,by go_num,Jz.o,HP5.o⟩
      case measure=>simp[intOf];omega
    · obtain rfl:n=fY.length:=by omega
      obtain⟨rY,tW⟩:=Zt.o wr Yx
      obtain⟨bP,dP,eP,_⟩:=aQ dM.aj
      have Y7:S.L.length<=1000000:=by
       have:=dM.len
       have e:(KM.bu (KM.cQ k fY fY.length) hs).aj.length=k.aj.length:=Dn.o _ (Nat.le_refl _)
       omega
      have S0:Hid (S.L.length=k.aj.length):=by
       have:=dM.len
       have e:(KM.bu (KM.cQ k fY fY.length) hs).aj.length=k.aj.length:=Dn.o _ (Nat.le_refl _)
       exact(show S.L.length=k.aj.length by omega)
      have Dj:Below wr.heap.size wr wr.drew:=(Below.refl _ _).drew
      have BD:wr.drew.heap[fb]?=some (.cells #[.bool lv,.slice aa iq.length ca,.slice ap fY.length cp] 43 (0,0)):=B.below rY Dj (B.isLt rY)
      obtain⟨WD,P7⟩:=ex wr.drew
      rw[<- P7] at Dj BD
      have HWD:=ai P7
      have Og:=dM.below Dj
      have Yv:WA.heap.size<=WD.heap.size:=Nat.le_trans tW.size Dj.size
      have Ro:Below WA.heap.size WA WD:=tW.trans (Dj.mono tW.size)
      obtain⟨hh1,hh2⟩:=ZR.o WD Ro
      have Mm:Hid (Calls Tryz.prog 86 #[.agg #[.bool lv,.slice aa iq.length ca,.slice ap fY.length cp]] WD fun e w'=>∃xa nx cx ya ny cy,e=.returned (.agg #[.bool lv,.slice xa nx cx,.slice ya ny cy])/\cU WD.heap.size w' ⟨lv,.slice xa nx cx,.slice ya ny cy⟩ ⟨lv,iq,fY⟩/\(∀b,blk (.slice ya ny cy) b->¬blk (.slice xa nx cx) b)/\Below WD.heap.size WD w'):=(KS.ze ⟨lv,iq,fY⟩ aa ap iq.length ca cp WD hh1 hh2 (by show iq.length<=_;omega) (by show fY.length<=_;omega)).mono fun e w' ⟨va,vp,h1,h2,h3,h4⟩=>by
       obtain⟨xa,cx,ex,_⟩:=aQ h2.aD
       obtain⟨ya,cy,ey,_⟩:=aQ h2.aH
       have ex:va=_:=ex
       have ey:vp=_:=ey
       subst ex ey
       exact⟨xa,_,cx,ya,_,cy,h1,h2,h3,h4⟩
      have Wx:Hid (∀V,Kp (fun b=>blk S.vP b) WD V->V.cell? (Ad mb 3)=some (.slice bP S.L.length dP)/\V.cell? (Ad fb 0)=some (.bool lv)/\V.cell? (Ad fb 1)=some (.slice aa iq.length ca)/\V.cell? (Ad fb 2)=some (.slice ap fY.length cp)/\V.frozen? (Ad mb 3)=false):=fun V hV=>by
       have b1:=hV.keep Og.head (fun g=>by have:=dM.lP _ g;rw[dM.lH] at this;simp at this)
       have b2:=hV.keep BD (fun g=>by have:=dM.lP _ g;rw[ZK.o] at this;simp at this)
       refine⟨?_,B.cell b2 0 rfl,B.cell b2 1 rfl,B.cell b2 2 rfl,B.free b1 3⟩
       rw[<- eP]
       exact B.cell b1 3 rfl
      have Ii:Hid (∀w2 o,Below WD.heap.size WD w2->(w2.alloc o).ownsRow WA.heap.size 43 3 (.slice bP S.L.length dP) S.L.length (S.L.flatMap bJ)):=fun w2 o hb=>by
       have:=((Kp.aY (D:=fun _=>False) hb).trans (Kp.alloc _ w2 o) (fun _ _ g=>g)).row Og.aj (fun _ _ g=>g)
       rw[eP] at this
       exact this
      have LR:Hid (∀w2 w4 O v' l,Below WD.heap.size WD w2->cU WD.heap.size w2 l ⟨lv,iq,fY⟩->(∀b,blk l.vp b->¬blk l.va b)->(w2.alloc O).grownBy w4 S.vP.ownBlock->w4.ownsRow WA.heap.size 43 3 v' (S.L.length+1) (S.L.flatMap bJ++bJ l)->(v'.ownBlock=S.vP.ownBlock∨v'.ownBlock=some (w2.alloc O).heap.size)->aac WA (w4.setCell (Ad mb 3) v') mb (KM.ru k j) (fL k) v'):=fun w2 w4 O v' l h1 h2 h3 h4 h5 h6=>by
       have m1:=Og.push Yv h1 h2 h3 h4 h5 h6
       have m2:=m1.1
       rw[<- Ub.o hs] at m2
       exact⟨_,hs,by rw[HSK.o.1];exact eD.o,m2,rfl,Kp.below Ro m1.2.2 Ro.size (fun b hb=>(Og.kP b hb).1)⟩
      have Ai:Hid (∀w2,Below WD.heap.size WD w2->Kp (fun b=>blk S.vP b) WD w2):=fun w2 h=>Kp.aY h
      have HEP:=ai eP
      obtain⟨i0,hin,hz0,hz1,hz2⟩:=info_parts yD
      have qI:=ai hin
      have wS:=ai hz0
      have wR:=ai hz1
      have uO:=ai hz2
      have hlw:WA.heap.size<=WD.heap.size:=Yv
      clear dM Og Yx tW rY hh1 hh2 P7 Dj BD eP hin hz0 hz1 hz2 Ro PS iG
      go_upto_region 15 with fail
      refine GZ.p8 (S:=fun V=>Kp (fun b=>blk S.vP b) WD V) (z:=13) (by kernel_rfl) ?_
      rw[<- HWD.o]
      have cA:=Wx
      have eX:Hid (Kp (fun b=>blk S.vP b) WD WD):=Kp.refl _ _
      refine GZ.tk 0 eX.o ?_ ?_ ?_
      rotate_left 1
      · intro V h
        obtain⟨k0,k1,k2,k3,k4⟩:=cA.o V h
        go_simp
        try with_reducible rfl
      refine GZ.tk 1 eX.o ?_ ?_ ?_
      rotate_left 1
      · intro V h
        obtain⟨k0,k1,k2,k3,k4⟩:=cA.o V h
        go_simp
        try with_reducible rfl
      refine GZ.tk 2 eX.o ?_ ?_ ?_
      rotate_left 1
      · intro V h
        obtain⟨k0,k1,k2,k3,k4⟩:=cA.o V h
        go_simp
        try with_reducible rfl
      refine GZ.tk 3 eX.o ?_ ?_ ?_
      rotate_left 1
      · intro V h
        obtain⟨k0,k1,k2,k3,k4⟩:=cA.o V h
        go_simp
        try with_reducible rfl
      refine GZ.tk 4 eX.o ?_ ?_ ?_
      rotate_left 1
      · intro V h
        obtain⟨k0,k1,k2,k3,k4⟩:=cA.o V h
        go_simp
        try with_reducible rfl
      refine GZ.tk 5 eX.o ?_ ?_ ?_
      rotate_left 1
      · intro V h
        obtain⟨k0,k1,k2,k3,k4⟩:=cA.o V h
        go_simp
        try with_reducible rfl
      refine GZ.tk 6 eX.o ?_ ?_ ?_
      rotate_left 1
      · intro V h
        obtain⟨k0,k1,k2,k3,k4⟩:=cA.o V h
        go_simp
        try with_reducible rfl
      refine GZ.all (rs:=[7]) (by kernel_rfl) (by simp) ?_
      refine GZ.aV.cons rfl (fun K hK=>?_) GZ.aV.nil
      rw[if_pos (by rfl)];go_simp;go_at_call 86;refine Mm.o.mono ?_;rintro e w6 ⟨xa,nx,cx,ya,ny,cy,rfl,Q8,hap,hb2⟩;have Ih:=ai Q8;have Mo:=ai hap;have ck:=ai hb2;have gH:=ai (Ai.o _ hb2);clear Q8 hap hb2;try go_simp
      refine hK.out _ _ (fun _=>?_) ?_
      · exact gH.o
      clear hK K
      try simp only[Act.put,List.setIfInBounds_toArray,List.set_cons_zero,List.set_cons_succ]
      refine GZ.all (rs:=[8]) (by kernel_rfl) (by simp) ?_
      refine GZ.aV.cons rfl (fun K hK=>?_) GZ.aV.nil
      go_simp
      refine hK.out _ _ (fun _=>?_) ?_
      · exact gH.o.trans (Kp.alloc _ _ _) (fun _ _ g=>g)
      clear hK K
      try simp only[Act.put,List.setIfInBounds_toArray,List.set_cons_zero,List.set_cons_succ]
      have ab0:=ck.o.size
      refine GZ.all (rs:=[9]) (by kernel_rfl) (by simp) ?_
      refine GZ.aV.cons rfl (fun K hK=>?_) GZ.aV.nil
      rw[if_pos (by rfl)];refine cY (P:=Tryz.prog) _ _ 25 rfl WA.heap.size 43 i0 (.agg #[.bool false,Nl,Nl]) 3 56 Tryz.underlying25 qI.o wS.o wR.o uO.o rfl (by decide) (.slice bP S.L.length dP) S.L.length (S.L.flatMap bJ) rfl (Ii.o _ _ ck.o) (some (Ad w6.heap.size 0)) 1 1 (bJ ⟨lv,.slice xa nx cx,.slice ya ny cy⟩) rfl rfl (fun _=>⟨_,rfl,Cv w6 _ _⟩) (by intro u hu;simp[bJ] at hu;rcases hu with rfl | rfl | rfl <;> rfl) (by unfold maxLen;omega) (by omega) (by rw[World.size_alloc];omega) ?_;intro vG wG sJ uE wM;obtain⟨aG,cG,Er,_,_⟩:=aQ sJ;subst Er;rw[<- HEP.o] at uE wM;have pE:Hid (Kp (fun b=>blk S.vP b) WD wG):=(gH.o.trans (Kp.alloc _ _ _) (fun _ _ g=>g)).trans (Kp.grown uE (fun q hq=>hq)) (fun _ _ g=>g);have SQ:=ai (LR.o w6 wG _ _ ⟨lv,.slice xa nx cx,.slice ya ny cy⟩ ck.o Ih.o Mo.o uE sJ wM);clear sJ uE wM
      refine hK.out _ _ (fun _=>?_) ?_
      · exact pE.o
      clear hK K
      try simp only[Act.put,List.setIfInBounds_toArray,List.set_cons_zero,List.set_cons_succ]
      refine GZ.all (rs:=[10]) (by kernel_rfl) (by simp) ?_
      refine GZ.aV.cons rfl (fun K hK=>?_) GZ.aV.nil
      go_simp
      refine hK.out _ _ (fun _=>?_) ?_
      · exact pE.o
      clear hK K
      try simp only[Act.put,List.setIfInBounds_toArray,List.set_cons_zero,List.set_cons_succ]
      refine GZ.all (rs:=[11]) (by kernel_rfl) (by simp) ?_
      refine GZ.aV.cons rfl (fun K hK=>?_) GZ.aV.nil
      go_simp
      refine hK.out _ _ (fun _=>?_) ?_
      · exact pE.o
      clear hK K
      try simp only[Act.put,List.setIfInBounds_toArray,List.set_cons_zero,List.set_cons_succ]
      refine GZ.tk 12 pE.o ?_ ?_ ?_
      rotate_left 1
      · intro V h
        obtain⟨k0,k1,k2,k3,k4⟩:=cA.o V h
        go_simp
        try with_reducible rfl
      obtain⟨k0,k1,k2,k3,k4⟩:=cA.o _ pE.o
      refine GZ.all (rs:=[13]) (by kernel_rfl) (by simp) ?_
      refine GZ.aV.cons rfl (fun K hK=>?_) GZ.aV.nil
      go_simp
      refine hK.out _ _ (fun g=>absurd rfl g) ?_
      refine GZ.done (by kernel_rfl) ?_ _
      clear k0 k1 k2 k3 k4
      obtain⟨aS,nS,cS,aF,nF,cF,aL,nL,cL,hd,hcells,hr3,hfin⟩:=Lr SQ.o RB.o bW.o hrl [I (k.aj.length:Int),I 0]
      have jZ:=ai hfin
      have R3:=ai hr3
      have Am:=ai hcells
      obtain⟨W5,TR⟩:=ex (wG.setCell (Ad mb 3) (.slice aG (S.L.length+1) cG))
      rw[<- TR] at Am R3 jZ ⊢
      clear TR hfin hr3 hcells
      obtain⟨q0,q1,q2,q3,q4⟩:=Am.o
      obtain⟨y0,y1,y2,y3,y4⟩:=B.c5 R3.o
      have f0:=B.free R3.o 0
      have f1:=B.free R3.o 1
      have f2:=B.free R3.o 2
      have f3:=B.free R3.o 3
      have f4:=B.free R3.o 4
      have h5:=ai (fun V=>mg R3.o (.slice aS nS cS) (.slice aF nF cF) (.slice aL nL cL) (.slice aG (S.L.length+1) cG) (I hd) (V:=V))
      have Ab:¬mb=w.heap.size+1:=by have:=Qi.o;omega
      have Rc:¬w.heap.size+1=mb:=by omega
      have Oe:((S.L.length+1:Nat):Int)-1=(S.L.length:Int):=by omega
      go_upto_region 16 with fail
      go_region
      go_wp2
      obtain⟨r1,r2⟩:=h5.out _ rfl
      obtain⟨y0,y1,y2,y3,y4⟩:=B.c5 (B.below r1 (Below.refl _ _).drew (B.isLt r1))
      refine bodyPost_ret (v:=.tuple #[.agg #[.slice aS nS cS,.slice aF nF cF,.slice aL nL cL,.slice aG (S.L.length+1) cG,I hd],I (S.L.length:Int),I 0]) (by simp[results,Tryz.results39,go_sem,y0,y1,y2,y3,y4]) rfl ?_
      have e:(I (S.L.length:Int):Value)=I (k.aj.length:Int):=by rw[S0.o]
      rw[e,HP.o]
      exact jZ.o _ (r2.trans (Kp.drew _ _) (fun _ _ g=>g))
 · have hA:vK k sp=(kN,0,dw k sp):=by unfold vK;rw[if_pos c]
   rw[hA]
   have VX:=ai (KY.Ec pd.o c)
   obtain⟨C,hC2⟩:=ex (dw k sp)
   rw[<- hC2] at VX c ⊢
   have cb:(C != 0)=true:=by simpa using c
   have bw:=ai (fun V (h:Below w.heap.size w V)=>C3.o V C h)
   obtain⟨P,hP⟩:=ex (dJ w kN [I 0,I C])
   show Calls _ _ _ _ (dJ w kN [I 0,I C])
   rw[<- hP] at bw ⊢
   unfold aJ at VX gp ⊢
   clear hK hF hsp hA hC2 c hP dK hb0 kb rb pd C3 xk
   go_enter Tryz.func39,Tryz.ntmps39
   go_upto_region 1 with fail
   rw[<- gp.o]
   go_upto_region 3 with(go_at_call 69;refine VX.o.mono ?_;rintro e w1 ⟨rfl,hb1⟩;have iF:=ai (bW.o.trans (hb1.mono bW.o.size));have R1:=ai (RB.o _ hb1);clear hb1)
   obtain⟨y0,y1,y2,y3,y4⟩:=B.c5 R1.o
   have f0:=B.free R1.o 0
   have f1:=B.free R1.o 1
   have f2:=B.free R1.o 2
   have f3:=B.free R1.o 3
   have f4:=B.free R1.o 4
   have h5:=ai (fun V=>mg R1.o Nl Nl Nl Nl (I 0) (V:=V))
   go_wp2
   obtain⟨r1,r2⟩:=h5.out _ rfl
   obtain⟨y0,y1,y2,y3,y4⟩:=B.c5 r1
   refine bodyPost_ret (v:=.tuple #[.agg #[Nl,Nl,Nl,Nl,I 0],I 0,I C]) (by simp[results,Tryz.results39,go_sem,y0,y1,y2,y3,y4]) rfl ?_
   exact bw.o _ (Kp.below iF.o r2 iF.o.size (fun b e=>by omega))
end KZ
namespace KY
open Go.RowKit KO
open KW (fu cI aJ eW)
theorem Bq:kX:=fun k a w hK hs=>Ek k a w hK hs
end KY
end Go.Proofs.YtpgifpeohlllfaaGreat
