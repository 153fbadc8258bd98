import Derived.Test.YtpgifpeohlllfaaGreatGT33
set_option maxHeartbeats 20000000
set_option linter.unusedVariables false
set_option maxRecDepth 100000
set_option linter.unusedSimpArgs false
namespace Go.Proofs.YtpgifpeohlllfaaGreat
namespace KZ
open Go.RowKit GK KO
open FW (ai aD)
open KW (bJ bI aK aZ fh cK aI dA bU kK eB cu iU eY)
open KS (Lc bw kM cD blk cJ)
open KX (vB Held ids)
open KY (km fB dQ pq sH uP)
def fe (k:KM.Kn) (sp:Int):KM.Kn×Int×Int:=if cu k sp≠0 then (gK,0,cu k sp) else if k.aj.length=4 then (gK,0,2) else if KM.room k.aj+AM.b7 (KM.au k.aj sp.toNat).aB>(k.slots.length:Int) then (gK,0,8) else (KM.fX k sp.toNat,(k.aj.length:Int),0)
theorem El {k:KM.Kn} (hR:KM.aQ k) {j:Nat} (hj:j<k.aj.length) {s:KM.Sp} (hs:s=KM.au k.aj j) (n:Nat) (hn:n<=s.aA.length):(∀i,i<k.frames.length->-1000000<=(KM.aH (KM.aV k s.aA n).frames i).refs/\(KM.aH (KM.aV k s.aA n).frames i).refs<=1000000)/\(∀i,i<k.slots.length->-1000000<=(KM.bj (KM.aV k s.aA n).slots i).refs/\(KM.bj (KM.aV k s.aA n).slots i).refs<=1000000):=by
 subst hs;obtain⟨_,_,_,_,_,h6,h7⟩:=KM.jI hR hj n hn;obtain⟨r1,r2⟩:=KX.lJ hR;have hen:=KX.jq hR hj;have hl:∀(kd i:Int),(KM.nm (KM.au k.aj j).aB kd i ((KM.au k.aj j).aA.take n)).length<=512:=fun kd i=>by
  unfold KM.nm;rw[List.length_map];refine Nat.le_trans (List.length_filter_le _ _) ?_;rw[List.length_take];omega
 refine⟨fun i hi=>?_,fun i hi=>?_⟩
 · rw[h6 i hi];have:=r1 i hi;have:=hl 1 i;show _<=(KM.aH k.frames i).refs+_/\(KM.aH k.frames i).refs+_<=_;omega
 · rw[h7 i hi];have:=r2 i hi;have:=hl 2 i;show _<=(KM.bj k.slots i).refs+_/\(KM.bj k.slots i).refs+_<=_;omega
def abG (WA W:World) (mb:Nat) (k:KM.Kn) (X:List Value) (v':Value):Prop:=∃S hs,KM.Same k.ak hs/\Km WA.heap.size mb 104 X W S (KM.aT k hs)/\S.vP=v'/\Below WA.heap.size WA W
theorem Mg {w WA W:World} {mb:Nat} {k:KM.Kn} {X:List Value} {aG:Option Addr} {nG cG:Nat} (h:abG WA W mb k X (.slice aG nG cG)) (hRB:∀V,Below WA.heap.size WA V->V.heap[w.heap.size+1]?=some (.cells #[Nl,Nl,Nl,Nl,I 0] 27 (0,0))) (hb0:Below w.heap.size w WA) (hrl:w.heap.size+1<WA.heap.size) (vs:List Value) :
  ∃aS nS cS aF nF cF aL nL cL hd,(W.cell? (Ad mb 0)=some (.slice aS nS cS)/\W.cell? (Ad mb 1)=some (.slice aF nF cF)/\W.cell? (Ad mb 2)=some (.slice aL nL cL)/\W.cell? (Ad mb 3)=some (.slice aG nG cG)/\W.cell? (Ad mb 4)=some (I hd))/\W.heap[w.heap.size+1]?=some (.cells #[Nl,Nl,Nl,Nl,I 0] 27 (0,0))/\∀U,Kp (fun b=>b=w.heap.size+1) W U->b6 w k vs (.returned (.tuple (Value.agg #[.slice aS nS cS,.slice aF nF cF,.slice aL nL cL,.slice aG nG cG,I hd]::vs).toArray)) U:=by
 obtain⟨S,hs,hsame,dG,hv,hbl⟩:=h;obtain⟨aS,nS,cS,eS⟩:∃b n d,S.vS=.slice b n d:=by obtain⟨b,d,e,_⟩:=aN dG.ak;exact⟨b,_,d,e⟩
 obtain⟨aF,nF,cF,eF⟩:∃b n d,S.vF=.slice b n d:=by obtain⟨b,d,e,_⟩:=aN dG.frames;exact⟨b,_,d,e⟩
 obtain⟨aL,nL,cL,eL⟩:∃b n d,S.vL=.slice b n d:=by obtain⟨b,d,e,_⟩:=aN dG.slots;exact⟨b,_,d,e⟩
 have ek:Below w.heap.size w W:=hb0.trans (hbl.mono hb0.size);refine⟨aS,nS,cS,aF,nF,cF,aL,nL,cL,_,⟨by rw[<- eS];exact dG.c0,by rw[<- eF];exact dG.c1,by rw[<- eL];exact dG.c2,by rw[<- hv];exact dG.c3,dG.c4⟩,hRB _ hbl,fun U hU=>⟨S,hs,hsame,by rw[eS,eF,eL,hv];rfl,(dG.toKr.kp hU (fun b hb e=>by have:=(dG.iJ b hb).1;omega)).mono hb0.size,Kp.below ek hU ek.size (fun b e=>by omega)⟩⟩
theorem Fi (uW:km) (k:KM.Kn) (a:fh) (sp:Int) (w:World) (hK:cK w a k) (hF:eB k) (hsp:M.gu sp) :
  Calls Tryz.prog 39 #[.agg (aI a k),I sp] w (b6 w (fe k sp).1 [I (fe k sp).2.1,I (fe k sp).2.2]):=by
 obtain⟨WA,di⟩:=ex ((w.alloc (.cells (aI a k) 27)).alloc (.cells #[Nl,Nl,Nl,Nl,I 0] 27));have hb0:Below w.heap.size w WA:=by rw[di];exact((Below.refl _ _).alloc (Nat.le_refl _) _).alloc (by simp) _
 have kb:WA.heap[w.heap.size]?=some (.cells (aI a k) 27 (0,0)):=by rw[di];exact B.alloc (B.new w _ _) _
 have rb:WA.heap[w.heap.size+1]?=some (.cells #[Nl,Nl,Nl,Nl,I 0] 27 (0,0)):=by
  have:=B.new (w.alloc (.cells (aI a k) 27)) #[Nl,Nl,Nl,Nl,I 0] 27;rw[World.size_alloc] at this;rw[di];exact this
 have RB:Hid (∀V,Below WA.heap.size WA V->V.heap[w.heap.size+1]?=some (.cells #[Nl,Nl,Nl,Nl,I 0] 27 (0,0))):=fun V hb=>B.below rb hb (B.isLt rb)
 have k0:WA.cell? (Ad w.heap.size 0)=some (.slice a.aS k.ak.length a.cS):=B.cell kb 0 rfl;have k1:WA.cell? (Ad w.heap.size 1)=some (.slice a.aF k.frames.length a.cF):=B.cell kb 1 rfl;have k2:WA.cell? (Ad w.heap.size 2)=some (.slice a.aL k.slots.length a.cL):=B.cell kb 2 rfl;have k3:WA.cell? (Ad w.heap.size 3)=some (.slice a.aP k.aj.length a.cP):=B.cell kb 3 rfl;have k4:WA.cell? (Ad w.heap.size 4)=some (I k.hand):=B.cell kb 4 rfl;have eZ:=ai di;have bR:=ai hb0;have hrl:=B.isLt rb;have og:=ai (KW.qd k a sp WA (hK.below hb0) hF hsp);have vr:Hid (∀(V:World) (C:Int),Below w.heap.size w V->b6 w gK [I 0,I C] (.returned (.tuple #[.agg #[Nl,Nl,Nl,Nl,I 0],I 0,I C])) V):=fun V C hV=>iD _ hV
 by_cases c:cu k sp=0
 · obtain⟨hR,qi,hj,gN⟩:=KY.gJ c;obtain⟨j,L4⟩:∃j:Nat,sp=(j:Int):=⟨sp.toNat,by omega⟩;subst L4;rw[Int.toNat_natCast] at hj gN;have hsm:=KY.lG hR hF;have od:Hid (Calls Tryz.prog 69 #[.agg (aI a k),I (j:Int)] WA fun e w'=>∃mb,e=.returned (.tuple #[.pointer (some (Ad mb 0)),I 0])/\WA.heap.size<=mb/\w'.heap[mb]?=some (.cells (kK a k) 104 (0,0))/\Below WA.heap.size WA w'):=og.o.mono fun e w' ⟨h1,h2⟩=>by
    rcases h2 with⟨_,mb,e1,e2,e3⟩ | ⟨g,_⟩
    · exact⟨mb,e1,e2,e3,h1⟩
    · exact absurd c g
   obtain⟨pb,po,hpo,hpl,Ah⟩:=hK.aj (by omega);obtain⟨va,ap,cp,v0,v1,v2,Po,BQ,_⟩:=Ah j hj;have ng:=Po;obtain⟨aa,ca,sI,_⟩:=Po;subst sI;have Yr:=KW.qE k.aj k.aj.length;have hcc:=hR.c;have MW:fe k (j:Int)=if k.aj.length=4 then (gK,0,2) else if KM.room k.aj+AM.b7 (KM.au k.aj j).aB>(k.slots.length:Int) then (gK,0,8) else (KM.fX k j,(k.aj.length:Int),0):=by
    unfold fe;rw[if_neg (fun x=>x c),Int.toNat_natCast]
   rw[MW];have hfit:=(hF.sp j hj).aB;have ek:∀{V:World},Below WA.heap.size WA V->Below w.heap.size w V:=fun hV=>hb0.trans (hV.mono hb0.size)
   have DJ:(j:Int)<(k.aj.length:Int):=by omega
   have hsj:=hR.sp hj;have zm:∀n,n<(KM.au k.aj j).aA.length->((KM.aM (KM.au k.aj j).aA n).kind=1->0<=(KM.aM (KM.au k.aj j).aA n).loc/\(KM.aM (KM.au k.aj j).aA n).loc<(k.frames.length:Int))/\((KM.aM (KM.au k.aj j).aA n).kind≠1->0<=(KM.aM (KM.au k.aj j).aA n).loc/\(KM.aM (KM.au k.aj j).aA n).loc<(k.slots.length:Int)):=fun n hn=>by
    obtain⟨_,e2⟩:=hsj.u9 _ (KM.dO (d:=KM.js) hn);rcases e2 with⟨e4,e5,e6⟩ | ⟨e4,e5,e6⟩
    · exact⟨fun _=>⟨e5,e6⟩,fun g=>absurd e4 g⟩
    · exact⟨fun g=>absurd (e4.symm.trans g) (by decide),fun _=>⟨e5,e6⟩⟩
   have hen:=KX.jq hR hj;have har:=AM.gP _ hsj.aB;have hrf:=KX.lJ hR;have E4:=fun n hn=>KM.jI hR hj n hn
   obtain⟨sj,uV⟩:=ex (KM.au k.aj j);have rJ:KM.fX k j={ KM.aV k sj.aA sj.aA.length with aj:=(KM.aV k sj.aA sj.aA.length).aj++[sj] }:=by rw[uV];rfl
   rw[<- uV] at v0 v1 v2 ng BQ hfit zm hen har gN E4 ⊢;obtain⟨lv,iu,gj⟩:=sj;simp only at v0 v1 v2 ng BQ hfit zm hen har gN E4 rJ;have HV:Hid (∀V,Below WA.heap.size WA V->V.cell? (Ad pb (po+j*3))=some (.bool lv)/\V.cell? (Ad pb (po+j*3+1))=some (.slice aa iu.length ca)/\V.cell? (Ad pb (po+j*3+2))=some (.slice ap gj.length cp)):=fun V hV=>⟨((ek hV).cell (p:=(Ad pb (po+j*3))) hpl).trans v0,((ek hV).cell (p:=(Ad pb (po+j*3+1))) hpl).trans v1,((ek hV).cell (p:=(Ad pb (po+j*3+2))) hpl).trans v2⟩
   have Ki:Hid (∀(V:World) mb,V.heap[mb]?=some (.cells (kK a k) 104 (0,0))->V.cell? (Ad mb 3)=some (.slice (some (Ad pb po)) k.aj.length a.cP)):=fun V mb h=>by
    have:=B.cell (v:=.slice a.aP k.aj.length a.cP) h 3 rfl;rw[hpo] at this;exact this
   have DZ:Hid (∀(V:World) mb,V.heap[mb]?=some (.cells (kK a k) 104 (0,0))->V.cell? (Ad mb 2)=some (.slice a.aL k.slots.length a.cL)):=fun V mb h=>B.cell h 2 rfl
   by_cases c4:k.aj.length=4
   · rw[if_pos c4];have bB:=ai (fun V (h:Below w.heap.size w V)=>vr.o V 2 h);obtain⟨P,hP⟩:=ex (b6 w gK [I 0,I 2]);show Calls _ _ _ _ (b6 w gK [I 0,I 2]);rw[<- hP] at bB ⊢;have c4i:(k.aj.length:Int)=4:=by omega
     unfold aI at od eZ ⊢;clear hK hF hsp MW c hP di hb0 kb rb og hR qi hj Ah v0 v1 v2 ng BQ hfit hpo hcc Yr hsm c4 vr uV rJ zm hen har gN E4 hsj hrf ek;go_enter Tryz.func39,Tryz.ntmps39;go_upto_region 1 with fail;rw[<- eZ.o];go_upto_region 5 with(go_at_call 69;refine od.o.mono ?_;rintro e w1 ⟨mb,rfl,jP,hm2,hb1⟩;have wY:=ai jP;have DY:=ai hm2;have bE:=ai hb1;have m3:=Ki.o _ _ hm2;obtain⟨u0,u1,u2⟩:=HV.o _ hb1;clear jP hm2 hb1)
     have ed:=ai (bE.o.alloc bE.o.size (.cells #[.bool lv,.slice aa iu.length ca,.slice ap gj.length cp] 43));have B3:=ai (B.new w1 #[.bool lv,.slice aa iu.length ca,.slice ap gj.length cp] 43);have M3:=ai (B.alloc DY.o (.cells #[.bool lv,.slice aa iu.length ca,.slice ap gj.length cp] 43));have R4:Hid (w1.heap.size≠mb):=(show w1.heap.size≠mb from fun e=>by have:=B.isLt DY.o;omega);obtain⟨W3,hW3⟩:=ex (w1.alloc (.cells #[.bool lv,.slice aa iu.length ca,.slice ap gj.length cp] 43));obtain⟨fb,sJ⟩:=ex w1.heap.size;rw[<- hW3] at ed B3 M3 ⊢;rw[<- sJ] at B3 R4 ⊢;clear hW3 sJ m3 u0 u1 u2;have m3:=Ki.o _ _ M3.o;go_upto_region 6 with fail;have R1:=ai (RB.o _ ed.o);have gw:=ai (bR.o.trans (ed.o.mono bR.o.size));obtain⟨y0,y1,y2,y3,y4⟩:=B.c5 R1.o;have f0:=B.free R1.o 0;have f1:=B.free R1.o 1;have f2:=B.free R1.o 2;have f3:=B.free R1.o 3;have f4:=B.free R1.o 4;have h5:=ai (fun V=>lI R1.o Nl Nl Nl Nl (I 0) (V:=V));go_wp2;obtain⟨r1,r2⟩:=h5.out _ rfl;obtain⟨y0,y1,y2,y3,y4⟩:=B.c5 r1;refine bodyPost_ret (v:=.tuple #[.agg #[Nl,Nl,Nl,Nl,I 0],I 0,I 2]) (by simp[results,Tryz.results39,go_sem,y0,y1,y2,y3,y4]) rfl ?_;exact bB.o _ (Kp.below gw.o r2 gw.o.size (fun b e=>by omega))
   rw[if_neg c4];have vw:Hid (∀V mb,Below WA.heap.size WA V->V.heap[mb]?=some (.cells (kK a k) 104 (0,0))->Calls Tryz.prog 83 #[.pointer (some (Ad mb 0))] V fun e w'=>e=.returned (I (KM.room k.aj))/\Below V.heap.size V w'):=fun V mb hV hm=>KW.oC k.aj a.aP a.cP mb V (hK.aj.below (ek hV)) (fun i hi=>(hF.sp i hi).aB) (by omega) (B.cell hm 3 rfl)
   have M7:Hid (∀V,Below WA.heap.size WA V->Calls Tryz.prog 54 #[.slice aa iu.length ca] V fun e w'=>e=.returned (I (AM.b7 iu))/\Below V.heap.size V w'):=fun V hV=>AW.uD _ _ V (ng.below (ek hV)) hfit
   have hd1:=KW.jS iu;have c4i:¬(k.aj.length:Int)=4:=by omega
   by_cases cr:KM.room k.aj+AM.b7 iu>(k.slots.length:Int)
   · rw[if_pos cr];obtain⟨RM,De⟩:=ex (KM.room k.aj);obtain⟨T1,MV⟩:=ex (AM.b7 iu);have Tt:0<=RM/\RM<=65025*4:=by
      rw[De];unfold KM.room;omega
     rw[<- MV] at hd1 M7 cr;rw[<- De] at vw cr;have bB:=ai (fun V (h:Below w.heap.size w V)=>vr.o V 8 h);obtain⟨P,hP⟩:=ex (b6 w gK [I 0,I 8]);show Calls _ _ _ _ (b6 w gK [I 0,I 8]);rw[<- hP] at bB ⊢;have c2:(k.slots.length:Int)<RM+T1:=cr;unfold aI at od eZ ⊢;clear hK hF hsp MW c hP di hb0 kb rb og hR qi hj Ah v0 v1 v2 ng BQ hfit hpo hcc Yr hsm c4 vr uV rJ zm hen har gN E4 hsj hrf ek De MV cr;go_enter Tryz.func39,Tryz.ntmps39;go_upto_region 1 with fail;rw[<- eZ.o];go_upto_region 5 with(go_at_call 69;refine od.o.mono ?_;rintro e w1 ⟨mb,rfl,jP,hm2,hb1⟩;have wY:=ai jP;have DY:=ai hm2;have bE:=ai hb1;have m3:=Ki.o _ _ hm2;obtain⟨u0,u1,u2⟩:=HV.o _ hb1;clear jP hm2 hb1)
     have ed:=ai (bE.o.alloc bE.o.size (.cells #[.bool lv,.slice aa iu.length ca,.slice ap gj.length cp] 43));have B3:=ai (B.new w1 #[.bool lv,.slice aa iu.length ca,.slice ap gj.length cp] 43);have M3:=ai (B.alloc DY.o (.cells #[.bool lv,.slice aa iu.length ca,.slice ap gj.length cp] 43));have R4:Hid (w1.heap.size≠mb):=(show w1.heap.size≠mb from fun e=>by have:=B.isLt DY.o;omega);obtain⟨W3,hW3⟩:=ex (w1.alloc (.cells #[.bool lv,.slice aa iu.length ca,.slice ap gj.length cp] 43));obtain⟨fb,sJ⟩:=ex w1.heap.size;rw[<- hW3] at ed B3 M3 ⊢;rw[<- sJ] at B3 R4 ⊢;clear hW3 sJ m3 u0 u1 u2;have m3:=Ki.o _ _ M3.o;go_upto_region 7 with fail;have j3:=Q.dE W3;have q1:∀x:Q.ez W3.heap.size W3,x.world.cell? (Ad fb 1)=some (.slice aa iu.length ca):=fun x=>B.cell (B.below B3.o x.keeps (B.isLt B3.o)) 1 rfl
     have q2:∀x:Q.ez W3.heap.size W3,x.world.cell? (Ad mb 2)=some (.slice a.aL k.slots.length a.cL):=fun x=>DZ.o _ _ (B.below M3.o x.keeps (B.isLt M3.o))
     have vv:=ai (fun V (hV:Below W3.heap.size W3 V)=>vw.o V mb (ed.o.trans (hV.mono ed.o.size)) (B.below M3.o hV (B.isLt M3.o)));have MB:=ai (fun V (hV:Below W3.heap.size W3 V)=>M7.o V (ed.o.trans (hV.mono ed.o.size)));clear m3;refine Q.bu (by kernel_rfl) (by kernel_rfl) ?_
     repeat (first | go_big_quiet_step ((first | (go_at_call 83;exact eY _ vv.o) | (go_at_call 54;exact eY _ MB.o))) | quiet_step ((first | (go_at_call 83;exact eY _ vv.o) | (go_at_call 54;exact eY _ MB.o))))
     refine wpQuiet_nil ?_;rintro _ ⟨X,rfl⟩;have lB:=ai (ed.o.trans (X.keeps.mono ed.o.size));have R1:=ai (RB.o _ lB.o);have gw:=ai (bR.o.trans (lB.o.mono bR.o.size));obtain⟨y0,y1,y2,y3,y4⟩:=B.c5 R1.o;have f0:=B.free R1.o 0;have f1:=B.free R1.o 1;have f2:=B.free R1.o 2;have f3:=B.free R1.o 3;have f4:=B.free R1.o 4;have h5:=ai (fun V=>lI R1.o Nl Nl Nl Nl (I 0) (V:=V));go_wp2;obtain⟨r1,r2⟩:=h5.out _ rfl;obtain⟨y0,y1,y2,y3,y4⟩:=B.c5 r1;refine bodyPost_ret (v:=.tuple #[.agg #[Nl,Nl,Nl,Nl,I 0],I 0,I 8]) (by simp[results,Tryz.results39,go_sem,y0,y1,y2,y3,y4]) rfl ?_;exact bB.o _ (Kp.below gw.o r2 gw.o.size (fun b e=>by omega))
   rw[if_neg cr];have HOW:Hid (∀V mb,Below WA.heap.size WA V->WA.heap.size<=mb->V.heap[mb]?=some (.cells (kK a k) 104 (0,0))->Calls Tryz.prog 84 #[.pointer (some (Ad mb 0))] V fun e w'=>e=.returned (.tuple #[])/\∃S hs,KM.Same k.ak hs/\Km WA.heap.size mb 104 (fB k) w' S (KM.aT k hs)/\(∀b,S.lab b≠.no->b=mb∨V.heap.size<=b)/\Kp (fun b=>b=mb) V w'):=fun V mb hV jP hm2=>KY.qG uW k a mb V (hK.below (ek hV)) hsm hm2 WA.heap.size jP
   have iy:Hid (∀V n,Below WA.heap.size WA V->n<gj.length->∃eb eo,ap=some (Ad eb eo)/\V.cell? (Ad eb (eo+n*3))=some (I (KM.aM gj n).page)/\V.cell? (Ad eb (eo+n*3+1))=some (I (KM.aM gj n).kind)/\V.cell? (Ad eb (eo+n*3+2))=some (I (KM.aM gj n).loc)):=fun V n hV hn=>by
    obtain⟨eb,eo,e1,e2,e3⟩:=(BQ.below (ek hV)) (by omega);have z0:=e3 n hn 0 (by omega);rw[Nat.add_zero] at z0;exact⟨eb,eo,e1,z0,e3 n hn 1 (by omega),e3 n hn 2 (by omega)⟩
   have QO:Hid (∀V S mb hs n,n<gj.length->Km WA.heap.size mb 104 (fB k) V S (KM.aT (KM.aV k gj n) hs)->Calls Tryz.prog 85 #[.pointer (some (Ad mb 0)),.agg #[I (KM.aM gj n).page,I (KM.aM gj n).kind,I (KM.aM gj n).loc],I 1] V fun e w'=>e=.returned (.tuple #[])/\Km WA.heap.size mb 104 (fB k) w' S (KM.aT (KM.aV k gj (n+1)) hs)/\Ch S V S w'):=fun V S mb hs n hn hV=>by
    have hp:=E4 n (by omega);have DK:=El hR hj uV n (Nat.le_of_lt hn);refine(KX.vd (KM.aT (KM.aV k gj n) hs) S V (KM.aM gj n) 1 hV (fun g=>?_) (fun g=>?_) (.inl rfl) ⟨fun g=>?_,fun g=>?_⟩).mono fun e w' ⟨h1,h2,h3⟩=>⟨h1,?_,h3⟩
    · show _/\_<((KM.aV k gj n).frames.length:Int);rw[hp.2.2.2.1];exact(zm n hn).1 g
    · show _/\_<((KM.aV k gj n).slots.length:Int);rw[hp.2.2.2.2.1];exact(zm n hn).2 g
    · exact DK.1 _ (by have:=(zm n hn).1 g;omega)
    · exact DK.2 _ (by have:=(zm n hn).2 g;omega)
    · rw[KM.wR] at h2;exact h2
   have DV:Hid (∀n,n<=gj.length->(KM.aV k gj n).aj.length=k.aj.length):=fun n hn=>by rw[(E4 n hn).2.2.1]
   have Xu:Hid ((KM.fX k j).ak=k.ak/\(KM.fX k j).hand=k.hand/\(KM.fX k j).aj.length=k.aj.length+1):=by
    have hp:=E4 gj.length (Nat.le_refl _);rw[rJ];refine⟨hp.1,hp.2.1,?_⟩;show((KM.aV k gj gj.length).aj++[_]).length=_;rw[List.length_append,hp.2.2.1];rfl
   have Sa:Hid (∀hs,KM.aT (KM.fX k j) hs={ KM.aT (KM.aV k gj gj.length) hs with aj:=(KM.aT (KM.aV k gj gj.length) hs).aj++[⟨lv,iu,gj⟩] }):=fun hs=>by rw[rJ];rfl
   have HHA:Hid (∀V,Below WA.heap.size WA V->AW.Has V (.slice aa iu.length ca) iu/\aZ aK 3 KM.js V ap gj):=fun V hV=>⟨ng.below (ek hV),BQ.below (ek hV)⟩
   obtain⟨RM,De⟩:=ex (KM.room k.aj);obtain⟨T1,MV⟩:=ex (AM.b7 iu);have Tt:0<=RM/\RM<=65025*4:=by
    rw[De];unfold KM.room;omega
   rw[<- MV] at hd1 M7 cr;rw[<- De] at vw cr;obtain⟨P,hP⟩:=ex (b6 w (KM.fX k j) [I (k.aj.length:Int),I 0]);show Calls _ _ _ _ (b6 w (KM.fX k j) [I (k.aj.length:Int),I 0]);rw[<- hP];have HP:=ai hP;have c2:¬(k.slots.length:Int)<RM+T1:=cr;have adQ:k.aj.length<=4:=by omega
   unfold aI at od eZ ⊢;clear hK hF hsp MW c hP di hb0 kb rb og hR qi hj Ah v0 v1 v2 ng BQ hfit hpo hcc Yr hsm c4 vr uV rJ zm gN E4 hsj hrf ek De MV cr uW;go_enter Tryz.func39,Tryz.ntmps39;go_upto_region 1 with fail;rw[<- eZ.o];go_upto_region 5 with(go_at_call 69;refine od.o.mono ?_;rintro e w1 ⟨mb,rfl,jP,hm2,hb1⟩;have wY:=ai jP;have DY:=ai hm2;have bE:=ai hb1;have m3:=Ki.o _ _ hm2;obtain⟨u0,u1,u2⟩:=HV.o _ hb1;clear jP hm2 hb1)
   have ed:=ai (bE.o.alloc bE.o.size (.cells #[.bool lv,.slice aa iu.length ca,.slice ap gj.length cp] 43));have B3:=ai (B.new w1 #[.bool lv,.slice aa iu.length ca,.slice ap gj.length cp] 43);have M3:=ai (B.alloc DY.o (.cells #[.bool lv,.slice aa iu.length ca,.slice ap gj.length cp] 43));have R4:Hid (w1.heap.size≠mb):=(show w1.heap.size≠mb from fun e=>by have:=B.isLt DY.o;omega);obtain⟨W3,hW3⟩:=ex (w1.alloc (.cells #[.bool lv,.slice aa iu.length ca,.slice ap gj.length cp] 43));obtain⟨fb,sJ⟩:=ex w1.heap.size;rw[<- hW3] at ed B3 M3 ⊢;rw[<- sJ] at B3 R4 ⊢;clear hW3 sJ m3 u0 u1 u2;have m3:=Ki.o _ _ M3.o;go_upto_region 7 with fail;have j3:=Q.dE W3;have q1:∀x:Q.ez W3.heap.size W3,x.world.cell? (Ad fb 1)=some (.slice aa iu.length ca):=fun x=>B.cell (B.below B3.o x.keeps (B.isLt B3.o)) 1 rfl
   have q2:∀x:Q.ez W3.heap.size W3,x.world.cell? (Ad mb 2)=some (.slice a.aL k.slots.length a.cL):=fun x=>DZ.o _ _ (B.below M3.o x.keeps (B.isLt M3.o))
   have vv:=ai (fun V (hV:Below W3.heap.size W3 V)=>vw.o V mb (ed.o.trans (hV.mono ed.o.size)) (B.below M3.o hV (B.isLt M3.o)));have MB:=ai (fun V (hV:Below W3.heap.size W3 V)=>M7.o V (ed.o.trans (hV.mono ed.o.size)));clear m3;refine Q.bu (by kernel_rfl) (by kernel_rfl) ?_
   repeat (first | go_big_quiet_step ((first | (go_at_call 83;exact eY _ vv.o) | (go_at_call 54;exact eY _ MB.o))) | quiet_step ((first | (go_at_call 83;exact eY _ vv.o) | (go_at_call 54;exact eY _ MB.o))))
   refine wpQuiet_nil ?_;rintro _ ⟨X,rfl⟩;have lB:=ai (ed.o.trans (X.keeps.mono ed.o.size));have MX:=ai (B.below M3.o X.keeps (B.isLt M3.o));have BX:=ai (B.below B3.o X.keeps (B.isLt B3.o));clear j3 q2 q1 vv MB vw M7;obtain⟨WX,hWX⟩:=ex X.world;rw[<- hWX] at lB MX BX ⊢;clear hWX;go_upto_region 10 with(go_at_call 84;refine(HOW.o _ _ lB.o wY.o MX.o).mono ?_;rintro e w4 ⟨rfl,S,hs,hs2,hk2,ZF,ZO⟩;have iM:=ai hs2;have jd:=ai hk2;have Dy:=ai ZF;have UJ:=ai ZO;clear hs2 hk2 ZF ZO)
   have lj:S.lab fb=.no:=Classical.not_not.1 fun g=>by
    rcases Dy.o fb g with e | e
    · exact R4.o e
    · have:=B.isLt BX.o;omega
   have HNF:=ai lj;have B4:=ai (UJ.o.keep BX.o R4.o);have aag:Below WA.heap.size WA w4:=Kp.below lB.o UJ.o lB.o.size (fun b e=>by have:=wY.o;omega);have gw:=ai aag;have x2:w4.cell? (Ad fb 2)=some (.slice ap gj.length cp):=B.cell B4.o 2 rfl;have aaU:Hid (∀V,Kp (fun b=>S.lab b≠.no) w4 V->V.heap[fb]?=some (.cells #[.bool lv,.slice aa iu.length ca,.slice ap gj.length cp] 43 (0,0))/\Below WA.heap.size WA V):=fun V hV=>⟨hV.keep B4.o (fun g=>g HNF.o),Kp.below gw.o hV gw.o.size (fun b hb=>(jd.o.iJ b hb).1)⟩
   clear lj aag;go_wp2;go_loopw [59] (fun iv wq=>∃n:Nat,n<=gj.length/\iv=I (n:Int)/\Km WA.heap.size mb 104 (fB k) wq S (KM.aT (KM.aV k gj n) hs)/\Kp (fun b=>S.lab b≠.no) w4 wq) (fun iv _=>gj.length-(intOf iv).toNat)
   case atStart=>exact⟨0,by omega,rfl,jd.o,Kp.refl _ _⟩
   case round =>
    obtain⟨n,hn,rfl,dG,ZN⟩:=hrel;by_cases hlt:n<gj.length
    · have hni:(n:Int)<(gj.length:Int):=by omega
      obtain⟨sJ,qU⟩:=aaU.o wr ZN;obtain⟨eb,eo,hap,z0,z1,z2⟩:=iy.o wr n qU hlt;have lR:Hid (Calls Tryz.prog 85 #[.pointer (some (Ad mb 0)),.agg #[I (KM.aM gj n).page,I (KM.aM gj n).kind,I (KM.aM gj n).loc],I 1] (wr.alloc (.cells #[I (KM.aM gj n).page,I (KM.aM gj n).kind,I (KM.aM gj n).loc] 45)) fun e w'=>e=.returned (.tuple #[])/\Km WA.heap.size mb 104 (fB k) w' S (KM.aT (KM.aV k gj (n+1)) hs)/\Kp (fun b=>S.lab b≠.no) w4 w'):=(QO.o _ S mb hs n hlt (dG.below ((Below.refl _ _).alloc (Nat.le_refl _) _))).mono fun e w' ⟨h1,h2,h3⟩=>⟨h1,h2,(ZN.trans (Kp.alloc _ _ _) (fun _ _ g=>g)).trans h3.kp (fun _ _ g=>g)⟩
      obtain⟨en,Ps⟩:=ex (KM.aM gj n);rw[<- Ps] at z0 z1 z2 lR;obtain⟨g1,g2,g3⟩:=en;simp only at z0 z1 z2 lR;subst hap;clear dG ZN sJ qU Ps QO iy;go_wp2_with (go_at_call 85;refine lR.o.mono ?_;rintro e w5 ⟨rfl,h5,h6⟩;have pQ:=ai h5;have HP5:=ai h6;clear h5 h6)
      go_roundw
      case rel=>exact⟨n+1,by omega,by go_num,pQ.o,HP5.o⟩
      case measure=>simp[intOf];omega
    · obtain rfl:n=gj.length:=by omega
      obtain⟨sJ,qU⟩:=aaU.o wr ZN;obtain⟨bP,dP,eP,_⟩:=aN dG.aj;have hLl:S.L.length<=1000000:=by
       have:=dG.len;have e:(KM.aT (KM.aV k gj gj.length) hs).aj.length=k.aj.length:=DV.o _ (Nat.le_refl _);omega
      have UH:Hid (S.L.length=k.aj.length):=by
       have:=dG.len;have e:(KM.aT (KM.aV k gj gj.length) hs).aj.length=k.aj.length:=DV.o _ (Nat.le_refl _);exact(show S.L.length=k.aj.length by omega)
      have DL:Below wr.heap.size wr wr.drew:=(Below.refl _ _).drew;have BD:wr.drew.heap[fb]?=some (.cells #[.bool lv,.slice aa iu.length ca,.slice ap gj.length cp] 43 (0,0)):=B.below sJ DL (B.isLt sJ);obtain⟨WD,RQ⟩:=ex wr.drew;rw[<- RQ] at DL BD;have HWD:=ai RQ;have Pk:=dG.below DL;have ZL:WA.heap.size<=WD.heap.size:=Nat.le_trans qU.size DL.size;have TE:Below WA.heap.size WA WD:=qU.trans (DL.mono qU.size);obtain⟨hh1,hh2⟩:=HHA.o WD TE;have Ni:Hid (Calls Tryz.prog 86 #[.agg #[.bool lv,.slice aa iu.length ca,.slice ap gj.length cp]] WD fun e w'=>∃xa nx cx ya ny cy,e=.returned (.agg #[.bool lv,.slice xa nx cx,.slice ya ny cy])/\cJ WD.heap.size w' ⟨lv,.slice xa nx cx,.slice ya ny cy⟩ ⟨lv,iu,gj⟩/\(∀b,blk (.slice ya ny cy) b->¬blk (.slice xa nx cx) b)/\Below WD.heap.size WD w'):=(KS.zM ⟨lv,iu,gj⟩ aa ap iu.length ca cp WD hh1 hh2 (by show iu.length<=_;omega) (by show gj.length<=_;omega)).mono fun e w' ⟨va,vp,h1,h2,h3,h4⟩=>by
       obtain⟨xa,cx,ex,_⟩:=aN h2.aB;obtain⟨ya,cy,ey,_⟩:=aN h2.aJ;have ex:va=_:=ex;have ey:vp=_:=ey;subst ex ey;exact⟨xa,_,cx,ya,_,cy,h1,h2,h3,h4⟩
      have Yg:Hid (∀V,Kp (fun b=>blk S.vP b) WD V->V.cell? (Ad mb 3)=some (.slice bP S.L.length dP)/\V.cell? (Ad fb 0)=some (.bool lv)/\V.cell? (Ad fb 1)=some (.slice aa iu.length ca)/\V.cell? (Ad fb 2)=some (.slice ap gj.length cp)/\V.frozen? (Ad mb 3)=false):=fun V hV=>by
       have b1:=hV.keep Pk.head (fun g=>by have:=dG.lP _ g;rw[dG.lH] at this;simp at this);have b2:=hV.keep BD (fun g=>by have:=dG.lP _ g;rw[HNF.o] at this;simp at this);refine⟨?_,B.cell b2 0 rfl,B.cell b2 1 rfl,B.cell b2 2 rfl,B.free b1 3⟩;rw[<- eP];exact B.cell b1 3 rfl
      have Al:Hid (∀w2 o,Below WD.heap.size WD w2->(w2.alloc o).ownsRow WA.heap.size 43 3 (.slice bP S.L.length dP) S.L.length (S.L.flatMap bw)):=fun w2 o hb=>by
       have:=((Kp.bc (D:=fun _=>False) hb).trans (Kp.alloc _ w2 o) (fun _ _ g=>g)).row Pk.aj (fun _ _ g=>g);rw[eP] at this;exact this
      have Gr:Hid (∀w2 w4 O v' l,Below WD.heap.size WD w2->cJ WD.heap.size w2 l ⟨lv,iu,gj⟩->(∀b,blk l.vp b->¬blk l.va b)->(w2.alloc O).grownBy w4 S.vP.ownBlock->w4.ownsRow WA.heap.size 43 3 v' (S.L.length+1) (S.L.flatMap bw++bw l)->(v'.ownBlock=S.vP.ownBlock∨v'.ownBlock=some (w2.alloc O).heap.size)->abG WA (w4.setCell (Ad mb 3) v') mb (KM.fX k j) (fB k) v'):=fun w2 w4 O v' l h1 h2 h3 h4 h5 h6=>by
       have m1:=Pk.push ZL h1 h2 h3 h4 h5 h6;have m2:=m1.1;rw[<- Sa.o hs] at m2;exact⟨_,hs,by rw[Xu.o.1];exact iM.o,m2,rfl,Kp.below TE m1.2.2 TE.size (fun b hb=>(Pk.iJ b hb).1)⟩
      have wW:Hid (∀w2,Below WD.heap.size WD w2->Kp (fun b=>blk S.vP b) WD w2):=fun w2 h=>Kp.bc h
      have HEP:=ai eP;obtain⟨i0,hin,hz0,hz1,hz2⟩:=info_parts sH;have ry:=ai hin;have vo:=ai hz0;have vk:=ai hz1;have uj:=ai hz2;have hlw:WA.heap.size<=WD.heap.size:=ZL;clear dG Pk ZN qU sJ hh1 hh2 RQ DL BD eP hin hz0 hz1 hz2 TE QO iy;go_upto_region 15 with fail;refine GZ.sW (S:=fun V=>Kp (fun b=>blk S.vP b) WD V) (z:=13) (by kernel_rfl) ?_;rw[<- HWD.o];have eQ:=Yg;have gG:Hid (Kp (fun b=>blk S.vP b) WD WD):=Kp.refl _ _;refine GZ.tk 0 gG.o ?_ ?_ ?_;rotate_left 1
      · intro V h;obtain⟨k0,k1,k2,k3,k4⟩:=eQ.o V h;go_simp
        try with_reducible rfl
      refine GZ.tk 1 gG.o ?_ ?_ ?_;rotate_left 1
      · intro V h;obtain⟨k0,k1,k2,k3,k4⟩:=eQ.o V h;go_simp
        try with_reducible rfl
      refine GZ.tk 2 gG.o ?_ ?_ ?_;rotate_left 1
      · intro V h;obtain⟨k0,k1,k2,k3,k4⟩:=eQ.o V h;go_simp
        try with_reducible rfl
      refine GZ.tk 3 gG.o ?_ ?_ ?_;rotate_left 1
      · intro V h;obtain⟨k0,k1,k2,k3,k4⟩:=eQ.o V h;go_simp
        try with_reducible rfl
      refine GZ.tk 4 gG.o ?_ ?_ ?_;rotate_left 1
      · intro V h;obtain⟨k0,k1,k2,k3,k4⟩:=eQ.o V h;go_simp
        try with_reducible rfl
      refine GZ.tk 5 gG.o ?_ ?_ ?_;rotate_left 1
      · intro V h;obtain⟨k0,k1,k2,k3,k4⟩:=eQ.o V h;go_simp
        try with_reducible rfl
      refine GZ.tk 6 gG.o ?_ ?_ ?_;rotate_left 1
      · intro V h;obtain⟨k0,k1,k2,k3,k4⟩:=eQ.o V h;go_simp
        try with_reducible rfl
      refine GZ.all (rs:=[7]) (by kernel_rfl) (by simp) ?_;refine GZ.bl.cons rfl (fun K hK=>?_) GZ.bl.nil;rw[if_pos (by rfl)];go_simp;go_at_call 86;refine Ni.o.mono ?_;rintro e w6 ⟨xa,nx,cx,ya,ny,cy,rfl,BC,hap,hb2⟩;have DU:=ai BC;have Kj:=ai hap;have cM:=ai hb2;have ky:=ai (wW.o _ hb2);clear BC hap hb2;try go_simp;refine hK.out _ _ (fun _=>?_) ?_
      · exact ky.o
      clear hK K
      try simp only[Act.put,List.setIfInBounds_toArray,List.set_cons_zero,List.set_cons_succ]
      refine GZ.all (rs:=[8]) (by kernel_rfl) (by simp) ?_;refine GZ.bl.cons rfl (fun K hK=>?_) GZ.bl.nil;go_simp;refine hK.out _ _ (fun _=>?_) ?_
      · exact ky.o.trans (Kp.alloc _ _ _) (fun _ _ g=>g)
      clear hK K
      try simp only[Act.put,List.setIfInBounds_toArray,List.set_cons_zero,List.set_cons_succ]
      have adG:=cM.o.size;refine GZ.all (rs:=[9]) (by kernel_rfl) (by simp) ?_;refine GZ.bl.cons rfl (fun K hK=>?_) GZ.bl.nil;rw[if_pos (by rfl)];refine df (P:=Tryz.prog) _ _ 25 rfl WA.heap.size 43 i0 (.agg #[.bool false,Nl,Nl]) 3 56 Tryz.underlying25 ry.o vo.o vk.o uj.o rfl (by decide) (.slice bP S.L.length dP) S.L.length (S.L.flatMap bw) rfl (Al.o _ _ cM.o) (some (Ad w6.heap.size 0)) 1 1 (bw ⟨lv,.slice xa nx cx,.slice ya ny cy⟩) rfl rfl (fun _=>⟨_,rfl,uP w6 _ _⟩) (by intro u hu;simp[bw] at hu;rcases hu with rfl | rfl | rfl <;> rfl) (by unfold maxLen;omega) (by omega) (by rw[World.size_alloc];omega) ?_;intro vG wG qR s6 ux;obtain⟨aG,cG,C9,_,_⟩:=aN qR;subst C9;rw[<- HEP.o] at s6 ux;have pP:Hid (Kp (fun b=>blk S.vP b) WD wG):=(ky.o.trans (Kp.alloc _ _ _) (fun _ _ g=>g)).trans (Kp.grown s6 (fun q hq=>hq)) (fun _ _ g=>g);have UB:=ai (Gr.o w6 wG _ _ ⟨lv,.slice xa nx cx,.slice ya ny cy⟩ cM.o DU.o Kj.o s6 qR ux);clear qR s6 ux;refine hK.out _ _ (fun _=>?_) ?_
      · exact pP.o
      clear hK K
      try simp only[Act.put,List.setIfInBounds_toArray,List.set_cons_zero,List.set_cons_succ]
      refine GZ.all (rs:=[10]) (by kernel_rfl) (by simp) ?_;refine GZ.bl.cons rfl (fun K hK=>?_) GZ.bl.nil;go_simp;refine hK.out _ _ (fun _=>?_) ?_
      · exact pP.o
      clear hK K
      try simp only[Act.put,List.setIfInBounds_toArray,List.set_cons_zero,List.set_cons_succ]
      refine GZ.all (rs:=[11]) (by kernel_rfl) (by simp) ?_;refine GZ.bl.cons rfl (fun K hK=>?_) GZ.bl.nil;go_simp;refine hK.out _ _ (fun _=>?_) ?_
      · exact pP.o
      clear hK K
      try simp only[Act.put,List.setIfInBounds_toArray,List.set_cons_zero,List.set_cons_succ]
      refine GZ.tk 12 pP.o ?_ ?_ ?_;rotate_left 1
      · intro V h;obtain⟨k0,k1,k2,k3,k4⟩:=eQ.o V h;go_simp
        try with_reducible rfl
      obtain⟨k0,k1,k2,k3,k4⟩:=eQ.o _ pP.o;refine GZ.all (rs:=[13]) (by kernel_rfl) (by simp) ?_;refine GZ.bl.cons rfl (fun K hK=>?_) GZ.bl.nil;go_simp;refine hK.out _ _ (fun g=>absurd rfl g) ?_;refine GZ.done (by kernel_rfl) ?_ _;clear k0 k1 k2 k3 k4;obtain⟨aS,nS,cS,aF,nF,cF,aL,nL,cL,hd,hcells,hr3,hfin⟩:=Mg UB.o RB.o bR.o hrl [I (k.aj.length:Int),I 0];have kY:=ai hfin;have R3:=ai hr3;have A5:=ai hcells;obtain⟨W5,hW5⟩:=ex (wG.setCell (Ad mb 3) (.slice aG (S.L.length+1) cG));rw[<- hW5] at A5 R3 kY ⊢;clear hW5 hfin hr3 hcells;obtain⟨q0,q1,q2,q3,q4⟩:=A5.o;obtain⟨y0,y1,y2,y3,y4⟩:=B.c5 R3.o;have f0:=B.free R3.o 0;have f1:=B.free R3.o 1;have f2:=B.free R3.o 2;have f3:=B.free R3.o 3;have f4:=B.free R3.o 4;have h5:=ai (fun V=>lI R3.o (.slice aS nS cS) (.slice aF nF cF) (.slice aL nL cL) (.slice aG (S.L.length+1) cG) (I hd) (V:=V));have zg:¬mb=w.heap.size+1:=by have:=wY.o;omega
      have Pe:¬w.heap.size+1=mb:=by omega
      have Pj:((S.L.length+1:Nat):Int)-1=(S.L.length:Int):=by omega
      go_upto_region 16 with fail;go_region;go_wp2;obtain⟨r1,r2⟩:=h5.out _ rfl;obtain⟨y0,y1,y2,y3,y4⟩:=B.c5 (B.below r1 (Below.refl _ _).drew (B.isLt r1));refine bodyPost_ret (v:=.tuple #[.agg #[.slice aS nS cS,.slice aF nF cF,.slice aL nL cL,.slice aG (S.L.length+1) cG,I hd],I (S.L.length:Int),I 0]) (by simp[results,Tryz.results39,go_sem,y0,y1,y2,y3,y4]) rfl ?_;have e:(I (S.L.length:Int):Value)=I (k.aj.length:Int):=by rw[UH.o]
      rw[e,HP.o];exact kY.o _ (r2.trans (Kp.drew _ _) (fun _ _ g=>g))
 · have hA:fe k sp=(gK,0,cu k sp):=by unfold fe;rw[if_pos c]
   rw[hA];have Ab:=ai (KY.yL og.o c);obtain⟨C,hC2⟩:=ex (cu k sp);rw[<- hC2] at Ab c ⊢;have cb:(C != 0)=true:=by simpa using c
   have bB:=ai (fun V (h:Below w.heap.size w V)=>vr.o V C h);obtain⟨P,hP⟩:=ex (b6 w gK [I 0,I C]);show Calls _ _ _ _ (b6 w gK [I 0,I C]);rw[<- hP] at bB ⊢;unfold aI at Ab eZ ⊢;clear hK hF hsp hA hC2 c hP di hb0 kb rb og vr uW;go_enter Tryz.func39,Tryz.ntmps39;go_upto_region 1 with fail;rw[<- eZ.o];go_upto_region 3 with(go_at_call 69;refine Ab.o.mono ?_;rintro e w1 ⟨rfl,hb1⟩;have gw:=ai (bR.o.trans (hb1.mono bR.o.size));have R1:=ai (RB.o _ hb1);clear hb1)
   obtain⟨y0,y1,y2,y3,y4⟩:=B.c5 R1.o;have f0:=B.free R1.o 0;have f1:=B.free R1.o 1;have f2:=B.free R1.o 2;have f3:=B.free R1.o 3;have f4:=B.free R1.o 4;have h5:=ai (fun V=>lI R1.o Nl Nl Nl Nl (I 0) (V:=V));go_wp2;obtain⟨r1,r2⟩:=h5.out _ rfl;obtain⟨y0,y1,y2,y3,y4⟩:=B.c5 r1;refine bodyPost_ret (v:=.tuple #[.agg #[Nl,Nl,Nl,Nl,I 0],I 0,I C]) (by simp[results,Tryz.results39,go_sem,y0,y1,y2,y3,y4]) rfl ?_;exact bB.o _ (Kp.below gw.o r2 gw.o.size (fun b e=>by omega))
end KZ
namespace KL
open Go.RowKit GK KO
open FW (ai aD)
open KW (fh cK aI eB cu qc)
open KZ (fe fJ gK)
open KY (dQ km)
theorem Io (k:KM.Kn) (sp:Int):(fe k sp).2.2≠0∨∃j:Nat,sp=(j:Int)/\j<k.aj.length/\(KM.au k.aj j).live=true/\KM.aQ k/\KM.aQ (KM.fX k j)/\fe k sp=(KM.fX k j,(k.aj.length:Int),0):=by
 by_cases c:cu k sp=0
 · obtain⟨hR,hs0,hj,hl⟩:=KY.gJ c;by_cases c4:k.aj.length=4
   · have e:fe k sp=(gK,0,2):=by unfold KZ.fe;rw[if_neg (fun x=>x c),if_pos c4]
     rw[e];exact .inl (by decide)
   · by_cases cr:KM.room k.aj+AM.b7 (KM.au k.aj sp.toNat).aB>(k.slots.length:Int)
     · have e:fe k sp=(gK,0,8):=by unfold KZ.fe;rw[if_neg (fun x=>x c),if_neg c4,if_pos cr]
       rw[e];exact .inl (by decide)
     · refine .inr ⟨sp.toNat,by omega,hj,hl,hR,KM.Il hR hj c4 (by omega),?_⟩;unfold KZ.fe;rw[if_neg (fun x=>x c),if_neg c4,if_neg cr]
 · have e:fe k sp=(gK,0,cu k sp):=by unfold KZ.fe;rw[if_pos c]
   rw[e];exact .inl c
end KL
namespace KR
open Go.RowKit GK KO
open FW (ai aD)
open KW (bJ bI aK aZ fh cK aI dA bU)
open KS (Lc bw kM cD blk cJ)
open KX (mn)
theorem Lu {lo mb:Nat} {tt:TypeId} {X:List Value} (k:KM.Kn) (S:St) (w:World) (e:KM.En) (h:Km lo mb tt X w S k) (h1:e.kind=1->0<=e.loc/\e.loc<(k.frames.length:Int)) (h2:e.kind≠1->0<=e.loc/\e.loc<(k.slots.length:Int))
  (hr:(e.kind=1->-1000000<=(KM.aH k.frames e.loc.toNat).refs/\(KM.aH k.frames e.loc.toNat).refs<=1000000)/\(e.kind≠1->-1000000<=(KM.bj k.slots e.loc.toNat).refs/\(KM.bj k.slots e.loc.toNat).refs<=1000000)) :
  Calls Tryz.prog 81 #[.pointer (some (Ad mb 0)),dA e] w (mn lo mb tt X w S (.tuple #[]) (KM.b9 k e)):=by
 obtain⟨pg,kd,lc⟩:=e;unfold dA;simp only at h1 h2 hr ⊢;have bR:=ai ((Below.refl w.heap.size w).alloc (Nat.le_refl _) (.cells #[I pg,I kd,I lc] 45));have EB:=ai (B.new w #[I pg,I kd,I lc] 45);have HM:=ai (h.below bR.o);have Sj:Hid (Ch S w S (w.alloc (.cells #[I pg,I kd,I lc] 45))):=Ch.below bR.o;have tW:Hid (∀V:World,Below V.heap.size V V.drew):=fun V=>(Below.refl _ _).drew
 obtain⟨WA,di⟩:=ex (w.alloc (.cells #[I pg,I kd,I lc] 45));rw[<- di] at bR EB HM Sj;obtain⟨eb,Fb⟩:=ex w.heap.size;have nE:S.lab eb=.no:=by rw[Fb];exact h.toKr.new (Nat.le_refl _)
 have eZ:=ai di;have HEB:=ai Fb;rw[<- Fb] at EB;obtain⟨P,hP⟩:=ex (mn lo mb tt X w S (.tuple #[]) (KM.b9 k ⟨pg,kd,lc⟩));rw[<- hP];have UA:=ai hP;clear hP di Fb;by_cases c:kd=1
 · obtain⟨i,rfl⟩:∃i:Nat,lc=(i:Int):=⟨lc.toNat,by have:=h1 c;omega⟩;have hi:i<k.frames.length:=by have:=h1 c;omega
   obtain⟨fb,cF,A⟩:=HM.o.toKr.fr (by omega);have Da:=hr.1 c;rw[Int.toNat_natCast] at Da;have hk:KM.b9 k ⟨pg,kd,(i:Int)⟩={ k with frames:=k.frames.set i (KM.jk (KM.aH k.frames i)) }:=by
    unfold KM.b9;rw[if_pos c,Int.toNat_natCast]
   rw[hk] at UA;have nF:S.lab fb=.frames:=A.lab;have hne:¬fb=eb:=fun e=>by rw[e,nE] at nF;cases nF
   have pO:¬fb=mb:=fun e=>by rw[e,h.lH] at nF;cases nF
   have hme:¬mb=eb:=fun e=>by have:=h.lH;rw[e,nE] at this;cases this
   have x0:=A.x0 i hi;have x1:=A.x1 i hi;have x2:=A.x2 i hi;have x3:=A.x3 i hi;have c1:=HM.o.c1;rw[A.v] at c1;have e0:WA.cell? (Ad eb 1)=some (I kd):=B.cell EB.o 1 rfl;have e2:WA.cell? (Ad eb 2)=some (I (i:Int)):=B.cell EB.o 2 rfl;have wj:(i:Int)<(k.frames.length:Int):=by omega
   have f1:=A.fz (i*4+1);have m1:=HM.o.rX A.v hi (j:=1) (by omega) (f:=⟨(KM.aH k.frames i).data,(KM.aH k.frames i).refs-1,(KM.aH k.frames i).cj,(KM.aH k.frames i).seen⟩) (u:=I ((KM.aH k.frames i).refs-1)) rfl;have Ms:=Sj.o.trans (MZ HM.o.toKr A.v (i:=i*4+1) (u:=I ((KM.aH k.frames i).refs-1)));have wY:=ai (m1.below (tW.out _));have D5:=ai (Ms.trans (Ch.below (tW.out _)));have Yn:=ai (B.below (B.other EB.o fb (i*4+1) (I ((KM.aH k.frames i).refs-1)) (fun e=>hne e.symm)) (tW.out _) (by rw[World.size_setCell];exact B.isLt EB.o));have Yi:=ai A.v;obtain⟨n,hn⟩:=ex k.frames.length;have RY:=ai hn;rw[<- hn] at c1 wj;have kb:(kd==1)=true:=by simpa using c
   obtain⟨R,hR⟩:=ex ((KM.aH k.frames i).refs);have sY:=ai hR;rw[<- hR] at x1 Da wY D5 Yn;have hw:IntKind.i64.wrap (R-1)=R-1:=IntWalk.i64_in _ (by omega);have HI:=ai hi;clear h1 h2 hr h hk hn hR nE nF m1 Ms A HM Sj EB c;go_enter Tryz.func81,Tryz.ntmps81;go_upto_region 1 with fail;rw[<- eZ.o,<- HEB.o];go_upto_region 2 with fail;go_region;go_upto_region 3 with fail;obtain⟨W1,hW1⟩:=ex ((WA.setCell (Ad fb (i*4+1)) (I (R-1))).drew);rw[<- hW1] at wY D5 Yn ⊢;clear hW1 x0 x1 x2 x3 c1 e0 e2 f1;obtain⟨P7,YC,A1⟩:=wY.o.toKr.fr (by show 0<(k.frames.set i _).length;rw[List.length_set];have:=HI.o;omega);obtain rfl:fb=P7:=by have ev:=Yi.o.symm.trans A1.v;simp at ev;exact ev.1
   have hi':i<(k.frames.set i ⟨(KM.aH k.frames i).data,R-1,(KM.aH k.frames i).cj,(KM.aH k.frames i).seen⟩).length:=by rw[List.length_set];exact HI.o
   have y1:W1.cell? (Ad fb (i*4+1))=some (I (R-1)):=by
    have:=A1.x1 i hi';rw[show KM.aH (k.frames.set i ⟨(KM.aH k.frames i).data,R-1,(KM.aH k.frames i).cj,(KM.aH k.frames i).seen⟩) i=⟨(KM.aH k.frames i).data,R-1,(KM.aH k.frames i).cj,(KM.aH k.frames i).seen⟩ from KM.bC _ _ _ _ HI.o] at this;exact this
   have y0:=A1.x0 i hi';have y2:=A1.x2 i hi';have y3:=A1.x3 i hi';have g0:=A1.fz (i*4);have g1:=A1.fz (i*4+1);have g2:=A1.fz (i*4+2);have g3:=A1.fz (i*4+3);have c1:=wY.o.c1;rw[Yi.o,<- RY.o] at c1;have e2:W1.cell? (Ad eb 2)=some (I (i:Int)):=B.cell Yn.o 2 rfl;clear A1 hi';by_cases z:R-1=0
   · have zb:(R-1==0)=true:=by simpa using z
     have HZ:=ai z;clear z;go_region;go_upto_region 4 with fail;go_region;go_wp2;refine bodyPost_ret (v:=.tuple #[]) (by simp[results,Tryz.results81,go_sem]) rfl ?_;rw[UA.o];have l1:=wY.o.Lv Yi.o (i:=i) (by rw[List.length_set];exact HI.o) KM.mz;have l2:KM.jk (KM.aH k.frames i)=KM.mz:=by unfold KM.jk;rw[<- sY.o,if_pos HZ.o]
     rw[l2];simp only[List.set_set] at l1;exact⟨rfl,(l1.1.below (tW.out _)).below (tW.out _),((D5.o.trans l1.2).trans (Ch.below (tW.out _))).trans (Ch.below (tW.out _))⟩
   · have zb:(R-1==0)=false:=by simpa using z
     have HZ:=ai z;clear z;go_region;go_wp2;refine bodyPost_ret (v:=.tuple #[]) (by simp[results,Tryz.results81,go_sem]) rfl ?_;rw[UA.o];have l2:KM.jk (KM.aH k.frames i)=⟨(KM.aH k.frames i).data,R-1,(KM.aH k.frames i).cj,(KM.aH k.frames i).seen⟩:=by unfold KM.jk;rw[<- sY.o,if_neg HZ.o]
     rw[l2];exact⟨rfl,wY.o.below (tW.out _),D5.o.trans (Ch.below (tW.out _))⟩
 · obtain⟨i,rfl⟩:∃i:Nat,lc=(i:Int):=⟨lc.toNat,by have:=h2 c;omega⟩;have hi:i<k.slots.length:=by have:=h2 c;omega
   obtain⟨fb,cF,A⟩:=HM.o.toKr.sl (by omega);have Da:=hr.2 c;rw[Int.toNat_natCast] at Da;have hk:KM.b9 k ⟨pg,kd,(i:Int)⟩={ k with slots:=k.slots.set i (KM.kv (KM.bj k.slots i)) }:=by
    unfold KM.b9;rw[if_neg c,Int.toNat_natCast]
   rw[hk] at UA;have nF:S.lab fb=.slots:=A.lab;have hne:¬fb=eb:=fun e=>by rw[e,nE] at nF;cases nF
   have pO:¬fb=mb:=fun e=>by rw[e,h.lH] at nF;cases nF
   have hme:¬mb=eb:=fun e=>by have:=h.lH;rw[e,nE] at this;cases this
   have x0:=A.x0 i hi;have x1:=A.x1 i hi;have c1:=HM.o.c2;rw[A.v] at c1;have e0:WA.cell? (Ad eb 1)=some (I kd):=B.cell EB.o 1 rfl;have e2:WA.cell? (Ad eb 2)=some (I (i:Int)):=B.cell EB.o 2 rfl;have wj:(i:Int)<(k.slots.length:Int):=by omega
   have f1:=A.fz (i*2+1);have m1:=HM.o.GN A.v hi (j:=1) (by omega) (f:=⟨(KM.bj k.slots i).data,(KM.bj k.slots i).refs-1⟩) (u:=I ((KM.bj k.slots i).refs-1)) rfl;have Ms:=Sj.o.trans (chL HM.o.toKr A.v (i:=i*2+1) (u:=I ((KM.bj k.slots i).refs-1)));have wY:=ai (m1.below (tW.out _));have D5:=ai (Ms.trans (Ch.below (tW.out _)));have Yn:=ai (B.below (B.other EB.o fb (i*2+1) (I ((KM.bj k.slots i).refs-1)) (fun e=>hne e.symm)) (tW.out _) (by rw[World.size_setCell];exact B.isLt EB.o));have Yi:=ai A.v;obtain⟨n,hn⟩:=ex k.slots.length;have RY:=ai hn;rw[<- hn] at c1 wj;have kb:(kd==1)=false:=by simpa using c
   obtain⟨R,hR⟩:=ex ((KM.bj k.slots i).refs);have sY:=ai hR;rw[<- hR] at x1 Da wY D5 Yn;have hw:IntKind.i64.wrap (R-1)=R-1:=IntWalk.i64_in _ (by omega);have HI:=ai hi;clear h1 h2 hr h hk hn hR nE nF m1 Ms A HM Sj EB c;go_enter Tryz.func81,Tryz.ntmps81;go_upto_region 1 with fail;rw[<- eZ.o,<- HEB.o];go_upto_region 5 with fail;go_region;go_upto_region 6 with fail;obtain⟨W1,hW1⟩:=ex ((WA.setCell (Ad fb (i*2+1)) (I (R-1))).drew);rw[<- hW1] at wY D5 Yn ⊢;clear hW1 x0 x1 c1 e0 e2 f1;obtain⟨P7,YC,A1⟩:=wY.o.toKr.sl (by show 0<(k.slots.set i _).length;rw[List.length_set];have:=HI.o;omega);obtain rfl:fb=P7:=by have ev:=Yi.o.symm.trans A1.v;simp at ev;exact ev.1
   have hi':i<(k.slots.set i ⟨(KM.bj k.slots i).data,R-1⟩).length:=by rw[List.length_set];exact HI.o
   have y1:W1.cell? (Ad fb (i*2+1))=some (I (R-1)):=by
    have:=A1.x1 i hi';rw[show KM.bj (k.slots.set i ⟨(KM.bj k.slots i).data,R-1⟩) i=⟨(KM.bj k.slots i).data,R-1⟩ from KM.bC _ _ _ _ HI.o] at this;exact this
   have y0:=A1.x0 i hi';have g0:=A1.fz (i*2);have g1:=A1.fz (i*2+1);have c1:=wY.o.c2;rw[Yi.o,<- RY.o] at c1;have e2:W1.cell? (Ad eb 2)=some (I (i:Int)):=B.cell Yn.o 2 rfl;clear A1 hi';by_cases z:R-1=0
   · have zb:(R-1==0)=true:=by simpa using z
     have HZ:=ai z;clear z;go_region;go_upto_region 7 with fail;go_region;go_wp2;refine bodyPost_ret (v:=.tuple #[]) (by simp[results,Tryz.results81,go_sem]) rfl ?_;rw[UA.o];have l1:=wY.o.Wi Yi.o (i:=i) (by rw[List.length_set];exact HI.o) KM.xe;have l2:KM.kv (KM.bj k.slots i)=KM.xe:=by unfold KM.kv;rw[<- sY.o,if_pos HZ.o]
     rw[l2];simp only[List.set_set] at l1;exact⟨rfl,(l1.1.below (tW.out _)).below (tW.out _),((D5.o.trans l1.2).trans (Ch.below (tW.out _))).trans (Ch.below (tW.out _))⟩
   · have zb:(R-1==0)=false:=by simpa using z
     have HZ:=ai z;clear z;go_region;go_wp2;refine bodyPost_ret (v:=.tuple #[]) (by simp[results,Tryz.results81,go_sem]) rfl ?_;rw[UA.o];have l2:KM.kv (KM.bj k.slots i)=⟨(KM.bj k.slots i).data,R-1⟩:=by unfold KM.kv;rw[<- sY.o,if_neg HZ.o]
     rw[l2];exact⟨rfl,wY.o.below (tW.out _),D5.o.trans (Ch.below (tW.out _))⟩
end KR
end Go.Proofs.YtpgifpeohlllfaaGreat
