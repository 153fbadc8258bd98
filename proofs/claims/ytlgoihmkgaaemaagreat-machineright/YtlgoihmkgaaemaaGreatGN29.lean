import Derived.Test.YtlgoihmkgaaemaaGreatGN28
set_option maxHeartbeats 20000000
set_option linter.unusedVariables false
set_option maxRecDepth 100000
set_option linter.unusedSimpArgs false
namespace Go.Proofs.YtlgoihmkgaaemaaGreat
open Go.RowKit
variable {lo mb:Nat} {w w':World} {D:Nat->Prop} {k:aT} {fl:List Bool} {j:Nat}
theorem Zt (ad n way:Int) (h:gB lo mb w D k) (ho:dn k fl) (hl:fl.getD j false=true) (had:cO ad) (h1:1<=n) (h8:n<=8) (hw:way=0∨way=2) :
  Calls Tryz.prog 254 #[.pointer (some (Ad mb 0)),I (j:Int),I ad,I n,I way] w (od (gB lo mb) w D (.tuple #[.string (gP k j ad n way).1.1,.agg (gU (gP k j ad n way).1.2)]) (gP k j ad n way).2):=by
 obtain⟨WA,lO⟩:=ex (w.alloc (.cells #[I 0,I 0] 75));have hb0:Below w.heap.size w WA:=by rw[lO];exact(aK _ _).alloc (aI _) _
 have hz:=bE w #[I 0,I 0] 75;rw[<- lO] at hz;have hD:∀b,D b->b<w.heap.size:=fun b g=>(h.dom b g).2
 have hlt:w.heap.size<WA.heap.size:=by rw[lO];simp
 have h:=h.kp (aD.b9 (D:=fun _=>False) hb0) (fun _ _ g=>g);obtain⟨⟨hs,a,_,_,s,hc,hK,_,_,_,_⟩,hb⟩:=id h;obtain⟨K,eK,hA⟩:=Zu ho hl s ad n way h1 h8 hw;obtain⟨R,hR⟩:=ex (gP k j ad n way);rw[<- hR] at eK hA ⊢;obtain⟨⟨str,f1,f2⟩,k'⟩:=R;simp only at eK hA ⊢;have hC:=YQ vY (aV k hs) a j ad n way WA (hK WA (aD.refl _ _)) (oc (ho.right.wT s)) (Ee ho hl) had;rw[eK] at hC;have HC:Hid (Calls Tryz.prog 262 #[.agg (bg a (aV k hs)),I (j:Int),I ad,I n,I way] WA fun e w1=>∃s0 n0 q0 s1 n1 q1 s2 n2 q2 s3 n3 q3 hd,e=.returned (.tuple #[.agg #[.slice s0 n0 q0,.slice s1 n1 q1,.slice s2 n2 q2,.slice s3 n3 q3,I hd],.string str,.agg #[I f1,I f2],I 0])/\Below WA.heap.size WA w1/\∀w2,aD (fun b=>b=mb) w1 w2->w2.heap[mb]?=some (.cells (if f1=0 then #[.slice s0 n0 q0,.slice s1 n1 q1,.slice s2 n2 q2,.slice s3 n3 q3,I hd] else bg a (aV k hs)) 185 (0,0))->pP lo mb WA D k' w2):=hC.mono fun e w1 ho=>by
  obtain⟨s0,n0,q0,s1,n1,q1,s2,n2,q2,s3,n3,q3,hd,rfl,hb1,hfin⟩:=Ah h hc s hA ho;exact⟨_,_,_,_,_,_,_,_,_,_,_,_,_,rfl,hb1,fun w2 x y=>hfin w2 x y⟩
 obtain⟨P,hP⟩:=ex (od (gB lo mb) w D (.tuple #[.string str,.agg (gU (f1,f2))]) k');have HP:Hid (∀w2 w3,pP lo mb WA D k' w2->aD (fun b=>b=w.heap.size) w2 w3->P (.returned (.tuple #[.string str,.agg #[I f1,I f2]])) w3):=fun w2 w3 g1 g2=>by obtain⟨D',a1,a2,a3⟩:=g1.past hb0 hD hlt g2;rw[hP];exact⟨D',rfl,a1,a2,a3⟩
 rw[<- hP];have HZ:=ai (fun V (g:Below WA.heap.size WA V)=>aO hz g (aJ hz));have gK:=ai hb0;have se:=ai lO;have HLT:Hid (mb<w.heap.size):=hD mb h.inD;have vB:=ai hc;clear hz hb0 hD hlt h1 h8 hw had hC eK hA hR hP h hK ho hl hc;obtain⟨K0,T6⟩:=ex (aV k hs);rw[<- T6] at HC vB;unfold bg at HC vB;obtain⟨m0,hm0⟩:=ex K0.aM.length;obtain⟨m1,nJ⟩:=ex K0.frames.length;obtain⟨m2,hm2⟩:=ex K0.slots.length;obtain⟨m3,PU⟩:=ex K0.aj.length;obtain⟨m4,T4⟩:=ex K0.hand;rw[<- hm0,<- nJ,<- hm2,<- PU,<- T4] at HC vB;clear hm0 nJ hm2 PU T4 T6 s;obtain⟨c0,c1,c2,c3,c4⟩:=iH vB.o;rw[lO] at c0 c1 c2 c3 c4;have HC:Hid (Calls _ _ _ (w.alloc (.cells #[I 0,I 0] 75)) _):=lO ▸ HC;clear lO;by_cases c:f1=0
 · subst c;go_enter Tryz.func254,Tryz.ntmps254;go_wp2_with (first
    | (go_at_call 262;refine HC.o.mono ?_;rintro e w1 ⟨s0,n0,q0,s1,n1,q1,s2,n2,q2,s3,n3,q3,hd,rfl,hb1,hfin⟩;rw[<- se.o] at hb1;have cN:=ai hb1;have Uz:=ai hfin;have HX:=ai (((aK w1.heap.size w1).alloc (aI _) (.cells #[.slice s0 n0 q0,.slice s1 n1 q1,.slice s2 n2 q2,.slice s3 n3 q3,I hd] 30)).alloc (by simp) (.cells #[I 0,I f2] 75));have hq:=bE (w1.alloc (.cells #[.slice s0 n0 q0,.slice s1 n1 q1,.slice s2 n2 q2,.slice s3 n3 q3,I hd] 30)) #[I 0,I f2] 75;rw[fF] at hq;have HQ:=ai hq;have HZX:=ai (HZ.o _ (cN.o.trans (HX.o.mono cN.o.size)));clear hq;clear hb1 hfin)
    | (go_at_call 259;refine(tu mb _ _ _ _ _ _ _ _ _ _ _ _ _ _ _ _ _ _ _ _ (aO (aO vB.o cN.o (aJ vB.o)) HX.o (fL (aJ vB.o) cN.o.size))).mono ?_;rintro e w2 ⟨rfl,hk2,hm2⟩;have LF:=ai (Uz.o _ ((aD.b9 HX.o).trans hk2 (fun _ _ g=>g)) (by first | exact hm2 | simpa using hm2));have pU:=ai hk2;clear hk2 hm2;have hzn:¬w.heap.size=mb:=(fun g=>by have:=HLT.o;omega);have hz2:=pU.o.keep HZX.o hzn;have hq2:=pU.o.keep HQ.o (fun g=>by have:=aJ vB.o;have:=cN.o.size;omega);obtain⟨y0,y1⟩:=rq hq2;obtain⟨z0,z1⟩:=rq hz2;have g0:=aR hz2 0;have g1:=aR hz2 1;clear hz2 hq2 hzn))
   have OE:Hid (pP lo mb WA D k' w2):=by rw[se.o];exact LF.o
   go_region;go_wp2;refine bO (v:=.tuple #[.string str,.agg #[I 0,I f2]]) (by simp[results,Tryz.results254,go_sem,z0,z1]) rfl ?_;refine HP.o _ _ OE.o ?_;have kk:∀(A:World) (i:Nat) (v:Value),aD (fun b=>b=w.heap.size) A (A.setCell (Ad w.heap.size i) v):=fun A i v=>aD.set _ A (Ad w.heap.size i) v rfl
   first | exact((kk _ _ _).trans (kk _ _ _) (fun _ _ g=>g)).trans (aD.drew _ _) (fun _ _ g=>g) | exact(aD.drew _ _).trans ((kk _ _ _).trans (kk _ _ _) (fun _ _ g=>g)) (fun _ _ g=>g)
 · have cb:(f1==0)=false:=by grind
   have HCN:=ai c;clear c;go_enter Tryz.func254,Tryz.ntmps254;go_wp2_with (first
    | (go_at_call 262;refine HC.o.mono ?_;rintro e w1 ⟨s0,n0,q0,s1,n1,q1,s2,n2,q2,s3,n3,q3,hd,rfl,hb1,hfin⟩;rw[<- se.o] at hb1;have cN:=ai hb1;have Uz:=ai hfin;have HX:=ai (((aK w1.heap.size w1).alloc (aI _) (.cells #[.slice s0 n0 q0,.slice s1 n1 q1,.slice s2 n2 q2,.slice s3 n3 q3,I hd] 30)).alloc (by simp) (.cells #[I f1,I f2] 75));have hq:=bE (w1.alloc (.cells #[.slice s0 n0 q0,.slice s1 n1 q1,.slice s2 n2 q2,.slice s3 n3 q3,I hd] 30)) #[I f1,I f2] 75;rw[fF] at hq;have HQ:=ai hq;have HZX:=ai (HZ.o _ (cN.o.trans (HX.o.mono cN.o.size)));clear hq;have hz2:=HZX.o;obtain⟨y0,y1⟩:=rq HQ.o;obtain⟨z0,z1⟩:=rq hz2;have g0:=aR hz2 0;have g1:=aR hz2 1;clear hz2;clear hb1 hfin)
    | fail)
   have OE:=ai (Uz.o _ (aD.b9 HX.o) (by rw[aA HCN.o];exact(aO (aO vB.o cN.o (aJ vB.o)) HX.o (fL (aJ vB.o) cN.o.size))));rw[<- se.o] at OE;go_region;go_wp2;refine bO (v:=.tuple #[.string str,.agg #[I f1,I f2]]) (by simp[results,Tryz.results254,go_sem,z0,z1]) rfl ?_;refine HP.o _ _ OE.o ?_;have kk:∀(A:World) (i:Nat) (v:Value),aD (fun b=>b=w.heap.size) A (A.setCell (Ad w.heap.size i) v):=fun A i v=>aD.set _ A (Ad w.heap.size i) v rfl
   first | exact((kk _ _ _).trans (kk _ _ _) (fun _ _ g=>g)).trans (aD.drew _ _) (fun _ _ g=>g) | exact(aD.drew _ _).trans ((kk _ _ _).trans (kk _ _ _) (fun _ _ g=>g)) (fun _ _ g=>g)
theorem Ws (ad:Int) (d:ByteArray) (h:gB lo mb w D k) (ho:dn k fl) (hl:fl.getD j false=true) (had:cO ad) (h1:1<=d.size) (h8:d.size<=8) :
  Calls Tryz.prog 257 #[.pointer (some (Ad mb 0)),I (j:Int),I ad,.string d] w (od (gB lo mb) w D (.agg (gU (jb k j ad d).1)) (jb k j ad d).2):=by
 obtain⟨WA,lO⟩:=ex (w.alloc (.cells #[I 0,I 0] 75));have hb0:Below w.heap.size w WA:=by rw[lO];exact(aK _ _).alloc (aI _) _
 have hz:=bE w #[I 0,I 0] 75;rw[<- lO] at hz;have hD:∀b,D b->b<w.heap.size:=fun b g=>(h.dom b g).2
 have hlt:w.heap.size<WA.heap.size:=by rw[lO];simp
 have h:=h.kp (aD.b9 (D:=fun _=>False) hb0) (fun _ _ g=>g);obtain⟨⟨hs,a,_,_,s,hc,hK,_,_,_,_⟩,hb⟩:=id h;obtain⟨K,eK,hA⟩:=Wt ho hl s ad d h1 h8;obtain⟨R,hR⟩:=ex (jb k j ad d);rw[<- hR] at eK hA ⊢;obtain⟨⟨f1,f2⟩,k'⟩:=R;simp only at eK hA ⊢;have hC:=VG vY (aV k hs) a j ad d WA (hK WA (aD.refl _ _)) (oc (ho.right.wT s)) (Ee ho hl) had;rw[eK] at hC;have HC:Hid (Calls Tryz.prog 265 #[.agg (bg a (aV k hs)),I (j:Int),I ad,.string d] WA fun e w1=>∃s0 n0 q0 s1 n1 q1 s2 n2 q2 s3 n3 q3 hd,e=.returned (.tuple #[.agg #[.slice s0 n0 q0,.slice s1 n1 q1,.slice s2 n2 q2,.slice s3 n3 q3,I hd],.agg #[I f1,I f2],I 0])/\Below WA.heap.size WA w1/\∀w2,aD (fun b=>b=mb) w1 w2->w2.heap[mb]?=some (.cells (if f1=0 then #[.slice s0 n0 q0,.slice s1 n1 q1,.slice s2 n2 q2,.slice s3 n3 q3,I hd] else bg a (aV k hs)) 185 (0,0))->pP lo mb WA D k' w2):=hC.mono fun e w1 ho=>by
  obtain⟨s0,n0,q0,s1,n1,q1,s2,n2,q2,s3,n3,q3,hd,rfl,hb1,hfin⟩:=Ah h hc s hA ho;exact⟨_,_,_,_,_,_,_,_,_,_,_,_,_,rfl,hb1,fun w2 x y=>hfin w2 x y⟩
 obtain⟨P,hP⟩:=ex (od (gB lo mb) w D (.agg (gU (f1,f2))) k');have HP:Hid (∀w2 w3,pP lo mb WA D k' w2->aD (fun b=>b=w.heap.size) w2 w3->P (.returned (.agg #[I f1,I f2])) w3):=fun w2 w3 g1 g2=>by obtain⟨D',a1,a2,a3⟩:=g1.past hb0 hD hlt g2;rw[hP];exact⟨D',rfl,a1,a2,a3⟩
 rw[<- hP];have HZ:=ai (fun V (g:Below WA.heap.size WA V)=>aO hz g (aJ hz));have gK:=ai hb0;have se:=ai lO;have HLT:Hid (mb<w.heap.size):=hD mb h.inD;have vB:=ai hc;clear hz hb0 hD hlt h1 h8 had hC eK hA hR hP h hK ho hl hc;obtain⟨K0,T6⟩:=ex (aV k hs);rw[<- T6] at HC vB;unfold bg at HC vB;obtain⟨m0,hm0⟩:=ex K0.aM.length;obtain⟨m1,nJ⟩:=ex K0.frames.length;obtain⟨m2,hm2⟩:=ex K0.slots.length;obtain⟨m3,PU⟩:=ex K0.aj.length;obtain⟨m4,T4⟩:=ex K0.hand;rw[<- hm0,<- nJ,<- hm2,<- PU,<- T4] at HC vB;clear hm0 nJ hm2 PU T4 T6 s;obtain⟨c0,c1,c2,c3,c4⟩:=iH vB.o;rw[lO] at c0 c1 c2 c3 c4;have HC:Hid (Calls _ _ _ (w.alloc (.cells #[I 0,I 0] 75)) _):=lO ▸ HC;clear lO;by_cases c:f1=0
 · subst c;go_enter Tryz.func257,Tryz.ntmps257;go_wp2_with (first
    | (go_at_call 265;refine HC.o.mono ?_;rintro e w1 ⟨s0,n0,q0,s1,n1,q1,s2,n2,q2,s3,n3,q3,hd,rfl,hb1,hfin⟩;rw[<- se.o] at hb1;have cN:=ai hb1;have Uz:=ai hfin;have HX:=ai (((aK w1.heap.size w1).alloc (aI _) (.cells #[.slice s0 n0 q0,.slice s1 n1 q1,.slice s2 n2 q2,.slice s3 n3 q3,I hd] 30)).alloc (by simp) (.cells #[I 0,I f2] 75));have hq:=bE (w1.alloc (.cells #[.slice s0 n0 q0,.slice s1 n1 q1,.slice s2 n2 q2,.slice s3 n3 q3,I hd] 30)) #[I 0,I f2] 75;rw[fF] at hq;have HQ:=ai hq;have HZX:=ai (HZ.o _ (cN.o.trans (HX.o.mono cN.o.size)));clear hq;clear hb1 hfin)
    | (go_at_call 259;refine(tu mb _ _ _ _ _ _ _ _ _ _ _ _ _ _ _ _ _ _ _ _ (aO (aO vB.o cN.o (aJ vB.o)) HX.o (fL (aJ vB.o) cN.o.size))).mono ?_;rintro e w2 ⟨rfl,hk2,hm2⟩;have LF:=ai (Uz.o _ ((aD.b9 HX.o).trans hk2 (fun _ _ g=>g)) (by first | exact hm2 | simpa using hm2));have pU:=ai hk2;clear hk2 hm2;have hzn:¬w.heap.size=mb:=(fun g=>by have:=HLT.o;omega);have hz2:=pU.o.keep HZX.o hzn;have hq2:=pU.o.keep HQ.o (fun g=>by have:=aJ vB.o;have:=cN.o.size;omega);obtain⟨y0,y1⟩:=rq hq2;obtain⟨z0,z1⟩:=rq hz2;have g0:=aR hz2 0;have g1:=aR hz2 1;clear hz2 hq2 hzn))
   have OE:Hid (pP lo mb WA D k' w2):=by rw[se.o];exact LF.o
   skip
   refine bO (v:=.agg #[I 0,I f2]) (by simp[results,Tryz.results257,go_sem,z0,z1]) rfl ?_;refine HP.o _ _ OE.o ?_;have kk:∀(A:World) (i:Nat) (v:Value),aD (fun b=>b=w.heap.size) A (A.setCell (Ad w.heap.size i) v):=fun A i v=>aD.set _ A (Ad w.heap.size i) v rfl
   exact(kk _ _ _).trans (kk _ _ _) (fun _ _ g=>g)
 · have cb:(f1==0)=false:=by grind
   have HCN:=ai c;clear c;go_enter Tryz.func257,Tryz.ntmps257;go_wp2_with (first
    | (go_at_call 265;refine HC.o.mono ?_;rintro e w1 ⟨s0,n0,q0,s1,n1,q1,s2,n2,q2,s3,n3,q3,hd,rfl,hb1,hfin⟩;rw[<- se.o] at hb1;have cN:=ai hb1;have Uz:=ai hfin;have HX:=ai (((aK w1.heap.size w1).alloc (aI _) (.cells #[.slice s0 n0 q0,.slice s1 n1 q1,.slice s2 n2 q2,.slice s3 n3 q3,I hd] 30)).alloc (by simp) (.cells #[I f1,I f2] 75));have hq:=bE (w1.alloc (.cells #[.slice s0 n0 q0,.slice s1 n1 q1,.slice s2 n2 q2,.slice s3 n3 q3,I hd] 30)) #[I f1,I f2] 75;rw[fF] at hq;have HQ:=ai hq;have HZX:=ai (HZ.o _ (cN.o.trans (HX.o.mono cN.o.size)));clear hq;have hz2:=HZX.o;obtain⟨y0,y1⟩:=rq HQ.o;obtain⟨z0,z1⟩:=rq hz2;have g0:=aR hz2 0;have g1:=aR hz2 1;clear hz2;clear hb1 hfin)
    | fail)
   have OE:=ai (Uz.o _ (aD.b9 HX.o) (by rw[aA HCN.o];exact(aO (aO vB.o cN.o (aJ vB.o)) HX.o (fL (aJ vB.o) cN.o.size))));rw[<- se.o] at OE
   skip
   refine bO (v:=.agg #[I f1,I f2]) (by simp[results,Tryz.results257,go_sem,z0,z1]) rfl ?_;refine HP.o _ _ OE.o ?_;have kk:∀(A:World) (i:Nat) (v:Value),aD (fun b=>b=w.heap.size) A (A.setCell (Ad w.heap.size i) v):=fun A i v=>aD.set _ A (Ad w.heap.size i) v rfl
   exact(kk _ _ _).trans (kk _ _ _) (fun _ _ g=>g)
open Go.RowKit
theorem PE (lo mb:Nat):iB lo mb (gB lo mb) dn fX where
 kp:=fun w w' D E s h hk hd=>h.kp hk hd
 dom:=fun w D s h=>h.dom
 ok:=iq
 load:=fun w D s fl k a n way h ho hl ha h1 h8 hw=>Zt a n way h ho hl ha h1 h8 hw
 store:=fun w D s fl k a d h ho hl ha h1 h8=>Ws a d h ho hl ha h1 h8
 map:=fun w D s fl k p n q h ho hl hp hn=>abU p n q h ho hl hp hn
 pd:=fun w D s fl k p n h ho hl hp hn=>Wq p n h ho hl hp hn
 jt:=fun w D s fl k p n q h ho hl hp hn=>Q6 p n q h ho hl hp hn
 fork:=fun w D s fl k h ho hl=>Zv h ho hl
 drop:=fun w D s fl k h ho hl=>Zx h ho hl
open Go.RowKit
theorem Q4 (l:List bT) (o:List sI) (lv:Nat->Bool) (ar ao:Option Addr) (cr co P:Nat) (w:World) (h:uS w ar l) (ho:wJ w ao o) (hn:l.length<=140737488351232) (hno:o.length<=140737488351232)
  (hlv:∀k,k<l.length->∀V,Below w.heap.size w V->Calls Tryz.prog 89 #[I (k:Int),.pointer (some (Ad P 0))] V fun e w'=>e=.returned (.bool (lv k))/\Below V.heap.size V w') :
  Calls Tryz.prog 88 #[.slice ar l.length cr,.slice ao o.length co,.func (.func 89) #[] #[.pointer (some (Ad P 0))]] w fun e w'=>e=.returned (.bool (jF l o lv))/\Below w.heap.size w w':=by
 have HH:=ai h;have HO:=ai ho;have TE:=ai hlv;have HPS:Hid (∀k,kv l lv (k+1)=(kv l lv k&&vA l lv k)):=fun k=>rfl
 have HPF:Hid (∀k,k<=l.length->kv l lv k=false->jF l o lv=false):=fun k hk e=>by
  unfold jF;rw[GF e _ hk,GZ]
 have HWF:Hid (∀k,k<=o.length->ku o l.length k=false->jF l o lv=false):=fun k hk e=>by
  unfold jF;rw[GD e _ hk,Bool.and_false]
 have HYE:Hid (kv l lv l.length=true->ku o l.length o.length=true->jF l o lv=true):=fun h1 h2=>by
  unfold jF;rw[h1,h2];rfl
 obtain⟨A,hA⟩:=ex (jF l o lv);rw[<- hA] at HPF HWF HYE ⊢;clear h ho hlv hA;go_enter Tryz.func88,Tryz.ntmps88;go_wp2;go_loopw [13] (fun iv wr=>∃k:Nat,k<=l.length/\iv=I (k:Int)/\kv l lv k=true/\Below w.heap.size w wr) (fun iv _=>l.length-(intOf iv).toNat)
 case atStart=>exact⟨0,by omega,rfl,rfl,aK _ _⟩
 case round =>
  obtain⟨k,hk,rfl,hall,hb⟩:=hrel;have HB:=ai hb;have XX:=ai hall;clear hall;by_cases hlt:k<l.length
  · obtain⟨b,off,hao,hbl,eY⟩:=(HH.o.below hb) (by omega);subst hao;obtain⟨c0,c1,c2,c3,c4,c5,c6,nR,c8,c9,c10,c11,c12⟩:=eY k hlt;have Sd:Hid (kv l lv (k+1)=(fA (aN l k)&&lv k==((aN l k).st==1))):=by
     show _=_;rw[HPS.o,XX.o,tK];unfold vA;congr 2
    have ZK:=ai (HPF.o (k+1) (by omega));obtain⟨q,hq⟩:=ex (aN l k);rw[<- hq] at Sd c0 c1 c2 c3 c4 c5 c6 nR c8 c9 c10 c11 c12;have HRP:Hid (∀V,Calls Tryz.prog 146 #[.agg #[I (q.r 0),I (q.r 1),I (q.r 2),I (q.r 3),I (q.r 4),I (q.r 5),I (q.r 6),I (q.r 7),I q.pc,I q.st,I q.cd,I q.fk,I q.fa]] V fun e w'=>e=.returned (.bool (fA q))/\Below V.heap.size V w'):=fun V=>MP q V
    have HLK:=ai (TE.o k hlt);obtain⟨L,hL⟩:=ex (lv k);rw[<- hL] at Sd HLK;obtain⟨T,hT⟩:=ex (fA q);rw[<- hT] at Sd HRP;clear hq hL hT eY hb;have jV:=ai (HB.o.alloc HB.o.size (.cells #[I (q.r 0),I (q.r 1),I (q.r 2),I (q.r 3),I (q.r 4),I (q.r 5),I (q.r 6),I (q.r 7),I q.pc,I q.st,I q.cd,I q.fk,I q.fa] 77));go_wp2_with fail
    obtain⟨W,hW⟩:=ex (wr.alloc (.cells #[I (q.r 0),I (q.r 1),I (q.r 2),I (q.r 3),I (q.r 4),I (q.r 5),I (q.r 6),I (q.r 7),I q.pc,I q.st,I q.cd,I q.fk,I q.fa] 77));have HW:=ai hW;have hs:W.heap.size=wr.heap.size+1:=by rw[hW];simp
    have CL:=jq W;have hkc:=@fO W;have e0:∀x:dV W.heap.size W,x.world.cell? (Ad wr.heap.size 0)=some (I (q.r 0)):=fun x=>by rw[hkc x _ _ (by omega),hW];simp
    have e1:∀x:dV W.heap.size W,x.world.cell? (Ad wr.heap.size 1)=some (I (q.r 1)):=fun x=>by rw[hkc x _ _ (by omega),hW];simp
    have e2:∀x:dV W.heap.size W,x.world.cell? (Ad wr.heap.size 2)=some (I (q.r 2)):=fun x=>by rw[hkc x _ _ (by omega),hW];simp
    have e3:∀x:dV W.heap.size W,x.world.cell? (Ad wr.heap.size 3)=some (I (q.r 3)):=fun x=>by rw[hkc x _ _ (by omega),hW];simp
    have e4:∀x:dV W.heap.size W,x.world.cell? (Ad wr.heap.size 4)=some (I (q.r 4)):=fun x=>by rw[hkc x _ _ (by omega),hW];simp
    have e5:∀x:dV W.heap.size W,x.world.cell? (Ad wr.heap.size 5)=some (I (q.r 5)):=fun x=>by rw[hkc x _ _ (by omega),hW];simp
    have e6:∀x:dV W.heap.size W,x.world.cell? (Ad wr.heap.size 6)=some (I (q.r 6)):=fun x=>by rw[hkc x _ _ (by omega),hW];simp
    have e7:∀x:dV W.heap.size W,x.world.cell? (Ad wr.heap.size 7)=some (I (q.r 7)):=fun x=>by rw[hkc x _ _ (by omega),hW];simp
    have e8:∀x:dV W.heap.size W,x.world.cell? (Ad wr.heap.size 8)=some (I q.pc):=fun x=>by rw[hkc x _ _ (by omega),hW];simp
    have e9:∀x:dV W.heap.size W,x.world.cell? (Ad wr.heap.size 9)=some (I q.st):=fun x=>by rw[hkc x _ _ (by omega),hW];simp
    have e10:∀x:dV W.heap.size W,x.world.cell? (Ad wr.heap.size 10)=some (I q.cd):=fun x=>by rw[hkc x _ _ (by omega),hW];simp
    have e11:∀x:dV W.heap.size W,x.world.cell? (Ad wr.heap.size 11)=some (I q.fk):=fun x=>by rw[hkc x _ _ (by omega),hW];simp
    have e12:∀x:dV W.heap.size W,x.world.cell? (Ad wr.heap.size 12)=some (I q.fa):=fun x=>by rw[hkc x _ _ (by omega),hW];simp
    have Jw:Hid (Below w.heap.size w W):=by show Below _ _ _;rw[hW];exact jV.o
    clear hW hs hkc c0 c1 c2 c3 c4 c5 c6 nR c8 c9 c10 c11 c12;rw[<- HW.o];have Cr:Hid (∀x:dV W.heap.size W,Calls Tryz.prog 146 #[.agg #[I (q.r 0),I (q.r 1),I (q.r 2),I (q.r 3),I (q.r 4),I (q.r 5),I (q.r 6),I (q.r 7),I q.pc,I q.st,I q.cd,I q.fk,I q.fa]] x.world fun e w'=>e=.returned (.bool T)/\∃y:dV W.heap.size W,w'=y.world):=fun x=>fV HRP.o x
    have Bv:Hid (∀x:dV W.heap.size W,Calls Tryz.prog 89 #[I (k:Int),.pointer (some (Ad P 0))] x.world fun e w'=>e=.returned (.bool L)/\∃y:dV W.heap.size W,w'=y.world):=fun x=>(HLK.o x.world (bX Jw.o x.keeps)).mono fun e w'' ⟨he,hb⟩=>⟨he,⟨w'',x.keeps.trans (hb.mono x.keeps.size)⟩,rfl⟩
    clear HRP HLK;cases T with
    | false =>
     have Tx:=ai (ZK.o (by rw[Sd.o,GZ]));clear Sd ZK;refine dx (by kernel_rfl) (by kernel_rfl) ?_
     repeat (first | go_big_quiet_step ((first | (go_at_call 146;exact Cr.o _) | (go_at_call 89;exact Bv.o _))) | quiet_step ((first | (go_at_call 146;exact Cr.o _) | (go_at_call 89;exact Bv.o _))))
     refine jk ?_;intro _ hw';obtain⟨x,hw''⟩:=hw';subst hw'';go_wp2;go_ret;exact⟨qL Tx.o.symm,bX Jw.o x.keeps⟩
    | true =>
     rw[tK] at Sd;obtain⟨S,hS⟩:∃S,(q.st==1)=S:=⟨_,rfl⟩;rw[hS] at Sd;cases L with
     | false =>
      cases S with
      | false =>
       have HY2:Hid (kv l lv (k+1)=true):=Sd;clear Sd ZK;refine dx (by kernel_rfl) (by kernel_rfl) ?_
       repeat (first | go_big_quiet_step ((first | (go_at_call 146;exact Cr.o _) | (go_at_call 89;exact Bv.o _))) | quiet_step ((first | (go_at_call 146;exact Cr.o _) | (go_at_call 89;exact Bv.o _))))
       refine jk ?_;intro _ hw';obtain⟨x,hw''⟩:=hw';subst hw'';go_wp2;go_roundw
       case rel=>exact⟨k+1,by omega,by go_num,HY2.o,bX Jw.o x.keeps⟩
       case measure=>simp[intOf];omega
      | true =>
       have Tx:=ai (ZK.o Sd.o);clear Sd ZK;refine dx (by kernel_rfl) (by kernel_rfl) ?_
       repeat (first | go_big_quiet_step ((first | (go_at_call 146;exact Cr.o _) | (go_at_call 89;exact Bv.o _))) | quiet_step ((first | (go_at_call 146;exact Cr.o _) | (go_at_call 89;exact Bv.o _))))
       refine jk ?_;intro _ hw';obtain⟨x,hw''⟩:=hw';subst hw'';go_wp2;go_ret;exact⟨qL Tx.o.symm,bX Jw.o x.keeps⟩
     | true =>
      cases S with
      | true =>
       have HY2:Hid (kv l lv (k+1)=true):=Sd;clear Sd ZK;refine dx (by kernel_rfl) (by kernel_rfl) ?_
       repeat (first | go_big_quiet_step ((first | (go_at_call 146;exact Cr.o _) | (go_at_call 89;exact Bv.o _))) | quiet_step ((first | (go_at_call 146;exact Cr.o _) | (go_at_call 89;exact Bv.o _))))
       refine jk ?_;intro _ hw';obtain⟨x,hw''⟩:=hw';subst hw'';go_wp2;go_roundw
       case rel=>exact⟨k+1,by omega,by go_num,HY2.o,bX Jw.o x.keeps⟩
       case measure=>simp[intOf];omega
      | false =>
       have Tx:=ai (ZK.o Sd.o);clear Sd ZK;refine dx (by kernel_rfl) (by kernel_rfl) ?_
       repeat (first | go_big_quiet_step ((first | (go_at_call 146;exact Cr.o _) | (go_at_call 89;exact Bv.o _))) | quiet_step ((first | (go_at_call 146;exact Cr.o _) | (go_at_call 89;exact Bv.o _))))
       refine jk ?_;intro _ hw';obtain⟨x,hw''⟩:=hw';subst hw'';go_wp2;go_ret;exact⟨qL Tx.o.symm,bX Jw.o x.keeps⟩
  · obtain rfl:k=l.length:=by omega
    have ari:=ai (HYE.o XX.o);clear hb HYE HPF HPS TE XX;go_wp2;go_loopw [33] (fun iv wq=>∃j:Nat,j<=o.length/\iv=I (j:Int)/\ku o l.length j=true/\Below w.heap.size w wq) (fun iv _=>o.length-(intOf iv).toNat)
    case atStart=>exact⟨0,by omega,rfl,rfl,HB.o⟩
    case round =>
     obtain⟨j,hj,rfl,hall,hbj⟩:=hrel;have HBJ:=ai hbj;have HAJ:=ai hall;clear hall HB;by_cases JV:j<o.length
     · obtain⟨b,off,hao,hbl,eY⟩:=(HO.o.below hbj) (by omega);subst hao;obtain⟨c0,c1⟩:=eY j JV;have HWK:Hid (ku o l.length (j+1)=decide (0<=(oW o j).proc/\(oW o j).proc<(l.length:Int))):=by
        show(ku o l.length j&&_)=_;rw[HAJ.o,tK];rfl
       have ags:=ai (HWF.o (j+1) (by omega));obtain⟨⟨wp,wv⟩,hq⟩:∃q,q=oW o j:=⟨_,rfl⟩;rw[<- hq] at HWK c0 c1;simp only at c0 c1;have aen:Hid (ku o l.length (j+1)=decide (0<=wp/\wp<(l.length:Int))):=HWK;clear hq eY hbj HAJ HWK;have jV:=ai (HBJ.o.alloc HBJ.o.size (.cells #[I wp,I wv] 91));by_cases h0:wp<0
       · have Tx:=ai (ags.o (by rw[aen.o];simp;omega));clear aen ags;go_wp2;go_ret;exact⟨qL Tx.o.symm,jV.o⟩
       · by_cases h1:(l.length:Int)<=wp
         · have Tx:=ai (ags.o (by rw[aen.o];simp;omega));clear aen ags;go_wp2;go_ret;exact⟨qL Tx.o.symm,jV.o⟩
         · have HY2:Hid (ku o l.length (j+1)=true):=by show _=_;rw[aen.o];simp;omega
           clear aen ags;go_wp2;go_roundw
           case rel=>exact⟨j+1,by omega,by go_num,HY2.o,jV.o⟩
           case measure=>simp[intOf];omega
     · obtain rfl:j=o.length:=by omega
       have HY2:=ai (ari.o HAJ.o);clear hbj;go_wp2;go_ret;exact⟨qL HY2.o.symm,HBJ.o⟩
open Go.RowKit
structure iF where
 il:aT
 procs:List bT
 out:List sI
def jD (m:iF):Int:=if ¬gq m.il=0 then gq m.il else if 2000<m.out.length then 2 else if m.procs.length=m.il.aj.length/\jF m.procs m.out (fun k=>(ak m.il.aj k).live)=true then 0 else 1
structure uR (w:World) (a:jc) (ar ao:Option Addr) (m:iF):Prop where
 il:jd w a m.il
 procs:uS w ar m.procs
 out:wJ w ao m.out
theorem uR.below {w w':World} {a:jc} {ar ao:Option Addr} {m:iF} (h:uR w a ar ao m) (hb:Below w.heap.size w w'):uR w' a ar ao m:=⟨h.il.below hb,h.procs.below hb,h.out.below hb⟩
structure Lp (m:iF):Prop where
 il:nu m.il
 procs:cB m.procs.length
 out:cB m.out.length
def ig (m:iF) (a:jc) (ar ao:Option Addr) (cr co:Nat):Array Value:=#[.slice a.aS m.il.aM.length a.cS,.slice a.aF m.il.frames.length a.cF,.slice a.aL m.il.slots.length a.cL,.slice a.aP m.il.aj.length a.cP,I m.il.hand,.slice ar m.procs.length cr,.slice ao m.out.length co]
theorem nR {w:World} {b:Nat} {Us a1 a2 a3 a4 a5 a6:Value} {t:TypeId} (h:w.heap[b]?=some (.cells #[Us,a1,a2,a3,a4,a5,a6] t (0,0))):w.cell? (Ad b 0)=some Us/\w.cell? (Ad b 1)=some a1/\w.cell? (Ad b 2)=some a2/\w.cell? (Ad b 3)=some a3/\w.cell? (Ad b 4)=some a4/\w.cell? (Ad b 5)=some a5/\w.cell? (Ad b 6)=some a6:=⟨au h 0 rfl,au h 1 rfl,au h 2 rfl,au h 3 rfl,au h 4 rfl,au h 5 rfl,au h 6 rfl⟩
theorem Wp (l:List cY) (az:Option Addr) (cs P k:Nat) (w:World) (h:yt w az l) (hk:k<l.length) (hn:l.length<=140737488351232) (hP:w.cell? (Ad P 3)=some (.slice az l.length cs)) :
  Calls Tryz.prog 89 #[I (k:Int),.pointer (some (Ad P 0))] w fun e w'=>e=.returned (.bool (ak l k).live)/\Below w.heap.size w w':=by
 obtain⟨b,off,hao,hbl,eY⟩:=h (by omega);subst hao;obtain⟨va,ap,cp,c0,c1,c2,c3,c4,c5⟩:=eY k hk;clear eY c1 c2 c3 c4 c5 h;obtain⟨lv,hlv⟩:=ex ((ak l k).live);rw[<- hlv] at c0 ⊢;clear hlv;go_enter Tryz.func89,Tryz.ntmps89;go_wp2;go_ret;exact⟨rfl,aK _ _⟩
theorem Ll (m:iF) (a:jc) (ar ao:Option Addr) (cr co:Nat) (w:World) (h:uR w a ar ao m) (hf:Lp m) :
  Calls Tryz.prog 41 #[.agg (ig m a ar ao cr co)] w fun e w'=>e=.returned (.bool (decide (m.procs.length=m.il.aj.length/\jF m.procs m.out (fun k=>(ak m.il.aj k).live)=true)))/\Below w.heap.size w w':=by
 have AA:=hf.procs;have hns:=hf.il.np;have hno:=hf.out;unfold cB at AA hns hno;have Ef:Hid (m.procs.length=m.il.aj.length->∀P V,Below w.heap.size w V->V.heap[P]?=some (.cells (ig m a ar ao cr co) 34 (0,0))->Calls Tryz.prog 88 #[.slice ar m.procs.length cr,.slice ao m.out.length co,.func (.func 89) #[] #[.pointer (some (Ad P 0))]] V fun e w'=>e=.returned (.bool (jF m.procs m.out (fun k=>(ak m.il.aj k).live)))/\Below V.heap.size V w'):=fun hl P V hV hP =>
  Q4 m.procs m.out (fun k=>(ak m.il.aj k).live) ar ao cr co P V (h.procs.below hV) (h.out.below hV) (by omega) (by omega) (fun k hk U hU=>Wp m.il.aj a.aP a.cP P k U (h.il.aj.below (bX hV hU)) (by omega) (by omega) ((hU.cell (p:=(Ad P 3)) (aJ hP)).trans (au hP 3 rfl)))
 have gK:=ai ((aK w.heap.size w).alloc (aI _) (.cells (ig m a ar ao cr co) 34));have X0:=ai (bE w (ig m a ar ao cr co) 34);obtain⟨R,hR⟩:=ex (jF m.procs m.out (fun k=>(ak m.il.aj k).live));rw[<- hR] at Ef ⊢;unfold ig at Ef gK X0 ⊢;obtain⟨ns,aaN⟩:=ex m.il.aj.length;obtain⟨np,PO⟩:=ex m.procs.length;obtain⟨no,Ma⟩:=ex m.out.length;obtain⟨n0,hn0⟩:∃n,n=m.il.aM.length:=⟨_,rfl⟩;obtain⟨n1,Sk⟩:∃n,n=m.il.frames.length:=⟨_,rfl⟩;obtain⟨n2,E3⟩:∃n,n=m.il.slots.length:=⟨_,rfl⟩;obtain⟨n4,Hc⟩:∃n,n=m.il.hand:=⟨_,rfl⟩;rw[<- aaN,<- PO,<- Ma,<- hn0,<- Sk,<- E3,<- Hc] at Ef gK X0 ⊢;rw[<- aaN] at hns;rw[<- PO] at AA;clear h hf hR aaN PO Ma hn0 Sk E3 Hc hno;by_cases c:np=ns
 · have Cr:=ai (Ef.o c);subst c;clear Ef;go_enter Tryz.func41,Tryz.ntmps41;go_wp2_with (go_at_call 88;refine(Cr.o _ _ gK.o X0.o).mono ?_;rintro e w1 ⟨rfl,hb1⟩;have cN:=ai (bX gK.o hb1);clear hb1)
   go_ret;exact⟨qL (by simp),cN.o⟩
 · have cb:((np:Int)==(ns:Int))=false:=by rw[mF];omega
   have e:decide (np=ns/\R=true)=false:=by simp[c]
   rw[e];clear c e Ef;go_enter Tryz.func41,Tryz.ntmps41;go_wp2;go_ret;exact⟨qL rfl,gK.o⟩
theorem Lm (m:iF) (a:jc) (ar ao:Option Addr) (cr co:Nat) (w:World) (h:uR w a ar ao m) (hf:Lp m) :
  Calls Tryz.prog 15 #[.agg (ig m a ar ao cr co)] w fun e w'=>e=.returned (I (jD m))/\Below w.heap.size w w':=by
 have hno:=hf.out;unfold cB at hno;have E9:Hid (∀V,Below w.heap.size w V->Calls Tryz.prog 40 #[.agg (bg a m.il)] V fun e w'=>e=.returned (I (gq m.il))/\Below V.heap.size V w'):=fun V hV=>VY m.il a V (h.il.below hV) hf.il
 have HRP:Hid (∀V,Below w.heap.size w V->Calls Tryz.prog 41 #[.agg (ig m a ar ao cr co)] V fun e w'=>e=.returned (.bool (decide (m.procs.length=m.il.aj.length/\jF m.procs m.out (fun k=>(ak m.il.aj k).live)=true)))/\Below V.heap.size V w'):=fun V hV=>Ll m a ar ao cr co V (h.below hV) hf
 have gK:=ai ((aK w.heap.size w).alloc (aI _) (.cells (ig m a ar ao cr co) 34));have X0:=ai (bE w (ig m a ar ao cr co) 34);obtain⟨R,hR⟩:=ex (decide (m.procs.length=m.il.aj.length/\jF m.procs m.out (fun k=>(ak m.il.aj k).live)=true));obtain⟨ck,JJ⟩:=ex (gq m.il);have HA:Hid (jD m=if ¬ck=0 then ck else if 2000<m.out.length then 2 else if R=true then 0 else 1):=by
  show _=_;rw[JJ,hR];unfold jD;simp only[kX]
 obtain⟨A,hA⟩:=ex (jD m);rw[<- hA] at HA ⊢;rw[<- hR] at HRP;rw[<- JJ] at E9;unfold ig at HRP gK X0 ⊢;unfold bg at E9;obtain⟨ns,aaN⟩:=ex m.il.aj.length;obtain⟨np,PO⟩:=ex m.procs.length;obtain⟨no,Ma⟩:=ex m.out.length;obtain⟨n0,hn0⟩:∃n,n=m.il.aM.length:=⟨_,rfl⟩;obtain⟨n1,Sk⟩:∃n,n=m.il.frames.length:=⟨_,rfl⟩;obtain⟨n2,E3⟩:∃n,n=m.il.slots.length:=⟨_,rfl⟩;obtain⟨n4,Hc⟩:∃n,n=m.il.hand:=⟨_,rfl⟩;rw[<- aaN,<- PO,<- Ma,<- hn0,<- Sk,<- E3,<- Hc] at HRP gK X0 ⊢;rw[<- aaN,<- hn0,<- Sk,<- E3,<- Hc] at E9;rw[<- Ma] at HA hno;clear h hf hR aaN PO Ma hn0 Sk E3 Hc hA JJ;by_cases c:ck=0
 · subst c;by_cases c2:2000<no
   · have EU:Hid (A=2):=by show _=_;rw[HA.o,aA (fun g=>g rfl),aC c2]
     clear HA HRP;go_enter Tryz.func15,Tryz.ntmps15;go_wp2_with (go_at_call 40;refine(E9.o _ gK.o).mono ?_;rintro e w1 ⟨rfl,hb1⟩;have cN:=ai (bX gK.o hb1);have X1:=ai (aO X0.o hb1 (aJ X0.o));clear hb1;obtain⟨x0,x1,x2,x3,x4,x5,x6⟩:=nR X1.o)
     go_ret;exact⟨by rw[EU.o];rfl,cN.o⟩
   · have EU:Hid (A=if R=true then 0 else 1):=by show _=_;rw[HA.o,aA (fun g=>g rfl),aA c2]
     clear HA;cases R with
     | false =>
      have Cu:Hid (A=1):=EU.o;clear EU;go_enter Tryz.func15,Tryz.ntmps15;go_wp2_with (first
       | (go_at_call 40;refine(E9.o _ gK.o).mono ?_;rintro e w1 ⟨rfl,hb1⟩;have cN:=ai (bX gK.o hb1);have X1:=ai (aO X0.o hb1 (aJ X0.o));clear hb1;obtain⟨x0,x1,x2,x3,x4,x5,x6⟩:=nR X1.o)
       | (go_at_call 41;refine(HRP.o _ cN.o).mono ?_;rintro e w2 ⟨rfl,hb2⟩;have gQ:=ai (bX cN.o hb2);clear hb2))
      go_ret;exact⟨by rw[Cu.o];rfl,gQ.o⟩
     | true =>
      have Cu:Hid (A=0):=EU.o;clear EU;go_enter Tryz.func15,Tryz.ntmps15;go_wp2_with (first
       | (go_at_call 40;refine(E9.o _ gK.o).mono ?_;rintro e w1 ⟨rfl,hb1⟩;have cN:=ai (bX gK.o hb1);have X1:=ai (aO X0.o hb1 (aJ X0.o));clear hb1;obtain⟨x0,x1,x2,x3,x4,x5,x6⟩:=nR X1.o)
       | (go_at_call 41;refine(HRP.o _ cN.o).mono ?_;rintro e w2 ⟨rfl,hb2⟩;have gQ:=ai (bX cN.o hb2);clear hb2))
      go_ret;exact⟨by rw[Cu.o];rfl,gQ.o⟩
 · have EU:Hid (A=ck):=by show _=_;rw[HA.o,aC c]
   have cb:(ck==0)=false:=by grind
   clear c HA HRP;go_enter Tryz.func15,Tryz.ntmps15;go_wp2_with (go_at_call 40;refine(E9.o _ gK.o).mono ?_;rintro e w1 ⟨rfl,hb1⟩;have cN:=ai (bX gK.o hb1);clear hb1)
   go_ret;exact⟨by rw[EU.o];rfl,cN.o⟩
open Go.RowKit
variable {σ:Type} {Hd:World->(Nat->Prop)->σ->Prop} {Ok:σ->List Bool->Prop} {o:gH σ} {lo mb gb:Nat} {D:Nat->Prop} {vr vo:Value} {st:dE σ}
theorem ZB (C:iB lo mb Hd Ok o) (k:Nat) (w:World) (h:fW Hd lo mb gb w D vr vo st) (hok:dh Ok st) (hk:k<st.ps.length) (h1:(aN st.ps k).st=1) :
  Calls Tryz.prog 218 #[.pointer (some (Ad gb 0)),I (k:Int)] w fun e w'=>e=.returned (I (fy o st k 5).1)/\cJ Hd lo mb gb w D vr vo (fy o st k 5).2 w':=by
 have HG:=ai h;have HC:=ai C;have HFK:=ai (C.fork w D st.mem _ k h.mem hok.mem (ir k hk h1));have g0:w.cell? (Ad gb 0)=some (.iface 183 (.pointer (some (Ad mb 0)))):=au h.head 0 rfl;have hmF:=Tm (Ad mb 0);have haF:=Ww (Ad mb 0);have hkl:k<9223372036854775807:=by have:=C.ok.few _ _ hok.mem;unfold b7 at this;rw[ia] at this;omega
 obtain⟨fv,hfv⟩:=ex ((o.fork st.mem k).1);have HCA:Hid (fy o st k 5=if fv=0 then ((st.ps.length:Int),{ st with mem:=(o.fork st.mem k).2,ps:=st.ps++[aN st.ps k] }) else (-1,{ st with mem:=(o.fork st.mem k).2 })):=by rw[hfv];exact rfl
 rw[<- hfv] at HFK;obtain⟨fm,hfm⟩:=ex ((o.fork st.mem k).2);rw[<- hfm] at HFK HCA;obtain⟨R,hR⟩:=ex (fy o st k 5);rw[<- hR] at HCA ⊢;clear h C hfv hfm hR;by_cases hf0:fv=0
 · subst hf0;have HR:Hid (R=((st.ps.length:Int),{ st with mem:=fm,ps:=st.ps++[aN st.ps k] })):=by rw[HCA.o,aC rfl];exact rfl
   clear HCA;go_enter Tryz.func218,Tryz.ntmps218;go_wp2_with (go_at_call 253;refine HFK.o.mono ?_;rintro e w1 ⟨D1,rfl,nJ,hk1,hd1⟩;have XU:=ai (HG.o.turn HC.o nJ hk1 hd1);have vD:=ai hk1;have HD1:=ai hd1;clear nJ hk1 hd1;have e1:=au (v:=vr) XU.o.head 1 rfl)
   obtain⟨pb,cap,E2,hpb,hpc,PN⟩:=XU.o.proc k hk;have HVR:=ai E2;have mA:=ai hpc;have HST:=ai HR.o;obtain⟨q,hq⟩:=ex (aN st.ps k);simp only at mA;rw[<- hq] at mA HST;have Hc:st.ps.length<=4:=by have:=HC.o.ok.few _ _ hok.mem;unfold b7 at this;rw[ia] at this;exact this
   obtain⟨n,hn⟩:=ex st.ps.length;simp only at HVR E2;rw[<- hn] at HVR E2 Hc hk;have HN:=ai hn;subst E2;have JI:(k:Int)<(n:Int):=by omega
   clear hq hn hpc PN HR hok h1;have c0:w1.cell? (Ad pb (k*13))=some (I (q.r 0)):=mA.o 0 (by omega);have c1:w1.cell? (Ad pb (k*13+1))=some (I (q.r 1)):=mA.o 1 (by omega);have c2:w1.cell? (Ad pb (k*13+2))=some (I (q.r 2)):=mA.o 2 (by omega);have c3:w1.cell? (Ad pb (k*13+3))=some (I (q.r 3)):=mA.o 3 (by omega);have c4:w1.cell? (Ad pb (k*13+4))=some (I (q.r 4)):=mA.o 4 (by omega);have c5:w1.cell? (Ad pb (k*13+5))=some (I (q.r 5)):=mA.o 5 (by omega);have c6:w1.cell? (Ad pb (k*13+6))=some (I (q.r 6)):=mA.o 6 (by omega);have c7:w1.cell? (Ad pb (k*13+7))=some (I (q.r 7)):=mA.o 7 (by omega);have c8:w1.cell? (Ad pb (k*13+8))=some (I q.pc):=mA.o 8 (by omega);have c9:w1.cell? (Ad pb (k*13+9))=some (I q.st):=mA.o 9 (by omega);have c10:w1.cell? (Ad pb (k*13+10))=some (I q.cd):=mA.o 10 (by omega);have c11:w1.cell? (Ad pb (k*13+11))=some (I q.fk):=mA.o 11 (by omega);have c12:w1.cell? (Ad pb (k*13+12))=some (I q.fa):=mA.o 12 (by omega);have e1a:∀ob,(w1.alloc ob).cell? (Ad gb 1)=some (.slice (some (Ad pb 0)) n cap):=fun ob=>au (br XU.o.head ob) 1 rfl
   obtain⟨i0,hin,hz0,hz1,hz2⟩:=ju UD;have Eo:=ai hin;have Hu:=ai hz0;have Gf:=ai hz1;have yV:=ai hz2;have HOW:Hid ((w1.alloc (.cells #[I (q.r 0),I (q.r 1),I (q.r 2),I (q.r 3),I (q.r 4),I (q.r 5),I (q.r 6),I (q.r 7),I q.pc,I q.st,I q.cd,I q.fk,I q.fa] 77)).ownsRow lo 77 13 (.slice (some (Ad pb 0)) n cap) n (st.ps.flatMap bU)):=by
    have:=XU.o.procs.alloc (.cells #[I (q.r 0),I (q.r 1),I (q.r 2),I (q.r 3),I (q.r 4),I (q.r 5),I (q.r 6),I (q.r 7),I q.pc,I q.st,I q.cd,I q.fk,I q.fa] 77);simp only at this;rw[<- HN.o] at this;exact this
   have HLO:Hid (lo<=(w1.alloc (.cells #[I (q.r 0),I (q.r 1),I (q.r 2),I (q.r 3),I (q.r 4),I (q.r 5),I (q.r 6),I (q.r 7),I q.pc,I q.st,I q.cd,I q.fk,I q.fa] 77)).heap.size):=by show _<=_;rw[fF];have:=XU.o.base;have:=aJ XU.o.head;omega
   have HNW:Hid (0<1->∃ad,some ((Ad w1.heap.size 0):Addr)=some ad/\∀j u,(bU q)[j]?=some u->((w1.alloc (.cells #[I (q.r 0),I (q.r 1),I (q.r 2),I (q.r 3),I (q.r 4),I (q.r 5),I (q.r 6),I (q.r 7),I q.pc,I q.st,I q.cd,I q.fk,I q.fa] 77)).drew).cell? (ad.add j)=some u):=fun _=>⟨_,rfl,GJ (w:=(w1.alloc (.cells #[I (q.r 0),I (q.r 1),I (q.r 2),I (q.r 3),I (q.r 4),I (q.r 5),I (q.r 6),I (q.r 7),I q.pc,I q.st,I q.cd,I q.fk,I q.fa] 77)).drew) (bE w1 #[I (q.r 0),I (q.r 1),I (q.r 2),I (q.r 3),I (q.r 4),I (q.r 5),I (q.r 6),I (q.r 7),I q.pc,I q.st,I q.cd,I q.fk,I q.fa] 77)⟩
   clear hin hz0 hz1 hz2 mA
   go_region_law (refine Ak (P:=Tryz.prog) rfl _ _ 31 rfl lo 77 i0 (.agg #[I 0,I 0,I 0,I 0,I 0,I 0,I 0,I 0,I 0,I 0,I 0,I 0,I 0]) 13 104 Tryz.underlying31 Eo.o Hu.o Gf.o yV.o rfl (by decide) (.slice (some (Ad pb 0)) n cap) n (st.ps.flatMap bU) rfl HOW.o.drew (some (Ad w1.heap.size 0)) 1 1 (bU q) rfl rfl HNW.o (by intro u hu;simp[bU] at hu;rcases hu with rfl | rfl | rfl | rfl | rfl | rfl | rfl | rfl | rfl | rfl | rfl | rfl | rfl <;> rfl) (by unfold maxLen;omega) (by omega) HLO.o ?_;intro v3 w4 hown hgr hat;obtain⟨a4,c4,rfl,_⟩:=bj hown;have agy:=ai hown;have agI:Hid ((w1.alloc _).grownBy w4 _):=⟨hgr.os,hgr.tape,hgr.output,hgr.size,hgr.block⟩;have alr:=ai hat;have hM4:=Hr (br XU.o.head (.cells #[I (q.r 0),I (q.r 1),I (q.r 2),I (q.r 3),I (q.r 4),I (q.r 5),I (q.r 6),I (q.r 7),I q.pc,I q.st,I q.cd,I q.fk,I q.fa] 77)) agI.o (fun e=>XU.o.n2 e.symm);have y1:w4.cell? (Ad gb 1)=some (.slice (some (Ad pb 0)) n cap):=au hM4 1 rfl;have y2:w4.frozen? (Ad gb 1)=false:=aR hM4 1;clear hown hgr hat hM4)
   all_goals
    go_wp2;go_ret;have hp:=XU.o.alY HC.o (p:=q) agI.o (by show w4.ownsRow lo _ 13 _ (st.ps.length+1) (st.ps.flatMap bU++bU q);rw[<- HN.o];exact agy.o) alr.o;rw[HST.o];refine⟨by rw[<- HN.o];go_num,?_⟩;obtain⟨hA,hB⟩:aD (kH gb D (.slice (some (Ad pb 0)) n cap) vo) w w1/\∀b,kH gb D1 (.slice (some (Ad pb 0)) n cap) vo b->kH gb D (.slice (some (Ad pb 0)) n cap) vo b∨w.heap.size<=b:=⟨vD.o.mono (fun b _ g=>.inr (.inl g)),fun b hb=>by
     rcases hb with g | g | g | g
     · exact .inl (.inl g)
     · rcases HD1.o b g with x | x
       · exact .inl (.inr (.inl x))
       · exact .inr x
     · exact .inl (.inr (.inr (.inl g)))
     · exact .inl (.inr (.inr (.inr g)))⟩
    exact cJ.trans hA hB hp
 · have HR:Hid (R=(-1,{ st with mem:=fm })):=by rw[HCA.o,aA hf0];exact rfl
   have hfi:(fv==0)=false:=by rw[mF];exact hf0
   clear HCA hf0;go_enter Tryz.func218,Tryz.ntmps218;go_wp2_with (go_at_call 253;refine HFK.o.mono ?_;rintro e w1 ⟨D1,rfl,nJ,hk1,hd1⟩;have Z8:=ai (cJ.Fb HC.o HG.o nJ hk1 hd1);clear nJ hk1 hd1)
   go_ret;rw[HR.o];exact⟨rfl,Z8.o⟩
end Go.Proofs.YtlgoihmkgaaemaaGreat
