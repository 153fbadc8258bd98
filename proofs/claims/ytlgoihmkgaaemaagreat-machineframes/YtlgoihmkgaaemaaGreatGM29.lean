import Derived.Test.YtlgoihmkgaaemaaGreatGM28
set_option maxHeartbeats 20000000
set_option linter.unusedVariables false
set_option maxRecDepth 100000
set_option linter.unusedSimpArgs false
namespace Go.Proofs.YtlgoihmkgaaemaaGreat
open Go.RowKit
variable {lo mb:Nat} {w w':World} {D:Nat->Prop} {k:aR} {fl:List Bool} {j:Nat}
theorem Y1 (ad n way:Int) (h:gz lo mb w D k) (ho:dO k fl) (hl:fl.getD j false=true) (had:cK ad) (h1:1<=n) (h8:n<=8) (hw:way=0∨way=2) :
  Calls Tryz.prog 254 #[.pointer (some (Ad mb 0)),I (j:Int),I ad,I n,I way] w (nV (gz lo mb) w D (.tuple #[.string (gI k j ad n way).1.1,.agg (gL (gI k j ad n way).1.2)]) (gI k j ad n way).2):=by
 obtain⟨WA,mj⟩:=ex (w.alloc (.cells #[I 0,I 0] 75));have hb0:Below w.heap.size w WA:=by rw[mj];exact(aJ _ _).alloc (aH _) _
 have hz:=bD w #[I 0,I 0] 75;rw[<- mj] at hz;have hD:∀b,D b->b<w.heap.size:=fun b g=>(h.dom b g).2
 have hlt:w.heap.size<WA.heap.size:=by rw[mj];simp
 have h:=h.kp (aC.bY (D:=fun _=>False) hb0) (fun _ _ g=>g);obtain⟨⟨hs,a,_,_,s,hc,hK,_,_,_,_⟩,hb⟩:=id h;obtain⟨K,eK,hA⟩:=Y2 ho hl s ad n way h1 h8 hw;obtain⟨R,hR⟩:=ex (gI k j ad n way);rw[<- hR] at eK hA ⊢;obtain⟨⟨str,f1,f2⟩,k'⟩:=R;simp only at eK hA ⊢;have hC:=Yp vI (aU k hs) a j ad n way WA (hK WA (aC.refl _ _)) (pj (ho.right.xR s)) (D3 ho hl) had;rw[eK] at hC;have HC:Hid (Calls Tryz.prog 262 #[.agg (bc a (aU k hs)),I (j:Int),I ad,I n,I way] WA fun e w1=>∃s0 n0 q0 s1 n1 q1 s2 n2 q2 s3 n3 q3 hd,e=.returned (.tuple #[.agg #[.slice s0 n0 q0,.slice s1 n1 q1,.slice s2 n2 q2,.slice s3 n3 q3,I hd],.string str,.agg #[I f1,I f2],I 0])/\Below WA.heap.size WA w1/\∀w2,aC (fun b=>b=mb) w1 w2->w2.heap[mb]?=some (.cells (if f1=0 then #[.slice s0 n0 q0,.slice s1 n1 q1,.slice s2 n2 q2,.slice s3 n3 q3,I hd] else bc a (aU k hs)) 185 (0,0))->pH lo mb WA D k' w2):=hC.mono fun e w1 ho=>by
  obtain⟨s0,n0,q0,s1,n1,q1,s2,n2,q2,s3,n3,q3,hd,rfl,hb1,hfin⟩:=zT h hc s hA ho;exact⟨_,_,_,_,_,_,_,_,_,_,_,_,_,rfl,hb1,fun w2 x y=>hfin w2 x y⟩
 obtain⟨P,hP⟩:=ex (nV (gz lo mb) w D (.tuple #[.string str,.agg (gL (f1,f2))]) k');have HP:Hid (∀w2 w3,pH lo mb WA D k' w2->aC (fun b=>b=w.heap.size) w2 w3->P (.returned (.tuple #[.string str,.agg #[I f1,I f2]])) w3):=fun w2 w3 g1 g2=>by obtain⟨D',a1,a2,a3⟩:=g1.past hb0 hD hlt g2;rw[hP];exact⟨D',rfl,a1,a2,a3⟩
 rw[<- hP];have HZ:=ai (fun V (g:Below WA.heap.size WA V)=>aN hz g (aI hz));have gG:=ai hb0;have se:=ai mj;have HLT:Hid (mb<w.heap.size):=hD mb h.inD;have vW:=ai hc;clear hz hb0 hD hlt h1 h8 hw had hC eK hA hR hP h hK ho hl hc;obtain⟨K0,TJ⟩:=ex (aU k hs);rw[<- TJ] at HC vW;unfold bc at HC vW;obtain⟨m0,hm0⟩:=ex K0.aM.length;obtain⟨m1,nC⟩:=ex K0.frames.length;obtain⟨m2,hm2⟩:=ex K0.slots.length;obtain⟨m3,PA⟩:=ex K0.aj.length;obtain⟨m4,TH⟩:=ex K0.hand;rw[<- hm0,<- nC,<- hm2,<- PA,<- TH] at HC vW;clear hm0 nC hm2 PA TH TJ s;obtain⟨c0,c1,c2,c3,c4⟩:=iI vW.o;rw[mj] at c0 c1 c2 c3 c4;have HC:Hid (Calls _ _ _ (w.alloc (.cells #[I 0,I 0] 75)) _):=mj ▸ HC;clear mj;by_cases c:f1=0
 · subst c;go_enter Tryz.func254,Tryz.ntmps254;go_wp2_with (first
    | (go_at_call 262;refine HC.o.mono ?_;rintro e w1 ⟨s0,n0,q0,s1,n1,q1,s2,n2,q2,s3,n3,q3,hd,rfl,hb1,hfin⟩;rw[<- se.o] at hb1;have cM:=ai hb1;have Ud:=ai hfin;have HX:=ai (((aJ w1.heap.size w1).alloc (aH _) (.cells #[.slice s0 n0 q0,.slice s1 n1 q1,.slice s2 n2 q2,.slice s3 n3 q3,I hd] 30)).alloc (by simp) (.cells #[I 0,I f2] 75));have hq:=bD (w1.alloc (.cells #[.slice s0 n0 q0,.slice s1 n1 q1,.slice s2 n2 q2,.slice s3 n3 q3,I hd] 30)) #[I 0,I f2] 75;rw[fM] at hq;have HQ:=ai hq;have HZX:=ai (HZ.o _ (cM.o.trans (HX.o.mono cM.o.size)));clear hq;clear hb1 hfin)
    | (go_at_call 259;refine(sS mb _ _ _ _ _ _ _ _ _ _ _ _ _ _ _ _ _ _ _ _ (aN (aN vW.o cM.o (aI vW.o)) HX.o (fV (aI vW.o) cM.o.size))).mono ?_;rintro e w2 ⟨rfl,hk2,hm2⟩;have Lp:=ai (Ud.o _ ((aC.bY HX.o).trans hk2 (fun _ _ g=>g)) (by first | exact hm2 | simpa using hm2));have pM:=ai hk2;clear hk2 hm2;have hzn:¬w.heap.size=mb:=(fun g=>by have:=HLT.o;omega);have hz2:=pM.o.keep HZX.o hzn;have hq2:=pM.o.keep HQ.o (fun g=>by have:=aI vW.o;have:=cM.o.size;omega);obtain⟨y0,y1⟩:=qR hq2;obtain⟨z0,z1⟩:=qR hz2;have g0:=aQ hz2 0;have g1:=aQ hz2 1;clear hz2 hq2 hzn))
   have Q4:Hid (pH lo mb WA D k' w2):=by rw[se.o];exact Lp.o
   go_region;go_wp2;refine bK (v:=.tuple #[.string str,.agg #[I 0,I f2]]) (by simp[results,Tryz.results254,go_sem,z0,z1]) rfl ?_;refine HP.o _ _ Q4.o ?_;have kk:∀(A:World) (i:Nat) (v:Value),aC (fun b=>b=w.heap.size) A (A.setCell (Ad w.heap.size i) v):=fun A i v=>aC.set _ A (Ad w.heap.size i) v rfl
   first | exact((kk _ _ _).trans (kk _ _ _) (fun _ _ g=>g)).trans (aC.drew _ _) (fun _ _ g=>g) | exact(aC.drew _ _).trans ((kk _ _ _).trans (kk _ _ _) (fun _ _ g=>g)) (fun _ _ g=>g)
 · have cb:(f1==0)=false:=by grind
   have HCN:=ai c;clear c;go_enter Tryz.func254,Tryz.ntmps254;go_wp2_with (first
    | (go_at_call 262;refine HC.o.mono ?_;rintro e w1 ⟨s0,n0,q0,s1,n1,q1,s2,n2,q2,s3,n3,q3,hd,rfl,hb1,hfin⟩;rw[<- se.o] at hb1;have cM:=ai hb1;have Ud:=ai hfin;have HX:=ai (((aJ w1.heap.size w1).alloc (aH _) (.cells #[.slice s0 n0 q0,.slice s1 n1 q1,.slice s2 n2 q2,.slice s3 n3 q3,I hd] 30)).alloc (by simp) (.cells #[I f1,I f2] 75));have hq:=bD (w1.alloc (.cells #[.slice s0 n0 q0,.slice s1 n1 q1,.slice s2 n2 q2,.slice s3 n3 q3,I hd] 30)) #[I f1,I f2] 75;rw[fM] at hq;have HQ:=ai hq;have HZX:=ai (HZ.o _ (cM.o.trans (HX.o.mono cM.o.size)));clear hq;have hz2:=HZX.o;obtain⟨y0,y1⟩:=qR HQ.o;obtain⟨z0,z1⟩:=qR hz2;have g0:=aQ hz2 0;have g1:=aQ hz2 1;clear hz2;clear hb1 hfin)
    | fail)
   have Q4:=ai (Ud.o _ (aC.bY HX.o) (by rw[au HCN.o];exact(aN (aN vW.o cM.o (aI vW.o)) HX.o (fV (aI vW.o) cM.o.size))));rw[<- se.o] at Q4;go_region;go_wp2;refine bK (v:=.tuple #[.string str,.agg #[I f1,I f2]]) (by simp[results,Tryz.results254,go_sem,z0,z1]) rfl ?_;refine HP.o _ _ Q4.o ?_;have kk:∀(A:World) (i:Nat) (v:Value),aC (fun b=>b=w.heap.size) A (A.setCell (Ad w.heap.size i) v):=fun A i v=>aC.set _ A (Ad w.heap.size i) v rfl
   first | exact((kk _ _ _).trans (kk _ _ _) (fun _ _ g=>g)).trans (aC.drew _ _) (fun _ _ g=>g) | exact(aC.drew _ _).trans ((kk _ _ _).trans (kk _ _ _) (fun _ _ g=>g)) (fun _ _ g=>g)
theorem VY (ad:Int) (d:ByteArray) (h:gz lo mb w D k) (ho:dO k fl) (hl:fl.getD j false=true) (had:cK ad) (h1:1<=d.size) (h8:d.size<=8) :
  Calls Tryz.prog 257 #[.pointer (some (Ad mb 0)),I (j:Int),I ad,.string d] w (nV (gz lo mb) w D (.agg (gL (iV k j ad d).1)) (iV k j ad d).2):=by
 obtain⟨WA,mj⟩:=ex (w.alloc (.cells #[I 0,I 0] 75));have hb0:Below w.heap.size w WA:=by rw[mj];exact(aJ _ _).alloc (aH _) _
 have hz:=bD w #[I 0,I 0] 75;rw[<- mj] at hz;have hD:∀b,D b->b<w.heap.size:=fun b g=>(h.dom b g).2
 have hlt:w.heap.size<WA.heap.size:=by rw[mj];simp
 have h:=h.kp (aC.bY (D:=fun _=>False) hb0) (fun _ _ g=>g);obtain⟨⟨hs,a,_,_,s,hc,hK,_,_,_,_⟩,hb⟩:=id h;obtain⟨K,eK,hA⟩:=VZ ho hl s ad d h1 h8;obtain⟨R,hR⟩:=ex (iV k j ad d);rw[<- hR] at eK hA ⊢;obtain⟨⟨f1,f2⟩,k'⟩:=R;simp only at eK hA ⊢;have hC:=Vl vI (aU k hs) a j ad d WA (hK WA (aC.refl _ _)) (pj (ho.right.xR s)) (D3 ho hl) had;rw[eK] at hC;have HC:Hid (Calls Tryz.prog 265 #[.agg (bc a (aU k hs)),I (j:Int),I ad,.string d] WA fun e w1=>∃s0 n0 q0 s1 n1 q1 s2 n2 q2 s3 n3 q3 hd,e=.returned (.tuple #[.agg #[.slice s0 n0 q0,.slice s1 n1 q1,.slice s2 n2 q2,.slice s3 n3 q3,I hd],.agg #[I f1,I f2],I 0])/\Below WA.heap.size WA w1/\∀w2,aC (fun b=>b=mb) w1 w2->w2.heap[mb]?=some (.cells (if f1=0 then #[.slice s0 n0 q0,.slice s1 n1 q1,.slice s2 n2 q2,.slice s3 n3 q3,I hd] else bc a (aU k hs)) 185 (0,0))->pH lo mb WA D k' w2):=hC.mono fun e w1 ho=>by
  obtain⟨s0,n0,q0,s1,n1,q1,s2,n2,q2,s3,n3,q3,hd,rfl,hb1,hfin⟩:=zT h hc s hA ho;exact⟨_,_,_,_,_,_,_,_,_,_,_,_,_,rfl,hb1,fun w2 x y=>hfin w2 x y⟩
 obtain⟨P,hP⟩:=ex (nV (gz lo mb) w D (.agg (gL (f1,f2))) k');have HP:Hid (∀w2 w3,pH lo mb WA D k' w2->aC (fun b=>b=w.heap.size) w2 w3->P (.returned (.agg #[I f1,I f2])) w3):=fun w2 w3 g1 g2=>by obtain⟨D',a1,a2,a3⟩:=g1.past hb0 hD hlt g2;rw[hP];exact⟨D',rfl,a1,a2,a3⟩
 rw[<- hP];have HZ:=ai (fun V (g:Below WA.heap.size WA V)=>aN hz g (aI hz));have gG:=ai hb0;have se:=ai mj;have HLT:Hid (mb<w.heap.size):=hD mb h.inD;have vW:=ai hc;clear hz hb0 hD hlt h1 h8 had hC eK hA hR hP h hK ho hl hc;obtain⟨K0,TJ⟩:=ex (aU k hs);rw[<- TJ] at HC vW;unfold bc at HC vW;obtain⟨m0,hm0⟩:=ex K0.aM.length;obtain⟨m1,nC⟩:=ex K0.frames.length;obtain⟨m2,hm2⟩:=ex K0.slots.length;obtain⟨m3,PA⟩:=ex K0.aj.length;obtain⟨m4,TH⟩:=ex K0.hand;rw[<- hm0,<- nC,<- hm2,<- PA,<- TH] at HC vW;clear hm0 nC hm2 PA TH TJ s;obtain⟨c0,c1,c2,c3,c4⟩:=iI vW.o;rw[mj] at c0 c1 c2 c3 c4;have HC:Hid (Calls _ _ _ (w.alloc (.cells #[I 0,I 0] 75)) _):=mj ▸ HC;clear mj;by_cases c:f1=0
 · subst c;go_enter Tryz.func257,Tryz.ntmps257;go_wp2_with (first
    | (go_at_call 265;refine HC.o.mono ?_;rintro e w1 ⟨s0,n0,q0,s1,n1,q1,s2,n2,q2,s3,n3,q3,hd,rfl,hb1,hfin⟩;rw[<- se.o] at hb1;have cM:=ai hb1;have Ud:=ai hfin;have HX:=ai (((aJ w1.heap.size w1).alloc (aH _) (.cells #[.slice s0 n0 q0,.slice s1 n1 q1,.slice s2 n2 q2,.slice s3 n3 q3,I hd] 30)).alloc (by simp) (.cells #[I 0,I f2] 75));have hq:=bD (w1.alloc (.cells #[.slice s0 n0 q0,.slice s1 n1 q1,.slice s2 n2 q2,.slice s3 n3 q3,I hd] 30)) #[I 0,I f2] 75;rw[fM] at hq;have HQ:=ai hq;have HZX:=ai (HZ.o _ (cM.o.trans (HX.o.mono cM.o.size)));clear hq;clear hb1 hfin)
    | (go_at_call 259;refine(sS mb _ _ _ _ _ _ _ _ _ _ _ _ _ _ _ _ _ _ _ _ (aN (aN vW.o cM.o (aI vW.o)) HX.o (fV (aI vW.o) cM.o.size))).mono ?_;rintro e w2 ⟨rfl,hk2,hm2⟩;have Lp:=ai (Ud.o _ ((aC.bY HX.o).trans hk2 (fun _ _ g=>g)) (by first | exact hm2 | simpa using hm2));have pM:=ai hk2;clear hk2 hm2;have hzn:¬w.heap.size=mb:=(fun g=>by have:=HLT.o;omega);have hz2:=pM.o.keep HZX.o hzn;have hq2:=pM.o.keep HQ.o (fun g=>by have:=aI vW.o;have:=cM.o.size;omega);obtain⟨y0,y1⟩:=qR hq2;obtain⟨z0,z1⟩:=qR hz2;have g0:=aQ hz2 0;have g1:=aQ hz2 1;clear hz2 hq2 hzn))
   have Q4:Hid (pH lo mb WA D k' w2):=by rw[se.o];exact Lp.o
   skip
   refine bK (v:=.agg #[I 0,I f2]) (by simp[results,Tryz.results257,go_sem,z0,z1]) rfl ?_;refine HP.o _ _ Q4.o ?_;have kk:∀(A:World) (i:Nat) (v:Value),aC (fun b=>b=w.heap.size) A (A.setCell (Ad w.heap.size i) v):=fun A i v=>aC.set _ A (Ad w.heap.size i) v rfl
   exact(kk _ _ _).trans (kk _ _ _) (fun _ _ g=>g)
 · have cb:(f1==0)=false:=by grind
   have HCN:=ai c;clear c;go_enter Tryz.func257,Tryz.ntmps257;go_wp2_with (first
    | (go_at_call 265;refine HC.o.mono ?_;rintro e w1 ⟨s0,n0,q0,s1,n1,q1,s2,n2,q2,s3,n3,q3,hd,rfl,hb1,hfin⟩;rw[<- se.o] at hb1;have cM:=ai hb1;have Ud:=ai hfin;have HX:=ai (((aJ w1.heap.size w1).alloc (aH _) (.cells #[.slice s0 n0 q0,.slice s1 n1 q1,.slice s2 n2 q2,.slice s3 n3 q3,I hd] 30)).alloc (by simp) (.cells #[I f1,I f2] 75));have hq:=bD (w1.alloc (.cells #[.slice s0 n0 q0,.slice s1 n1 q1,.slice s2 n2 q2,.slice s3 n3 q3,I hd] 30)) #[I f1,I f2] 75;rw[fM] at hq;have HQ:=ai hq;have HZX:=ai (HZ.o _ (cM.o.trans (HX.o.mono cM.o.size)));clear hq;have hz2:=HZX.o;obtain⟨y0,y1⟩:=qR HQ.o;obtain⟨z0,z1⟩:=qR hz2;have g0:=aQ hz2 0;have g1:=aQ hz2 1;clear hz2;clear hb1 hfin)
    | fail)
   have Q4:=ai (Ud.o _ (aC.bY HX.o) (by rw[au HCN.o];exact(aN (aN vW.o cM.o (aI vW.o)) HX.o (fV (aI vW.o) cM.o.size))));rw[<- se.o] at Q4
   skip
   refine bK (v:=.agg #[I f1,I f2]) (by simp[results,Tryz.results257,go_sem,z0,z1]) rfl ?_;refine HP.o _ _ Q4.o ?_;have kk:∀(A:World) (i:Nat) (v:Value),aC (fun b=>b=w.heap.size) A (A.setCell (Ad w.heap.size i) v):=fun A i v=>aC.set _ A (Ad w.heap.size i) v rfl
   exact(kk _ _ _).trans (kk _ _ _) (fun _ _ g=>g)
open Go.RowKit
theorem Pn (lo mb:Nat):iu lo mb (gz lo mb) dO fR where
 kp:=fun w w' D E s h hk hd=>h.kp hk hd
 dom:=fun w D s h=>h.dom
 ok:=ic
 load:=fun w D s fl k a n way h ho hl ha h1 h8 hw=>Y1 a n way h ho hl ha h1 h8 hw
 store:=fun w D s fl k a d h ho hl ha h1 h8=>VY a d h ho hl ha h1 h8
 map:=fun w D s fl k p n q h ho hl hp hn=>abj p n q h ho hl hp hn
 oW:=fun w D s fl k p n h ho hl hp hn=>VX p n h ho hl hp hn
 jl:=fun w D s fl k p n q h ho hl hp hn=>QP p n q h ho hl hp hn
 fork:=fun w D s fl k h ho hl=>Y3 h ho hl
 drop:=fun w D s fl k h ho hl=>Y5 h ho hl
open Go.RowKit
theorem QN (l:List bO) (o:List rY) (lv:Nat->Bool) (ar ao:Option Addr) (cr co P:Nat) (w:World) (h:uI w ar l) (ho:wh w ao o) (hn:l.length<=140737488351232) (hno:o.length<=140737488351232)
  (hlv:∀k,k<l.length->∀V,Below w.heap.size w V->Calls Tryz.prog 89 #[I (k:Int),.pointer (some (Ad P 0))] V fun e w'=>e=.returned (.bool (lv k))/\Below V.heap.size V w') :
  Calls Tryz.prog 88 #[.slice ar l.length cr,.slice ao o.length co,.func (.func 89) #[] #[.pointer (some (Ad P 0))]] w fun e w'=>e=.returned (.bool (jB l o lv))/\Below w.heap.size w w':=by
 have HH:=ai h;have HO:=ai ho;have Th:=ai hlv;have HPS:Hid (∀k,ko l lv (k+1)=(ko l lv k&&uX l lv k)):=fun k=>rfl
 have HPF:Hid (∀k,k<=l.length->ko l lv k=false->jB l o lv=false):=fun k hk e=>by
  unfold jB;rw[Gr e _ hk,GH]
 have HWF:Hid (∀k,k<=o.length->km o l.length k=false->jB l o lv=false):=fun k hk e=>by
  unfold jB;rw[Gq e _ hk,Bool.and_false]
 have HYE:Hid (ko l lv l.length=true->km o l.length o.length=true->jB l o lv=true):=fun h1 h2=>by
  unfold jB;rw[h1,h2];rfl
 obtain⟨A,hA⟩:=ex (jB l o lv);rw[<- hA] at HPF HWF HYE ⊢;clear h ho hlv hA;go_enter Tryz.func88,Tryz.ntmps88;go_wp2;go_loopw [13] (fun iv wr=>∃k:Nat,k<=l.length/\iv=I (k:Int)/\ko l lv k=true/\Below w.heap.size w wr) (fun iv _=>l.length-(intOf iv).toNat)
 case atStart=>exact⟨0,by omega,rfl,rfl,aJ _ _⟩
 case round =>
  obtain⟨k,hk,rfl,hall,hb⟩:=hrel;have HB:=ai hb;have Xr:=ai hall;clear hall;by_cases hlt:k<l.length
  · obtain⟨b,off,hao,hbl,eX⟩:=(HH.o.below hb) (by omega);subst hao;obtain⟨c0,c1,c2,c3,c4,c5,c6,rV,c8,c9,c10,c11,c12⟩:=eX k hlt;have HPK:Hid (ko l lv (k+1)=(fp (aK l k)&&lv k==((aK l k).st==1))):=by
     show _=_;rw[HPS.o,Xr.o,tv];unfold uX;congr 2
    have Zg:=ai (HPF.o (k+1) (by omega));obtain⟨q,hq⟩:=ex (aK l k);rw[<- hq] at HPK c0 c1 c2 c3 c4 c5 c6 rV c8 c9 c10 c11 c12;have HRP:Hid (∀V,Calls Tryz.prog 146 #[.agg #[I (q.r 0),I (q.r 1),I (q.r 2),I (q.r 3),I (q.r 4),I (q.r 5),I (q.r 6),I (q.r 7),I q.pc,I q.st,I q.cd,I q.fk,I q.fa]] V fun e w'=>e=.returned (.bool (fp q))/\Below V.heap.size V w'):=fun V=>MB q V
    have HLK:=ai (Th.o k hlt);obtain⟨L,hL⟩:=ex (lv k);rw[<- hL] at HPK HLK;obtain⟨T,hT⟩:=ex (fp q);rw[<- hT] at HPK HRP;clear hq hL hT eX hb;have jQ:=ai (HB.o.alloc HB.o.size (.cells #[I (q.r 0),I (q.r 1),I (q.r 2),I (q.r 3),I (q.r 4),I (q.r 5),I (q.r 6),I (q.r 7),I q.pc,I q.st,I q.cd,I q.fk,I q.fa] 77));go_wp2_with fail
    obtain⟨W,hW⟩:=ex (wr.alloc (.cells #[I (q.r 0),I (q.r 1),I (q.r 2),I (q.r 3),I (q.r 4),I (q.r 5),I (q.r 6),I (q.r 7),I q.pc,I q.st,I q.cd,I q.fk,I q.fa] 77));have HW:=ai hW;have hs:W.heap.size=wr.heap.size+1:=by rw[hW];simp
    have Cv:=jh W;have hkc:=@fH W;have e0:∀x:dM W.heap.size W,x.world.cell? (Ad wr.heap.size 0)=some (I (q.r 0)):=fun x=>by rw[hkc x _ _ (by omega),hW];simp
    have e1:∀x:dM W.heap.size W,x.world.cell? (Ad wr.heap.size 1)=some (I (q.r 1)):=fun x=>by rw[hkc x _ _ (by omega),hW];simp
    have e2:∀x:dM W.heap.size W,x.world.cell? (Ad wr.heap.size 2)=some (I (q.r 2)):=fun x=>by rw[hkc x _ _ (by omega),hW];simp
    have e3:∀x:dM W.heap.size W,x.world.cell? (Ad wr.heap.size 3)=some (I (q.r 3)):=fun x=>by rw[hkc x _ _ (by omega),hW];simp
    have e4:∀x:dM W.heap.size W,x.world.cell? (Ad wr.heap.size 4)=some (I (q.r 4)):=fun x=>by rw[hkc x _ _ (by omega),hW];simp
    have e5:∀x:dM W.heap.size W,x.world.cell? (Ad wr.heap.size 5)=some (I (q.r 5)):=fun x=>by rw[hkc x _ _ (by omega),hW];simp
    have e6:∀x:dM W.heap.size W,x.world.cell? (Ad wr.heap.size 6)=some (I (q.r 6)):=fun x=>by rw[hkc x _ _ (by omega),hW];simp
    have e7:∀x:dM W.heap.size W,x.world.cell? (Ad wr.heap.size 7)=some (I (q.r 7)):=fun x=>by rw[hkc x _ _ (by omega),hW];simp
    have e8:∀x:dM W.heap.size W,x.world.cell? (Ad wr.heap.size 8)=some (I q.pc):=fun x=>by rw[hkc x _ _ (by omega),hW];simp
    have e9:∀x:dM W.heap.size W,x.world.cell? (Ad wr.heap.size 9)=some (I q.st):=fun x=>by rw[hkc x _ _ (by omega),hW];simp
    have e10:∀x:dM W.heap.size W,x.world.cell? (Ad wr.heap.size 10)=some (I q.cd):=fun x=>by rw[hkc x _ _ (by omega),hW];simp
    have e11:∀x:dM W.heap.size W,x.world.cell? (Ad wr.heap.size 11)=some (I q.fk):=fun x=>by rw[hkc x _ _ (by omega),hW];simp
    have e12:∀x:dM W.heap.size W,x.world.cell? (Ad wr.heap.size 12)=some (I q.fa):=fun x=>by rw[hkc x _ _ (by omega),hW];simp
    have Jl:Hid (Below w.heap.size w W):=by show Below _ _ _;rw[hW];exact jQ.o
    clear hW hs hkc c0 c1 c2 c3 c4 c5 c6 rV c8 c9 c10 c11 c12;rw[<- HW.o];have CK:Hid (∀x:dM W.heap.size W,Calls Tryz.prog 146 #[.agg #[I (q.r 0),I (q.r 1),I (q.r 2),I (q.r 3),I (q.r 4),I (q.r 5),I (q.r 6),I (q.r 7),I q.pc,I q.st,I q.cd,I q.fk,I q.fa]] x.world fun e w'=>e=.returned (.bool T)/\∃y:dM W.heap.size W,w'=y.world):=fun x=>fO HRP.o x
    have Bf:Hid (∀x:dM W.heap.size W,Calls Tryz.prog 89 #[I (k:Int),.pointer (some (Ad P 0))] x.world fun e w'=>e=.returned (.bool L)/\∃y:dM W.heap.size W,w'=y.world):=fun x=>(HLK.o x.world (bU Jl.o x.keeps)).mono fun e w'' ⟨he,hb⟩=>⟨he,⟨w'',x.keeps.trans (hb.mono x.keeps.size)⟩,rfl⟩
    clear HRP HLK;cases T with
    | false =>
     have Mr:=ai (Zg.o (by rw[HPK.o,GH]));clear HPK Zg;refine di (by kernel_rfl) (by kernel_rfl) ?_
     repeat (first | go_big_quiet_step ((first | (go_at_call 146;exact CK.o _) | (go_at_call 89;exact Bf.o _))) | quiet_step ((first | (go_at_call 146;exact CK.o _) | (go_at_call 89;exact Bf.o _))))
     refine jd ?_;intro _ hw';obtain⟨x,hw''⟩:=hw';subst hw'';go_wp2;go_ret;exact⟨qA Mr.o.symm,bU Jl.o x.keeps⟩
    | true =>
     rw[tv] at HPK;obtain⟨S,hS⟩:∃S,(q.st==1)=S:=⟨_,rfl⟩;rw[hS] at HPK;cases L with
     | false =>
      cases S with
      | false =>
       have HY2:Hid (ko l lv (k+1)=true):=HPK;clear HPK Zg;refine di (by kernel_rfl) (by kernel_rfl) ?_
       repeat (first | go_big_quiet_step ((first | (go_at_call 146;exact CK.o _) | (go_at_call 89;exact Bf.o _))) | quiet_step ((first | (go_at_call 146;exact CK.o _) | (go_at_call 89;exact Bf.o _))))
       refine jd ?_;intro _ hw';obtain⟨x,hw''⟩:=hw';subst hw'';go_wp2;go_roundw
       case rel=>exact⟨k+1,by omega,by go_num,HY2.o,bU Jl.o x.keeps⟩
       case measure=>simp[intOf];omega
      | true =>
       have Mr:=ai (Zg.o HPK.o);clear HPK Zg;refine di (by kernel_rfl) (by kernel_rfl) ?_
       repeat (first | go_big_quiet_step ((first | (go_at_call 146;exact CK.o _) | (go_at_call 89;exact Bf.o _))) | quiet_step ((first | (go_at_call 146;exact CK.o _) | (go_at_call 89;exact Bf.o _))))
       refine jd ?_;intro _ hw';obtain⟨x,hw''⟩:=hw';subst hw'';go_wp2;go_ret;exact⟨qA Mr.o.symm,bU Jl.o x.keeps⟩
     | true =>
      cases S with
      | true =>
       have HY2:Hid (ko l lv (k+1)=true):=HPK;clear HPK Zg;refine di (by kernel_rfl) (by kernel_rfl) ?_
       repeat (first | go_big_quiet_step ((first | (go_at_call 146;exact CK.o _) | (go_at_call 89;exact Bf.o _))) | quiet_step ((first | (go_at_call 146;exact CK.o _) | (go_at_call 89;exact Bf.o _))))
       refine jd ?_;intro _ hw';obtain⟨x,hw''⟩:=hw';subst hw'';go_wp2;go_roundw
       case rel=>exact⟨k+1,by omega,by go_num,HY2.o,bU Jl.o x.keeps⟩
       case measure=>simp[intOf];omega
      | false =>
       have Mr:=ai (Zg.o HPK.o);clear HPK Zg;refine di (by kernel_rfl) (by kernel_rfl) ?_
       repeat (first | go_big_quiet_step ((first | (go_at_call 146;exact CK.o _) | (go_at_call 89;exact Bf.o _))) | quiet_step ((first | (go_at_call 146;exact CK.o _) | (go_at_call 89;exact Bf.o _))))
       refine jd ?_;intro _ hw';obtain⟨x,hw''⟩:=hw';subst hw'';go_wp2;go_ret;exact⟨qA Mr.o.symm,bU Jl.o x.keeps⟩
  · obtain rfl:k=l.length:=by omega
    have apq:=ai (HYE.o Xr.o);clear hb HYE HPF HPS Th Xr;go_wp2;go_loopw [33] (fun iv wq=>∃j:Nat,j<=o.length/\iv=I (j:Int)/\km o l.length j=true/\Below w.heap.size w wq) (fun iv _=>o.length-(intOf iv).toNat)
    case atStart=>exact⟨0,by omega,rfl,rfl,HB.o⟩
    case round =>
     obtain⟨j,hj,rfl,hall,hbj⟩:=hrel;have HBJ:=ai hbj;have HAJ:=ai hall;clear hall HB;by_cases JK:j<o.length
     · obtain⟨b,off,hao,hbl,eX⟩:=(HO.o.below hbj) (by omega);subst hao;obtain⟨c0,c1⟩:=eX j JK;have HWK:Hid (km o l.length (j+1)=decide (0<=(oL o j).proc/\(oL o j).proc<(l.length:Int))):=by
        show(km o l.length j&&_)=_;rw[HAJ.o,tv];rfl
       have afH:=ai (HWF.o (j+1) (by omega));obtain⟨⟨wp,wv⟩,hq⟩:∃q,q=oL o j:=⟨_,rfl⟩;rw[<- hq] at HWK c0 c1;simp only at c0 c1;have adM:Hid (km o l.length (j+1)=decide (0<=wp/\wp<(l.length:Int))):=HWK;clear hq eX hbj HAJ HWK;have jQ:=ai (HBJ.o.alloc HBJ.o.size (.cells #[I wp,I wv] 91));by_cases h0:wp<0
       · have Mr:=ai (afH.o (by rw[adM.o];simp;omega));clear adM afH;go_wp2;go_ret;exact⟨qA Mr.o.symm,jQ.o⟩
       · by_cases h1:(l.length:Int)<=wp
         · have Mr:=ai (afH.o (by rw[adM.o];simp;omega));clear adM afH;go_wp2;go_ret;exact⟨qA Mr.o.symm,jQ.o⟩
         · have HY2:Hid (km o l.length (j+1)=true):=by show _=_;rw[adM.o];simp;omega
           clear adM afH;go_wp2;go_roundw
           case rel=>exact⟨j+1,by omega,by go_num,HY2.o,jQ.o⟩
           case measure=>simp[intOf];omega
     · obtain rfl:j=o.length:=by omega
       have HY2:=ai (apq.o HAJ.o);clear hbj;go_wp2;go_ret;exact⟨qA HY2.o.symm,HBJ.o⟩
open Go.RowKit
structure iM where
 iZ:aR
 procs:List bO
 out:List rY
def jy (m:iM):Int:=if ¬gh m.iZ=0 then gh m.iZ else if 2000<m.out.length then 2 else if m.procs.length=m.iZ.aj.length/\jB m.procs m.out (fun k=>(ak m.iZ.aj k).live)=true then 0 else 1
structure uH (w:World) (a:ja) (ar ao:Option Addr) (m:iM):Prop where
 iZ:jo w a m.iZ
 procs:uI w ar m.procs
 out:wh w ao m.out
theorem uH.below {w w':World} {a:ja} {ar ao:Option Addr} {m:iM} (h:uH w a ar ao m) (hb:Below w.heap.size w w'):uH w' a ar ao m:=⟨h.iZ.below hb,h.procs.below hb,h.out.below hb⟩
structure K7 (m:iM):Prop where
 iZ:o7 m.iZ
 procs:cu m.procs.length
 out:cu m.out.length
def ia (m:iM) (a:ja) (ar ao:Option Addr) (cr co:Nat):Array Value:=#[.slice a.aS m.iZ.aM.length a.cS,.slice a.aF m.iZ.frames.length a.cF,.slice a.aL m.iZ.slots.length a.cL,.slice a.aP m.iZ.aj.length a.cP,I m.iZ.hand,.slice ar m.procs.length cr,.slice ao m.out.length co]
theorem rV {w:World} {b:Nat} {YZ a1 a2 a3 a4 a5 a6:Value} {t:TypeId} (h:w.heap[b]?=some (.cells #[YZ,a1,a2,a3,a4,a5,a6] t (0,0))):w.cell? (Ad b 0)=some YZ/\w.cell? (Ad b 1)=some a1/\w.cell? (Ad b 2)=some a2/\w.cell? (Ad b 3)=some a3/\w.cell? (Ad b 4)=some a4/\w.cell? (Ad b 5)=some a5/\w.cell? (Ad b 6)=some a6:=⟨aq h 0 rfl,aq h 1 rfl,aq h 2 rfl,aq h 3 rfl,aq h 4 rfl,aq h 5 rfl,aq h 6 rfl⟩
theorem VV (l:List cV) (az:Option Addr) (cs P k:Nat) (w:World) (h:zI w az l) (hk:k<l.length) (hn:l.length<=140737488351232) (hP:w.cell? (Ad P 3)=some (.slice az l.length cs)) :
  Calls Tryz.prog 89 #[I (k:Int),.pointer (some (Ad P 0))] w fun e w'=>e=.returned (.bool (ak l k).live)/\Below w.heap.size w w':=by
 obtain⟨b,off,hao,hbl,eX⟩:=h (by omega);subst hao;obtain⟨va,ap,cp,c0,c1,c2,c3,c4,c5⟩:=eX k hk;clear eX c1 c2 c3 c4 c5 h;obtain⟨lv,hlv⟩:=ex ((ak l k).live);rw[<- hlv] at c0 ⊢;clear hlv;go_enter Tryz.func89,Tryz.ntmps89;go_wp2;go_ret;exact⟨rfl,aJ _ _⟩
theorem K6 (m:iM) (a:ja) (ar ao:Option Addr) (cr co:Nat) (w:World) (h:uH w a ar ao m) (hf:K7 m) :
  Calls Tryz.prog 41 #[.agg (ia m a ar ao cr co)] w fun e w'=>e=.returned (.bool (decide (m.procs.length=m.iZ.aj.length/\jB m.procs m.out (fun k=>(ak m.iZ.aj k).live)=true)))/\Below w.heap.size w w':=by
 have Ak:=hf.procs;have hns:=hf.iZ.np;have hno:=hf.out;unfold cu at Ak hns hno;have G8:Hid (m.procs.length=m.iZ.aj.length->∀P V,Below w.heap.size w V->V.heap[P]?=some (.cells (ia m a ar ao cr co) 34 (0,0))->Calls Tryz.prog 88 #[.slice ar m.procs.length cr,.slice ao m.out.length co,.func (.func 89) #[] #[.pointer (some (Ad P 0))]] V fun e w'=>e=.returned (.bool (jB m.procs m.out (fun k=>(ak m.iZ.aj k).live)))/\Below V.heap.size V w'):=fun hl P V hV hP =>
  QN m.procs m.out (fun k=>(ak m.iZ.aj k).live) ar ao cr co P V (h.procs.below hV) (h.out.below hV) (by omega) (by omega) (fun k hk U hU=>VV m.iZ.aj a.aP a.cP P k U (h.iZ.aj.below (bU hV hU)) (by omega) (by omega) ((hU.cell (p:=(Ad P 3)) (aI hP)).trans (aq hP 3 rfl)))
 have gG:=ai ((aJ w.heap.size w).alloc (aH _) (.cells (ia m a ar ao cr co) 34));have X0:=ai (bD w (ia m a ar ao cr co) 34);obtain⟨R,hR⟩:=ex (jB m.procs m.out (fun k=>(ak m.iZ.aj k).live));rw[<- hR] at G8 ⊢;unfold ia at G8 gG X0 ⊢;obtain⟨ns,aae⟩:=ex m.iZ.aj.length;obtain⟨np,Px⟩:=ex m.procs.length;obtain⟨no,LS⟩:=ex m.out.length;obtain⟨n0,hn0⟩:∃n,n=m.iZ.aM.length:=⟨_,rfl⟩;obtain⟨n1,TG⟩:∃n,n=m.iZ.frames.length:=⟨_,rfl⟩;obtain⟨n2,GU⟩:∃n,n=m.iZ.slots.length:=⟨_,rfl⟩;obtain⟨n4,EM⟩:∃n,n=m.iZ.hand:=⟨_,rfl⟩;rw[<- aae,<- Px,<- LS,<- hn0,<- TG,<- GU,<- EM] at G8 gG X0 ⊢;rw[<- aae] at hns;rw[<- Px] at Ak;clear h hf hR aae Px LS hn0 TG GU EM hno;by_cases c:np=ns
 · have CK:=ai (G8.o c);subst c;clear G8;go_enter Tryz.func41,Tryz.ntmps41;go_wp2_with (go_at_call 88;refine(CK.o _ _ gG.o X0.o).mono ?_;rintro e w1 ⟨rfl,hb1⟩;have cM:=ai (bU gG.o hb1);clear hb1)
   go_ret;exact⟨qA (by simp),cM.o⟩
 · have cb:((np:Int)==(ns:Int))=false:=by rw[lG];omega
   have e:decide (np=ns/\R=true)=false:=by simp[c]
   rw[e];clear c e G8;go_enter Tryz.func41,Tryz.ntmps41;go_wp2;go_ret;exact⟨qA rfl,gG.o⟩
theorem VW (m:iM) (a:ja) (ar ao:Option Addr) (cr co:Nat) (w:World) (h:uH w a ar ao m) (hf:K7 m) :
  Calls Tryz.prog 15 #[.agg (ia m a ar ao cr co)] w fun e w'=>e=.returned (I (jy m))/\Below w.heap.size w w':=by
 have hno:=hf.out;unfold cu at hno;have EU:Hid (∀V,Below w.heap.size w V->Calls Tryz.prog 40 #[.agg (bc a m.iZ)] V fun e w'=>e=.returned (I (gh m.iZ))/\Below V.heap.size V w'):=fun V hV=>VD m.iZ a V (h.iZ.below hV) hf.iZ
 have HRP:Hid (∀V,Below w.heap.size w V->Calls Tryz.prog 41 #[.agg (ia m a ar ao cr co)] V fun e w'=>e=.returned (.bool (decide (m.procs.length=m.iZ.aj.length/\jB m.procs m.out (fun k=>(ak m.iZ.aj k).live)=true)))/\Below V.heap.size V w'):=fun V hV=>K6 m a ar ao cr co V (h.below hV) hf
 have gG:=ai ((aJ w.heap.size w).alloc (aH _) (.cells (ia m a ar ao cr co) 34));have X0:=ai (bD w (ia m a ar ao cr co) 34);obtain⟨R,hR⟩:=ex (decide (m.procs.length=m.iZ.aj.length/\jB m.procs m.out (fun k=>(ak m.iZ.aj k).live)=true));obtain⟨ck,Ju⟩:=ex (gh m.iZ);have HA:Hid (jy m=if ¬ck=0 then ck else if 2000<m.out.length then 2 else if R=true then 0 else 1):=by
  show _=_;rw[Ju,hR];unfold jy;simp only[kR]
 obtain⟨A,hA⟩:=ex (jy m);rw[<- hA] at HA ⊢;rw[<- hR] at HRP;rw[<- Ju] at EU;unfold ia at HRP gG X0 ⊢;unfold bc at EU;obtain⟨ns,aae⟩:=ex m.iZ.aj.length;obtain⟨np,Px⟩:=ex m.procs.length;obtain⟨no,LS⟩:=ex m.out.length;obtain⟨n0,hn0⟩:∃n,n=m.iZ.aM.length:=⟨_,rfl⟩;obtain⟨n1,TG⟩:∃n,n=m.iZ.frames.length:=⟨_,rfl⟩;obtain⟨n2,GU⟩:∃n,n=m.iZ.slots.length:=⟨_,rfl⟩;obtain⟨n4,EM⟩:∃n,n=m.iZ.hand:=⟨_,rfl⟩;rw[<- aae,<- Px,<- LS,<- hn0,<- TG,<- GU,<- EM] at HRP gG X0 ⊢;rw[<- aae,<- hn0,<- TG,<- GU,<- EM] at EU;rw[<- LS] at HA hno;clear h hf hR aae Px LS hn0 TG GU EM hA Ju;by_cases c:ck=0
 · subst c;by_cases c2:2000<no
   · have EG:Hid (A=2):=by show _=_;rw[HA.o,au (fun g=>g rfl),aB c2]
     clear HA HRP;go_enter Tryz.func15,Tryz.ntmps15;go_wp2_with (go_at_call 40;refine(EU.o _ gG.o).mono ?_;rintro e w1 ⟨rfl,hb1⟩;have cM:=ai (bU gG.o hb1);have X1:=ai (aN X0.o hb1 (aI X0.o));clear hb1;obtain⟨x0,x1,x2,x3,x4,x5,x6⟩:=rV X1.o)
     go_ret;exact⟨by rw[EG.o];rfl,cM.o⟩
   · have EG:Hid (A=if R=true then 0 else 1):=by show _=_;rw[HA.o,au (fun g=>g rfl),au c2]
     clear HA;cases R with
     | false =>
      have Ce:Hid (A=1):=EG.o;clear EG;go_enter Tryz.func15,Tryz.ntmps15;go_wp2_with (first
       | (go_at_call 40;refine(EU.o _ gG.o).mono ?_;rintro e w1 ⟨rfl,hb1⟩;have cM:=ai (bU gG.o hb1);have X1:=ai (aN X0.o hb1 (aI X0.o));clear hb1;obtain⟨x0,x1,x2,x3,x4,x5,x6⟩:=rV X1.o)
       | (go_at_call 41;refine(HRP.o _ cM.o).mono ?_;rintro e w2 ⟨rfl,hb2⟩;have gP:=ai (bU cM.o hb2);clear hb2))
      go_ret;exact⟨by rw[Ce.o];rfl,gP.o⟩
     | true =>
      have Ce:Hid (A=0):=EG.o;clear EG;go_enter Tryz.func15,Tryz.ntmps15;go_wp2_with (first
       | (go_at_call 40;refine(EU.o _ gG.o).mono ?_;rintro e w1 ⟨rfl,hb1⟩;have cM:=ai (bU gG.o hb1);have X1:=ai (aN X0.o hb1 (aI X0.o));clear hb1;obtain⟨x0,x1,x2,x3,x4,x5,x6⟩:=rV X1.o)
       | (go_at_call 41;refine(HRP.o _ cM.o).mono ?_;rintro e w2 ⟨rfl,hb2⟩;have gP:=ai (bU cM.o hb2);clear hb2))
      go_ret;exact⟨by rw[Ce.o];rfl,gP.o⟩
 · have EG:Hid (A=ck):=by show _=_;rw[HA.o,aB c]
   have cb:(ck==0)=false:=by grind
   clear c HA HRP;go_enter Tryz.func15,Tryz.ntmps15;go_wp2_with (go_at_call 40;refine(EU.o _ gG.o).mono ?_;rintro e w1 ⟨rfl,hb1⟩;have cM:=ai (bU gG.o hb1);clear hb1)
   go_ret;exact⟨by rw[EG.o];rfl,cM.o⟩
open Go.RowKit
variable {σ:Type} {Hd:World->(Nat->Prop)->σ->Prop} {Ok:σ->List Bool->Prop} {o:gN σ} {lo mb gb:Nat} {D:Nat->Prop} {vr vo:Value} {st:dA σ}
theorem Y9 (C:iu lo mb Hd Ok o) (k:Nat) (w:World) (h:fQ Hd lo mb gb w D vr vo st) (hok:dK Ok st) (hk:k<st.ps.length) (h1:(aK st.ps k).st=1) :
  Calls Tryz.prog 218 #[.pointer (some (Ad gb 0)),I (k:Int)] w fun e w'=>e=.returned (I (fh o st k 5).1)/\cD Hd lo mb gb w D vr vo (fh o st k 5).2 w':=by
 have HG:=ai h;have HC:=ai C;have HFK:=ai (C.fork w D st.mem _ k h.mem hok.mem (ij k hk h1));have g0:w.cell? (Ad gb 0)=some (.iface 183 (.pointer (some (Ad mb 0)))):=aq h.head 0 rfl;have hmF:=SY (Ad mb 0);have haF:=V7 (Ad mb 0);have hkl:k<9223372036854775807:=by have:=C.ok.few _ _ hok.mem;unfold bX at this;rw[gV] at this;omega
 obtain⟨fv,hfv⟩:=ex ((o.fork st.mem k).1);have HCA:Hid (fh o st k 5=if fv=0 then ((st.ps.length:Int),{ st with mem:=(o.fork st.mem k).2,ps:=st.ps++[aK st.ps k] }) else (-1,{ st with mem:=(o.fork st.mem k).2 })):=by rw[hfv];exact rfl
 rw[<- hfv] at HFK;obtain⟨fm,hfm⟩:=ex ((o.fork st.mem k).2);rw[<- hfm] at HFK HCA;obtain⟨R,hR⟩:=ex (fh o st k 5);rw[<- hR] at HCA ⊢;clear h C hfv hfm hR;by_cases hf0:fv=0
 · subst hf0;have HR:Hid (R=((st.ps.length:Int),{ st with mem:=fm,ps:=st.ps++[aK st.ps k] })):=by rw[HCA.o,aB rfl];exact rfl
   clear HCA;go_enter Tryz.func218,Tryz.ntmps218;go_wp2_with (go_at_call 253;refine HFK.o.mono ?_;rintro e w1 ⟨D1,rfl,nC,hk1,hd1⟩;have Xp:=ai (HG.o.turn HC.o nC hk1 hd1);have uY:=ai hk1;have HD1:=ai hd1;clear nC hk1 hd1;have e1:=aq (v:=vr) Xp.o.head 1 rfl)
   obtain⟨pb,cap,EL,hpb,hpc,Pw⟩:=Xp.o.proc k hk;have HVR:=ai EL;have mr:=ai hpc;have HST:=ai HR.o;obtain⟨q,hq⟩:=ex (aK st.ps k);simp only at mr;rw[<- hq] at mr HST;have EM:st.ps.length<=4:=by have:=HC.o.ok.few _ _ hok.mem;unfold bX at this;rw[gV] at this;exact this
   obtain⟨n,hn⟩:=ex st.ps.length;simp only at HVR EL;rw[<- hn] at HVR EL EM hk;have HN:=ai hn;subst EL;have JL:(k:Int)<(n:Int):=by omega
   clear hq hn hpc Pw HR hok h1;have c0:w1.cell? (Ad pb (k*13))=some (I (q.r 0)):=mr.o 0 (by omega);have c1:w1.cell? (Ad pb (k*13+1))=some (I (q.r 1)):=mr.o 1 (by omega);have c2:w1.cell? (Ad pb (k*13+2))=some (I (q.r 2)):=mr.o 2 (by omega);have c3:w1.cell? (Ad pb (k*13+3))=some (I (q.r 3)):=mr.o 3 (by omega);have c4:w1.cell? (Ad pb (k*13+4))=some (I (q.r 4)):=mr.o 4 (by omega);have c5:w1.cell? (Ad pb (k*13+5))=some (I (q.r 5)):=mr.o 5 (by omega);have c6:w1.cell? (Ad pb (k*13+6))=some (I (q.r 6)):=mr.o 6 (by omega);have c7:w1.cell? (Ad pb (k*13+7))=some (I (q.r 7)):=mr.o 7 (by omega);have c8:w1.cell? (Ad pb (k*13+8))=some (I q.pc):=mr.o 8 (by omega);have c9:w1.cell? (Ad pb (k*13+9))=some (I q.st):=mr.o 9 (by omega);have c10:w1.cell? (Ad pb (k*13+10))=some (I q.cd):=mr.o 10 (by omega);have c11:w1.cell? (Ad pb (k*13+11))=some (I q.fk):=mr.o 11 (by omega);have c12:w1.cell? (Ad pb (k*13+12))=some (I q.fa):=mr.o 12 (by omega);have e1a:∀ob,(w1.alloc ob).cell? (Ad gb 1)=some (.slice (some (Ad pb 0)) n cap):=fun ob=>aq (bl Xp.o.head ob) 1 rfl
   obtain⟨i0,hin,hz0,hz1,hz2⟩:=jm Uh;have Ed:=ai hin;have Hh:=ai hz0;have FU:=ai hz1;have yH:=ai hz2;have HOW:Hid ((w1.alloc (.cells #[I (q.r 0),I (q.r 1),I (q.r 2),I (q.r 3),I (q.r 4),I (q.r 5),I (q.r 6),I (q.r 7),I q.pc,I q.st,I q.cd,I q.fk,I q.fa] 77)).ownsRow lo 77 13 (.slice (some (Ad pb 0)) n cap) n (st.ps.flatMap bQ)):=by
    have:=Xp.o.procs.alloc (.cells #[I (q.r 0),I (q.r 1),I (q.r 2),I (q.r 3),I (q.r 4),I (q.r 5),I (q.r 6),I (q.r 7),I q.pc,I q.st,I q.cd,I q.fk,I q.fa] 77);simp only at this;rw[<- HN.o] at this;exact this
   have HLO:Hid (lo<=(w1.alloc (.cells #[I (q.r 0),I (q.r 1),I (q.r 2),I (q.r 3),I (q.r 4),I (q.r 5),I (q.r 6),I (q.r 7),I q.pc,I q.st,I q.cd,I q.fk,I q.fa] 77)).heap.size):=by show _<=_;rw[fM];have:=Xp.o.base;have:=aI Xp.o.head;omega
   have HNW:Hid (0<1->∃ad,some ((Ad w1.heap.size 0):Addr)=some ad/\∀j u,(bQ q)[j]?=some u->((w1.alloc (.cells #[I (q.r 0),I (q.r 1),I (q.r 2),I (q.r 3),I (q.r 4),I (q.r 5),I (q.r 6),I (q.r 7),I q.pc,I q.st,I q.cd,I q.fk,I q.fa] 77)).drew).cell? (ad.add j)=some u):=fun _=>⟨_,rfl,Gv (w:=(w1.alloc (.cells #[I (q.r 0),I (q.r 1),I (q.r 2),I (q.r 3),I (q.r 4),I (q.r 5),I (q.r 6),I (q.r 7),I q.pc,I q.st,I q.cd,I q.fk,I q.fa] 77)).drew) (bD w1 #[I (q.r 0),I (q.r 1),I (q.r 2),I (q.r 3),I (q.r 4),I (q.r 5),I (q.r 6),I (q.r 7),I q.pc,I q.st,I q.cd,I q.fk,I q.fa] 77)⟩
   clear hin hz0 hz1 hz2 mr
   go_region_law (refine zW (P:=Tryz.prog) rfl _ _ 31 rfl lo 77 i0 (.agg #[I 0,I 0,I 0,I 0,I 0,I 0,I 0,I 0,I 0,I 0,I 0,I 0,I 0]) 13 104 Tryz.underlying31 Ed.o Hh.o FU.o yH.o rfl (by decide) (.slice (some (Ad pb 0)) n cap) n (st.ps.flatMap bQ) rfl HOW.o.drew (some (Ad w1.heap.size 0)) 1 1 (bQ q) rfl rfl HNW.o (by intro u hu;simp[bQ] at hu;rcases hu with rfl | rfl | rfl | rfl | rfl | rfl | rfl | rfl | rfl | rfl | rfl | rfl | rfl <;> rfl) (by unfold maxLen;omega) (by omega) HLO.o ?_;intro v3 w4 hown hgr hat;obtain⟨a4,c4,rfl,_⟩:=bh hown;have afN:=ai hown;have afZ:Hid ((w1.alloc _).grownBy w4 _):=⟨hgr.os,hgr.tape,hgr.output,hgr.size,hgr.block⟩;have ajZ:=ai hat;have hM4:=Hf (bl Xp.o.head (.cells #[I (q.r 0),I (q.r 1),I (q.r 2),I (q.r 3),I (q.r 4),I (q.r 5),I (q.r 6),I (q.r 7),I q.pc,I q.st,I q.cd,I q.fk,I q.fa] 77)) afZ.o (fun e=>Xp.o.n2 e.symm);have y1:w4.cell? (Ad gb 1)=some (.slice (some (Ad pb 0)) n cap):=aq hM4 1 rfl;have y2:w4.frozen? (Ad gb 1)=false:=aQ hM4 1;clear hown hgr hat hM4)
   all_goals
    go_wp2;go_ret;have hp:=Xp.o.akw HC.o (p:=q) afZ.o (by show w4.ownsRow lo _ 13 _ (st.ps.length+1) (st.ps.flatMap bQ++bQ q);rw[<- HN.o];exact afN.o) ajZ.o;rw[HST.o];refine⟨by rw[<- HN.o];go_num,?_⟩;obtain⟨hA,hB⟩:aC (kz gb D (.slice (some (Ad pb 0)) n cap) vo) w w1/\∀b,kz gb D1 (.slice (some (Ad pb 0)) n cap) vo b->kz gb D (.slice (some (Ad pb 0)) n cap) vo b∨w.heap.size<=b:=⟨uY.o.mono (fun b _ g=>.inr (.inl g)),fun b hb=>by
     rcases hb with g | g | g | g
     · exact .inl (.inl g)
     · rcases HD1.o b g with x | x
       · exact .inl (.inr (.inl x))
       · exact .inr x
     · exact .inl (.inr (.inr (.inl g)))
     · exact .inl (.inr (.inr (.inr g)))⟩
    exact cD.trans hA hB hp
 · have HR:Hid (R=(-1,{ st with mem:=fm })):=by rw[HCA.o,au hf0];exact rfl
   have hfi:(fv==0)=false:=by rw[lG];exact hf0
   clear HCA hf0;go_enter Tryz.func218,Tryz.ntmps218;go_wp2_with (go_at_call 253;refine HFK.o.mono ?_;rintro e w1 ⟨D1,rfl,nC,hk1,hd1⟩;have ZB:=ai (cD.EY HC.o HG.o nC hk1 hd1);clear nC hk1 hd1)
   go_ret;rw[HR.o];exact⟨rfl,ZB.o⟩
end Go.Proofs.YtlgoihmkgaaemaaGreat
