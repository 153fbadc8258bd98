import Derived.Test.YtlgoihmkgaaemaaGreatGO29
set_option maxHeartbeats 20000000
set_option linter.unusedVariables false
set_option maxRecDepth 100000
set_option linter.unusedSimpArgs false
namespace Go.Proofs.YtlgoihmkgaaemaaGreat
open Go.RowKit
variable {lo mb:Nat} {w w':World} {D:Nat->Prop} {k:aR} {fl:List Bool} {j:Nat}
theorem ZH (ad n way:Int) (h:fB lo mb w D k) (ho:dn k fl) (hl:fl.getD j false=true) (had:cN ad) (h1:1<=n) (h8:n<=8) (hw:way=0∨way=2) :
  Calls Tryz.prog 254 #[.pointer (some (Ad mb 0)),I (j:Int),I ad,I n,I way] w (oq (fB lo mb) w D (.tuple #[.string (gT k j ad n way).1.1,.agg (gW (gT k j ad n way).1.2)]) (gT k j ad n way).2):=by
 obtain⟨WA,lu⟩:=ex (w.alloc (.cells #[I 0,I 0] 75));have hb0:Below w.heap.size w WA:=by rw[lu];exact(aK _ _).alloc (aD _) _
 have hz:=bB w #[I 0,I 0] 75;rw[<- lu] at hz;have hD:∀b,D b->b<w.heap.size:=fun b g=>(h.dom b g).2
 have hlt:w.heap.size<WA.heap.size:=by rw[lu];simp
 have h:=h.kp (aC.bZ (D:=fun _=>False) hb0) (fun _ _ g=>g);obtain⟨⟨hs,a,_,_,s,hc,hK,_,_,_,_⟩,hb⟩:=id h;obtain⟨K,eK,hA⟩:=ZI ho hl s ad n way h1 h8 hw;obtain⟨R,hR⟩:=ex (gT k j ad n way);rw[<- hR] at eK hA ⊢;obtain⟨⟨str,f1,f2⟩,k'⟩:=R;simp only at eK hA ⊢;have hC:=Y6 uD (aU k hs) a j ad n way WA (hK WA (aC.refl _ _)) (om (ho.right.vJ s)) (Ej ho hl) had;rw[eK] at hC;have HC:Hid (Calls Tryz.prog 262 #[.agg (bc a (aU k hs)),I (j:Int),I ad,I n,I way] WA fun e w1=>∃s0 n0 q0 s1 n1 q1 s2 n2 q2 s3 n3 q3 hd,e=.returned (.tuple #[.agg #[.slice s0 n0 q0,.slice s1 n1 q1,.slice s2 n2 q2,.slice s3 n3 q3,I hd],.string str,.agg #[I f1,I f2],I 0])/\Below WA.heap.size WA w1/\∀w2,aC (fun b=>b=mb) w1 w2->w2.heap[mb]?=some (.cells (if f1=0 then #[.slice s0 n0 q0,.slice s1 n1 q1,.slice s2 n2 q2,.slice s3 n3 q3,I hd] else bc a (aU k hs)) 185 (0,0))->pW lo mb WA D k' w2):=hC.mono fun e w1 ho=>by
  obtain⟨s0,n0,q0,s1,n1,q1,s2,n2,q2,s3,n3,q3,hd,rfl,hb1,hfin⟩:=Al h hc s hA ho;exact⟨_,_,_,_,_,_,_,_,_,_,_,_,_,rfl,hb1,fun w2 x y=>hfin w2 x y⟩
 obtain⟨P,hP⟩:=ex (oq (fB lo mb) w D (.tuple #[.string str,.agg (gW (f1,f2))]) k');have HP:Hid (∀w2 w3,pW lo mb WA D k' w2->aC (fun b=>b=w.heap.size) w2 w3->P (.returned (.tuple #[.string str,.agg #[I f1,I f2]])) w3):=fun w2 w3 g1 g2=>by obtain⟨D',a1,a2,a3⟩:=g1.past hb0 hD hlt g2;rw[hP];exact⟨D',rfl,a1,a2,a3⟩
 rw[<- hP];have HZ:=ai (fun V (g:Below WA.heap.size WA V)=>aN hz g (aJ hz));have gB:=ai hb0;have sB:=ai lu;have HLT:Hid (mb<w.heap.size):=hD mb h.inD;have wI:=ai hc;clear hz hb0 hD hlt h1 h8 hw had hC eK hA hR hP h hK ho hl hc;obtain⟨K0,Ut⟩:=ex (aU k hs);rw[<- Ut] at HC wI;unfold bc at HC wI;obtain⟨m0,hm0⟩:=ex K0.aM.length;obtain⟨m1,ni⟩:=ex K0.frames.length;obtain⟨m2,hm2⟩:=ex K0.slots.length;obtain⟨m3,Qa⟩:=ex K0.aj.length;obtain⟨m4,SF⟩:=ex K0.hand;rw[<- hm0,<- ni,<- hm2,<- Qa,<- SF] at HC wI;clear hm0 ni hm2 Qa SF Ut s;obtain⟨c0,c1,c2,c3,c4⟩:=iT wI.o;rw[lu] at c0 c1 c2 c3 c4;have HC:Hid (Calls _ _ _ (w.alloc (.cells #[I 0,I 0] 75)) _):=lu ▸ HC;clear lu;by_cases c:f1=0
 · subst c;go_enter Tryz.func254,Tryz.ntmps254;go_wp2_with (first
    | (go_at_call 262;refine HC.o.mono ?_;rintro e w1 ⟨s0,n0,q0,s1,n1,q1,s2,n2,q2,s3,n3,q3,hd,rfl,hb1,hfin⟩;rw[<- sB.o] at hb1;have cH:=ai hb1;have UZ:=ai hfin;have HX:=ai (((aK w1.heap.size w1).alloc (aD _) (.cells #[.slice s0 n0 q0,.slice s1 n1 q1,.slice s2 n2 q2,.slice s3 n3 q3,I hd] 30)).alloc (by simp) (.cells #[I 0,I f2] 75));have hq:=bB (w1.alloc (.cells #[.slice s0 n0 q0,.slice s1 n1 q1,.slice s2 n2 q2,.slice s3 n3 q3,I hd] 30)) #[I 0,I f2] 75;rw[gh] at hq;have HQ:=ai hq;have HZX:=ai (HZ.o _ (cH.o.trans (HX.o.mono cH.o.size)));clear hq;clear hb1 hfin)
    | (go_at_call 259;refine(tB mb _ _ _ _ _ _ _ _ _ _ _ _ _ _ _ _ _ _ _ _ (aN (aN wI.o cH.o (aJ wI.o)) HX.o (fD (aJ wI.o) cH.o.size))).mono ?_;rintro e w2 ⟨rfl,hk2,hm2⟩;have LQ:=ai (UZ.o _ ((aC.bZ HX.o).trans hk2 (fun _ _ g=>g)) (by first | exact hm2 | simpa using hm2));have pq:=ai hk2;clear hk2 hm2;have hzn:¬w.heap.size=mb:=(fun g=>by have:=HLT.o;omega);have hz2:=pq.o.keep HZX.o hzn;have hq2:=pq.o.keep HQ.o (fun g=>by have:=aJ wI.o;have:=cH.o.size;omega);obtain⟨y0,y1⟩:=rE hq2;obtain⟨z0,z1⟩:=rE hz2;have g0:=aO hz2 0;have g1:=aO hz2 1;clear hz2 hq2 hzn))
   have RO:Hid (pW lo mb WA D k' w2):=by rw[sB.o];exact LQ.o
   go_region;go_wp2;refine bI (v:=.tuple #[.string str,.agg #[I 0,I f2]]) (by simp[results,Tryz.results254,go_sem,z0,z1]) rfl ?_;refine HP.o _ _ RO.o ?_;have kk:∀(A:World) (i:Nat) (v:Value),aC (fun b=>b=w.heap.size) A (A.setCell (Ad w.heap.size i) v):=fun A i v=>aC.set _ A (Ad w.heap.size i) v rfl
   first | exact((kk _ _ _).trans (kk _ _ _) (fun _ _ g=>g)).trans (aC.drew _ _) (fun _ _ g=>g) | exact(aC.drew _ _).trans ((kk _ _ _).trans (kk _ _ _) (fun _ _ g=>g)) (fun _ _ g=>g)
 · have cb:(f1==0)=false:=by grind
   have HCN:=ai c;clear c;go_enter Tryz.func254,Tryz.ntmps254;go_wp2_with (first
    | (go_at_call 262;refine HC.o.mono ?_;rintro e w1 ⟨s0,n0,q0,s1,n1,q1,s2,n2,q2,s3,n3,q3,hd,rfl,hb1,hfin⟩;rw[<- sB.o] at hb1;have cH:=ai hb1;have UZ:=ai hfin;have HX:=ai (((aK w1.heap.size w1).alloc (aD _) (.cells #[.slice s0 n0 q0,.slice s1 n1 q1,.slice s2 n2 q2,.slice s3 n3 q3,I hd] 30)).alloc (by simp) (.cells #[I f1,I f2] 75));have hq:=bB (w1.alloc (.cells #[.slice s0 n0 q0,.slice s1 n1 q1,.slice s2 n2 q2,.slice s3 n3 q3,I hd] 30)) #[I f1,I f2] 75;rw[gh] at hq;have HQ:=ai hq;have HZX:=ai (HZ.o _ (cH.o.trans (HX.o.mono cH.o.size)));clear hq;have hz2:=HZX.o;obtain⟨y0,y1⟩:=rE HQ.o;obtain⟨z0,z1⟩:=rE hz2;have g0:=aO hz2 0;have g1:=aO hz2 1;clear hz2;clear hb1 hfin)
    | fail)
   have RO:=ai (UZ.o _ (aC.bZ HX.o) (by rw[au HCN.o];exact(aN (aN wI.o cH.o (aJ wI.o)) HX.o (fD (aJ wI.o) cH.o.size))));rw[<- sB.o] at RO;go_region;go_wp2;refine bI (v:=.tuple #[.string str,.agg #[I f1,I f2]]) (by simp[results,Tryz.results254,go_sem,z0,z1]) rfl ?_;refine HP.o _ _ RO.o ?_;have kk:∀(A:World) (i:Nat) (v:Value),aC (fun b=>b=w.heap.size) A (A.setCell (Ad w.heap.size i) v):=fun A i v=>aC.set _ A (Ad w.heap.size i) v rfl
   first | exact((kk _ _ _).trans (kk _ _ _) (fun _ _ g=>g)).trans (aC.drew _ _) (fun _ _ g=>g) | exact(aC.drew _ _).trans ((kk _ _ _).trans (kk _ _ _) (fun _ _ g=>g)) (fun _ _ g=>g)
theorem WY (ad:Int) (d:ByteArray) (h:fB lo mb w D k) (ho:dn k fl) (hl:fl.getD j false=true) (had:cN ad) (h1:1<=d.size) (h8:d.size<=8) :
  Calls Tryz.prog 257 #[.pointer (some (Ad mb 0)),I (j:Int),I ad,.string d] w (oq (fB lo mb) w D (.agg (gW (je k j ad d).1)) (je k j ad d).2):=by
 obtain⟨WA,lu⟩:=ex (w.alloc (.cells #[I 0,I 0] 75));have hb0:Below w.heap.size w WA:=by rw[lu];exact(aK _ _).alloc (aD _) _
 have hz:=bB w #[I 0,I 0] 75;rw[<- lu] at hz;have hD:∀b,D b->b<w.heap.size:=fun b g=>(h.dom b g).2
 have hlt:w.heap.size<WA.heap.size:=by rw[lu];simp
 have h:=h.kp (aC.bZ (D:=fun _=>False) hb0) (fun _ _ g=>g);obtain⟨⟨hs,a,_,_,s,hc,hK,_,_,_,_⟩,hb⟩:=id h;obtain⟨K,eK,hA⟩:=WZ ho hl s ad d h1 h8;obtain⟨R,hR⟩:=ex (je k j ad d);rw[<- hR] at eK hA ⊢;obtain⟨⟨f1,f2⟩,k'⟩:=R;simp only at eK hA ⊢;have hC:=V6 uD (aU k hs) a j ad d WA (hK WA (aC.refl _ _)) (om (ho.right.vJ s)) (Ej ho hl) had;rw[eK] at hC;have HC:Hid (Calls Tryz.prog 265 #[.agg (bc a (aU k hs)),I (j:Int),I ad,.string d] WA fun e w1=>∃s0 n0 q0 s1 n1 q1 s2 n2 q2 s3 n3 q3 hd,e=.returned (.tuple #[.agg #[.slice s0 n0 q0,.slice s1 n1 q1,.slice s2 n2 q2,.slice s3 n3 q3,I hd],.agg #[I f1,I f2],I 0])/\Below WA.heap.size WA w1/\∀w2,aC (fun b=>b=mb) w1 w2->w2.heap[mb]?=some (.cells (if f1=0 then #[.slice s0 n0 q0,.slice s1 n1 q1,.slice s2 n2 q2,.slice s3 n3 q3,I hd] else bc a (aU k hs)) 185 (0,0))->pW lo mb WA D k' w2):=hC.mono fun e w1 ho=>by
  obtain⟨s0,n0,q0,s1,n1,q1,s2,n2,q2,s3,n3,q3,hd,rfl,hb1,hfin⟩:=Al h hc s hA ho;exact⟨_,_,_,_,_,_,_,_,_,_,_,_,_,rfl,hb1,fun w2 x y=>hfin w2 x y⟩
 obtain⟨P,hP⟩:=ex (oq (fB lo mb) w D (.agg (gW (f1,f2))) k');have HP:Hid (∀w2 w3,pW lo mb WA D k' w2->aC (fun b=>b=w.heap.size) w2 w3->P (.returned (.agg #[I f1,I f2])) w3):=fun w2 w3 g1 g2=>by obtain⟨D',a1,a2,a3⟩:=g1.past hb0 hD hlt g2;rw[hP];exact⟨D',rfl,a1,a2,a3⟩
 rw[<- hP];have HZ:=ai (fun V (g:Below WA.heap.size WA V)=>aN hz g (aJ hz));have gB:=ai hb0;have sB:=ai lu;have HLT:Hid (mb<w.heap.size):=hD mb h.inD;have wI:=ai hc;clear hz hb0 hD hlt h1 h8 had hC eK hA hR hP h hK ho hl hc;obtain⟨K0,Ut⟩:=ex (aU k hs);rw[<- Ut] at HC wI;unfold bc at HC wI;obtain⟨m0,hm0⟩:=ex K0.aM.length;obtain⟨m1,ni⟩:=ex K0.frames.length;obtain⟨m2,hm2⟩:=ex K0.slots.length;obtain⟨m3,Qa⟩:=ex K0.aj.length;obtain⟨m4,SF⟩:=ex K0.hand;rw[<- hm0,<- ni,<- hm2,<- Qa,<- SF] at HC wI;clear hm0 ni hm2 Qa SF Ut s;obtain⟨c0,c1,c2,c3,c4⟩:=iT wI.o;rw[lu] at c0 c1 c2 c3 c4;have HC:Hid (Calls _ _ _ (w.alloc (.cells #[I 0,I 0] 75)) _):=lu ▸ HC;clear lu;by_cases c:f1=0
 · subst c;go_enter Tryz.func257,Tryz.ntmps257;go_wp2_with (first
    | (go_at_call 265;refine HC.o.mono ?_;rintro e w1 ⟨s0,n0,q0,s1,n1,q1,s2,n2,q2,s3,n3,q3,hd,rfl,hb1,hfin⟩;rw[<- sB.o] at hb1;have cH:=ai hb1;have UZ:=ai hfin;have HX:=ai (((aK w1.heap.size w1).alloc (aD _) (.cells #[.slice s0 n0 q0,.slice s1 n1 q1,.slice s2 n2 q2,.slice s3 n3 q3,I hd] 30)).alloc (by simp) (.cells #[I 0,I f2] 75));have hq:=bB (w1.alloc (.cells #[.slice s0 n0 q0,.slice s1 n1 q1,.slice s2 n2 q2,.slice s3 n3 q3,I hd] 30)) #[I 0,I f2] 75;rw[gh] at hq;have HQ:=ai hq;have HZX:=ai (HZ.o _ (cH.o.trans (HX.o.mono cH.o.size)));clear hq;clear hb1 hfin)
    | (go_at_call 259;refine(tB mb _ _ _ _ _ _ _ _ _ _ _ _ _ _ _ _ _ _ _ _ (aN (aN wI.o cH.o (aJ wI.o)) HX.o (fD (aJ wI.o) cH.o.size))).mono ?_;rintro e w2 ⟨rfl,hk2,hm2⟩;have LQ:=ai (UZ.o _ ((aC.bZ HX.o).trans hk2 (fun _ _ g=>g)) (by first | exact hm2 | simpa using hm2));have pq:=ai hk2;clear hk2 hm2;have hzn:¬w.heap.size=mb:=(fun g=>by have:=HLT.o;omega);have hz2:=pq.o.keep HZX.o hzn;have hq2:=pq.o.keep HQ.o (fun g=>by have:=aJ wI.o;have:=cH.o.size;omega);obtain⟨y0,y1⟩:=rE hq2;obtain⟨z0,z1⟩:=rE hz2;have g0:=aO hz2 0;have g1:=aO hz2 1;clear hz2 hq2 hzn))
   have RO:Hid (pW lo mb WA D k' w2):=by rw[sB.o];exact LQ.o
   skip
   refine bI (v:=.agg #[I 0,I f2]) (by simp[results,Tryz.results257,go_sem,z0,z1]) rfl ?_;refine HP.o _ _ RO.o ?_;have kk:∀(A:World) (i:Nat) (v:Value),aC (fun b=>b=w.heap.size) A (A.setCell (Ad w.heap.size i) v):=fun A i v=>aC.set _ A (Ad w.heap.size i) v rfl
   exact(kk _ _ _).trans (kk _ _ _) (fun _ _ g=>g)
 · have cb:(f1==0)=false:=by grind
   have HCN:=ai c;clear c;go_enter Tryz.func257,Tryz.ntmps257;go_wp2_with (first
    | (go_at_call 265;refine HC.o.mono ?_;rintro e w1 ⟨s0,n0,q0,s1,n1,q1,s2,n2,q2,s3,n3,q3,hd,rfl,hb1,hfin⟩;rw[<- sB.o] at hb1;have cH:=ai hb1;have UZ:=ai hfin;have HX:=ai (((aK w1.heap.size w1).alloc (aD _) (.cells #[.slice s0 n0 q0,.slice s1 n1 q1,.slice s2 n2 q2,.slice s3 n3 q3,I hd] 30)).alloc (by simp) (.cells #[I f1,I f2] 75));have hq:=bB (w1.alloc (.cells #[.slice s0 n0 q0,.slice s1 n1 q1,.slice s2 n2 q2,.slice s3 n3 q3,I hd] 30)) #[I f1,I f2] 75;rw[gh] at hq;have HQ:=ai hq;have HZX:=ai (HZ.o _ (cH.o.trans (HX.o.mono cH.o.size)));clear hq;have hz2:=HZX.o;obtain⟨y0,y1⟩:=rE HQ.o;obtain⟨z0,z1⟩:=rE hz2;have g0:=aO hz2 0;have g1:=aO hz2 1;clear hz2;clear hb1 hfin)
    | fail)
   have RO:=ai (UZ.o _ (aC.bZ HX.o) (by rw[au HCN.o];exact(aN (aN wI.o cH.o (aJ wI.o)) HX.o (fD (aJ wI.o) cH.o.size))));rw[<- sB.o] at RO
   skip
   refine bI (v:=.agg #[I f1,I f2]) (by simp[results,Tryz.results257,go_sem,z0,z1]) rfl ?_;refine HP.o _ _ RO.o ?_;have kk:∀(A:World) (i:Nat) (v:Value),aC (fun b=>b=w.heap.size) A (A.setCell (Ad w.heap.size i) v):=fun A i v=>aC.set _ A (Ad w.heap.size i) v rfl
   exact(kk _ _ _).trans (kk _ _ _) (fun _ _ g=>g)
open Go.RowKit
theorem Ht (lo mb:Nat):iC lo mb (fB lo mb) dn cI where
 kp:=fun w w' D E s h hk hd=>h.kp hk hd
 dom:=fun w D s h=>h.dom
 ok:=il
 load:=fun w D s fl k a n way h ho hl ha h1 h8 hw=>ZH a n way h ho hl ha h1 h8 hw
 store:=fun w D s fl k a d h ho hl ha h1 h8=>WY a d h ho hl ha h1 h8
 map:=fun w D s fl k p n q h ho hl hp hn=>ab2 p n q h ho hl hp hn
 pC:=fun w D s fl k p n h ho hl hp hn=>WW p n h ho hl hp hn
 jx:=fun w D s fl k p n q h ho hl hp hn=>Rn p n q h ho hl hp hn
 fork:=fun w D s fl k h ho hl=>ZJ h ho hl
 drop:=fun w D s fl k h ho hl=>ZL h ho hl
open Go.RowKit
theorem Rk (l:List bO) (o:List tI) (lv:Nat->Bool) (ar ao:Option Addr) (cr co P:Nat) (w:World) (h:wN w ar l) (ho:ED w ao o) (hn:l.length<=140737488351232) (hno:o.length<=140737488351232)
  (hlv:∀k,k<l.length->∀V,Below w.heap.size w V->Calls Tryz.prog 89 #[I (k:Int),.pointer (some (Ad P 0))] V fun e w'=>e=.returned (.bool (lv k))/\Below V.heap.size V w') :
  Calls Tryz.prog 88 #[.slice ar l.length cr,.slice ao o.length co,.func (.func 89) #[] #[.pointer (some (Ad P 0))]] w fun e w'=>e=.returned (.bool (jI l o lv))/\Below w.heap.size w w':=by
 have HH:=ai h;have HO:=ai ho;have T4:=ai hlv;have HPS:Hid (∀k,kz l lv (k+1)=(kz l lv k&&vE l lv k)):=fun k=>rfl
 have HPF:Hid (∀k,k<=l.length->kz l lv k=false->jI l o lv=false):=fun k hk e=>by
  unfold jI;rw[GL e _ hk,G7]
 have HWF:Hid (∀k,k<=o.length->ky o l.length k=false->jI l o lv=false):=fun k hk e=>by
  unfold jI;rw[GK e _ hk,Bool.and_false]
 have HYE:Hid (kz l lv l.length=true->ky o l.length o.length=true->jI l o lv=true):=fun h1 h2=>by
  unfold jI;rw[h1,h2];rfl
 obtain⟨A,hA⟩:=ex (jI l o lv);rw[<- hA] at HPF HWF HYE ⊢;clear h ho hlv hA;go_enter Tryz.func88,Tryz.ntmps88;go_wp2;go_loopw [13] (fun iv wr=>∃k:Nat,k<=l.length/\iv=I (k:Int)/\kz l lv k=true/\Below w.heap.size w wr) (fun iv _=>l.length-(intOf iv).toNat)
 case atStart=>exact⟨0,by omega,rfl,rfl,aK _ _⟩
 case round =>
  obtain⟨k,hk,rfl,hall,hb⟩:=hrel;have HB:=ai hb;have Yp:=ai hall;clear hall;by_cases hlt:k<l.length
  · obtain⟨b,off,hao,hbl,eY⟩:=(HH.o.below hb) (by omega);subst hao;obtain⟨c0,c1,c2,c3,c4,c5,c6,qF,c8,c9,c10,c11,c12⟩:=eY k hlt;have Mi:Hid (kz l lv (k+1)=(fA (aI l k)&&lv k==((aI l k).st==1))):=by
     show _=_;rw[HPS.o,Yp.o,tN];unfold vE;congr 2
    have ZW:=ai (HPF.o (k+1) (by omega));obtain⟨q,hq⟩:=ex (aI l k);rw[<- hq] at Mi c0 c1 c2 c3 c4 c5 c6 qF c8 c9 c10 c11 c12;have HRP:Hid (∀V,Calls Tryz.prog 146 #[.agg #[I (q.r 0),I (q.r 1),I (q.r 2),I (q.r 3),I (q.r 4),I (q.r 5),I (q.r 6),I (q.r 7),I q.pc,I q.st,I q.cd,I q.fk,I q.fa]] V fun e w'=>e=.returned (.bool (fA q))/\Below V.heap.size V w'):=fun V=>M7 q V
    have HLK:=ai (T4.o k hlt);obtain⟨L,hL⟩:=ex (lv k);rw[<- hL] at Mi HLK;obtain⟨T,hT⟩:=ex (fA q);rw[<- hT] at Mi HRP;clear hq hL hT eY hb;have jk:=ai (HB.o.alloc HB.o.size (.cells #[I (q.r 0),I (q.r 1),I (q.r 2),I (q.r 3),I (q.r 4),I (q.r 5),I (q.r 6),I (q.r 7),I q.pc,I q.st,I q.cd,I q.fk,I q.fa] 77));go_wp2_with fail
    obtain⟨W,hW⟩:=ex (wr.alloc (.cells #[I (q.r 0),I (q.r 1),I (q.r 2),I (q.r 3),I (q.r 4),I (q.r 5),I (q.r 6),I (q.r 7),I q.pc,I q.st,I q.cd,I q.fk,I q.fa] 77));have HW:=ai hW;have hs:W.heap.size=wr.heap.size+1:=by rw[hW];simp
    have CM:=jt W;have hkc:=@fR W;have e0:∀x:dW W.heap.size W,x.world.cell? (Ad wr.heap.size 0)=some (I (q.r 0)):=fun x=>by rw[hkc x _ _ (by omega),hW];simp
    have e1:∀x:dW W.heap.size W,x.world.cell? (Ad wr.heap.size 1)=some (I (q.r 1)):=fun x=>by rw[hkc x _ _ (by omega),hW];simp
    have e2:∀x:dW W.heap.size W,x.world.cell? (Ad wr.heap.size 2)=some (I (q.r 2)):=fun x=>by rw[hkc x _ _ (by omega),hW];simp
    have e3:∀x:dW W.heap.size W,x.world.cell? (Ad wr.heap.size 3)=some (I (q.r 3)):=fun x=>by rw[hkc x _ _ (by omega),hW];simp
    have e4:∀x:dW W.heap.size W,x.world.cell? (Ad wr.heap.size 4)=some (I (q.r 4)):=fun x=>by rw[hkc x _ _ (by omega),hW];simp
    have e5:∀x:dW W.heap.size W,x.world.cell? (Ad wr.heap.size 5)=some (I (q.r 5)):=fun x=>by rw[hkc x _ _ (by omega),hW];simp
    have e6:∀x:dW W.heap.size W,x.world.cell? (Ad wr.heap.size 6)=some (I (q.r 6)):=fun x=>by rw[hkc x _ _ (by omega),hW];simp
    have e7:∀x:dW W.heap.size W,x.world.cell? (Ad wr.heap.size 7)=some (I (q.r 7)):=fun x=>by rw[hkc x _ _ (by omega),hW];simp
    have e8:∀x:dW W.heap.size W,x.world.cell? (Ad wr.heap.size 8)=some (I q.pc):=fun x=>by rw[hkc x _ _ (by omega),hW];simp
    have e9:∀x:dW W.heap.size W,x.world.cell? (Ad wr.heap.size 9)=some (I q.st):=fun x=>by rw[hkc x _ _ (by omega),hW];simp
    have e10:∀x:dW W.heap.size W,x.world.cell? (Ad wr.heap.size 10)=some (I q.cd):=fun x=>by rw[hkc x _ _ (by omega),hW];simp
    have e11:∀x:dW W.heap.size W,x.world.cell? (Ad wr.heap.size 11)=some (I q.fk):=fun x=>by rw[hkc x _ _ (by omega),hW];simp
    have e12:∀x:dW W.heap.size W,x.world.cell? (Ad wr.heap.size 12)=some (I q.fa):=fun x=>by rw[hkc x _ _ (by omega),hW];simp
    have JG:Hid (Below w.heap.size w W):=by show Below _ _ _;rw[hW];exact jk.o
    clear hW hs hkc c0 c1 c2 c3 c4 c5 c6 qF c8 c9 c10 c11 c12;rw[<- HW.o];have Fb:Hid (∀x:dW W.heap.size W,Calls Tryz.prog 146 #[.agg #[I (q.r 0),I (q.r 1),I (q.r 2),I (q.r 3),I (q.r 4),I (q.r 5),I (q.r 6),I (q.r 7),I q.pc,I q.st,I q.cd,I q.fk,I q.fa]] x.world fun e w'=>e=.returned (.bool T)/\∃y:dW W.heap.size W,w'=y.world):=fun x=>gm HRP.o x
    have Bz:Hid (∀x:dW W.heap.size W,Calls Tryz.prog 89 #[I (k:Int),.pointer (some (Ad P 0))] x.world fun e w'=>e=.returned (.bool L)/\∃y:dW W.heap.size W,w'=y.world):=fun x=>(HLK.o x.world (bH JG.o x.keeps)).mono fun e w'' ⟨he,hb⟩=>⟨he,⟨w'',x.keeps.trans (hb.mono x.keeps.size)⟩,rfl⟩
    clear HRP HLK;cases T with
    | false =>
     have TR:=ai (ZW.o (by rw[Mi.o,G7]));clear Mi ZW;refine dA (by kernel_rfl) (by kernel_rfl) ?_
     repeat (first | go_big_quiet_step ((first | (go_at_call 146;exact Fb.o _) | (go_at_call 89;exact Bz.o _))) | quiet_step ((first | (go_at_call 146;exact Fb.o _) | (go_at_call 89;exact Bz.o _))))
     refine jo ?_;intro _ hw';obtain⟨x,hw''⟩:=hw';subst hw'';go_wp2;go_ret;exact⟨qT TR.o.symm,bH JG.o x.keeps⟩
    | true =>
     rw[tN] at Mi;obtain⟨S,hS⟩:∃S,(q.st==1)=S:=⟨_,rfl⟩;rw[hS] at Mi;cases L with
     | false =>
      cases S with
      | false =>
       have HY2:Hid (kz l lv (k+1)=true):=Mi;clear Mi ZW;refine dA (by kernel_rfl) (by kernel_rfl) ?_
       repeat (first | go_big_quiet_step ((first | (go_at_call 146;exact Fb.o _) | (go_at_call 89;exact Bz.o _))) | quiet_step ((first | (go_at_call 146;exact Fb.o _) | (go_at_call 89;exact Bz.o _))))
       refine jo ?_;intro _ hw';obtain⟨x,hw''⟩:=hw';subst hw'';go_wp2;go_roundw
       case rel=>exact⟨k+1,by omega,by go_num,HY2.o,bH JG.o x.keeps⟩
       case measure=>simp[intOf];omega
      | true =>
       have TR:=ai (ZW.o Mi.o);clear Mi ZW;refine dA (by kernel_rfl) (by kernel_rfl) ?_
       repeat (first | go_big_quiet_step ((first | (go_at_call 146;exact Fb.o _) | (go_at_call 89;exact Bz.o _))) | quiet_step ((first | (go_at_call 146;exact Fb.o _) | (go_at_call 89;exact Bz.o _))))
       refine jo ?_;intro _ hw';obtain⟨x,hw''⟩:=hw';subst hw'';go_wp2;go_ret;exact⟨qT TR.o.symm,bH JG.o x.keeps⟩
     | true =>
      cases S with
      | true =>
       have HY2:Hid (kz l lv (k+1)=true):=Mi;clear Mi ZW;refine dA (by kernel_rfl) (by kernel_rfl) ?_
       repeat (first | go_big_quiet_step ((first | (go_at_call 146;exact Fb.o _) | (go_at_call 89;exact Bz.o _))) | quiet_step ((first | (go_at_call 146;exact Fb.o _) | (go_at_call 89;exact Bz.o _))))
       refine jo ?_;intro _ hw';obtain⟨x,hw''⟩:=hw';subst hw'';go_wp2;go_roundw
       case rel=>exact⟨k+1,by omega,by go_num,HY2.o,bH JG.o x.keeps⟩
       case measure=>simp[intOf];omega
      | false =>
       have TR:=ai (ZW.o Mi.o);clear Mi ZW;refine dA (by kernel_rfl) (by kernel_rfl) ?_
       repeat (first | go_big_quiet_step ((first | (go_at_call 146;exact Fb.o _) | (go_at_call 89;exact Bz.o _))) | quiet_step ((first | (go_at_call 146;exact Fb.o _) | (go_at_call 89;exact Bz.o _))))
       refine jo ?_;intro _ hw';obtain⟨x,hw''⟩:=hw';subst hw'';go_wp2;go_ret;exact⟨qT TR.o.symm,bH JG.o x.keeps⟩
  · obtain rfl:k=l.length:=by omega
    have aqt:=ai (HYE.o Yp.o);clear hb HYE HPF HPS T4 Yp;go_wp2;go_loopw [33] (fun iv wq=>∃j:Nat,j<=o.length/\iv=I (j:Int)/\ky o l.length j=true/\Below w.heap.size w wq) (fun iv _=>o.length-(intOf iv).toNat)
    case atStart=>exact⟨0,by omega,rfl,rfl,HB.o⟩
    case round =>
     obtain⟨j,hj,rfl,hall,hbj⟩:=hrel;have HBJ:=ai hbj;have HAJ:=ai hall;clear hall HB;by_cases J6:j<o.length
     · obtain⟨b,off,hao,hbl,eY⟩:=(HO.o.below hbj) (by omega);subst hao;obtain⟨c0,c1⟩:=eY j J6;have HWK:Hid (ky o l.length (j+1)=decide (0<=(pP o j).proc/\(pP o j).proc<(l.length:Int))):=by
        show(ky o l.length j&&_)=_;rw[HAJ.o,tN];rfl
       have agr:=ai (HWF.o (j+1) (by omega));obtain⟨⟨wp,wv⟩,hq⟩:∃q,q=pP o j:=⟨_,rfl⟩;rw[<- hq] at HWK c0 c1;simp only at c0 c1;have aen:Hid (ky o l.length (j+1)=decide (0<=wp/\wp<(l.length:Int))):=HWK;clear hq eY hbj HAJ HWK;have jk:=ai (HBJ.o.alloc HBJ.o.size (.cells #[I wp,I wv] 91));by_cases h0:wp<0
       · have TR:=ai (agr.o (by rw[aen.o];simp;omega));clear aen agr;go_wp2;go_ret;exact⟨qT TR.o.symm,jk.o⟩
       · by_cases h1:(l.length:Int)<=wp
         · have TR:=ai (agr.o (by rw[aen.o];simp;omega));clear aen agr;go_wp2;go_ret;exact⟨qT TR.o.symm,jk.o⟩
         · have HY2:Hid (ky o l.length (j+1)=true):=by show _=_;rw[aen.o];simp;omega
           clear aen agr;go_wp2;go_roundw
           case rel=>exact⟨j+1,by omega,by go_num,HY2.o,jk.o⟩
           case measure=>simp[intOf];omega
     · obtain rfl:j=o.length:=by omega
       have HY2:=ai (aqt.o HAJ.o);clear hbj;go_wp2;go_ret;exact⟨qT HY2.o.symm,HBJ.o⟩
open Go.RowKit
structure gQ where
 fF:aR
 procs:List bO
 out:List tI
def gP (m:gQ):Int:=if ¬fV m.fF=0 then fV m.fF else if 2000<m.out.length then 2 else if m.procs.length=m.fF.aj.length/\jI m.procs m.out (fun k=>(ak m.fF.aj k).live)=true then 0 else 1
structure ry (w:World) (a:iH) (ar ao:Option Addr) (m:gQ):Prop where
 fF:jg w a m.fF
 procs:wN w ar m.procs
 out:ED w ao m.out
theorem ry.below {w w':World} {a:iH} {ar ao:Option Addr} {m:gQ} (h:ry w a ar ao m) (hb:Below w.heap.size w w'):ry w' a ar ao m:=⟨h.fF.below hb,h.procs.below hb,h.out.below hb⟩
structure Bu (m:gQ):Prop where
 fF:nZ m.fF
 procs:b7 m.procs.length
 out:b7 m.out.length
def eW (m:gQ) (a:iH) (ar ao:Option Addr) (cr co:Nat):Array Value:=#[.slice a.aS m.fF.aM.length a.cS,.slice a.aF m.fF.frames.length a.cF,.slice a.aL m.fF.slots.length a.cL,.slice a.aP m.fF.aj.length a.cP,I m.fF.hand,.slice ar m.procs.length cr,.slice ao m.out.length co]
theorem qF {w:World} {b:Nat} {ZG a1 a2 a3 a4 a5 a6:Value} {t:TypeId} (h:w.heap[b]?=some (.cells #[ZG,a1,a2,a3,a4,a5,a6] t (0,0))):w.cell? (Ad b 0)=some ZG/\w.cell? (Ad b 1)=some a1/\w.cell? (Ad b 2)=some a2/\w.cell? (Ad b 3)=some a3/\w.cell? (Ad b 4)=some a4/\w.cell? (Ad b 5)=some a5/\w.cell? (Ad b 6)=some a6:=⟨aq h 0 rfl,aq h 1 rfl,aq h 2 rfl,aq h 3 rfl,aq h 4 rfl,aq h 5 rfl,aq h 6 rfl⟩
theorem WV (l:List cZ) (az:Option Addr) (cs P k:Nat) (w:World) (h:Aa w az l) (hk:k<l.length) (hn:l.length<=140737488351232) (hP:w.cell? (Ad P 3)=some (.slice az l.length cs)) :
  Calls Tryz.prog 89 #[I (k:Int),.pointer (some (Ad P 0))] w fun e w'=>e=.returned (.bool (ak l k).live)/\Below w.heap.size w w':=by
 obtain⟨b,off,hao,hbl,eY⟩:=h (by omega);subst hao;obtain⟨va,ap,cp,c0,c1,c2,c3,c4,c5⟩:=eY k hk;clear eY c1 c2 c3 c4 c5 h;obtain⟨lv,hlv⟩:=ex ((ak l k).live);rw[<- hlv] at c0 ⊢;clear hlv;go_enter Tryz.func89,Tryz.ntmps89;go_wp2;go_ret;exact⟨rfl,aK _ _⟩
theorem Lx (m:gQ) (a:iH) (ar ao:Option Addr) (cr co:Nat) (w:World) (h:ry w a ar ao m) (hf:Bu m) :
  Calls Tryz.prog 41 #[.agg (eW m a ar ao cr co)] w fun e w'=>e=.returned (.bool (decide (m.procs.length=m.fF.aj.length/\jI m.procs m.out (fun k=>(ak m.fF.aj k).live)=true)))/\Below w.heap.size w w':=by
 have yn:=hf.procs;have hns:=hf.fF.np;have hno:=hf.out;unfold b7 at yn hns hno;have Hu:Hid (m.procs.length=m.fF.aj.length->∀P V,Below w.heap.size w V->V.heap[P]?=some (.cells (eW m a ar ao cr co) 34 (0,0))->Calls Tryz.prog 88 #[.slice ar m.procs.length cr,.slice ao m.out.length co,.func (.func 89) #[] #[.pointer (some (Ad P 0))]] V fun e w'=>e=.returned (.bool (jI m.procs m.out (fun k=>(ak m.fF.aj k).live)))/\Below V.heap.size V w'):=fun hl P V hV hP =>
  Rk m.procs m.out (fun k=>(ak m.fF.aj k).live) ar ao cr co P V (h.procs.below hV) (h.out.below hV) (by omega) (by omega) (fun k hk U hU=>WV m.fF.aj a.aP a.cP P k U (h.fF.aj.below (bH hV hU)) (by omega) (by omega) ((hU.cell (p:=(Ad P 3)) (aJ hP)).trans (aq hP 3 rfl)))
 have gB:=ai ((aK w.heap.size w).alloc (aD _) (.cells (eW m a ar ao cr co) 34));have X0:=ai (bB w (eW m a ar ao cr co) 34);obtain⟨R,hR⟩:=ex (jI m.procs m.out (fun k=>(ak m.fF.aj k).live));rw[<- hR] at Hu ⊢;unfold eW at Hu gB X0 ⊢;obtain⟨ns,aaY⟩:=ex m.fF.aj.length;obtain⟨np,P7⟩:=ex m.procs.length;obtain⟨no,Mn⟩:=ex m.out.length;obtain⟨n0,hn0⟩:∃n,n=m.fF.aM.length:=⟨_,rfl⟩;obtain⟨n1,Ur⟩:∃n,n=m.fF.frames.length:=⟨_,rfl⟩;obtain⟨n2,Hh⟩:∃n,n=m.fF.slots.length:=⟨_,rfl⟩;obtain⟨n4,Fk⟩:∃n,n=m.fF.hand:=⟨_,rfl⟩;rw[<- aaY,<- P7,<- Mn,<- hn0,<- Ur,<- Hh,<- Fk] at Hu gB X0 ⊢;rw[<- aaY] at hns;rw[<- P7] at yn;clear h hf hR aaY P7 Mn hn0 Ur Hh Fk hno;by_cases c:np=ns
 · have Fb:=ai (Hu.o c);subst c;clear Hu;go_enter Tryz.func41,Tryz.ntmps41;go_wp2_with (go_at_call 88;refine(Fb.o _ _ gB.o X0.o).mono ?_;rintro e w1 ⟨rfl,hb1⟩;have cH:=ai (bH gB.o hb1);clear hb1)
   go_ret;exact⟨qT (by simp),cH.o⟩
 · have cb:((np:Int)==(ns:Int))=false:=by rw[kF];omega
   have e:decide (np=ns/\R=true)=false:=by simp[c]
   rw[e];clear c e Hu;go_enter Tryz.func41,Tryz.ntmps41;go_wp2;go_ret;exact⟨qT rfl,gB.o⟩
theorem Lz (m:gQ) (a:iH) (ar ao:Option Addr) (cr co:Nat) (w:World) (h:ry w a ar ao m) (hf:Bu m) :
  Calls Tryz.prog 15 #[.agg (eW m a ar ao cr co)] w fun e w'=>e=.returned (I (gP m))/\Below w.heap.size w w':=by
 have hno:=hf.out;unfold b7 at hno;have Cv:Hid (∀V,Below w.heap.size w V->Calls Tryz.prog 40 #[.agg (bc a m.fF)] V fun e w'=>e=.returned (I (fV m.fF))/\Below V.heap.size V w'):=fun V hV=>Wu m.fF a V (h.fF.below hV) hf.fF
 have HRP:Hid (∀V,Below w.heap.size w V->Calls Tryz.prog 41 #[.agg (eW m a ar ao cr co)] V fun e w'=>e=.returned (.bool (decide (m.procs.length=m.fF.aj.length/\jI m.procs m.out (fun k=>(ak m.fF.aj k).live)=true)))/\Below V.heap.size V w'):=fun V hV=>Lx m a ar ao cr co V (h.below hV) hf
 have gB:=ai ((aK w.heap.size w).alloc (aD _) (.cells (eW m a ar ao cr co) 34));have X0:=ai (bB w (eW m a ar ao cr co) 34);obtain⟨R,hR⟩:=ex (decide (m.procs.length=m.fF.aj.length/\jI m.procs m.out (fun k=>(ak m.fF.aj k).live)=true));obtain⟨ck,Hj⟩:=ex (fV m.fF);have HA:Hid (gP m=if ¬ck=0 then ck else if 2000<m.out.length then 2 else if R=true then 0 else 1):=by
  show _=_;rw[Hj,hR];unfold gP;simp only[lh]
 obtain⟨A,hA⟩:=ex (gP m);rw[<- hA] at HA ⊢;rw[<- hR] at HRP;rw[<- Hj] at Cv;unfold eW at HRP gB X0 ⊢;unfold bc at Cv;obtain⟨ns,aaY⟩:=ex m.fF.aj.length;obtain⟨np,P7⟩:=ex m.procs.length;obtain⟨no,Mn⟩:=ex m.out.length;obtain⟨n0,hn0⟩:∃n,n=m.fF.aM.length:=⟨_,rfl⟩;obtain⟨n1,Ur⟩:∃n,n=m.fF.frames.length:=⟨_,rfl⟩;obtain⟨n2,Hh⟩:∃n,n=m.fF.slots.length:=⟨_,rfl⟩;obtain⟨n4,Fk⟩:∃n,n=m.fF.hand:=⟨_,rfl⟩;rw[<- aaY,<- P7,<- Mn,<- hn0,<- Ur,<- Hh,<- Fk] at HRP gB X0 ⊢;rw[<- aaY,<- hn0,<- Ur,<- Hh,<- Fk] at Cv;rw[<- Mn] at HA hno;clear h hf hR aaY P7 Mn hn0 Ur Hh Fk hA Hj;by_cases c:ck=0
 · subst c;by_cases c2:2000<no
   · have E1:Hid (A=2):=by show _=_;rw[HA.o,au (fun g=>g rfl),aB c2]
     clear HA HRP;go_enter Tryz.func15,Tryz.ntmps15;go_wp2_with (go_at_call 40;refine(Cv.o _ gB.o).mono ?_;rintro e w1 ⟨rfl,hb1⟩;have cH:=ai (bH gB.o hb1);have X1:=ai (aN X0.o hb1 (aJ X0.o));clear hb1;obtain⟨x0,x1,x2,x3,x4,x5,x6⟩:=qF X1.o)
     go_ret;exact⟨by rw[E1.o];rfl,cH.o⟩
   · have E1:Hid (A=if R=true then 0 else 1):=by show _=_;rw[HA.o,au (fun g=>g rfl),au c2]
     clear HA;cases R with
     | false =>
      have Cw:Hid (A=1):=E1.o;clear E1;go_enter Tryz.func15,Tryz.ntmps15;go_wp2_with (first
       | (go_at_call 40;refine(Cv.o _ gB.o).mono ?_;rintro e w1 ⟨rfl,hb1⟩;have cH:=ai (bH gB.o hb1);have X1:=ai (aN X0.o hb1 (aJ X0.o));clear hb1;obtain⟨x0,x1,x2,x3,x4,x5,x6⟩:=qF X1.o)
       | (go_at_call 41;refine(HRP.o _ cH.o).mono ?_;rintro e w2 ⟨rfl,hb2⟩;have gK:=ai (bH cH.o hb2);clear hb2))
      go_ret;exact⟨by rw[Cw.o];rfl,gK.o⟩
     | true =>
      have Cw:Hid (A=0):=E1.o;clear E1;go_enter Tryz.func15,Tryz.ntmps15;go_wp2_with (first
       | (go_at_call 40;refine(Cv.o _ gB.o).mono ?_;rintro e w1 ⟨rfl,hb1⟩;have cH:=ai (bH gB.o hb1);have X1:=ai (aN X0.o hb1 (aJ X0.o));clear hb1;obtain⟨x0,x1,x2,x3,x4,x5,x6⟩:=qF X1.o)
       | (go_at_call 41;refine(HRP.o _ cH.o).mono ?_;rintro e w2 ⟨rfl,hb2⟩;have gK:=ai (bH cH.o hb2);clear hb2))
      go_ret;exact⟨by rw[Cw.o];rfl,gK.o⟩
 · have E1:Hid (A=ck):=by show _=_;rw[HA.o,aB c]
   have cb:(ck==0)=false:=by grind
   clear c HA HRP;go_enter Tryz.func15,Tryz.ntmps15;go_wp2_with (go_at_call 40;refine(Cv.o _ gB.o).mono ?_;rintro e w1 ⟨rfl,hb1⟩;have cH:=ai (bH gB.o hb1);clear hb1)
   go_ret;exact⟨by rw[E1.o];rfl,cH.o⟩
open Go.RowKit
variable {σ:Type} {Hd:World->(Nat->Prop)->σ->Prop} {Ok:σ->List Bool->Prop} {o:gH σ} {lo mb gb:Nat} {D:Nat->Prop} {vr vo:Value} {st:df σ}
theorem ZO (C:iC lo mb Hd Ok o) (k:Nat) (w:World) (h:fH Hd lo mb gb w D vr vo st) (hok:dh Ok st) (hk:k<st.ps.length) (h1:(aI st.ps k).st=1) :
  Calls Tryz.prog 218 #[.pointer (some (Ad gb 0)),I (k:Int)] w fun e w'=>e=.returned (I (eu o st k 5).1)/\cE Hd lo mb gb w D vr vo (eu o st k 5).2 w':=by
 have HG:=ai h;have HC:=ai C;have HFK:=ai (C.fork w D st.mem _ k h.mem hok.mem (iu k hk h1));have g0:w.cell? (Ad gb 0)=some (.iface 183 (.pointer (some (Ad mb 0)))):=aq h.head 0 rfl;have hmF:=TH (Ad mb 0);have haF:=W8 (Ad mb 0);have hkl:k<9223372036854775807:=by have:=C.ok.few _ _ hok.mem;unfold bV at this;rw[ie] at this;omega
 obtain⟨fv,hfv⟩:=ex ((o.fork st.mem k).1);have HCA:Hid (eu o st k 5=if fv=0 then ((st.ps.length:Int),{ st with mem:=(o.fork st.mem k).2,ps:=st.ps++[aI st.ps k] }) else (-1,{ st with mem:=(o.fork st.mem k).2 })):=by rw[hfv];exact rfl
 rw[<- hfv] at HFK;obtain⟨fm,hfm⟩:=ex ((o.fork st.mem k).2);rw[<- hfm] at HFK HCA;obtain⟨R,hR⟩:=ex (eu o st k 5);rw[<- hR] at HCA ⊢;clear h C hfv hfm hR;by_cases hf0:fv=0
 · subst hf0;have HR:Hid (R=((st.ps.length:Int),{ st with mem:=fm,ps:=st.ps++[aI st.ps k] })):=by rw[HCA.o,aB rfl];exact rfl
   clear HCA;go_enter Tryz.func218,Tryz.ntmps218;go_wp2_with (go_at_call 253;refine HFK.o.mono ?_;rintro e w1 ⟨D1,rfl,ni,hk1,hd1⟩;have Yn:=ai (HG.o.turn HC.o ni hk1 hd1);have vI:=ai hk1;have HD1:=ai hd1;clear ni hk1 hd1;have e1:=aq (v:=vr) Yn.o.head 1 rfl)
   obtain⟨pb,cap,E6,hpb,hpc,P6⟩:=Yn.o.proc k hk;have HVR:=ai E6;have mD:=ai hpc;have HST:=ai HR.o;obtain⟨q,hq⟩:=ex (aI st.ps k);simp only at mD;rw[<- hq] at mD HST;have Fk:st.ps.length<=4:=by have:=HC.o.ok.few _ _ hok.mem;unfold bV at this;rw[ie] at this;exact this
   obtain⟨n,hn⟩:=ex st.ps.length;simp only at HVR E6;rw[<- hn] at HVR E6 Fk hk;have HN:=ai hn;subst E6;have Jj:(k:Int)<(n:Int):=by omega
   clear hq hn hpc P6 HR hok h1;have c0:w1.cell? (Ad pb (k*13))=some (I (q.r 0)):=mD.o 0 (by omega);have c1:w1.cell? (Ad pb (k*13+1))=some (I (q.r 1)):=mD.o 1 (by omega);have c2:w1.cell? (Ad pb (k*13+2))=some (I (q.r 2)):=mD.o 2 (by omega);have c3:w1.cell? (Ad pb (k*13+3))=some (I (q.r 3)):=mD.o 3 (by omega);have c4:w1.cell? (Ad pb (k*13+4))=some (I (q.r 4)):=mD.o 4 (by omega);have c5:w1.cell? (Ad pb (k*13+5))=some (I (q.r 5)):=mD.o 5 (by omega);have c6:w1.cell? (Ad pb (k*13+6))=some (I (q.r 6)):=mD.o 6 (by omega);have c7:w1.cell? (Ad pb (k*13+7))=some (I (q.r 7)):=mD.o 7 (by omega);have c8:w1.cell? (Ad pb (k*13+8))=some (I q.pc):=mD.o 8 (by omega);have c9:w1.cell? (Ad pb (k*13+9))=some (I q.st):=mD.o 9 (by omega);have c10:w1.cell? (Ad pb (k*13+10))=some (I q.cd):=mD.o 10 (by omega);have c11:w1.cell? (Ad pb (k*13+11))=some (I q.fk):=mD.o 11 (by omega);have c12:w1.cell? (Ad pb (k*13+12))=some (I q.fa):=mD.o 12 (by omega);have e1a:∀ob,(w1.alloc ob).cell? (Ad gb 1)=some (.slice (some (Ad pb 0)) n cap):=fun ob=>aq (bk Yn.o.head ob) 1 rfl
   obtain⟨i0,hin,hz0,hz1,hz2⟩:=jy U5;have Eu:=ai hin;have Ia:=ai hz0;have E9:=ai hz1;have yZ:=ai hz2;have HOW:Hid ((w1.alloc (.cells #[I (q.r 0),I (q.r 1),I (q.r 2),I (q.r 3),I (q.r 4),I (q.r 5),I (q.r 6),I (q.r 7),I q.pc,I q.st,I q.cd,I q.fk,I q.fa] 77)).ownsRow lo 77 13 (.slice (some (Ad pb 0)) n cap) n (st.ps.flatMap bN)):=by
    have:=Yn.o.procs.alloc (.cells #[I (q.r 0),I (q.r 1),I (q.r 2),I (q.r 3),I (q.r 4),I (q.r 5),I (q.r 6),I (q.r 7),I q.pc,I q.st,I q.cd,I q.fk,I q.fa] 77);simp only at this;rw[<- HN.o] at this;exact this
   have HLO:Hid (lo<=(w1.alloc (.cells #[I (q.r 0),I (q.r 1),I (q.r 2),I (q.r 3),I (q.r 4),I (q.r 5),I (q.r 6),I (q.r 7),I q.pc,I q.st,I q.cd,I q.fk,I q.fa] 77)).heap.size):=by show _<=_;rw[gh];have:=Yn.o.base;have:=aJ Yn.o.head;omega
   have HNW:Hid (0<1->∃ad,some ((Ad w1.heap.size 0):Addr)=some ad/\∀j u,(bN q)[j]?=some u->((w1.alloc (.cells #[I (q.r 0),I (q.r 1),I (q.r 2),I (q.r 3),I (q.r 4),I (q.r 5),I (q.r 6),I (q.r 7),I q.pc,I q.st,I q.cd,I q.fk,I q.fa] 77)).drew).cell? (ad.add j)=some u):=fun _=>⟨_,rfl,GR (w:=(w1.alloc (.cells #[I (q.r 0),I (q.r 1),I (q.r 2),I (q.r 3),I (q.r 4),I (q.r 5),I (q.r 6),I (q.r 7),I q.pc,I q.st,I q.cd,I q.fk,I q.fa] 77)).drew) (bB w1 #[I (q.r 0),I (q.r 1),I (q.r 2),I (q.r 3),I (q.r 4),I (q.r 5),I (q.r 6),I (q.r 7),I q.pc,I q.st,I q.cd,I q.fk,I q.fa] 77)⟩
   clear hin hz0 hz1 hz2 mD
   go_region_law (refine Aq (P:=Tryz.prog) rfl _ _ 31 rfl lo 77 i0 (.agg #[I 0,I 0,I 0,I 0,I 0,I 0,I 0,I 0,I 0,I 0,I 0,I 0,I 0]) 13 104 Tryz.underlying31 Eu.o Ia.o E9.o yZ.o rfl (by decide) (.slice (some (Ad pb 0)) n cap) n (st.ps.flatMap bN) rfl HOW.o.drew (some (Ad w1.heap.size 0)) 1 1 (bN q) rfl rfl HNW.o (by intro u hu;simp[bN] at hu;rcases hu with rfl | rfl | rfl | rfl | rfl | rfl | rfl | rfl | rfl | rfl | rfl | rfl | rfl <;> rfl) (by unfold maxLen;omega) (by omega) HLO.o ?_;intro v3 w4 hown hgr hat;obtain⟨a4,c4,rfl,_⟩:=bg hown;have agA:=ai hown;have agN:Hid ((w1.alloc _).grownBy w4 _):=⟨hgr.os,hgr.tape,hgr.output,hgr.size,hgr.block⟩;have akQ:=ai hat;have hM4:=H6 (bk Yn.o.head (.cells #[I (q.r 0),I (q.r 1),I (q.r 2),I (q.r 3),I (q.r 4),I (q.r 5),I (q.r 6),I (q.r 7),I q.pc,I q.st,I q.cd,I q.fk,I q.fa] 77)) agN.o (fun e=>Yn.o.n2 e.symm);have y1:w4.cell? (Ad gb 1)=some (.slice (some (Ad pb 0)) n cap):=aq hM4 1 rfl;have y2:w4.frozen? (Ad gb 1)=false:=aO hM4 1;clear hown hgr hat hM4)
   all_goals
    go_wp2;go_ret;have hp:=Yn.o.alx HC.o (p:=q) agN.o (by show w4.ownsRow lo _ 13 _ (st.ps.length+1) (st.ps.flatMap bN++bN q);rw[<- HN.o];exact agA.o) akQ.o;rw[HST.o];refine⟨by rw[<- HN.o];go_num,?_⟩;obtain⟨hA,hB⟩:aC (kK gb D (.slice (some (Ad pb 0)) n cap) vo) w w1/\∀b,kK gb D1 (.slice (some (Ad pb 0)) n cap) vo b->kK gb D (.slice (some (Ad pb 0)) n cap) vo b∨w.heap.size<=b:=⟨vI.o.mono (fun b _ g=>.inr (.inl g)),fun b hb=>by
     rcases hb with g | g | g | g
     · exact .inl (.inl g)
     · rcases HD1.o b g with x | x
       · exact .inl (.inr (.inl x))
       · exact .inr x
     · exact .inl (.inr (.inr (.inl g)))
     · exact .inl (.inr (.inr (.inr g)))⟩
    exact cE.trans hA hB hp
 · have HR:Hid (R=(-1,{ st with mem:=fm })):=by rw[HCA.o,au hf0];exact rfl
   have hfi:(fv==0)=false:=by rw[kF];exact hf0
   clear HCA hf0;go_enter Tryz.func218,Tryz.ntmps218;go_wp2_with (go_at_call 253;refine HFK.o.mono ?_;rintro e w1 ⟨D1,rfl,ni,hk1,hd1⟩;have HL1:=ai (cE.Fg HC.o HG.o ni hk1 hd1);clear ni hk1 hd1)
   go_ret;rw[HR.o];exact⟨rfl,HL1.o⟩
end Go.Proofs.YtlgoihmkgaaemaaGreat
