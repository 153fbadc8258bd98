import Derived.Test.YtlgoihmkgaaemaaGreatGP23
set_option maxHeartbeats 20000000
set_option linter.unusedVariables false
set_option maxRecDepth 100000
set_option linter.unusedSimpArgs false
namespace Go.Proofs.YtlgoihmkgaaemaaGreat
open Go.RowKit Tryz
def jM (k:aT) (sp:Int) (r:List aU×Int):aT×Int:=if fR k sp≠0 then (gU,fR k sp) else if r.2≠0 then (gU,r.2) else if dJ k.aj-bR (ak k.aj sp.toNat).bu+bR r.1>(k.slots.length:Int) then (gU,8) else (lj k sp.toNat r.1,0)
theorem N8 (FE:si) (k:aT) (a:gN) (sp:Int) (w:World) (hK:iB w a k) (hF:kN k) (hsp:cR sp) (r:List aU×Int) (Qt:dG r.1) (F:FuncId) (E:List Value) (x y z:Nat)
  (hFE:(F=275/\E=[.pointer (some (Ad x 0)),.pointer (some (Ad y 0)),.pointer (some (Ad z 0))])\/(F=279/\E=[.pointer (some (Ad x 0)),.pointer (some (Ad y 0))])\/(F=276/\E=[.pointer (some (Ad x 0)),.pointer (some (Ad y 0)),.pointer (some (Ad z 0))]))
  (hC:∀V ao cap,Below w.heap.size w V->eN V (.slice ao (ak k.aj sp.toNat).bu.length cap) (ak k.aj sp.toNat).bu->dG (ak k.aj sp.toNat).bu->Calls prog F (Value.slice ao (ak k.aj sp.toNat).bu.length cap::E).toArray V λe w'=>∃ar nr cr,e=.returned (.tuple #[.slice ar nr cr,I r.2])/\eO V.heap.size w' (.slice ar nr cr) r.1/\Below V.heap.size V w') :
  Calls prog 274 #[.agg (bj a k),I sp,.func (.func F) #[] E.toArray] w (dY w (jM k sp r).1 [I (jM k sp r).2]):=by
 obtain⟨WA,lQ,B,kb,aw,rb⟩:=Xm w (bj a k) 30;obtain⟨k0,k1,k2,k3,k4⟩:=kj kb;have ot:=ai lQ;have eB:=ai B;have RB:=ai rb;have L:=yP k a sp WA (hK.below B) hF hsp;obtain⟨r1,C⟩:=r;simp only at Qt hC;generalize hP:dY w (jM k sp (r1,C)).1 [I (jM k sp (r1,C)).2]=P;by_cases c:fR k sp=0
 . obtain⟨hR,QF,hj,_⟩:=sH c;obtain⟨j,rfl⟩:∃j:Nat,sp=(j:Int):=⟨sp.toNat,ω⟩;rw[kq] at hj hC;have ah:=ai (Rl FE hK hF hR B);have zu:=ai (AB L c);have ov:∀{V:World},Below WA.heap.size WA V->Below w.heap.size w V:=λhV=>B.trans (hV.mono B.size)
   obtain⟨pb,po,a6,a8,Td⟩:=hK.aj ω;obtain⟨va,ap,cp,v0,v1,v2,ZV,ZU,_⟩:=Td j hj;obtain⟨aa,ca,rfl,_⟩:=id ZV;have a9:=xL k.aj k.aj.length;have ae:=hR.c;have G:=(hF.sp j hj).bu;have HJ:=ai hj;have au:(j:Int)<(k.aj.length:Int):=by omega
   have HA:Hid (P=if C≠0 then dY w gU [I C] else if (k.slots.length:Int)<dJ k.aj-bR (ak k.aj j).bu+bR r1 then dY w gU [I 8] else dY w (lj k j r1) [I 0]):=by
    rw[<- hP];unfold jM;rw[aH (λg=>g c),kq];split
    . rfl
    split <;> rfl
   have a7:=ai (λV (hV:Below WA.heap.size WA V)=>hC V aa ca (ov hV) (ZV.below (ov hV)) G);have M:=ai (λV (hV:Below WA.heap.size WA V)=>xk _ _ V (ZV.below (ov hV)) G);have a5:=ai (λV (hV:Below WA.heap.size WA V)=>((ov hV).cell (p:=(Ad pb (po+j*3+1))) a8).trans v1);have ad:Hid (ak (dn k j (kR r1)).aj j=eT (ak k.aj j) (iu (ak k.aj j).bl (kR r1))):=by
    rw[iW];exact fu _ _ _ _ hj
   have ac:=mI (ak k.aj j).bu;have HM:Hid (∀(V:World) mb,V.heap[mb]?=some (.cells (tY a k) 158 (0,0))->V.cell? (Ad mb 3)=some (.slice (some (Ad pb po)) k.aj.length a.cP)/\V.cell? (Ad mb 2)=some (.slice a.aL k.slots.length a.cL)):=λV mb h=>⟨a6 ▸ aA h 3 rfl,aA h 2 rfl⟩
   have Nr:=ai (λV mb (hV:Below WA.heap.size WA V) (hm:V.heap[mb]?=some (.cells (tY a k) 158 (0,0)))=>Eu k.aj a.aP a.cP mb V (hK.aj.below (ov hV)) (λi hi=>(hF.sp i hi).bu) ω (aA hm 3 rfl));have ag:Hid ((lj k j r1).aD=k.aD):=(wW k hj r1).1;have al:Hid (∀V S mb hs xb ar nr cr,cD k.aD hs->bO WA.heap.size mb 158 (jq k) V S (aV k hs)->S.lab xb=.no->V.heap[xb]?=some (.cells #[.slice ar nr cr] 22 (0,0))->eO WA.heap.size V (.slice ar nr cr) r1->(∀b,bN (.slice ar nr cr) b->S.lab b=.no)->Calls prog 268 #[.pointer (some (Ad mb 0)),I (j:Int),.func (.func 285) #[] #[.pointer (some (Ad xb 0))]] V (fP WA.heap.size mb 158 (jq k) V S (.tuple #[]) (aV (dn k j (kR r1)) hs))):=λV S mb hs xb ar nr cr hsame hV lx bx ox lr=>by
    rw[<- uW];exact CP 285 [.pointer (some (Ad xb 0))] xb (.inr (.inl ⟨rfl,rfl⟩)) (aV k hs) S V j (kR r1) hV (hR.Al hsame) hj (λV' e hV'=>TM r1 ar nr cr e xb V' (aA (hV'.keep bx (λg=>g lx)) 0 rfl) (eO.has (hV'.row ox (λb hb g=>g (lr b hb)))) Qt)
   have T:Hid (∀V ar nr cr,eN V (.slice ar nr cr) r1->Calls prog 70 #[.slice ar nr cr] V λe w'=>e=.returned (I (bR r1))/\Below V.heap.size V w'):=λV ar nr cr h=>xk _ _ V h Qt
   have an:=mI r1;have am:0<=dJ k.aj/\dJ k.aj<=65025*4:=by
    unfold dJ;omega
   generalize (ak k.aj j).bu.length=na at a7 M a5;generalize bR (ak k.aj j).bu=T1 at M ac HA;generalize bR r1=T2 at T an HA;generalize dJ k.aj=RM at Nr am HA;unfold bj at zu ot ⊢;clear hK hF hsp c hP lQ B kb rb L hR QF hj Td v0 v1 v2 ZV ZU G a6 ae a9 ov FE hC Qt;rcases hFE with⟨rfl,rfl⟩ | ⟨rfl,rfl⟩ | ⟨rfl,rfl⟩
   all_goals
    go_enter func274,ntmps274;go_upto_region 1 with fail;rw[ot.o];go_upto_region 6 with(first
     | (go_at_call 76;refine zu.o.mono ?_;rintro e w1 ⟨mb,rfl,h⟩;have H1:=ai h;have m:=HM.o _ _ h.2.1;have u:=a5.o _ h.2.2;clear h)
     | ((first | go_at_call 275 | go_at_call 279 | go_at_call 276);refine(a7.o _ H1.o.2.2).mono ?_;rintro e w2 ⟨ar,nr,cr,rfl,h⟩;have H2:=ai h;clear h))
    have M2:=ai (aO H1.o.2.1 H2.o.2 (aM H1.o.2.1));have kE:=ai ((H1.o.2.2.trans (H2.o.2.mono H1.o.2.2.size)).alloc (gj H1.o.2.2.size H2.o.2.size) (.cells #[.slice ar nr cr] 22));have B3:=ai (bG w2 #[.slice ar nr cr] 22);have O3:Hid (eO WA.heap.size (w2.alloc (.cells #[.slice ar nr cr] 22)) (.slice ar nr cr) _):=(aI.alloc (λ_=>False) _ _).row (H2.o.1.mono H1.o.2.2.size) (λ_ _ g=>g);have M3:=ai (bB M2.out (.cells #[.slice ar nr cr] 22));have a0:Hid (w2.heap.size≠mb):=(show w2.heap.size≠mb from λe=>by have:=aM M2.out;omega);have a4:Hid (∀b,bN (.slice ar nr cr) b->b≠mb):=(show ∀b,bN (.slice ar nr cr) b->b≠mb from λb hb e=>by have:=(H2.o.1.lt b hb).1;have:=aM H1.o.2.1;omega);generalize w2.alloc (.cells #[.slice ar nr cr] 22)=W3 at kE B3 O3 M3 ⊢;generalize w2.heap.size=xb at B3 a0 ⊢;clear m u;have a3:=ai (λV (hV:Below W3.heap.size W3 V)=>And.intro (RB.o _ (kE.o.trans (hV.mono kE.o.size))) (eB.o.trans ((kE.o.trans (hV.mono kE.o.size)).mono eB.o.size)));by_cases cm:C=0
    case neg =>
     have cb:(C != 0)=true:=by simpa using cm
     have R1:=ai (a3.o _ (aN _ _));have y:=kj R1.o.1;have f:=br R1.o.1;go_wp2;obtain rfl:=HA.o.trans (aQ cm);exact Az R1.o.1 R1.o.2
    subst cm;go_upto_region 8 with fail;have yL:=iH W3;have q1:∀x:cM W3.heap.size W3,x.world.cell? (Ad xb 0)=some (.slice ar nr cr):=λx=>aA (aO B3.o x.keeps (aM B3.o)) 0 rfl
    have q2:∀x:cM W3.heap.size W3,x.world.cell? (Ad mb 2)=some (.slice a.aL k.slots.length a.cL):=λx=>(HM.o _ _ (aO M3.out x.keeps (aM M3.out))).2
    have R:=ai (λV (hV:Below W3.heap.size W3 V)=>Nr.o V mb (kE.o.trans (hV.mono kE.o.size)) (aO M3.out hV (aM M3.out)));have U:=ai (λV (hV:Below W3.heap.size W3 V)=>M.o V (kE.o.trans (hV.mono kE.o.size)));have Y:=ai (λV (hV:Below W3.heap.size W3 V)=>T.o V ar nr cr (eO.has ((aI.cA (D:=λ_=>False) hV).row O3.o (λ_ _ g=>g))));refine cB κ κ ?_
    repeat (first | go_big_quiet_step ((first | (go_at_call 143;exact gZ _ R.o) | (go_at_call 70;with_reducible exact gZ _ U.o) | (go_at_call 70;with_reducible exact gZ _ Y.o))) | quiet_step ((first | (go_at_call 143;exact gZ _ R.o) | (go_at_call 70;with_reducible exact gZ _ U.o) | (go_at_call 70;with_reducible exact gZ _ Y.o))))
    refine fL ?_;rintro _ ⟨X,rfl⟩;clear yL q2 q1 R U Y Nr M T;by_cases cr':(k.slots.length:Int)<RM-T1+T2
    . have R1:=ai (a3.o _ X.keeps);have y:=kj R1.o.1;have f:=br R1.o.1;go_wp2;obtain rfl:=HA.o.trans ((aH (λg=>g rfl)).trans (aQ cr'));exact Az R1.o.1 R1.o.2
    have mh:=ai (kE.o.trans (X.keeps.mono kE.o.size));have MX:=ai (aO M3.out X.keeps (aM M3.out));have BX:=ai (aO B3.o X.keeps (aM B3.o));have OX:=ai ((aI.cA (D:=λ_=>False) X.keeps).row O3.o (λ_ _ g=>g));generalize X.world=WX at mh MX BX OX ⊢;go_upto_region 12 with(first
     | (go_at_call 267;refine(ah.o _ _ mh.o H1.o.1 MX.o).mono ?_;rintro e w4 ⟨rfl,S,hs,h⟩;have H4:=ai h;clear h)
     | (go_at_call 268
        have LF:Hid (S.lab xb=.no/\w4.heap[xb]?=some (.cells #[.slice ar nr cr] 22 (0,0))/\eO WA.heap.size w4 (.slice ar nr cr) r1/\∀b,bN (.slice ar nr cr) b->S.lab b=.no):=by
         obtain⟨_,_,a1,J9,_⟩:=H4.o;have E7:=aM BX.o;exact⟨BC.1 λg=>(a1 _ g).elim a0.o ω,J9.keep BX.o a0.o,J9.row OX.o a4.o,λb hb=>BC.1 λg=>(a1 _ g).elim (a4.o b hb) (by have:=(OX.o.lt b hb).2;omega)⟩
        refine(al.o _ _ _ _ _ _ _ _ H4.o.1 H4.o.2.1 LF.o.1 LF.o.2.1 LF.o.2.2.1 LF.o.2.2.2).mono ?_;rintro e w5 ⟨rfl,S',h⟩;have H5:=ai h;clear h))
    obtain⟨K,J⟩:=H5.o;obtain⟨lx,bx,ox,lr⟩:=LF.o;have Z:j<(aV (dn k j (kR r1)) hs).aj.length:=by
     show j<(dn k j (kR r1)).aj.length;rw[iW,gX];exact HJ.o
    obtain⟨ab,cP,A⟩:=K.toKr.sp ω;have a2:eO WA.heap.size w5 (.slice ar nr cr) r1:=J.kp.row ox (λb hb g=>g (lr b hb));have hz:=K.asN Z A.v a2 (λb hb=>J.no b (ox.lt b hb).2 (lr b hb));rw[show ak (aV (dn k j (kR r1)) hs).aj j=_ from ad.o] at hz;have W:Below WA.heap.size WA w5:=aI.below H4.o.2.2.2.2 J.kp H4.o.2.2.2.2.size (λb hb=>(H4.o.2.1.vD b hb).1);have Q:=(aI.below W hz.2 W.size (λb hb=>(K.vD b hb).1)).drew;obtain⟨aS,nS,cS,aF,nF,cF,aL,nL,cL,aP,av,hd,q,O⟩:=JG (k':=lj k j r1) (D:=λb=>b=w.heap.size+1) (bO.below hz.1 (aN _ _).drew) H4.o.1 ag.o eB.o Q (λb e=>ω);have Dh:=ai O;have R3:=ai (RB.o _ Q);have HQ:=ai q;have c3:=K.c3;rw[A.v] at c3;have aq:=aA (J.keep bx lx) 0 rfl;have af:(j:Int)<((aV (dn k j (kR r1)) hs).aj.length:Int):=by omega
    have x1:=A.x1 j Z;have fz:=A.fz;generalize (aV (dn k j (kR r1)) hs).aj.length=N at c3 af;clear K J lx bx ox lr Z A a2 hz W Q O q;go_region;go_upto_region 13 with fail;generalize (w5.setCell (Ad ab (j*3+1)) (.slice ar nr cr)).drew=W3 at R3 Dh HQ ⊢;have q:=HQ.o;have y:=kj R3.o;have f:=br R3.o;go_wp2;obtain rfl:=HA.o.trans ((aH (λg=>g rfl)).trans (aH (Int.not_lt.2 cr')));exact Qz R3.o (Dh.o _)
 rw[show jM k sp (r1,C)=(gU,fR k sp) by grind [jM]] at hP;have HP:=ai hP;have zu:=ai (Cf L c);generalize fR k sp=C at zu HP c;have cb:(C != 0)=true:=by grind
 unfold bj at zu ot ⊢;clear hK hF hsp c hP lQ B kb rb L FE hC Qt hFE;go_enter func274,ntmps274;go_upto_region 1 with fail;rw[ot.o];go_upto_region 3 with(go_at_call 76;refine zu.o.mono ?_;rintro e w1 ⟨rfl,h⟩;have R1:=ai (RB.o _ h);have vX:=ai (eB.o.trans (h.mono eB.o.size));clear h);have y:=kj R1.o;have f:=br R1.o;go_wp2;obtain rfl:=HP.o;exact Az R1.o vX.o
open Go.RowKit Tryz
theorem yo {l:List aU} {hs:List bD} {en:Int} (h:iF l hs en=0):bf l=0/\dR hs=true/\(hs.length:Int)=bR l:=by
 rw[CM] at h;unfold Ai at h;by_cases c:bf l=0
 . rw[aQ c] at h;by_cases d:(decide ((hs.length:Int)=iy l l.length)&&(dR hs&&(nV l hs hs.length&&wK l en)))=true
   . simp only[cV,iP] at d;refine⟨c,d.2.1,?_⟩;unfold bR;rw[aQ c];exact d.1
   rw[aH d] at h;cases h
 rw[aH c] at h;exact absurd h c
def lK (l:List aU) (hs:List bD) (nf ns:Int):aT:=⟨hs,List.replicate nf.toNat eG,List.replicate ns.toNat gP,[⟨true,l,[]⟩],0⟩
def nz (l:List aU) (hs:List bD) (en nf ns:Int):aT×Int:=if iF l hs en≠0 then (gU,iF l hs en) else if nf<3 then (gU,9) else if nf>64\/ns<0\/ns>512 then (gU,3) else if bR l>ns then (gU,8) else (lK l hs nf ns,0)
def Fh (n:Nat):Array Value:=madeCells #[.string ⟨#[]⟩,I 0,.bool false,.bool false] (n*4)
def Fg (n:Nat):Array Value:=madeCells #[.string ⟨#[]⟩,I 0] (n*2)
theorem ahZ:(prog.info? 169).map (λi=>(i.zero,i.size,i.bytes))=some (some (.agg #[.string ⟨#[]⟩,I 0,.bool false,.bool false]),4,32):=by kernel_rfl
theorem ahY:(prog.info? 171).map (λi=>(i.zero,i.size,i.bytes))=some (some (.agg #[.string ⟨#[]⟩,I 0]),2,24):=by kernel_rfl
theorem ahX (V:World) (n:Int) (h0:0<=n) (hn:n<=1000):(Instr.makeSlice 26 (I n) (I n)).run prog V=.ok (.slice (some (Ad V.heap.size 0)) n.toNat n.toNat) (V.alloc (.cells (Fh n.toNat) 169)):=by
 obtain⟨i0,hi,r,q,b⟩:=mQ ahZ;have h:=run_make (P:=prog) V 26 169 i0 _ underlying26 hi r .i64 .i64 n n h0 (Bx _) (by rw[b];omega) ω;rw[q] at h;exact h
theorem ahW (V:World) (n:Int) (h0:0<=n) (hn:n<=1000):(Instr.makeSlice 27 (I n) (I n)).run prog V=.ok (.slice (some (Ad V.heap.size 0)) n.toNat n.toNat) (V.alloc (.cells (Fg n.toNat) 171)):=by
 obtain⟨i0,hi,r,q,b⟩:=mQ ahY;have h:=run_make (P:=prog) V 27 171 i0 _ underlying27 hi r .i64 .i64 n n h0 (Bx _) (by rw[b];omega) ω;rw[q] at h;exact h
theorem Hu {α:Type} (x d:α) (n i:Nat) (hi:i<n):(List.replicate n x).getD i d=x:=by
 rw[jI,Wo,aQ hi];rfl
theorem Rm (c:Array Value) (n i j m:Nat) (hc:c.size=m) (hi:i<n) (hj:j<m):(madeCells c (n*m))[i*m+j]?=c[j]?:=by
 have h1:i*m+j<n*m:=by
  have:(i+1)*m<=n*m:=Nat.mul_le_mul_right m hi;rw[Nat.add_mul,Nat.one_mul] at this;omega
 have h2:(i*m+j)%m=j:=by rw[Nat.mul_comm,Nat.mul_add_mod,Nat.mod_eq_of_lt hj]
 have h3:j<c.size:=by omega
 unfold madeCells;simp[h1,hc,h2];rw[getElem!_pos c j h3,aeV h3]
theorem Rn {W:World} {l:List aU} {hs:List bD} {nf ns:Nat} {va:Value} {ao:Option Addr} {cap fb sb pb:Nat} (ha:eN W va l) (hh:gz W ao hs) (hf:W.heap[fb]?=some (.cells (Fh nf) 169 (0,0))) (hl:W.heap[sb]?=some (.cells (Fg ns) 171 (0,0))) (hp:W.heap[pb]?=some (.cells #[.bool true,va,Nl] 99 (0,0))) :
  iB W ⟨ao,cap,some (Ad fb 0),nf,some (Ad sb 0),ns,some (Ad pb 0),1⟩ ⟨hs,List.replicate nf eG,List.replicate ns gP,[⟨true,l,[]⟩],0⟩:=by
 refine⟨hh,λ_=>⟨fb,0,rfl,aM hf,λi hi j hj=>?_⟩,λ_=>⟨sb,0,rfl,aM hl,λi hi j hj=>?_⟩,λ_=>⟨pb,0,rfl,aM hp,λi hi=>?_⟩⟩
 . rw[qL] at hi;rw[Hu _ _ _ _ hi];have e:=Rm #[.string ⟨#[]⟩,I 0,.bool false,.bool false] nf i j 4 rfl hi hj;rw[mi]
   match j,hj with
   | 0,_=>exact aA hf _ e
   | 1,_=>exact aA hf _ e
   | 2,_=>exact aA hf _ e
   | 3,_=>exact aA hf _ e
   | j+4,h=>exact absurd h ω
 . rw[qL] at hi;rw[Hu _ _ _ _ hi];have e:=Rm #[.string ⟨#[]⟩,I 0] ns i j 2 rfl hi hj;rw[mi]
   match j,hj with
   | 0,_=>exact aA hl _ e
   | 1,_=>exact aA hl _ e
   | j+2,h=>exact absurd h ω
 obtain rfl:i=0:=by
  have:i<1:=hi;omega
 exact⟨va,none,0,aA hp 0 rfl,aA hp 1 rfl,aA hp 2 rfl,ha,λh=>absurd h (gY _),aJ _⟩
theorem Lh {l:List aU} {hs:List bD} {en:Int} (h:iF l hs en=0) (nf ns:Nat) (hf:nf<=1000) (hn:ns<=1000):Dx ⟨hs,List.replicate nf eG,List.replicate ns gP,[⟨true,l,[]⟩],0⟩:=by
 obtain⟨h1,h2,h3⟩:=yo h;have h4:=mI l;have h5:=mK _ h1;refine⟨by show hs.length<=_;omega,λi hi=>?_,by show(List.replicate nf eG).length<=_;rw[qL];omega,by show(List.replicate ns gP).length<=_;rw[qL];omega,by show 1<=1000000;omega,λi hi=>?_,λi hi=>?_⟩
 . have:=ID h2 i hi;show(aZ hs i).df.length<=_;omega
 . obtain rfl:i=0:=by
    have:i<1:=hi;omega
   show l.length<=_;omega
 obtain rfl:i=0:=by
  have:i<1:=hi;omega
 exact rB _
open Go.RowKit Tryz
section
variable {P:Program} {ops:Array Oper} {Q:Exit->Act->World->Prop} {md:Region.Mode} {S:World->Prop} {z:Nat}
theorem Mm (i:Nat) {oi:Oper} {v:Value} {n:Nat} {l:Array Bool} {a:Act} {w:World} (hS:S w) (h:rT P md ops Q S z n (l.setIfInBounds i true) (a.put oi.dst v) w)
  (hi:ops[i]?=some oi:=by rfl) (hy:∀V,(execOp a.eval oi).run P V=.ok (.value v) V:=by(intro V;go_simp;try with_reducible rfl)) (hs:Region.noSelect ops=true:=by kernel_rfl) (hf:Region.free md ops l i=true:=by kernel_rfl) (hr:(Region.ready md ops l).contains i=true:=by kernel_rfl) (hw:DI md ops z i=true:=by kernel_rfl)
  (hwt:Region.wanted oi (yielded ops a.tmps)=true:=by rfl) (hQ:∀c a w,Q (.panic c) (a.put oi.dst v) w->Q (.panic c) a w:=by exact λ_ _ _ h=>h):rT P md ops Q S z (n+1) l a w :=
 YT hi hs hf hr hw hQ (Or.inl ⟨hwt,λV _=>hy V⟩) hS h
theorem amC (i:Nat) {oi:Oper} {v:Value} {n:Nat} {l:Array Bool} {a:Act} {w:World} (hS:S w) (h:wpAnyH P md ops Q S n (l.setIfInBounds i true) (a.put oi.dst v) w)
  (hi:ops[i]?=some oi:=by rfl) (hy:∀V,(execOp a.eval oi).run P V=.ok (.value v) V:=by(intro V;go_simp;try with_reducible rfl)) (hs:Region.noSelect ops=true:=by kernel_rfl) (hf:Region.free md ops l i=true:=by kernel_rfl) (hr:(Region.ready md ops l).contains i=true:=by kernel_rfl)
  (hwt:Region.wanted oi (yielded ops a.tmps)=true:=by rfl) (hQ:∀c a w,Q (.panic c) (a.put oi.dst v) w->Q (.panic c) a w:=by exact λ_ _ _ h=>h):wpAnyH P md ops Q S (n+1) l a w :=
 wpAnyH_take hi hs hf hr hQ (Or.inl ⟨hwt,λV _=>hy V⟩) hS h
theorem A8 (i:Nat) {o:Oper} {n:Nat} {l:Array Bool} {a:Act} {w:World} (h:∀K':Act->World->Prop,Shut (∀a w,(i≠z->S w)->rT P md ops Q S z n (l.setIfInBounds i true) a w->K' a w)->if Region.wanted o (yielded ops a.tmps)=true then Oper.wp P o a w K' Q else K' (a.put o.dst undef) w)
  (ho:ops[i]?=some o:=by rfl) (hr:Region.ready md ops l=[i]:=by kernel_rfl):rT P md ops Q S z (n+1) l a w:=gS hr ξ (b7.cons ho h b7.nil)
end
theorem VP {α β γ δ:Type} {G:Prop} {T:α->β->γ->δ->Prop} {H:α->β->γ->δ->Prop} (h:(∀a b c d,H a b c d->T a b c d)->G) (t:∀a b c d,H a b c d->T a b c d):G:=h t
theorem agK {α β γ δ ε:Type} {G:Prop} {T:α->β->γ->δ->ε->Prop} {H:α->β->γ->δ->Prop} (h:(∀a b c d e,H a b c d->T a b c d e)->G) (t:∀a b c d e,H a b c d->T a b c d e):G:=h t
theorem agL {α β γ δ ε ζ η θ:Type} {G:Prop} {T H:α->β->γ->δ->ε->ζ->η->θ->Prop} (h:(∀a b c d e f g i,H a b c d e f g i->T a b c d e f g i)->G) (t:∀a b c d e f g i,H a b c d e f g i->T a b c d e f g i):G:=h t
open Go.RowKit Tryz
theorem uv (V:World) (A:Obj) (c:Array Value) (t:TypeId):((V.alloc A).alloc (.cells c t)).heap[V.heap.size+1]?=some (.cells c t (0,0)):=by
 grind [bG,World.size_alloc]
theorem xE (V:World) (A A':Obj) (c:Array Value) (t:TypeId):(((V.alloc A).alloc A').alloc (.cells c t)).heap[V.heap.size+1+1]?=some (.cells c t (0,0)):=by
 grind [bG,World.size_alloc]
theorem ac9 (FE:si) (l:List aU) (hs:List bD) (en nf ns:Int) (va:Value) (ao:Option Addr) (cap:Nat) (w:World) (ha:eN w va l) (hf:dG l) (h:gz w ao hs) (Jv:m6 hs) (hcap:hs.length<=cap) (he:cR en) :
  Calls prog 30 #[.agg #[va,.slice ao hs.length cap,I en],I nf,I ns] w (dY w (nz l hs en nf ns).1 [I (nz l hs en nf ns).2]):=by
 obtain⟨aa,ca,Ec,_⟩:=id ha;subst Ec;obtain⟨WA,lQ⟩:=ex ((w.alloc (.cells #[.slice aa l.length ca,.slice ao hs.length cap,I en] 25)).alloc (.cells #[Nl,Nl,Nl,Nl,I 0] 30));have q:Below w.heap.size w WA:=by simp_all [aN,pG]
 have kb:WA.heap[w.heap.size]?=some (.cells #[.slice aa l.length ca,.slice ao hs.length cap,I en] 25 (0,0)):=by grind [bB,bG]
 have rb:WA.heap[w.heap.size+1]?=some (.cells #[Nl,Nl,Nl,Nl,I 0] 30 (0,0)):=by grind [uv]
 have RB:Hid (∀V,Below WA.heap.size WA V->V.heap[w.heap.size+1]?=some (.cells #[Nl,Nl,Nl,Nl,I 0] 30 (0,0))):=λV hb=>aO rb hb (aM rb)
 have KB:Hid (∀V,Below WA.heap.size WA V->V.heap[w.heap.size]?=some (.cells #[.slice aa l.length ca,.slice ao hs.length cap,I en] 25 (0,0))):=λV hb=>aO kb hb (aM kb)
 have k0:WA.cell? (Ad w.heap.size 0)=some (.slice aa l.length ca):=aA kb 0 rfl;have k1:WA.cell? (Ad w.heap.size 1)=some (.slice ao hs.length cap):=aA kb 1 rfl;have k2:WA.cell? (Ad w.heap.size 2)=some (I en):=aA kb 2 rfl;have ot:=ai lQ;have eB:=ai q;have a2:=aM rb;have zh:=ai (W4 l hs en (.slice aa l.length ca) ao cap WA (ha.below q) hf (h.below q) Jv hcap he);have A:Hid (∀V,Below WA.heap.size WA V->Calls prog 70 #[.slice aa l.length ca] V λe w'=>e=.returned (I (bR l))/\Below V.heap.size V w'):=λV hV=>xk l _ V (ha.below (q.trans (hV.mono q.size))) hf
 have O:Hid (∀(V:World) (C:Int),Below w.heap.size w V->dY w gU [I C] (.returned (.tuple #[.agg #[Nl,Nl,Nl,Nl,I 0],I C])) V):=λV C hV=>vM _ hV
 rcases(show(nz l hs en nf ns=(lK l hs nf ns,0)/\iF l hs en=0/\¬nf<3/\¬64<nf/\¬ns<0/\¬512<ns/\¬ns<bR l)\/∃C,nz l hs en nf ns=(gU,C)/\((iF l hs en=C/\(C != 0)=true)\/(iF l hs en=0/\((nf<3/\C=9)\/(¬nf<3/\((64<nf/\C=3)\/(¬64<nf/\((ns<0/\C=3)\/(¬ns<0/\((512<ns/\C=3)\/(¬512<ns/\ns<bR l/\C=8)))))))))) by unfold nz;grind) with⟨e0,c,c3,g1,g2,g3,c2⟩ | ⟨C,e0,hc⟩
 . rw[e0];have B:Hid (∀(W:World) fb sb pb,Below WA.heap.size WA W->W.heap[fb]?=some (.cells (Fh nf.toNat) 169 (0,0))->W.heap[sb]?=some (.cells (Fg ns.toNat) 171 (0,0))->W.heap[pb]?=some (.cells #[.bool true,.slice aa l.length ca,Nl] 99 (0,0))->Calls prog 79 #[.agg #[.slice ao hs.length cap,.slice (some (Ad fb 0)) nf.toNat nf.toNat,.slice (some (Ad sb 0)) ns.toNat ns.toNat,.slice (some (Ad pb 0)) 1 1,I 0]] W λe w'=>∃aS nS cS aF nF cF aL nL cL aP nP cP,e=.returned (.agg #[.slice aS nS cS,.slice aF nF cF,.slice aL nL cL,.slice aP nP cP,I 0])/\Below WA.heap.size WA w'/\w'.heap[w.heap.size+1]?=some (.cells #[Nl,Nl,Nl,Nl,I 0] 30 (0,0))/\∀U,aI (λb=>b=w.heap.size+1) w' U->dY w (lK l hs nf ns) [I 0] (.returned (.tuple #[.agg #[.slice aS nS cS,.slice aF nF cF,.slice aL nL cL,.slice aP nP cP,I 0],I 0])) U):=λW fb sb pb hW g1 g2 g3=>by
    have ov:Below w.heap.size w W:=q.trans (hW.mono q.size);have hk:=Rn (cap:=cap) (ha.below ov) (h.below ov) g1 g2 g3;have M:=FE _ _ W hk (Lh c nf.toNat ns.toNat ω ω);unfold bj at M;simp only[qL,zI] at M;refine M.mono λe w' ⟨S,hs',hsame,e1,hr,hb⟩=>?_
    obtain⟨aS,nS,cS,eS⟩:∃b n d,S.vS=.slice b n d:=by obtain⟨b,d,e,_⟩:=bh hr.aD;exact⟨b,_,d,e⟩
    obtain⟨aF,nF,cF,eF⟩:∃b n d,S.vF=.slice b n d:=by obtain⟨b,d,e,_⟩:=bh hr.frames;exact⟨b,_,d,e⟩
    obtain⟨aL,nL,cL,eL⟩:∃b n d,S.vL=.slice b n d:=by obtain⟨b,d,e,_⟩:=bh hr.slots;exact⟨b,_,d,e⟩
    obtain⟨aP,nP,cP,eP⟩:∃b n d,S.vP=.slice b n d:=by obtain⟨b,d,e,_⟩:=bh hr.aj;exact⟨b,_,d,e⟩
    rw[eS,eF,eL,eP] at e1;have R:Below WA.heap.size WA w':=hW.trans (hb.mono hW.size);have T:Below w.heap.size w w':=q.trans (R.mono q.size);have a1:=hW.size;refine⟨aS,nS,cS,aF,nF,cF,aL,nL,cL,aP,nP,cP,e1,R,RB.o _ R,λU hU=>⟨S,hs',hsame,by rw[eS,eF,eL,eP];rfl,(hr.kp hU (λb hb e=>by have:=(hr.vD b hb).1;omega)).mono ov.size,aI.below T hU T.size (λb e=>ω)⟩⟩
   have e2:=λV:World=>ahX V nf ω ω
   have e3:=λV:World=>ahW V ns ω ω
   have N:=mI l;rw[c] at zh;generalize bR l=T1 at A N c2;generalize hP:dY w (lK l hs nf ns) [I 0]=P at B;generalize nf.toNat=NF at B e2;generalize ns.toNat=NS at B e3;clear hP O ha hf h Jv he hcap q kb rb lQ e0 c;go_enter func30,ntmps30;go_upto_region 1 with fail;rw[<- ot.o];go_upto_region 10 with(first
    | (go_at_call 69;refine zh.o.mono ?_;rintro e w1 ⟨rfl,r⟩;have dz:=ai r;obtain⟨j0,j1,j2⟩:=uo (KB.o _ r);clear r)
    | (go_at_call 70;refine(A.o _ dz.o).mono ?_;rintro e w2 ⟨rfl,F⟩;have iI:=ai (dz.o.trans (F.mono dz.o.size));clear F))
   clear j0 j1 j2 zh A;have uZ:Hid (∀V,Below WA.heap.size WA V->V.cell? (Ad w.heap.size 0)=some (.slice aa l.length ca)/\V.cell? (Ad w.heap.size 1)=some (.slice ao hs.length cap)):=λV hV=>⟨aA (KB.o _ hV) 0 rfl,aA (KB.o _ hV) 1 rfl⟩
   refine uj (S:=λV=>V.cell? (Ad w.heap.size 0)=some (.slice aa l.length ca)/\V.cell? (Ad w.heap.size 1)=some (.slice ao hs.length cap)) (z:=13) κ ?_;have o5:=ai (iI.o.drew);generalize w2.drew=V0 at o5;have K0:=uZ.o _ o5.o;refine lO 0 K0 ?_;refine lO 1 K0 ?_;refine lO 2 K0 ?_;refine lO 4 K0 ?_;refine lO 6 K0 ?_;refine lO 7 K0 ?_;refine lO 8 K0 ?_;clear K0;have NB:∀V,Below WA.heap.size WA V->∀(c:Array Value) (t:TypeId),∃V1 b,V.alloc (.cells c t)=V1/\V.heap.size=b/\Below WA.heap.size WA V1/\V1.heap[b]?=some (.cells c t (0,0))/\∀{i:Nat} {c':Array Value} {t':TypeId},V.heap[i]?=some (.cells c' t' (0,0))->V1.heap[i]?=some (.cells c' t' (0,0)):=λV hV c t=>⟨_,_,rfl,rfl,hV.alloc hV.size _,bG V c t,λh=>bB h _⟩
   apply VP (H:=λ(V:World) (bF bL bP:Nat)=>Below WA.heap.size WA V/\V.heap[bF]?=some (.cells (Fh NF) 169 (0,0))/\V.heap[bL]?=some (.cells (Fg NS) 171 (0,0))/\V.heap[bP]?=some (.cells #[.bool true,.slice aa l.length ca,Nl] 99 (0,0)))
   . intro G;refine gS (rs:=[3,5,9]) κ ξ ?_;refine b7.cons rfl (λK hK=>?_) (b7.cons rfl (λK hK=>?_) (b7.cons rfl (λK hK=>?_) b7.nil))
     all_goals
      go_simp
      first | (obtain⟨V1,b1,hV,hb,H1,N1,K1⟩:=NB V0 o5.o (Fh NF) 169;rw[hV,hb]) | (obtain⟨V1,b1,hV,hb,H1,N1,K1⟩:=NB V0 o5.o (Fg NS) 171;rw[hV,hb]) | (obtain⟨V1,b1,hV,hb,H1,N1,K1⟩:=NB V0 o5.o #[.bool true,.slice aa l.length ca,Nl] 99;rw[hV,hb])
      refine hK.out _ _ (λ_=>uZ.o _ H1) ?_;clear hK K hV hb
      try simp only[Act.put,eQ,eI,ed]
      first | refine gS (rs:=[5,9]) (by decide +kernel) ξ ?_ | refine gS (rs:=[3,9]) (by decide +kernel) ξ ?_ | refine gS (rs:=[3,5]) (by decide +kernel) ξ ?_
      refine b7.cons rfl (λK hK=>?_) (b7.cons rfl (λK hK=>?_) b7.nil)
      all_goals
       go_simp
       first | (obtain⟨V2,b2,hV,hb,H2,N2,K2⟩:=NB V1 H1 (Fh NF) 169;rw[hV,hb]) | (obtain⟨V2,b2,hV,hb,H2,N2,K2⟩:=NB V1 H1 (Fg NS) 171;rw[hV,hb]) | (obtain⟨V2,b2,hV,hb,H2,N2,K2⟩:=NB V1 H1 #[.bool true,.slice aa l.length ca,Nl] 99;rw[hV,hb])
       refine hK.out _ _ (λ_=>uZ.o _ H2) ?_;clear hK K hV hb
       try simp only[Act.put,eQ,eI,ed]
       first | refine gS (rs:=[9]) (by decide +kernel) ξ ?_ | refine gS (rs:=[5]) (by decide +kernel) ξ ?_ | refine gS (rs:=[3]) (by decide +kernel) ξ ?_
       refine b7.cons rfl (λK hK=>?_) b7.nil;go_simp
       first | (obtain⟨V3,b3,hV,hb,H3,N3,K3⟩:=NB V2 H2 (Fh NF) 169;rw[hV,hb]) | (obtain⟨V3,b3,hV,hb,H3,N3,K3⟩:=NB V2 H2 (Fg NS) 171;rw[hV,hb]) | (obtain⟨V3,b3,hV,hb,H3,N3,K3⟩:=NB V2 H2 #[.bool true,.slice aa l.length ca,Nl] 99;rw[hV,hb])
       refine hK.out _ _ (λ_=>uZ.o _ H3) ?_;clear hK K hV hb
       try simp only[Act.put,eQ,eI,ed]
       have N1:=K3 (K2 N1);have N2:=K3 N2
       first | exact G V3 b1 b2 b3 ⟨H3,N1,N2,N3⟩ | exact G V3 _ _ _ ⟨H3,by assumption,by assumption,by assumption⟩
   clear o5 NB;rintro V3 bF bL bP ⟨L,BF,BL,BP⟩;have Fq:=ai L;have a0:=ai (B.o _ _ _ _ L BF BL BP);clear L BF BL BP B;refine lO 10 (uZ.o _ Fq.o) ?_;refine gS (rs:=[11]) κ ξ ?_;refine b7.cons rfl (λK hK=>?_) b7.nil;rw[aQ ρ];go_simp;go_at_call 79;refine a0.o.mono ?_;rintro e w6 ⟨aS,nS,cS,aF,nF,cF,aL,nL,cL,aP,nP,cP,rfl,Y,Z,J⟩;have X:=ai Y;have R6:=ai Z;have Dh:=ai J;clear Y Z J;try go_simp;refine hK.out _ _ (λ_=>uZ.o _ X.o) ?_;clear hK K
   try simp only[Act.put,eQ,eI,ed]
   have y:=kj R6.o;have f:=br R6.o;have h5:=ai (λV=>Eo R6.o (.slice aS nS cS) (.slice aF nF cF) (.slice aL nL cL) (.slice aP nP cP) (I 0) (V:=V));refine gS (rs:=[12]) κ ξ ?_;refine b7.cons rfl (λK hK=>?_) b7.nil;go_simp;obtain⟨r1,r2⟩:=h5.out _ rfl;refine hK.out _ _ (λ_=>?_) ?_
   . have:=r2.keep (KB.o _ X.o) (ω:¬w.heap.size=w.heap.size+1);exact⟨aA this 0 rfl,aA this 1 rfl⟩
   clear hK K
   try simp only[Act.put,eQ,eI,ed]
   refine gS (rs:=[13]) κ ξ ?_;refine b7.cons rfl (λK hK=>?_) b7.nil;go_simp;refine hK.out _ _ (λg=>absurd rfl g) ?_;refine Ab κ ?_ _;go_wp2;obtain⟨y0,y1,y2,y3,y4⟩:=kj r1;refine bW (v:=.tuple #[.agg #[.slice aS nS cS,.slice aF nF cF,.slice aL nL cL,.slice aP nP cP,I 0],I 0]) (by simp[results,results30,go_sem,y0,y1,y2,y3,y4]) rfl ?_;exact Dh.o _ r2
 rw[e0];have eW:=ai (λV (h:Below w.heap.size w V)=>O.o V C h);generalize hP:dY w gU [I C]=P at eW;have N:=mI l;generalize bR l=T1 at A N hc;generalize iF l hs en=E at zh hc;clear hP O ha hf h Jv he hcap q kb rb lQ e0;rcases hc with⟨rfl,c2⟩ | ⟨rfl,⟨c2,rfl⟩ | ⟨c2,⟨c3,rfl⟩ | ⟨c3,⟨c4,rfl⟩ | ⟨c4,⟨c5,rfl⟩ | ⟨c5,c6,rfl⟩⟩⟩⟩⟩
 all_goals
  go_enter func30,ntmps30;go_upto_region 1 with fail;rw[<- ot.o];go_wp2_with (first
   | (go_at_call 69;refine zh.o.mono ?_;rintro e w1 ⟨rfl,r⟩;have dz:=ai r;obtain⟨j0,j1,j2⟩:=uo (KB.o _ r);have vX:=ai (eB.o.trans (r.mono eB.o.size));have R1:=ai (RB.o _ r);clear r;have y:=kj R1.o;have f:=br R1.o;have h5:=ai (λV=>Eo R1.o Nl Nl Nl Nl (I 0) (V:=V)))
   | (go_at_call 70;refine(A.o _ dz.o).mono ?_;rintro e w2 ⟨rfl,F⟩;have Q:=dz.o.trans (F.mono dz.o.size);have vX:=ai (eB.o.trans (Q.mono eB.o.size));have R1:=ai (RB.o _ Q);clear F Q;have y:=kj R1.o;have f:=br R1.o;have h5:=ai (λV=>Eo R1.o Nl Nl Nl Nl (I 0) (V:=V))))
  obtain⟨r1,r2⟩:=h5.out _ rfl;obtain⟨y0,y1,y2,y3,y4⟩:=kj r1;refine bW (v:=.tuple #[.agg #[Nl,Nl,Nl,Nl,I 0],I _]) (by simp[results,results30,go_sem,y0,y1,y2,y3,y4];rfl) rfl ?_;exact eW.o _ (aI.below vX.o r2 vX.o.size (λb e=>ω))
open Go.RowKit Tryz
theorem Vg {w WA W1:World} {K:aT} {vs:List Value} {e:Ending} {rb:Nat} (h:dY WA K vs e W1) (hb0:Below w.heap.size w WA) (hr:w.heap.size<=rb/\rb<WA.heap.size):∃s1 uv q1 s2 xE q2 s3 n3 q3 s4 n4 q4 hd,e=.returned (.tuple (Value.agg #[.slice s1 uv q1,.slice s2 xE q2,.slice s3 n3 q3,.slice s4 n4 q4,I hd]::vs).toArray)/\Below WA.heap.size WA W1/\∀U,aI (λb=>b=rb) W1 U->dY w K vs (.returned (.tuple (Value.agg #[.slice s1 uv q1,.slice s2 xE q2,.slice s3 n3 q3,.slice s4 n4 q4,I hd]::vs).toArray)) U:=by
 obtain⟨S,hs,h1,h2,h3,h4⟩:=h;obtain⟨aS,nS,cS,eS⟩:∃b n d,S.vS=.slice b n d:=by obtain⟨b,d,e,_⟩:=bh h3.aD;grind
 obtain⟨aF,nF,cF,eF⟩:∃b n d,S.vF=.slice b n d:=by obtain⟨b,d,e,_⟩:=bh h3.frames;grind
 obtain⟨aL,nL,cL,eL⟩:∃b n d,S.vL=.slice b n d:=by obtain⟨b,d,e,_⟩:=bh h3.slots;grind
 obtain⟨aP,nP,cP,eP⟩:∃b n d,S.vP=.slice b n d:=by obtain⟨b,d,e,_⟩:=bh h3.aj;grind
 rw[eS,eF,eL,eP] at h2;have ov:Below w.heap.size w W1:=hb0.trans (h4.mono hb0.size);refine⟨aS,nS,cS,aF,nF,cF,aL,nL,cL,aP,nP,cP,_,h2,h4,λU hU=>⟨S,hs,h1,Γ,(h3.kp hU (λb hb e=>by have:=(h3.vD b hb).1;omega)).mono hb0.size,aI.below ov hU ov.size (λb e=>ω)⟩⟩
theorem Vh (N:List aU->Int->Int->Int->List aU×Int) (F F1:FuncId) (hN:(F=263/\F1=275/\N=jz)\/(F=264/\F1=276/\N=fV)) (FE:si) (k:aT) (a:gN) (sp pg n q:Int) (w:World) (hK:iB w a k) (hF:kN k) (hsp:cR sp) (QG:cR pg) (hn:cR n) :
  Calls prog F #[.agg (bj a k),I sp,I pg,I n,I q] w (dY w (jM k sp (N (ak k.aj sp.toNat).bu pg n q)).1 [I (jM k sp (N (ak k.aj sp.toNat).bu pg n q)).2]):=by
 obtain⟨WA,lQ⟩:=ex (((((w.alloc (.cells (bj a k) 30)).alloc (.cells #[I pg] 3)).alloc (.cells #[I n] 3)).alloc (.cells #[I q] 3)).alloc (.cells #[Nl,Nl,Nl,Nl,I 0] 30));have G:Below w.heap.size w WA:=by rw[lQ];exact(((((aN _ _).alloc (aJ _) _).alloc (by simp_all) _).alloc (by grind [World.size_alloc]) _).alloc (by grind [World.size_alloc]) _).alloc (by grind [World.size_alloc]) _
 have kb:WA.heap[w.heap.size]?=some (.cells (bj a k) 30 (0,0)):=by grind [bB,bG]
 have b0:WA.heap[w.heap.size+1]?=some (.cells #[I pg] 3 (0,0)):=by
  grind [bG,World.size_alloc,bB]
 have b1:WA.heap[w.heap.size+2]?=some (.cells #[I n] 3 (0,0)):=by
  grind [bG,World.size_alloc,bB]
 have b2:WA.heap[w.heap.size+3]?=some (.cells #[I q] 3 (0,0)):=by
  grind [bG,World.size_alloc,bB]
 have rb:WA.heap[w.heap.size+4]?=some (.cells #[Nl,Nl,Nl,Nl,I 0] 30 (0,0)):=by
  grind [bG,World.size_alloc]
 have L:=aM rb;have RB:Hid (∀V,Below WA.heap.size WA V->V.heap[w.heap.size+4]?=some (.cells #[Nl,Nl,Nl,Nl,I 0] 30 (0,0))):=λV hb=>aO rb hb (aM rb)
 obtain⟨k0,k1,k2,k3,k4⟩:=kj (show WA.heap[w.heap.size]?=some (.cells #[.slice a.aS k.aD.length a.cS,.slice a.aF k.frames.length a.cF,.slice a.aL k.slots.length a.cL,.slice a.aP k.aj.length a.cP,I k.hand] 30 (0,0)) from kb);have Qt:dG (N (ak k.aj sp.toNat).bu pg n q).1:=by
  rcases hN with⟨_,_,rfl⟩ | ⟨_,_,rfl⟩
  . exact SX _ pg n q
  exact SV _ pg n q
 obtain⟨K,B⟩:=ex ((jM k sp (N (ak k.aj sp.toNat).bu pg n q)).1);obtain⟨er,y⟩:=ex ((jM k sp (N (ak k.aj sp.toNat).bu pg n q)).2);rw[<- B,<- y];have A:Hid (Calls prog 274 #[.agg (bj a k),I sp,.func (.func F1) #[] #[.pointer (some (Ad (w.heap.size+1) 0)),.pointer (some (Ad (w.heap.size+2) 0)),.pointer (some (Ad (w.heap.size+3) 0))]] WA λe w'=>∃s1 uv q1 s2 xE q2 s3 n3 q3 s4 n4 q4 hd,e=.returned (.tuple #[.agg #[.slice s1 uv q1,.slice s2 xE q2,.slice s3 n3 q3,.slice s4 n4 q4,I hd],I er])/\Below WA.heap.size WA w'/\∀U,aI (λb=>b=w.heap.size+4) w' U->dY w K [I er] (.returned (.tuple #[.agg #[.slice s1 uv q1,.slice s2 xE q2,.slice s3 n3 q3,.slice s4 n4 q4,I hd],I er])) U):=by
  refine(N8 FE k a sp WA (hK.below G) hF hsp (N (ak k.aj sp.toNat).bu pg n q) Qt F1 [.pointer (some (Ad (w.heap.size+1) 0)),.pointer (some (Ad (w.heap.size+2) 0)),.pointer (some (Ad (w.heap.size+3) 0))] (w.heap.size+1) (w.heap.size+2) (w.heap.size+3) (by rcases hN with⟨_,rfl,_⟩ | ⟨_,rfl,_⟩ <;> simp) (λV ao cap hV h1 h2=>?_)).mono λe w' h=>?_
  . have e0:=aA (aO b0 hV (aM b0)) 0 rfl;have e1:=aA (aO b1 hV (aM b1)) 0 rfl;have e2:=aA (aO b2 hV (aM b2)) 0 rfl;rcases hN with⟨_,rfl,rfl⟩ | ⟨_,rfl,rfl⟩
    . exact aao _ ao _ cap pg n q _ _ _ V h1 h2 QG hn e0 e1 e2
    exact Pm _ ao _ cap pg n q _ _ _ V h1 h2 QG hn e0 e1 e2
  rw[<- B,<- y] at h;exact Vg h G ⟨ω,L⟩
 have ot:=ai lQ;generalize dY w K [I er]=P at A ⊢;unfold bj at A ot ⊢;clear G kb b0 b1 b2 rb lQ hK hF hsp QG hn Qt B y FE;rcases hN with⟨rfl,rfl,rfl⟩ | ⟨rfl,rfl,rfl⟩
 all_goals
  first | go_enter func263,ntmps263 | go_enter func264,ntmps264
  go_upto_region 1 with fail
  (try simp only[zC,Nat.reduceAdd])
  rw[<- ot.o];go_wp2_with (go_at_call 274;refine A.o.mono ?_;rintro e w1 ⟨s1,uv,q1,s2,xE,q2,s3,n3,q3,s4,n4,q4,hd,rfl,J,r⟩;have Dh:=ai r;have R1:=ai (RB.o _ J);clear r J;obtain⟨y0,y1,y2,y3,y4⟩:=kj R1.o;have f0:=br R1.o 0;have f1:=br R1.o 1;have f2:=br R1.o 2;have f3:=br R1.o 3;have f4:=br R1.o 4;have h5:=ai (λV=>Eo R1.o (.slice s1 uv q1) (.slice s2 xE q2) (.slice s3 n3 q3) (.slice s4 n4 q4) (I hd) (V:=V)));obtain⟨r1,r2⟩:=h5.out _ rfl;obtain⟨y0,y1,y2,y3,y4⟩:=kj r1;refine bW (v:=.tuple #[.agg #[.slice s1 uv q1,.slice s2 xE q2,.slice s3 n3 q3,.slice s4 n4 q4,I hd],I er]) (by simp[results,results263,results264,go_sem,y0,y1,y2,y3,y4]) rfl ?_;exact Dh.o _ r2
abbrev ada:=Vh _ _ _ (.inl ⟨rfl,rfl,rfl⟩)
abbrev Rk:=Vh _ _ _ (.inr ⟨rfl,rfl,rfl⟩)
theorem Xk (FE:si) (k:aT) (a:gN) (sp pg n:Int) (w:World) (hK:iB w a k) (hF:kN k) (hsp:cR sp) (QG:cR pg) (hn:cR n) :
  Calls prog 266 #[.agg (bj a k),I sp,I pg,I n] w (dY w (jM k sp (gL (ak k.aj sp.toNat).bu pg n)).1 [I (jM k sp (gL (ak k.aj sp.toNat).bu pg n)).2]):=by
 obtain⟨WA,lQ⟩:=ex ((((w.alloc (.cells (bj a k) 30)).alloc (.cells #[I pg] 3)).alloc (.cells #[I n] 3)).alloc (.cells #[Nl,Nl,Nl,Nl,I 0] 30));have B:Below w.heap.size w WA:=by grind [Below.refl,World.size_alloc,Below.alloc]
 have kb:WA.heap[w.heap.size]?=some (.cells (bj a k) 30 (0,0)):=by grind [bB,bG]
 have b0:WA.heap[w.heap.size+1]?=some (.cells #[I pg] 3 (0,0)):=by
  grind [bG,World.size_alloc,bB]
 have b1:WA.heap[w.heap.size+2]?=some (.cells #[I n] 3 (0,0)):=by
  grind [bG,World.size_alloc,bB]
 have rb:WA.heap[w.heap.size+3]?=some (.cells #[Nl,Nl,Nl,Nl,I 0] 30 (0,0)):=by
  grind [bG,World.size_alloc]
 have G:=aM rb;have RB:Hid (∀V,Below WA.heap.size WA V->V.heap[w.heap.size+3]?=some (.cells #[Nl,Nl,Nl,Nl,I 0] 30 (0,0))):=λV hb=>aO rb hb (aM rb)
 obtain⟨k0,k1,k2,k3,k4⟩:=kj (show WA.heap[w.heap.size]?=some (.cells #[.slice a.aS k.aD.length a.cS,.slice a.aF k.frames.length a.cF,.slice a.aL k.slots.length a.cL,.slice a.aP k.aj.length a.cP,I k.hand] 30 (0,0)) from kb);have Qt:dG (gL (ak k.aj sp.toNat).bu pg n).1:=Zo _ pg n;obtain⟨K,A⟩:=ex ((jM k sp (gL (ak k.aj sp.toNat).bu pg n)).1);obtain⟨er,r⟩:=ex ((jM k sp (gL (ak k.aj sp.toNat).bu pg n)).2);rw[<- A,<- r];have y:Hid (Calls prog 274 #[.agg (bj a k),I sp,.func (.func 279) #[] #[.pointer (some (Ad (w.heap.size+1) 0)),.pointer (some (Ad (w.heap.size+2) 0))]] WA λe w'=>∃s1 uv q1 s2 xE q2 s3 n3 q3 s4 n4 q4 hd,e=.returned (.tuple #[.agg #[.slice s1 uv q1,.slice s2 xE q2,.slice s3 n3 q3,.slice s4 n4 q4,I hd],I er])/\Below WA.heap.size WA w'/\∀U,aI (λb=>b=w.heap.size+3) w' U->dY w K [I er] (.returned (.tuple #[.agg #[.slice s1 uv q1,.slice s2 xE q2,.slice s3 n3 q3,.slice s4 n4 q4,I hd],I er])) U):=by
  refine(N8 FE k a sp WA (hK.below B) hF hsp (gL (ak k.aj sp.toNat).bu pg n) Qt 279 [.pointer (some (Ad (w.heap.size+1) 0)),.pointer (some (Ad (w.heap.size+2) 0))] (w.heap.size+1) (w.heap.size+2) (w.heap.size+3) (.inr (.inl ⟨rfl,rfl⟩)) (λV ao cap hV h1 h2=>?_)).mono λe w' h=>?_
  . exact TL _ ao _ cap pg n _ _ V h1 h2 QG hn (aA (aO b0 hV (aM b0)) 0 rfl) (aA (aO b1 hV (aM b1)) 0 rfl)
  rw[<- A,<- r] at h;exact Vg h B ⟨ω,G⟩
 have ot:=ai lQ;generalize dY w K [I er]=P at y ⊢;unfold bj at y ot ⊢;clear B kb b0 b1 rb lQ hK hF hsp QG hn Qt A r FE;go_enter func266,ntmps266;go_upto_region 1 with fail
 (try simp only[zC,Nat.reduceAdd])
 rw[<- ot.o];go_wp2_with (go_at_call 274;refine y.o.mono ?_;rintro e w1 ⟨s1,uv,q1,s2,xE,q2,s3,n3,q3,s4,n4,q4,hd,rfl,F,q⟩;have Dh:=ai q;have R1:=ai (RB.o _ F);clear q F;obtain⟨y0,y1,y2,y3,y4⟩:=kj R1.o;have f0:=br R1.o 0;have f1:=br R1.o 1;have f2:=br R1.o 2;have f3:=br R1.o 3;have f4:=br R1.o 4;have h5:=ai (λV=>Eo R1.o (.slice s1 uv q1) (.slice s2 xE q2) (.slice s3 n3 q3) (.slice s4 n4 q4) (I hd) (V:=V)));obtain⟨r1,r2⟩:=h5.out _ rfl;obtain⟨y0,y1,y2,y3,y4⟩:=kj r1;refine bW (v:=.tuple #[.agg #[.slice s1 uv q1,.slice s2 xE q2,.slice s3 n3 q3,.slice s4 n4 q4,I hd],I er]) (by simp[results,results266,go_sem,y0,y1,y2,y3,y4]) rfl ?_;exact Dh.o _ r2
end Go.Proofs.YtlgoihmkgaaemaaGreat
