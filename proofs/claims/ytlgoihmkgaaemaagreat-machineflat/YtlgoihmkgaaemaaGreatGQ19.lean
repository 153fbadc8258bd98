import Derived.Test.YtlgoihmkgaaemaaGreatGQ18
set_option maxHeartbeats 20000000
set_option linter.unusedVariables false
set_option maxRecDepth 100000
set_option linter.unusedSimpArgs false
namespace Go.Proofs.YtlgoihmkgaaemaaGreat
open Go.RowKit Tryz
variable {j:Nat} {w:World} {k:aT} {lo:Nat} {w':World} (es:List bJ)
theorem Yt (p:Int) (i:Nat) (hi:i<es.length) (h:(bc es i).page=p) (hno:∀j,j<i->¬(bc es j).page=p):bl es p=some (bc es i):=by
 induction es generalizing i with
 | nil=>cases hi
 | cons a r ih =>
  cases i with
  | zero =>
   have h:a.page=p:=h;show(a::r).find? _=some a
   grind
  | succ i =>
   have h0:¬a.page=p:=hno 0 ω;show(a::r).find? _=some (bc r i);rw[List.find?_cons,fE h0];exact ih i (Gq hi) h (λj hj=>hno (j+1) ω)
theorem abW (p:Int) (hno:∀j,j<es.length->¬(bc es j).page=p):bl es p=none:=tB.2 λe he=>by
 obtain⟨j,hj,rfl⟩:=mZ iD he;exact hno j hj
def jG (es:List bJ) (p:Int):bJ×Bool:=match bl es p with
 | some e=>(e,true)
 | none=>(iD,false)
def um (e:bJ):Value:=.agg #[I e.page,I e.kind,I e.loc]
theorem OU (p:Int) (j n mb pb po cP:Nat) (ae:Option Addr) (ce:Nat) (w:World) (hm:w.cell? (Ad mb 3)=some (.slice (some (Ad pb po)) n cP)) (hj:j<n) (hce:w.cell? (Ad pb (po+j*3+2))=some (.slice ae es.length ce)) (he:eX bZ 3 iD w ae es) (hl:es.length<=1000000) (hn:n<=1000000) :
  Calls prog 129 #[.pointer (some (Ad mb 0)),I (j:Int),I p] w λe w'=>e=.returned (.tuple #[um (jG es p).1,.bool (jG es p).2])/\Below w.heap.size w w':=by
 have Uk:=jL w _ hm;have y:=jL w _ hce;have Uk:mb<w.heap.size:=Uk;have y:pb<w.heap.size:=y;have B:=ai he;obtain⟨W,hW⟩:=ex ((w.alloc (.cells #[I p] 3)).alloc (.cells #[I 0,I 0,I 0] 174));have fU:Hid (Below w.heap.size w W):=by simp_all [aN,sI]
 have X0:Hid (W.heap[w.heap.size]?=some (.cells #[I p] 3 (0,0))):=by grind [bu,bH]
 have R0:Hid (W.heap[w.heap.size+1]?=some (.cells #[I 0,I 0,I 0] 174 (0,0))):=by
  grind [bH,World.size_alloc]
 have d3:W.cell? (Ad mb 3)=some (.slice (some (Ad pb po)) n cP):=(fU.o.cell (p:=(Ad mb 3)) Uk).trans hm;have d2:W.cell? (Ad pb (po+j*3+2))=some (.slice ae es.length ce):=(fU.o.cell (p:=(Ad pb (po+j*3+2))) y).trans hce;have Mj:=ai (MV 187 (.inl rfl) (λe=>decide (e.page=p)) es ae ce w.heap.size W (he.below fU.o) hl (λV e hV=>Yu p e w.heap.size V (aA (aU X0.o hV (aQ X0.o)) 0 rfl)));have HF:=ai (Yt es p);have HN:=ai (abW es p);have N:(j:Int)<(n:Int):=by omega
 have O:(0:Int)<=(j:Int):=by omega
 have HW:=ai hW;clear hm hce he hW;by_cases hex:∃j,j<es.length/\(bc es j).page=p
 . obtain⟨j0,F,G⟩:=hex;have Y2:Hid (Calls prog 186 #[.slice ae es.length ce,.func (.func 187) #[] #[.pointer (some (Ad w.heap.size 0))]] W λe w'=>∃i:Nat,i<es.length/\e=.returned (I (i:Int))/\jG es p=(bc es i,true)/\Below W.heap.size W w'):=Mj.o.mono λe w' ⟨hb,h⟩=>by
    rcases h with⟨_,K⟩ | ⟨i,hi,he,M,K⟩
    . grind
    refine⟨i,hi,he,?_,hb⟩;unfold jG;rw[HF.o i hi Γ (λj hj=>Γ)]
   clear Mj HF HN F G;go_enter func129,ntmps129;go_upto_region 1 with fail;rw[<- HW.o];go_upto_region 3 with(go_at_call 186;refine Y2.o.mono ?_;rintro e w1 ⟨i,hi,rfl,A,b⟩;have B6:=ai A;have cD:=ai (fU.o.trans (b.mono fU.o.size));have R1:=ai (aU R0.o b (aQ R0.o));clear b A);obtain⟨eb,eo,J,q,di⟩:=B.o ω;subst J;have y0:=(cD.o.cell (p:=(Ad eb (eo+i*3+0))) q).trans (di i hi 0 ω);have y1:=(cD.o.cell (p:=(Ad eb (eo+i*3+1))) q).trans (di i hi 1 ω);have y2:=(cD.o.cell (p:=(Ad eb (eo+i*3+2))) q).trans (di i hi 2 ω);rw[lB] at y0;obtain⟨E,hE⟩:=ex (bc es i);have x0:w1.cell? (Ad eb (eo+i*3))=some (I E.page):=by rw[hE];exact y0
   have x1:w1.cell? (Ad eb (eo+i*3+1))=some (I E.kind):=by rw[hE];exact y1
   have x2:w1.cell? (Ad eb (eo+i*3+2))=some (I E.loc):=by rw[hE];exact y2
   rw[<- hE] at B6;obtain⟨r0,r1,r2⟩:=zn R1.o;have f0:=bG R1.o 0;have f1:=bG R1.o 1;have f2:=bG R1.o 2;have Q:(i:Int)<(es.length:Int):=by omega
   have L:(0:Int)<=(i:Int):=by omega
   clear hE y0 y1 y2 di;go_wp2;have R2:(((w1.setCell (Ad (w.heap.size+1) 0) (I E.page)).setCell (Ad (w.heap.size+1) 1) (I E.kind)).setCell (Ad (w.heap.size+1) 2) (I E.loc)).heap[w.heap.size+1]?=some (.cells #[I E.page,I E.kind,I E.loc] 174 (0,0)):=gH (gH (gH R1.o 0 _) 1 _) 2 _;obtain⟨v0,v1,v2⟩:=zn R2;refine b9 (v:=.tuple #[um E,.bool true]) (by simp[results,results129,go_sem,um,v0,v1,v2]) rfl ?_;rw[B6.o];refine⟨rfl,?_⟩;exact((cD.o.setCell (p:=(Ad (w.heap.size+1) 0)) (by show w.heap.size<=w.heap.size+1;omega) _).setCell (p:=(Ad (w.heap.size+1) 1)) (by show w.heap.size<=w.heap.size+1;omega) _).setCell (p:=(Ad (w.heap.size+1) 2)) (by show w.heap.size<=w.heap.size+1;omega) _
 have Y2:Hid (Calls prog 186 #[.slice ae es.length ce,.func (.func 187) #[] #[.pointer (some (Ad w.heap.size 0))]] W λe w'=>e=.returned (I (-1))/\Below W.heap.size W w'):=Mj.o.mono λe w' ⟨hb,h⟩=>by
  grind
 have B6:Hid (jG es p=(iD,false)):=by
  show _=_;unfold jG;rw[HN.o (λj hj e=>hex ⟨j,hj,e⟩)]
 clear Mj HF HN hex;go_enter func129,ntmps129;go_upto_region 1 with fail;rw[<- HW.o];go_upto_region 3 with(go_at_call 186;refine Y2.o.mono ?_;rintro e w1 ⟨rfl,b⟩;have cD:=ai (fU.o.trans (b.mono fU.o.size));have R1:=ai (aU R0.o b (aQ R0.o));clear b);obtain⟨r0,r1,r2⟩:=zn R1.o;have f0:=bG R1.o 0;have f1:=bG R1.o 1;have f2:=bG R1.o 2;go_wp2;have R2:(((w1.setCell (Ad (w.heap.size+1) 0) (I 0)).setCell (Ad (w.heap.size+1) 1) (I 0)).setCell (Ad (w.heap.size+1) 2) (I 0)).heap[w.heap.size+1]?=some (.cells #[I 0,I 0,I 0] 174 (0,0)):=gH (gH (gH R1.o 0 _) 1 _) 2 _;obtain⟨v0,v1,v2⟩:=zn R2;refine b9 (v:=.tuple #[um iD,.bool false]) (by simp[results,results129,go_sem,um,iD,v0,v1,v2]) rfl ?_;rw[B6.o];refine⟨rfl,?_⟩;exact((cD.o.setCell (p:=(Ad (w.heap.size+1) 0)) Γ _).setCell (p:=(Ad (w.heap.size+1) 1)) Γ _).setCell (p:=(Ad (w.heap.size+1) 2)) Γ _
open Go.RowKit
theorem Yp (k:aT) (j:Nat) (p:Int) (hR:aW k) (hj:j<k.aj.length):b7 k j p=if (jG (ak k.aj j).bh p).1.kind=1 then (aM k.frames (jG (ak k.aj j).bh p).1.loc.toNat).data else if (jG (ak k.aj j).bh p).1.kind=2 then (bI k.slots (jG (ak k.aj j).bh p).1.loc.toNat).data else gz k.aR p (qo k j p):=by
 unfold b7 jG;cases g:bl (ak k.aj j).bh p with
 | none=>rfl
 | some e =>
  have he:=(gZ (hR.sp hj).lq).1 g;show(if e.kind=1 then _ else _)=if e.kind=1 then _ else if e.kind=2 then _ else _
  rcases jn hR hj he.1 with b | b
  . grind
  grind
theorem abU (k:aT) (a:jC) (j mb:Nat) (p:Int) (ar:aX) (w:World) (hK:ju w a k) (hR:aW k) (hj:j<k.aj.length) (hm:w.heap[mb]?=some (.cells (rB a k) 158 (0,0))) (hp:dM k j p) (hz:ar.zero=qo k j p) :
  Calls prog 78 #[.pointer (some (Ad mb 0)),I (j:Int),I p,.agg (pI ar)] w λe w'=>e=.returned (.string (b7 k j p))/\Below w.heap.size w w':=by
 have Rj:=ll hp;have O:=hR.c;have Px:=ai (Yp k j p hR hj);have Uk:=aQ hm;obtain⟨pb,po,J,M,di⟩:=hK.aj ω;obtain⟨va,ap,cp,_,_,y2,_,y4,_⟩:=di j hj;have K:(ak k.aj j).bh.length<=1000000:=by
  have h1:=Am (hR.sp hj);have h2:=rA (ak k.aj j).aJ;omega
 have c1:w.cell? (Ad mb 1)=some (.slice a.aF k.frames.length a.cF):=aA hm 1 rfl;have c2:w.cell? (Ad mb 2)=some (.slice a.aL k.slots.length a.cL):=aA hm 2 rfl;have c3:w.cell? (Ad mb 3)=some (.slice (some (Ad pb po)) k.aj.length a.cP):=(aA (v:=.slice a.aP k.aj.length a.cP) hm 3 rfl).trans (by rw[J]);have B6:=ai (λV (hV:Below w.heap.size w V)=>OU (ak k.aj j).bh p j k.aj.length mb pb po a.cP ap cp V ((hV.cell (p:=(Ad mb 3)) Uk).trans c3) hj ((hV.cell (p:=(Ad pb (po+j*3+2))) M).trans y2) (y4.below hV) K ω);have Aw:=ai (λV (hV:Below w.heap.size w V)=>Jk k.aR p ar.zero mb V (Ji (aU hm hV Uk) hR.lq) ω);have B:Hid (∀e:bJ,(jG (ak k.aj j).bh p).1=e->(e.kind=1->0<=e.loc/\e.loc<(k.frames.length:Int))/\(e.kind=2->0<=e.loc/\e.loc<(k.slots.length:Int))):=λe he=>by
  unfold jG at he;cases g:bl (ak k.aj j).bh p with
  | none =>
   rw[g] at he;have he:iD=e:=he;subst he;exact⟨λx=>absurd x Δ,λx=>absurd x Δ⟩
  | some e2 =>
   rw[g] at he;have he:e2=e:=he;subst he;have Q:=(gZ (hR.sp hj).lq).1 g;have:=((hR.sp hj).Qs e2 Q.1).2;omega
 have HF:=ai hK.frames;have HS:=ai hK.slots;rw[hz] at Aw;generalize jG (ak k.aj j).bh p=EN at Px B6 B;obtain⟨⟨pg,kd,lc⟩,fd⟩:=EN;unfold um at B6;have q:=ai (B.o _ rfl);generalize gz k.aR p (qo k j p)=FK at Px Aw;generalize b7 k j p=PK at Px ⊢;obtain⟨f1,f2,f3,z⟩:=ar;unfold pI;simp only at Px B6 q Aw hz ⊢;rw[<- hz] at Aw;have fU:=ai ((aN w.heap.size w).alloc (aK _) (.cells #[I f1,I f2,I f3,.bool z] 139));have AB:=ai (bH w #[I f1,I f2,I f3,.bool z] 139);clear hz J di y2 y4 B hK hR hm hp O K c3 hj;rcases(ω:kd=1\/(¬kd=1/\kd=2)\/(¬kd=1/\¬kd=2)) with g | ⟨g,g2⟩ | ⟨g,g2⟩
 . rw[aC g] at Px;have G:(kd==1)=true:=by grind
   obtain⟨l0,l1⟩:=q.o.1 g;obtain⟨i,rfl⟩:∃i:Nat,lc=(i:Int):=⟨lc.toNat,ω⟩;rw[jW] at Px;obtain⟨fb,fo,A,F,y⟩:=HF.o ω;have x0:=y i ω 0 ω;rw[A] at c1;have x0:w.cell? (Ad fb (fo+i*4))=some (.string PK):=by rw[Px.o];exact x0
   clear g HF HS Aw q y;go_enter func78,ntmps78;go_wp2_with (go_at_call 129;refine(B6.o _ fU.o).mono ?_;rintro e w1 ⟨rfl,b⟩;have cD:=ai (bq fU.o b);have iQ:=ai (cD.o.alloc cD.o.size (.cells #[I pg,I kd,I (i:Int)] 174));have d1:(w1.alloc (.cells #[I pg,I kd,I (i:Int)] 174)).cell? (Ad mb 1)=some (.slice (some (Ad fb fo)) k.frames.length a.cF):=(iQ.o.cell (p:=(Ad mb 1)) Uk).trans c1;clear b);have xA:=(iQ.o.cell (p:=(Ad fb (fo+i*4))) F).trans x0;go_region;go_wp2;go_ret;exact⟨rfl,iQ.o.drew⟩
 . rw[aB g,aC g2] at Px;have G:(kd==1)=false:=by grind
   have N:(kd==2)=true:=by grind
   obtain⟨l0,l1⟩:=q.o.2 g2;obtain⟨i,rfl⟩:∃i:Nat,lc=(i:Int):=⟨lc.toNat,ω⟩;rw[jW] at Px;obtain⟨fb,fo,A,F,y⟩:=HS.o ω;have x0:=y i ω 0 ω;rw[A] at c2;have x0:w.cell? (Ad fb (fo+i*2))=some (.string PK):=by rw[Px.o];exact x0
   clear g g2 HF HS Aw q y;go_enter func78,ntmps78;go_wp2_with (go_at_call 129;refine(B6.o _ fU.o).mono ?_;rintro e w1 ⟨rfl,b⟩;have cD:=ai (bq fU.o b);have iQ:=ai (cD.o.alloc cD.o.size (.cells #[I pg,I kd,I (i:Int)] 174));have d2:(w1.alloc (.cells #[I pg,I kd,I (i:Int)] 174)).cell? (Ad mb 2)=some (.slice (some (Ad fb fo)) k.slots.length a.cL):=(iQ.o.cell (p:=(Ad mb 2)) Uk).trans c2;clear b);have xA:=(iQ.o.cell (p:=(Ad fb (fo+i*2))) F).trans x0;go_region;go_wp2;go_ret;exact⟨rfl,iQ.o.drew⟩
 rw[aB g,aB g2] at Px;have G:(kd==1)=false:=by grind
 have N:(kd==2)=false:=by grind
 clear g g2 HF HS q;go_enter func78,ntmps78;go_wp2_with (first | (go_at_call 129;refine(B6.o _ fU.o).mono ?_;rintro e w1 ⟨rfl,b⟩;have cD:=ai (bq fU.o b);have iQ:=ai (cD.o.alloc cD.o.size (.cells #[I pg,I kd,I lc] 174));have A0:=ai (bu (aU AB.o b (aQ AB.o)) (.cells #[I pg,I kd,I lc] 174));have a3:(w1.alloc (.cells #[I pg,I kd,I lc] 174)).cell? (Ad w.heap.size 3)=some (.bool z):=aA A0.o 3 rfl;clear b) | (go_at_call 130;refine(Aw.o _ iQ.o).mono ?_;rintro e w2 ⟨rfl,L⟩;have iJ:=ai (bq iQ.o L);clear L));go_ret;exact⟨dC (λd=>Ending.returned (.string d)) Px.o.symm,iJ.o⟩
def qw (k:aT) (sp p:Int):ByteArray×Int:=if dw k sp=0 then (if (aV (ak k.aj sp.toNat).aJ p).2 then (b7 k sp.toNat p,0) else (⟨#[]⟩,6)) else (⟨#[]⟩,dw k sp)
theorem Yq {sp:Int} (h:dw k sp=0):gu k=0/\0<=sp/\sp<(k.aj.length:Int)/\(ak k.aj sp.toNat).live=true:=by
 grind [dw]
theorem aeH (k:aT) (a:jC) (sp p:Int) (w:World) (hK:ju w a k) (hF:pY k) (hsp:cH sp):Calls prog 29 #[.agg (br a k),I sp,I p] w λe w'=>e=.returned (.tuple #[.string (qw k sp p).1,I (qw k sp p).2])/\Below w.heap.size w w':=by
 have HO:=ai (λV (hV:Below w.heap.size w V)=>yh k a sp V (hK.below hV) hF hsp);have fU:=ai ((aN w.heap.size w).alloc (aK _) (.cells (br a k) 30));by_cases hl:dw k sp=0
 . have K:=Yq hl;have hR:=(qa k).1 K.1;obtain⟨j,rfl⟩:∃j:Nat,sp=(j:Int):=⟨sp.toNat,ω⟩;have hj:j<k.aj.length:=by omega
   have Fp:Hid (qw k (j:Int) p=if (aV (ak k.aj j).aJ p).2 then (b7 k j p,0) else (⟨#[]⟩,6)):=by show _=_;grind [qw]
   have K6:Hid (∀V,Below w.heap.size w V->Calls prog 76 #[.agg (br a k),I (j:Int)] V λe w'=>∃mb,e=.returned (.tuple #[.pointer (some (Ad mb 0)),I 0])/\w.heap.size<=mb/\w'.heap[mb]?=some (.cells (rB a k) 158 (0,0))/\Below V.heap.size V w'):=λV hV=>(HO.o V hV).mono λe w' ⟨hb,h⟩=>by
    rcases h with⟨_,mb,h1,h2,h3⟩ | ⟨h1,_⟩
    . exact⟨mb,h1,eJ hV.size h2,h3,hb⟩
    omega
   have Q:=hR.c;obtain⟨pb,po,J,M,di⟩:=hK.aj ω;obtain⟨va,ap,cp,_,y1,_,y3,_,_⟩:=di j hj;obtain⟨aa,ca,Ie,_⟩:=id y3;subst Ie;have WH:=ai (λV (hV:Below w.heap.size w V)=>yq (ak k.aj j).aJ _ p V (y3.below hV) (hF.sp j hj).aJ);have y:=ai (λmb V (hV:Below w.heap.size w V) (hm:V.heap[mb]?=some (.cells (rB a k) 158 (0,0))) (hp:dM k j p)=>abU k a j mb p (aV (ak k.aj j).aJ p).1 V (hK.below hV) hR hj hm hp rfl);have L:Hid (∀(V:World) mb,V.heap[mb]?=some (.cells (rB a k) 158 (0,0))->V.cell? (Ad mb 3)=some (.slice (some (Ad pb po)) k.aj.length a.cP)):=λV mb h=>(aA (v:=.slice a.aP k.aj.length a.cP) h 3 rfl).trans (by rw[J])
   have QT:Hid ((aV (ak k.aj j).aJ p).2=true->dM k j p):=λh=>h
   obtain⟨⟨⟨f1,f2,f3,z⟩,ok⟩,O⟩:∃F,F=aV (ak k.aj j).aJ p:=⟨_,rfl⟩;rw[<- O] at Fp WH y QT;unfold pI at WH y;simp only at Fp WH y QT;have R:(j:Int)<(k.aj.length:Int):=by omega
   have T:(0:Int)<=(j:Int):=by omega
   clear O HO hl K hR hK hF hsp J di y3 Q;generalize qw k (j:Int) p=PR at Fp ⊢;unfold br at K6 fU ⊢;cases ok with
   | false =>
    have B:Hid (PR=(⟨#[]⟩,6)):=Fp;clear Fp y QT;go_enter func29,ntmps29;go_wp2_with (first | (go_at_call 76;refine(K6.o _ fU.o).mono ?_;rintro e w1 ⟨mb,rfl,yr,q,b⟩;have G:=ai q;have cD:=ai (bq fU.o b);have c3:=L.o w1 mb q;have c1:=(cD.o.cell (p:=(Ad pb (po+j*3+1))) M).trans y1;clear b q) | (go_at_call 77;refine(WH.o _ cD.o).mono ?_;rintro e w2 ⟨rfl,A⟩;have iJ:=ai (bq cD.o A);have iQ:=ai (iJ.o.alloc iJ.o.size (.cells #[I f1,I f2,I f3,.bool z] 139));clear A))
    go_ret2
    rw[B.o];exact⟨rfl,iQ.o⟩
   | true =>
    have B:Hid (PR=(b7 k j p,0)):=Fp;clear Fp;generalize b7 k j p=PK at y B;go_enter func29,ntmps29;go_wp2_with (first | (go_at_call 76;refine(K6.o _ fU.o).mono ?_;rintro e w1 ⟨mb,rfl,yr,q,b⟩;have G:=ai q;have cD:=ai (bq fU.o b);have c3:=L.o w1 mb q;have c1:=(cD.o.cell (p:=(Ad pb (po+j*3+1))) M).trans y1;clear b q) | (go_at_call 77;refine(WH.o _ cD.o).mono ?_;rintro e w2 ⟨rfl,A⟩;have iJ:=ai (bq cD.o A);have iQ:=ai (iJ.o.alloc iJ.o.size (.cells #[I f1,I f2,I f3,.bool z] 139));have MA:=ai (bu (aU G.o A (aQ G.o)) (.cells #[I f1,I f2,I f3,.bool z] 139));clear A) | (go_at_call 78;refine(y.o mb _ iQ.o MA.o (QT.o trivial)).mono ?_;rintro e w3 ⟨rfl,N⟩;have ou:=ai (bq iQ.o N);clear N))
    go_ret2
    rw[B.o];exact⟨rfl,ou.o⟩
 have K6:Hid (∀V,Below w.heap.size w V->Calls prog 76 #[.agg (br a k),I sp] V λe w'=>e=.returned (.tuple #[.pointer none,I (dw k sp)])/\Below V.heap.size V w'):=λV hV=>(HO.o V hV).mono λe w' ⟨hb,h⟩=>by
  grind
 have Fp:Hid (qw k sp p=(⟨#[]⟩,dw k sp)):=by show _=_;grind [qw]
 generalize qw k sp p=PR at Fp ⊢;generalize dw k sp=C at Fp K6 hl;have cb:(C != 0)=true:=by grind
 clear HO hK hF hsp hl;unfold br at K6 fU ⊢;go_enter func29,ntmps29;go_wp2_with (go_at_call 76;refine(K6.o _ fU.o).mono ?_;rintro e w1 ⟨rfl,b⟩;have cD:=ai (bq fU.o b);clear b)
 go_ret2
 rw[Fp.o];exact⟨rfl,cD.o⟩
def jb (n:Int):List Value:=[I n]
def GZ (l:List Int) (i:Nat):Int:=l.getD i 0
theorem Yr (l:List Int) (x:Int) (ao:Option Addr) (cap:Nat) (w:World) (h:eX jb 1 0 w ao l) (hl:l.length<=1000000) :
  Calls prog 288 #[.slice ao l.length cap,I x] w λe w'=>w'=w/\((e=.returned (I (-1))/\∀j,j<l.length->GZ l j≠x)\/∃i:Nat,i<l.length/\e=.returned (I (i:Int))/\GZ l i=x):=by
 have HH:=ai h;clear h;go_enter func288,ntmps288;go_wp2;go_loopw [8] (λiv wr=>∃k:Nat,k<=l.length/\iv=I (k:Int)/\(∀j,j<k->GZ l j≠x)/\wr=w) (λiv _=>l.length-(intOf iv).toNat)
 case atStart=>grind
 case round =>
  obtain⟨k,hk,rfl,b,rfl⟩:=hrel;have sk:=ai b;clear b;by_cases hlt:k<l.length
  . have C2:(k:Int)<(l.length:Int):=by omega
    obtain⟨eb,eo,q,y,di⟩:=HH.o ω;subst q;have y0:=di k hlt 0 ω;rw[lB,TM] at y0;obtain⟨E,hE⟩:=ex (GZ l k);have x0:wr.cell? (Ad eb (eo+k))=some (I E):=by rw[hE];exact y0
    have HE:=ai hE;clear hE y0 di;by_cases c:x=E
    . have cb:(x==E)=true:=by grind
      have HC:=ai c;clear c;go_wp2;go_ret;exact⟨rfl,.inr ⟨k,hlt,rfl,by rw[<- HE.o,HC.o]⟩⟩
    have cb:(x==E)=false:=by grind
    have HC:=ai c;clear c;go_wp2
    grind [intOf,Hid.o]
  obtain rfl:k=l.length:=by omega
  go_wp2;go_ret;exact⟨rfl,.inl ⟨rfl,sk.o⟩⟩
theorem R7 (l:List Int) (x:Int):x∈l↔∃i,i<l.length/\GZ l i=x:=⟨λh=>mZ 0 h,λ⟨i,hi,e⟩=>e ▸ kT hi⟩
theorem zM (l:List Int) (x:Int) (ao:Option Addr) (cap:Nat) (w:World) (h:eX jb 1 0 w ao l) (hl:l.length<=1000000) :
  Calls prog 282 #[.slice ao l.length cap,I x] w λe w'=>e=.returned (.bool (decide (x∈l)))/\w'=w:=by
 have HI:=ai (Yr l x ao cap w h hl);clear h;by_cases c:x∈l
 . have Y2:Hid (Calls prog 288 #[.slice ao l.length cap,I x] w λe w'=>∃i:Nat,i<l.length/\e=.returned (I (i:Int))/\w'=w):=HI.o.mono λe w' ⟨hw,h⟩=>by
    grind [R7]
   rw[fD c];clear HI c;go_enter func282,ntmps282;go_wp2_with (go_at_call 288;refine Y2.o.mono ?_;rintro e w1 ⟨i,hi,rfl,rfl⟩;have b:(0:Int)<=(i:Int):=ω);go_ret
   simp_all
 have Y2:Hid (Calls prog 288 #[.slice ao l.length cap,I x] w λe w'=>e=.returned (I (-1))/\w'=w):=HI.o.mono λe w' ⟨hw,h⟩=>by
  grind [R7]
 rw[fE c];clear HI c;go_enter func282,ntmps282;go_wp2_with (go_at_call 288;refine Y2.o.mono ?_;rintro e w1 ⟨rfl,rfl⟩);go_ret
 simp_all
structure Dm where
 lv:Bool
 va:Value
 vp:Value
def iY (l:Dm):List Value:=[.bool l.lv,l.va,l.vp]
def zO:Dm:=⟨false,Nl,Nl⟩
def gh (l:List Dm) (k:Nat):Dm:=l.getD k zO
def cA (v:Value) (b:Nat):Prop:=v.ownBlock=some b
structure qx (lo:Nat) (w:World) (l:Dm) (s:dA):Prop where
 live:l.lv=s.live
 aJ:eB lo w l.va s.aJ
 aD:w.ownsRow lo 174 3 l.vp s.bh.length (s.bh.flatMap bZ)
theorem qx.kp {D:Nat->Prop} {l:Dm} {s:dA} (h:qx lo w l s) (hk:aH D w w') (ha:∀b,cA l.va b->¬D b) (hp:∀b,cA l.vp b->¬D b):qx lo w' l s:=⟨h.live,hk.row h.aJ ha,hk.row h.aD hp⟩
theorem qx.mono {lo':Nat} {l:Dm} {s:dA} (h:qx lo w l s) (hl:lo'<=lo):qx lo' w l s:=⟨h.live,h.aJ.mono hl,m9 h.aD (λg hg=>eJ hl (h.aD.lt g hg).1)⟩
theorem yO {α:Type} (f:α->List Value) (k:Nat) (hf:∀x,(f x).length=k) (d:α) (l:List α) (b off:Nat) (h:∀i,i<l.length->∀j,j<k->w.cell? (Ad b (off+i*k+j))=(f (l.getD i d))[j]?):qK w (some (Ad b off)) l.length (l.flatMap f):=λhm=>by
 refine⟨_,rfl,λj u hu=>?_⟩;have hlt:j<l.length*k:=by
  grind [fp]
 have hk:0<k:=by
  grind
 have e:j=j/k*k+j%k:=by grind [Nat.div_add_mod]
 have h1:j/k<l.length:=(Nat.div_lt_iff_lt_mul hk).2 hlt
 grind [Nat.mod_lt,Bh,Addr.add_lit]
theorem LW {ao:Option Addr} {n c:Nat} {l:List aX} (h:gD w (.slice ao n c) l):n=l.length/\qK w ao n (cW l):=by
 obtain⟨Fl,cap,e,h⟩:=h;injection e with e1 e2 e3;subst e1 e2 e3;refine⟨rfl,λhm=>?_⟩;rcases h with h | ⟨b,off,rfl,hl⟩
 . grind
 have:=yO (w:=w) qN 4 (λ_=>rfl) Ab l b off (λi hi j hj=>by
  obtain⟨c0,c1,c2,c3⟩:=hl i hi
  match j,hj with
  | 0,_=>exact c0
  | 1,_=>exact c1
  | 2,_=>exact c2
  | 3,_=>exact c3)
 have e:cW l=l.flatMap qN:=by
  clear this hl hm;induction l with
  | nil=>rfl
  | cons a r ih=>rw[o8,<- ih];rfl
 rw[e];exact this hm
theorem Yv {ap:Option Addr} {l:List bJ} (h:eX bZ 3 iD w ap l):qK w ap l.length (l.flatMap bZ):=λhm=>by
 obtain⟨b,off,rfl,hb,hl⟩:=h hm;exact yO (w:=w) bZ 3 (λ_=>rfl) iD l b off (λi hi j hj=>hl i hi j hj) hm
theorem abZ:∀(l:List bJ),∀u∈l.flatMap bZ,u.oneCell'=true:=λl u hu=>by
 obtain⟨y,_,hy⟩:=vO.1 hu;simp[bZ] at hy;rcases hy with rfl | rfl | rfl <;> rfl
theorem R8 {F S C E k:Nat} (hW:F=135/\S=99/\C=188\/F=182/\S=142/\C=214)
  (lv:Bool) (KJ:List aX) (XP:List Value) (aa ap:Option Addr) (na ca np cp:Nat) (w:World) (ha:gD w (.slice aa na ca) KJ) (hp:qK w ap np XP) (CS:KJ.length<=1000000)
  (hc:∀V,qK V ap np XP->Calls prog C #[.slice ap np cp] V λe w'=>∃v,e=.returned v/\w'.ownsRow V.heap.size E k v np XP/\Below V.heap.size V w') :
  Calls prog F #[.agg #[.bool lv,.slice aa na ca,.slice ap np cp]] w λe w'=>∃va vp,e=.returned (.agg #[.bool lv,va,vp])/\eB w.heap.size w' va KJ/\w'.ownsRow w.heap.size E k vp np XP/\(∀b,cA vp b->¬cA va b)/\Below w.heap.size w w':=by
 obtain⟨hn,M⟩:=LW ha;have IM:=ai M;have QU:=ai hp;have HC:=ai hc;subst hn;have y:=ai (wT KJ);have L:=ai (wO KJ);unfold eB;generalize cW KJ=XA at IM y L ⊢;generalize KJ.length=na at IM y CS ⊢;generalize hP:(λ(e:Ending) (w':World)=>∃va vp,e=.returned (.agg #[.bool lv,va,vp])/\w'.ownsRow w.heap.size 139 4 va na XA/\w'.ownsRow w.heap.size E k vp np XP/\(∀b,cA vp b->¬cA va b)/\Below w.heap.size w w')=P;have fV:Hid (∀va vp (w':World),w'.ownsRow w.heap.size 139 4 va na XA->w'.ownsRow w.heap.size E k vp np XP->(∀b,cA vp b->¬cA va b)->Below w.heap.size w w'->P (.returned (.agg #[.bool lv,va,vp])) w'):=λva vp w' h1 h2 h3 h4=>by rw[<- hP];exact⟨va,vp,rfl,h1,h2,h3,h4⟩
 clear M ha hp hc hP;have fU:=ai (((aN w.heap.size w).alloc (aK _) (.cells #[.bool lv,.slice aa na ca,.slice ap np cp] S)).alloc ξ (.cells #[.bool false,Nl,Nl] S));have X0:=ai (bu (bH w #[.bool lv,.slice aa na ca,.slice ap np cp] S) (.cells #[.bool false,Nl,Nl] S));have Y0:Hid (((w.alloc (.cells #[.bool lv,.slice aa na ca,.slice ap np cp] S)).alloc (.cells #[.bool false,Nl,Nl] S)).heap[w.heap.size+1]?=some (.cells #[.bool false,Nl,Nl] S (0,0))):=by
  grind [World.alloc]
 generalize pU:(w.alloc (.cells #[.bool lv,.slice aa na ca,.slice ap np cp] S)).alloc (.cells #[.bool false,Nl,Nl] S)=WA at fU X0 Y0;rcases hW with⟨rfl,rfl,rfl⟩ | ⟨rfl,rfl,rfl⟩
 all_goals
  (first | go_enter func135,ntmps135 | go_enter func182,ntmps182)
  go_wp2;clear pU;have PC:=ai fU.o;obtain⟨xb,UF⟩:=ex w.heap.size;rw[<- UF] at X0 Y0 fU fV ⊢;have QP:=ai UF;clear UF;have HS:Hid (∀V,Below WA.heap.size WA V->V.cell? (Ad xb 0)=some (.bool lv)/\V.cell? (Ad xb 1)=some (.slice aa na ca)/\V.cell? (Ad xb 2)=some (.slice ap np cp)):=λV hb=>zn (aU X0.o hb (aQ X0.o))
  have G:=ai λV (hV:Below WA.heap.size WA V)=>WO aa na ca XA V y.o (IM.o.below (PC.o.trans (hV.mono PC.o.size))) L.o CS
  have J:=ai λV (hV:Below WA.heap.size WA V)=>HC.o V (QU.o.below (PC.o.trans (hV.mono PC.o.size)))
  have QQ:=ai λ(V:World) (h:V.cell? (Ad xb 0)=some (.bool lv)/\V.cell? (Ad xb 1)=some (.slice aa na ca)/\V.cell? (Ad xb 2)=some (.slice ap np cp)) v0 v1 v2=>(show(λV:World=>V.cell? (Ad xb 0)=some (.bool lv)/\V.cell? (Ad xb 1)=some (.slice aa na ca)/\V.cell? (Ad xb 2)=some (.slice ap np cp)) (((V.setCell (Ad (xb+1) 0) v0).setCell (Ad (xb+1) 1) v1).setCell (Ad (xb+1) 2) v2) by
   simp only[dH _ _ _ _ _ _ (ω:xb≠xb+1)];exact h)
  have tV:=ai (aN WA.heap.size WA).drew;have pK:=ai (HS.o _ tV.o)
  go_region_held3 (λV=>V.cell? (Ad xb 0)=some (.bool lv)/\V.cell? (Ad xb 1)=some (.slice aa na ca)/\V.cell? (Ad xb 2)=some (.slice ap np cp)) (first | exact Gh.o | exact Mf.o | exact pK.o | exact IK.o _ _ _)
   (first
    | (go_at_call 71;refine(G.o _ tV.o).mono ?_;rintro e w2 ⟨v2,rfl,B,N⟩;obtain⟨a2,c2,rfl,_⟩:=aZ B;have uD:=ai (tV.o.trans (N.mono tV.o.size));have Mf:=ai (HS.o _ uD.o);have Fm:=ai B;clear N B)
    | ((first | go_at_call 188 | go_at_call 214);refine(J.o _ uD.o).mono ?_;rintro e w3 ⟨v3,rfl,A,q⟩;obtain⟨a3,c3,rfl,_⟩:=aZ A;have Ez:=ai (uD.o.trans (q.mono uD.o.size));have Gh:=ai (HS.o _ Ez.o);have K:=ai A;have ou:=ai q;have Y3:=aU Y0.o Ez.o (aQ Y0.o);obtain⟨y0,y1,y2⟩:=zn Y3;have z0:w3.frozen? (Ad (xb+1) 0)=false:=bG Y3 0;have z1:w3.frozen? (Ad (xb+1) 1)=false:=bG Y3 1;have z2:w3.frozen? (Ad (xb+1) 2)=false:=bG Y3 2;have IK:=ai (λv0 v1 v2=>QQ.o w3 Gh.o v0 v1 v2);clear q A Y3))
  all_goals clear IK QQ HS pK Mf Gh G J
  all_goals go_wp2
  refine b9 (v:=.agg #[.bool lv,.slice a2 na c2,.slice a3 np c3]) (by simp[results,results135,results182,go_sem,y0,y1,y2]) rfl ?_;have k3:aH (λb=>b=xb+1) w3 _:=xS w3 (xb+1) 0 1 2 (.bool lv) (.slice a2 na c2) (.slice a3 np c3) rfl;have l1:=aQ Y0.o;have l3:=uD.o.size;have hx:=QP.o;have e2:∀g,(Value.slice a2 na c2).ownBlock=some g->WA.heap.size<=g/\g<w2.heap.size:=λg hg=>Fm.o.lt g hg
  have e3:∀g,(Value.slice a3 np c3).ownBlock=some g->w2.heap.size<=g/\g<w3.heap.size:=λg hg=>K.o.lt g hg
  have r2:=(aH.bQ (D:=λ_=>False) ou.o).row Fm.o (λ_ _ g=>g);refine fV.o _ _ _ (k3.row (m9 r2 (λg hg=>Γ)) (λg hg e=>Γ)) (k3.row (m9 K.o (λg hg=>Γ)) (λg hg e=>Γ)) (λb h1 h2=>by have:=e2 b h2;have:=e3 b h1;omega) ?_;exact aH.below (fU.o.trans (Ez.o.mono ω)) k3 (by have:=Ez.o.size;omega) (λb e=>ω)
def amG (w:World) (s:dA) (e:Ending) (w':World):Prop:=∃va vp,e=.returned (.agg #[.bool s.live,va,vp])/\qx w.heap.size w' ⟨s.live,va,vp⟩ s/\(∀b,cA vp b->¬cA va b)/\Below w.heap.size w w'
theorem LV (s:dA) (aa ap:Option Addr) (na ca cp:Nat) (w:World) (ha:gD w (.slice aa na ca) s.aJ) (hp:eX bZ 3 iD w ap s.bh) (CS:s.aJ.length<=1000000) (C0:s.bh.length<=1000000) :
  Calls prog 135 #[.agg #[.bool s.live,.slice aa na ca,.slice ap s.bh.length cp]] w (amG w s) :=
 (R8 (.inl ⟨rfl,rfl,rfl⟩) s.live s.aJ _ aa ap na ca _ cp w ha (Yv hp) CS λV h=>aiz ap _ cp _ V (fp bZ 3 (λ_=>rfl) _) h (abZ _) C0).mono λe w' ⟨va,vp,e,h1,h2,h3⟩=>⟨va,vp,e,⟨rfl,h1,h2⟩,h3⟩
def py (s:bC):List Value:=[I s.page,.string s.data,.slice s.ao s.dR.length s.cap]
def sX (f:oa):List Value:=[I f.off,.string f.bytes]
def ajC (s:bC):Value:=.slice s.ao s.dR.length s.cap
inductive qP where
 | no | head | frames | slots | aj | aR
 | aJ (i:Nat)
 | bh (i:Nat)
 | dR (i:Nat)
structure gJ where
 lab:Nat->qP
 vS:Value
 vF:Value
 vL:Value
 vP:Value
 L:List Dm
variable {S:gJ}
structure Kr (lo:Nat) (w:World) (S:gJ) (k:aT):Prop where
 CT:∀b,S.lab b≠.no->lo<=b/\b<w.heap.size
 aR:w.ownsRow lo 145 3 S.vS k.aR.length (k.aR.flatMap py)
 dR:∀i,i<k.aR.length->w.ownsRow lo 226 2 (ajC (bk k.aR i)) (bk k.aR i).dR.length ((bk k.aR i).dR.flatMap sX)
 frames:w.ownsRow lo 169 4 S.vF k.frames.length (k.frames.flatMap jI)
 slots:w.ownsRow lo 171 2 S.vL k.slots.length (k.slots.flatMap jH)
 aj:w.ownsRow lo 99 3 S.vP S.L.length (S.L.flatMap iY)
 len:S.L.length=k.aj.length
 each:∀i,i<k.aj.length->qx lo w (gh S.L i) (ak k.aj i)
 lS:∀b,cA S.vS b->S.lab b=.aR
 lX:∀i,i<k.aR.length->∀b,cA (ajC (bk k.aR i)) b->S.lab b=.dR i
 lF:∀b,cA S.vF b->S.lab b=.frames
 lL:∀b,cA S.vL b->S.lab b=.slots
 lP:∀b,cA S.vP b->S.lab b=.aj
 lA:∀i,i<k.aj.length->∀b,cA (gh S.L i).va b->S.lab b=.aJ i
 lE:∀i,i<k.aj.length->∀b,cA (gh S.L i).vp b->S.lab b=.bh i
structure bR (lo mb:Nat) (tt:TypeId) (X:List Value) (w:World) (S:gJ) (k:aT):Prop extends Kr lo w S k where
 head:w.heap[mb]?=some (.cells ([S.vS,S.vF,S.vL,S.vP,I k.hand]++X).toArray tt (0,0))
 lH:S.lab mb=.head
structure cO (S:gJ) (w:World) (S':gJ) (w':World):Prop where
 kp:aH (λb=>S.lab b≠.no) w w'
 no:∀b,b<w.heap.size->S.lab b=.no->S'.lab b=.no
 eS:S'.vS=S.vS
 eF:S'.vF=S.vF
 eL:S'.vL=S.vL
 eP:S'.vP=S.vP
theorem cO.refl (S:gJ) (w:World):cO S w S w:=⟨aH.refl _ _,λ_ _ h=>h,rfl,rfl,rfl,rfl⟩
theorem cO.trans {S1 S2:gJ} {w1 w2:World} (h:cO S w S1 w1) (g:cO S1 w1 S2 w2):cO S w S2 w2 :=
 ⟨⟨g.kp.os.trans h.kp.os,g.kp.tape.trans h.kp.tape,g.kp.output.trans h.kp.output,eJ h.kp.size g.kp.size,λb hb hn=>by
  have hb1:=dV hb h.kp.size;have hn0:S.lab b=.no:=D7.1 hn;have UJ:=h.no b hb hn0;exact(g.kp.block b hb1 (λx=>x UJ)).trans (h.kp.block b hb hn)⟩,λb hb hn=>g.no b (dV hb h.kp.size) (h.no b hb hn),g.eS.trans h.eS,g.eF.trans h.eF,g.eL.trans h.eL,g.eP.trans h.eP⟩
theorem cO.below (h:Below w.heap.size w w'):cO S w S w':=⟨aH.bQ h,λ_ _ h=>h,rfl,rfl,rfl,rfl⟩
theorem cO.set {g:Nat} {u:Value} (h:S.lab g≠.no):cO S w S (w.setCell (Ad g j) u):=⟨aH.set _ _ _ _ h,λ_ _ h=>h,rfl,rfl,rfl,rfl⟩
theorem cO.keep {S':gJ} {b:Nat} {o:Obj} (h:cO S w S' w') (hb:w.heap[b]?=some o) (hn:S.lab b=.no):w'.heap[b]?=some o:=h.kp.keep hb (λx=>x hn)
theorem cO.old {S':gJ} {w0:World} (h:cO S w S' w') (hr:Kr lo w S k) (hb:Below lo w0 w) (hl:lo<=w.heap.size):Below lo w0 w':=aH.below hb h.kp hl (λb hb=>(hr.CT b hb).1)
theorem Kr.kp {E:Nat->Prop} (h:Kr lo w S k) (hk:aH E w w') (he:∀b,S.lab b≠.no->¬E b):Kr lo w' S k:=by
 have z:∀{b:Nat} {c:qP},S.lab b=c->c≠.no->¬E b:=λe hc=>he _ Γ
 exact⟨λb hb=>⟨(h.CT b hb).1,dV (h.CT b hb).2 hk.size⟩,hk.row h.aR (λb hb=>z (h.lS b hb) ξ),λi hi=>hk.row (h.dR i hi) (λb hb=>z (h.lX i hi b hb) ξ),hk.row h.frames (λb hb=>z (h.lF b hb) ξ),hk.row h.slots (λb hb=>z (h.lL b hb) ξ),hk.row h.aj (λb hb=>z (h.lP b hb) ξ),h.len,λi hi=>(h.each i hi).kp hk (λb hb=>z (h.lA i hi b hb) ξ) (λb hb=>z (h.lE i hi b hb) ξ),h.lS,h.lX,h.lF,h.lL,h.lP,h.lA,h.lE⟩
theorem Kr.below (h:Kr lo w S k) (hb:Below w.heap.size w w'):Kr lo w' S k:=h.kp (aH.bQ (D:=λ_=>False) hb) (λ_ _ g=>g)
theorem Kr.mono {lo':Nat} (h:Kr lo w S k) (hl:lo'<=lo):Kr lo' w S k:=by
 have z:∀{e:TypeId} {n m:Nat} {v:Value} {xs:List Value},w.ownsRow lo e n v m xs->w.ownsRow lo' e n v m xs:=λhr=>m9 hr (λg hg=>eJ hl (hr.lt g hg).1)
 exact⟨λb hb=>⟨eJ hl (h.CT b hb).1,(h.CT b hb).2⟩,z h.aR,λi hi=>z (h.dR i hi),z h.frames,z h.slots,z h.aj,h.len,λi hi=>(h.each i hi).mono hl,h.lS,h.lX,h.lF,h.lL,h.lP,h.lA,h.lE⟩
theorem bR.below {mb:Nat} {tt:TypeId} {X:List Value} (h:bR lo mb tt X w S k) (hb:Below w.heap.size w w'):bR lo mb tt X w' S k:=⟨h.toKr.below hb,aU h.head hb (aQ h.head),h.lH⟩
theorem bR.kp {mb:Nat} {tt:TypeId} {X:List Value} {E:Nat->Prop} (h:bR lo mb tt X w S k) (hk:aH E w w') (he:∀b,S.lab b≠.no->¬E b):bR lo mb tt X w' S k:=⟨h.toKr.kp hk he,hk.keep h.head (he mb (by grind [lH])),h.lH⟩
theorem Kr.new (h:Kr lo w S k) {b:Nat} (hb:w.heap.size<=b):S.lab b=.no:=D7.1 λx=>by have:=(h.CT b x).2;omega
theorem qy {α:Type} {base:Nat} {e:TypeId} {k:Nat} (f:α->List Value) (hf:∀x,(f x).length=k) (d:α) {l:List α} {v:Value} (hr:w.ownsRow base e k v l.length (l.flatMap f)):∃ao cap,v=.slice ao l.length cap/\l.length<=cap/\eX f k d w ao l:=by
 obtain⟨ao,cap,rfl,b,hg⟩:=aZ hr;refine⟨ao,cap,rfl,b,λhl=>?_⟩;obtain⟨g,rfl,y,q⟩:=hg hl;exact⟨g,0,rfl,q,λi hi j hj=>by grind [gw]⟩
theorem Kr.ax6 (h:Kr lo w S k):∃ao cap,S.vS=.slice ao k.aR.length cap/\k.aR.length<=cap/\kq w ao k.aR:=by
 obtain⟨ao,cap,e,hc,hr⟩:=qy py (λ_=>rfl) GD h.aR;refine⟨ao,cap,e,hc,λhl=>?_⟩;obtain⟨b,off,e1,hb,hi⟩:=hr hl;refine⟨b,off,e1,hb,λi hlt=>⟨?_,hi i hlt 1 ω,hi i hlt 2 ω,λhx=>?_⟩⟩
 . have:=hi i hlt 0 ω;rw[lB] at this;exact this
 obtain⟨ax,cx,ex,_,y⟩:=qy sX (λ_=>rfl) aby (h.dR i hlt);injection ex with e1 e2 e3;rw[e1];obtain⟨b2,q,g1,g2,g3⟩:=y hx;refine⟨b2,q,g1,g2,λn hn=>⟨?_,g3 n hn 1 ω⟩⟩;have:=g3 n hn 0 ω;rw[lB] at this;exact this
theorem Kr.ax5 (h:Kr lo w S k):∃ao cap,S.vP=.slice ao k.aj.length cap/\k.aj.length<=cap/\Dl w ao k.aj:=by
 obtain⟨ao,cap,e,hc,hr⟩:=qy iY (λ_=>rfl) zO h.aj;rw[h.len] at e hc;refine⟨ao,cap,e,hc,λhl=>?_⟩;obtain⟨b,off,e1,hb,hi⟩:=hr (by grind [len]);refine⟨b,off,e1,hb,λi hlt=>?_⟩;have q:i<S.L.length:=by grind [len]
 have hs:=h.each i hlt;obtain⟨ap,cp,y,B,A⟩:=qy bZ (λ_=>rfl) iD hs.aD;have c0:=hi i q 0 ω;have c1:=hi i q 1 ω;have c2:=hi i q 2 ω;rw[lB] at c0;refine⟨(gh S.L i).va,ap,cp,?_,c1,?_,hs.aJ.has,A,B⟩
 . rw[<- hs.live];exact c0
 rw[<- y];exact c2
structure akM (S:gJ) (k:aT) (a:jC):Prop where
 eS:S.vS=.slice a.aS k.aR.length a.cS
 eF:S.vF=.slice a.aF k.frames.length a.cF
 eL:S.vL=.slice a.aL k.slots.length a.cL
 eP:S.vP=.slice a.aP k.aj.length a.cP
theorem Kr.has (h:Kr lo w S k):∃a,akM S k a/\ju w a k:=by
 obtain⟨aS,cS,eS,_,hS⟩:=h.ax6;obtain⟨aP,cP,eP,_,hP⟩:=h.ax5;obtain⟨aF,cF,eF,_,hF⟩:=qy jI (λ_=>rfl) fN h.frames;obtain⟨aL,cL,eL,_,hL⟩:=qy jH (λ_=>rfl) jm h.slots;exact⟨⟨aS,cS,aF,cF,aL,cL,aP,cP⟩,⟨eS,eF,eL,eP⟩,⟨hS,hF,hL,hP⟩⟩
theorem Kr.Qn (h:Kr lo w S k) {g n cap:Nat} (hv:S.vF=.slice (some (Ad g 0)) n cap) {i:Nat} (hi:i<k.frames.length) (hj:j<4) {f:nA} {u:Value} (e:jI f=(jI (aM k.frames i)).set j u) :
  Kr lo (w.setCell (Ad g (i*4+j)) u) S { k with frames:=k.frames.set i f }:=by
 have hk:aH (λb=>b=g) w (w.setCell (Ad g (i*4+j)) u):=aH.set _ _ _ _ rfl;have hg:S.lab g=.frames:=h.lF g (by rw[hv];rfl);have z:∀{b:Nat} {c:qP},S.lab b=c->c≠.frames->¬b=g:=λe hc x=>hc Γ
 have hn:n=k.frames.length:=by
  obtain⟨ao,c,e,_⟩:=aZ h.frames
  grind
 subst hn;have hr:=h.frames;rw[hv] at hr;refine⟨λb hb=>⟨(h.CT b hb).1,dV (h.CT b hb).2 hk.size⟩,hk.row h.aR (λb hb=>z (h.lS b hb) ξ),λi hi=>hk.row (h.dR i hi) (λb hb=>z (h.lX i hi b hb) ξ),?_,hk.row h.slots (λb hb=>z (h.lL b hb) ξ),hk.row h.aj (λb hb=>z (h.lP b hb) ξ),h.len,λi hi=>(h.each i hi).kp hk (λb hb=>z (h.lA i hi b hb) ξ) (λb hb=>z (h.lE i hi b hb) ξ),h.lS,h.lX,h.lF,h.lL,h.lP,h.lA,h.lE⟩;have:=dJ hr (i*4+j) u;show World.ownsRow _ lo _ 4 S.vF (k.frames.set i f).length _;rw[dE,hv,jf jI 4 (λ_=>rfl) fN f j u hj k.frames i hi e];omega
theorem Kr.alM (h:Kr lo w S k) {g n cap:Nat} (hv:S.vL=.slice (some (Ad g 0)) n cap) {i:Nat} (hi:i<k.slots.length) (hj:j<2) {f:qh} {u:Value} (e:jH f=(jH (bI k.slots i)).set j u) :
  Kr lo (w.setCell (Ad g (i*2+j)) u) S { k with slots:=k.slots.set i f }:=by
 have hk:aH (λb=>b=g) w (w.setCell (Ad g (i*2+j)) u):=aH.set _ _ _ _ rfl;have hg:S.lab g=.slots:=h.lL g (by rw[hv];rfl);have z:∀{b:Nat} {c:qP},S.lab b=c->c≠.slots->¬b=g:=λe hc x=>hc Γ
 have hn:n=k.slots.length:=by
  obtain⟨ao,c,e,_⟩:=aZ h.slots
  grind
 subst hn;have hr:=h.slots;rw[hv] at hr;refine⟨λb hb=>⟨(h.CT b hb).1,dV (h.CT b hb).2 hk.size⟩,hk.row h.aR (λb hb=>z (h.lS b hb) ξ),λi hi=>hk.row (h.dR i hi) (λb hb=>z (h.lX i hi b hb) ξ),hk.row h.frames (λb hb=>z (h.lF b hb) ξ),?_,hk.row h.aj (λb hb=>z (h.lP b hb) ξ),h.len,λi hi=>(h.each i hi).kp hk (λb hb=>z (h.lA i hi b hb) ξ) (λb hb=>z (h.lE i hi b hb) ξ),h.lS,h.lX,h.lF,h.lL,h.lP,h.lA,h.lE⟩;have:=dJ hr (i*2+j) u;show World.ownsRow _ lo _ 2 S.vL (k.slots.set i f).length _;rw[dE,hv,jf jH 2 (λ_=>rfl) jm f j u hj k.slots i hi e];omega
theorem Kr.turn {w2:World} (h:Kr lo w S k) (hj:j<k.aj.length) {l:Dm} {s:dA} {lab':Nat->qP}
  (hk:aH (λb=>S.lab b=.bh j\/S.lab b=.aj\/S.lab b=.aJ j) w w2) (hrow:w2.ownsRow lo 99 3 S.vP S.L.length ((S.L.set j l).flatMap iY)) (hs:qx lo w2 l s)
  (hb:∀b,lab' b≠.no->lo<=b/\b<w2.heap.size) (hlab:∀b c,S.lab b=c->c≠.no->c≠.aJ j->c≠.bh j->lab' b=c) (hA:∀b,cA l.va b->lab' b=.aJ j) (hE:∀b,cA l.vp b->lab' b=.bh j) :
  Kr lo w2 ⟨lab',S.vS,S.vF,S.vL,S.vP,S.L.set j l⟩ { k with aj:=k.aj.set j s }:=by
 have z:∀{b:Nat} {c:qP},S.lab b=c->c≠.bh j->c≠.aj->c≠.aJ j->¬(S.lab b=.bh j\/S.lab b=.aj\/S.lab b=.aJ j):=λe h1 h2 h3 x=>by
  grind
 have q:(S.L.set j l).length=S.L.length:=dE;have hl:=h.len;have at_:∀i,i<k.aj.length->gh (S.L.set j l) i=if j=i then l else gh S.L i:=λi hi=>by
  grind [gh]
 refine⟨hb,hk.row h.aR (λb hb=>z (h.lS b hb) ξ ξ ξ),λi hi=>hk.row (h.dR i hi) (λb hb=>z (h.lX i hi b hb) ξ ξ ξ),hk.row h.frames (λb hb=>z (h.lF b hb) ξ ξ ξ),hk.row h.slots (λb hb=>z (h.lL b hb) ξ ξ ξ),?_,?_,?_,λb hb=>hlab b _ (h.lS b hb) ξ ξ ξ,λi hi b hb=>hlab b _ (h.lX i hi b hb) ξ ξ ξ,λb hb=>hlab b _ (h.lF b hb) ξ ξ ξ,λb hb=>hlab b _ (h.lL b hb) ξ ξ ξ,λb hb=>hlab b _ (h.lP b hb) ξ ξ ξ,?_,?_⟩
 . grind
 . grind
 . intro i hi;have hi:i<k.aj.length:=by grind
   show qx lo w2 (gh (S.L.set j l) i) (ak (k.aj.set j s) i);rw[at_ i hi,jd _ _ _ _ hj];by_cases c:j=i
   . grind
   rw[aB c,aB c];exact(h.each i hi).kp hk (λb hb=>z (h.lA i hi b hb) ξ ξ Γ) (λb hb=>z (h.lE i hi b hb) Γ ξ ξ)
 . grind [lA]
 grind [lE]
end Go.Proofs.YtlgoihmkgaaemaaGreat
