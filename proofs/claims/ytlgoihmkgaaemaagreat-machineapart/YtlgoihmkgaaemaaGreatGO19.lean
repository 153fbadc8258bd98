import Derived.Test.YtlgoihmkgaaemaaGreatGO18
set_option maxHeartbeats 20000000
set_option linter.unusedVariables false
set_option maxRecDepth 100000
set_option linter.unusedSimpArgs false
namespace Go.Proofs.YtlgoihmkgaaemaaGreat
open Go.RowKit
theorem DX {lo mb:Nat} {tt:TypeId} {X:List Value} (k:aR) (S:gL) (w:World) (j:Nat) (e:bD) (h:bJ lo mb tt X w S k) (hj:j<k.aj.length) (hen:(ak k.aj j).bf.length<=1000) (yn:k.aj.length<=1000) :
  Calls Tryz.prog 293 #[.pointer (some (Ad mb 0)),I (j:Int),.agg #[I e.page,I e.kind,I e.loc]] w (gj lo mb tt X w S (.tuple #[]) (gy k j e)):=by
 have hlo:lo<=w.heap.size:=gu h.lo_le (JV h.lt);obtain⟨WA,lu⟩:=ex (w.alloc (.cells #[I e.page,I e.kind,I e.loc] 174));have jk:Hid (Below w.heap.size w WA):=by rw[lu];exact(aK w.heap.size w).alloc (aD _) _
 have EX:Hid (WA.heap[w.heap.size]?=some (.cells #[I e.page,I e.kind,I e.loc] 174 (0,0))):=by rw[lu];exact bB w _ _
 have n0:S.lab w.heap.size=.no:=h.toKr.new (aD _);have HMA:=ai (h.below jk.o);obtain⟨pb,cP,A⟩:=HMA.o.toKr.sp (by omega);have hrow:=(HMA.o.each j hj).aQ;obtain⟨ae,ce,SE,hcap,hge⟩:=bg hrow;obtain⟨es,hes⟩:=ex ((ak k.aj j).bf);rw[<- hes] at hrow SE hcap hge hen;rw[SE] at hrow;have hre:=ZA hrow;have ac6:∀b,bX (.slice ae es.length ce) b->S.lab b=.bf j:=fun b hb=>h.lE j hj b (by grind)
 have hpl:=A.lab;have c3:=HMA.o.c3;rw[A.v] at c3;have a2:=A.x2 j hj;rw[SE] at a2;have hji:(j:Int)<(k.aj.length:Int):=by omega
 have hix:=Ju 298 (.inr (.inl rfl)) (fun o=>decide (e.page<=o.page)) es ae ce w.heap.size WA hre (by omega) (fun V o hV=>Tb e o w.heap.size V (aq (aN EX.o hV (aJ EX.o)) 0 rfl));have HE:Hid (∀V v' fs,aC (fun b=>S.lab b=.bf j) WA V->V.ownsRow lo 174 3 v' fs.length (fs.flatMap bw)->(∀b,bX v' b->S.lab b=.bf j∨WA.heap.size<=b)->mI es e=fs->gj lo mb tt X w S (.tuple #[]) (gy k j e) (.returned (.tuple #[])) (V.setCell (Ad pb (j*3+2)) v')):=fun V v' fs h1 h2 h3 h4=>by
  have sw:=HMA.o.aiQ hj A.v h1 h2 (fun b hb=>by
   rcases h3 b hb with g | g
   · grind
   · exact .inr (HMA.o.toKr.new g))
  have hK:({ k with aj:=k.aj.set j (ek (ak k.aj j) fs) }:aR)=gy k j e:=by
   grind [gy]
  refine⟨rfl,_,hK ▸ sw.1,(cK.below jk.o).trans (sw.2 (fun b hb hx=>?_))⟩
  grind
 have HES:Hid (∀V n g,Below WA.heap.size WA V->n<es.length->ae=some (Ad g 0)->mI es e=es.set n e->gj lo mb tt X w S (.tuple #[]) (gy k j e) (.returned (.tuple #[])) (((V.setCell (Ad g (n*3)) (I e.page)).setCell (Ad g (n*3+1)) (I e.kind)).setCell (Ad g (n*3+2)) (I e.loc)).drew.drew):=fun V n g hb hn hg hp=>by
  have m:=HMA.o.below hb;have m1:=amQ.aoW m hj (g:=g) (by rw[SE,hg]) (i:=n) (by grind) e;have hK:({ k with aj:=k.aj.set j (ek (ak k.aj j) ((ak k.aj j).bf.set n e)) }:aR)=gy k j e:=by
   grind [gy]
  have m1a:=hK ▸ m1.1;have dr:∀V:World,Below V.heap.size V V.drew:=fun V=>(aK _ _).drew
  exact⟨rfl,S,(m1a.below (dr _)).below (dr _),((((cK.below jk.o).trans (cK.below hb)).trans m1.2).trans (cK.below (dr _))).trans (cK.below (dr _))⟩
 obtain⟨P,hP⟩:=ex (gj lo mb tt X w S (.tuple #[]) (gy k j e));rw[<- hP] at HE HES ⊢;obtain⟨np,P7⟩:=ex k.aj.length;rw[<- P7] at c3 hji;have apl:=A.lt;have hxl:=aJ EX.o;have auL:=A.fz (j*3+2);have HPE:Hid (∀b,bX (.slice ae es.length ce) b->b≠pb/\b≠w.heap.size/\b<WA.heap.size):=fun b hb=>⟨fun z=>by grind,fun z=>by grind,(hrow.lt b hb).2⟩
 have HLE:=ai ac6;have Xa:=ai hrow;have HGE:=ai hge;have sB:=ai lu;have HHE:=ai hre;obtain⟨i0,hin,hz0,hz1,hz2⟩:=jy H0;have Eu:=ai hin;have Ia:=ai hz0;have E9:=ai hz1;have yZ:=ai hz2;have hlA:lo<=WA.heap.size:=gu hlo jk.o.size;have avg:es.length<=1000:=by omega
 by_cases hall:∀i,i<es.length->(aX es i).page<e.page
 · have HP0:=ai (Nu es e hall);have UY:Hid (Calls Tryz.prog 186 #[.slice ae es.length ce,.func (.func 298) #[] #[.pointer (some (Ad w.heap.size 0))]] WA fun r w'=>r=.returned (I (-1))/\Below WA.heap.size WA w'):=hix.mono fun r w' ⟨hb,hh⟩=>by
    grind
   clear hix lu h hrow hge hre ac6 HMA A SE hes hP P7 hin hz0 hz1 hz2 hall yn hj hen hlo;go_enter Tryz.func293,Tryz.ntmps293;go_upto_region 1 with fail;rw[<- sB.o];go_upto_region 5 with(go_at_call 186;refine UY.o.mono ?_;rintro r w1 ⟨rfl,hb1⟩;have cH:=ai hb1;clear hb1)
   have nU:Hid (aC (fun b=>bX (.slice ae es.length ce) b) w1 w1.drew):=aC.drew _ _;have HSB:Hid (∀o,aC (fun b=>bX (.slice ae es.length ce) b) w1 ((w1.alloc o).drew)):=fun o=>(aC.alloc _ _ o).trans (aC.drew _ _) (fun _ _ g=>g)
   have qc:Hid (∀V,aC (fun b=>bX (.slice ae es.length ce) b) w1 V->V.cell? (Ad pb (j*3+2))=some (.slice ae es.length ce)/\V.cell? (Ad w.heap.size 0)=some (I e.page)/\V.cell? (Ad w.heap.size 1)=some (I e.kind)/\V.cell? (Ad w.heap.size 2)=some (I e.loc)/\V.frozen? (Ad pb (j*3+2))=false):=fun V hV=>by
    have b1:=aN EX.o cH.o (aJ EX.o);have b2:=hV.keep b1 (fun g=>(HPE.o _ g).2.1 rfl)
    grind [aq,KQ,aC.cell,Hid.o,Below.cell]
   have HRW:Hid (∀o,((w1.alloc o).drew).ownsRow lo 174 3 (.slice ae es.length ce) es.length (es.flatMap bw)):=fun o=>((Wm w1 o).row ((aC.bZ (D:=fun _=>False) cH.o).row Xa.o (fun _ _ g=>g)) (fun _ _ g=>g))
   have hsz:=cH.o.size;refine xz (S:=fun V=>aC (fun b=>bX (.slice ae es.length ce) b) w1 V) (z:=10) (by rfl) ?_;refine iK 0 nU.o ?_ ?_ ?_;rotate_left 1
   · intro V h;rfl
   refine iK 1 nU.o ?_ ?_ ?_;rotate_left 1
   · intro V h;rfl
   refine iK 2 nU.o ?_ ?_ ?_;rotate_left 1
   · intro V h;rfl
   refine iK 3 nU.o ?_ ?_ ?_;rotate_left 1
   · intro V h;obtain⟨k0,k1,k2,k3,k4⟩:=qc.o V h;go_simp;rfl
   refine iK 4 nU.o ?_ ?_ ?_;rotate_left 1
   · intro V h;obtain⟨k0,k1,k2,k3,k4⟩:=qc.o V h;go_simp;rfl
   refine iK 5 nU.o ?_ ?_ ?_;rotate_left 1
   · intro V h;obtain⟨k0,k1,k2,k3,k4⟩:=qc.o V h;go_simp;rfl
   refine eH (rs:=[6]) (by kernel_rfl) (by simp) ?_;refine bo.cons rfl (fun K hK=>?_) bo.nil;go_simp;refine hK.out _ _ (fun _=>?_) ?_
   · exact HSB.o _
   clear hK K
   try simp only[Act.put,dJ,dE,dz]
   refine eH (rs:=[7]) (by kernel_rfl) (by simp) ?_;refine bo.cons rfl (fun K hK=>?_) bo.nil;rw[aB (by rfl)];refine qK (P:=Tryz.prog) _ _ 97 rfl lo 174 i0 (.agg #[I 0,I 0,I 0]) 3 24 Tryz.underlying97 Eu.o Ia.o E9.o yZ.o rfl (by decide) (.slice ae es.length ce) es.length (es.flatMap bw) rfl (HRW.o _) (some (Ad w1.heap.size 0)) 1 1 (bw e) rfl rfl (fun _=>⟨_,rfl,aec w1 e⟩) (by intro u hu;simp[bw] at hu;rcases hu with rfl | rfl | rfl <;> rfl) (by grind [maxLen]) (by omega) (by simp;omega) ?_;intro vG wG hoG hgG haG;obtain⟨aG,cG,hvG,_,_⟩:=bg hoG;subst hvG;have TM:Hid (aC (fun b=>bX (.slice ae es.length ce) b) w1 wG):=(HSB.o _).trans (aC.grown (D:=fun b=>bX (.slice ae es.length ce) b) hgG (fun q hq=>hq)) (fun _ _ g=>g);have HOG:=ai hoG;have HAG:=ai haG;clear hoG hgG haG;refine hK.out _ _ (fun _=>?_) ?_
   · exact TM.o
   clear hK K
   try simp only[Act.put,dJ,dE,dz]
   refine eH (rs:=[8]) (by kernel_rfl) (by simp) ?_;refine bo.cons rfl (fun K hK=>?_) bo.nil;go_simp;refine hK.out _ _ (fun _=>?_) ?_
   · exact TM.o
   clear hK K
   try simp only[Act.put,dJ,dE,dz]
   refine iK 9 TM.o ?_ ?_ ?_;rotate_left 1
   · intro V h;rfl
   obtain⟨k0,k1,k2,k3,k4⟩:=qc.o wG TM.o;refine eH (rs:=[10]) (by kernel_rfl) (by simp) ?_;refine bo.cons rfl (fun K hK=>?_) bo.nil;go_simp;refine hK.out _ _ (fun g=>absurd rfl g) ?_;refine rB (by rfl) ?_ _;go_wp2;refine vK (v:=.tuple #[]) (by simp[results]) rfl ?_;refine HE.o wG _ (es++[e]) ?_ (by grind [Hid.o]) (fun b hb=>?_) HP0.o
   · exact(aC.bZ cH.o).trans TM.o (fun b _ hx=>HLE.o b hx)
   · rcases HAG.o with g | g
     · exact .inl (HLE.o b (by show Value.ownBlock _=_;rw[<- g];exact hb))
     · right;have hb:Value.ownBlock _=some b:=hb
       grind [World.alloc,World.drew]
 · have hex:∃n,n<es.length/\(∀i,i<n->(aX es i).page<e.page)/\¬(aX es n).page<e.page:=by
    obtain⟨n,hn⟩:=Classical.not_forall.1 hall;rw[Classical.not_imp] at hn;obtain⟨Ur,Hh⟩:=hn;induction n using Nat.strongRecOn with
    | _ n ih =>
     grind
   obtain⟨n,hn,Ow,P8⟩:=hex;have hput:=UB es e n hn Ow P8;have UY:Hid (Calls Tryz.prog 186 #[.slice ae es.length ce,.func (.func 298) #[] #[.pointer (some (Ad w.heap.size 0))]] WA fun r w'=>r=.returned (I (n:Int))/\Below WA.heap.size WA w'):=hix.mono fun r w' ⟨hb,hh⟩=>by
    grind
   obtain⟨eb,hae,_,ajO⟩:=hge (by omega);subst hae;have hni:(n:Int)<(es.length:Int):=by omega
   have hn0:(0:Int)<=(n:Int):=by omega
   have HXE:Hid (∀V,Below WA.heap.size WA V->V.cell? (Ad eb (n*3))=some (I (aX es n).page)/\V.cell? (Ad eb (n*3+1))=some (I (aX es n).kind)/\V.cell? (Ad eb (n*3+2))=some (I (aX es n).loc)/\(∀q,V.frozen? (Ad eb q)=false)/\V.cell? (Ad pb (j*3+2))=some (.slice (some (Ad eb 0)) es.length ce)/\V.cell? (Ad w.heap.size 0)=some (I e.page)/\V.cell? (Ad w.heap.size 1)=some (I e.kind)/\V.cell? (Ad w.heap.size 2)=some (I e.loc)):=fun V hV=>by
    have hr:=(aC.bZ (D:=fun _=>False) hV).row hrow (fun _ _ g=>g);have b1:=aN EX.o hV (aJ EX.o);exact⟨kq bw (fun _=>rfl) gY hr n 0 hn (by omega),kq bw (fun _=>rfl) gY hr n 1 hn (by omega),kq bw (fun _=>rfl) gY hr n 2 hn (by omega),iL hr,(hV.cell (p:=(Ad pb (j*3+2))) apl).trans a2,aq b1 0 rfl,aq b1 1 rfl,aq b1 2 rfl⟩
   by_cases c:(aX es n).page=e.page
   · rw[aB c] at hput;have HPU:=ai hput;have cb:((aX es n).page==e.page)=true:=by grind
     obtain⟨Z,hZ⟩:=ex (aX es n);rw[<- hZ] at HXE cb;clear hix lu h hrow hge hre ac6 HMA A SE hes hP P7 hin hz0 hz1 hz2 hall yn hj hen hlo hput Ow P8 hZ c;go_enter Tryz.func293,Tryz.ntmps293;go_upto_region 1 with fail;rw[<- sB.o];go_upto_region 6 with(go_at_call 186;refine UY.o.mono ?_;rintro r w1 ⟨rfl,hb1⟩;have cH:=ai hb1;clear hb1)
     obtain⟨y0,y1,y2,yf,y3,y4,y5,y6⟩:=HXE.o w1 cH.o;have yf0:=yf (n*3);have yf1:=yf (n*3+1);have yf2:=yf (n*3+2);clear yf;go_region;go_upto_region 7 with fail;go_region;go_wp2;refine vK (v:=.tuple #[]) (by simp[results]) rfl ?_
     grind [Hid.o]
   · rw[au c] at hput;have HPU:=ai hput;have cb:((aX es n).page==e.page)=false:=by grind
     have aqY:Hid (∀V,aC (fun b=>bX (.slice (some (Ad eb 0)) es.length ce) b) WA V->V.ownsRow lo 174 3 (.slice (some (Ad eb 0)) es.length ce) es.length (es.flatMap bw)->WA.heap.size<=V.heap.size->Calls Tryz.prog 299 #[.slice (some (Ad eb 0)) es.length ce,I (n:Int),.slice (some (Ad V.heap.size 0)) 1 1] ((V.alloc (.cells #[I e.page,I e.kind,I e.loc] 174)).drew) fun r w'=>∃av nv cv,r=.returned (.slice av nv cv)/\w'.ownsRow lo 174 3 (.slice av nv cv) (es.take n++e::es.drop n).length ((es.take n++e::es.drop n).flatMap bw)/\aC (fun b=>bX (.slice (some (Ad eb 0)) es.length ce) b) V w'/\(∀b,bX (.slice av nv cv) b->bX (.slice (some (Ad eb 0)) es.length ce) b∨WA.heap.size<=b)):=fun V hV hr hsz=>by
      have k1:aC (fun _=>False) V ((V.alloc (.cells #[I e.page,I e.kind,I e.loc] 174)).drew):=(aC.alloc _ _ _).trans (aC.drew _ _) (fun _ _ g=>g);have r1:=k1.row hr (fun _ _ g=>g);have r2:((V.alloc (.cells #[I e.page,I e.kind,I e.loc] 174)).drew).ownsRow V.heap.size 174 3 (.slice (some (Ad V.heap.size 0)) [e].length 1) [e].length ([e].flatMap bw):=(aC.drew (fun _=>False) _).row (abM V e) (fun _ _ g=>g);have hs1:((V.alloc (.cells #[I e.page,I e.kind,I e.loc] 174)).drew).heap.size=V.heap.size+1:=gh _ _;refine(TD lo es [e] (.slice (some (Ad eb 0)) es.length ce) (.slice (some (Ad V.heap.size 0)) 1 1) V.heap.size n _ r1 r2 (by omega) (fun b h1 h2=>?_) (by omega) (by simp) (by omega) (by simp)).mono fun r w' ⟨v',g1,g2,g3,g4⟩=>?_
      · have:V.heap.size=b:=by injection h1
        have:=(hr.lt b h2).2;omega
      · obtain⟨av,cv,rfl,_,_⟩:=bg g2;refine⟨av,_,cv,g1,g2,(k1.mono (fun _ _ z=>z.elim)).trans g3 (fun _ _ z=>z),fun b hb=>?_⟩
        grind
     obtain⟨Z,hZ⟩:=ex (aX es n);rw[<- hZ] at HXE cb;clear hix lu h hrow hge hre ac6 HMA A SE hes hP P7 hin hz0 hz1 hz2 hall yn hj hen hlo hput Ow P8 hZ c;go_enter Tryz.func293,Tryz.ntmps293;go_upto_region 1 with fail;rw[<- sB.o];go_upto_region 6 with(go_at_call 186;refine UY.o.mono ?_;rintro r w1 ⟨rfl,hb1⟩;have cH:=ai hb1;clear hb1)
     obtain⟨y0,y1,y2,yf,y3,y4,y5,y6⟩:=HXE.o w1 cH.o;clear yf;go_region;go_upto_region 3 with fail;clear y0 y1 y2 y3 y4 y5 y6;have gK:Hid (Below WA.heap.size WA w1.drew):=cH.o.drew;clear cH;obtain⟨w2,hw2⟩:=ex w1.drew;rw[<- hw2] at gK ⊢;clear hw2;have nU:Hid (aC (fun b=>bX (.slice (some (Ad eb 0)) es.length ce) b) w2 w2.drew):=aC.drew _ _;have HSB:Hid (∀o,aC (fun b=>bX (.slice (some (Ad eb 0)) es.length ce) b) w2 ((w2.alloc o).drew)):=fun o=>(aC.alloc _ _ o).trans (aC.drew _ _) (fun _ _ g=>g)
     have qc:Hid (∀V,aC (fun b=>bX (.slice (some (Ad eb 0)) es.length ce) b) w2 V->V.cell? (Ad pb (j*3+2))=some (.slice (some (Ad eb 0)) es.length ce)/\V.cell? (Ad w.heap.size 0)=some (I e.page)/\V.cell? (Ad w.heap.size 1)=some (I e.kind)/\V.cell? (Ad w.heap.size 2)=some (I e.loc)/\V.frozen? (Ad pb (j*3+2))=false):=fun V hV=>by
      grind [KQ,Hid.o,aC.cell]
     have aqZ:=ai (aqY.o w2 (aC.bZ gK.o) ((aC.bZ (D:=fun _=>False) gK.o).row Xa.o (fun _ _ g=>g)) gK.o.size);refine xz (S:=fun V=>aC (fun b=>bX (.slice (some (Ad eb 0)) es.length ce) b) w2 V) (z:=11) (by rfl) ?_;refine iK 0 nU.o ?_ ?_ ?_;rotate_left 1
     · intro V h;rfl
     refine iK 1 nU.o ?_ ?_ ?_;rotate_left 1
     · intro V h;rfl
     refine iK 2 nU.o ?_ ?_ ?_;rotate_left 1
     · intro V h;rfl
     refine iK 3 nU.o ?_ ?_ ?_;rotate_left 1
     · intro V h;obtain⟨k0,k1,k2,k3,k4⟩:=qc.o V h;go_simp;rfl
     refine iK 4 nU.o ?_ ?_ ?_;rotate_left 1
     · intro V h;obtain⟨k0,k1,k2,k3,k4⟩:=qc.o V h;go_simp;rfl
     refine iK 5 nU.o ?_ ?_ ?_;rotate_left 1
     · intro V h;rfl
     refine iK 6 nU.o ?_ ?_ ?_;rotate_left 1
     · intro V h;obtain⟨k0,k1,k2,k3,k4⟩:=qc.o V h;go_simp;rfl
     refine eH (rs:=[7]) (by kernel_rfl) (by simp) ?_;refine bo.cons rfl (fun K hK=>?_) bo.nil;go_simp;refine hK.out _ _ (fun _=>?_) ?_
     · exact HSB.o _
     clear hK K
     try simp only[Act.put,dJ,dE,dz]
     refine eH (rs:=[8]) (by kernel_rfl) (by simp) ?_;refine bo.cons rfl (fun K hK=>?_) bo.nil;rw[aB (by rfl)];go_simp;go_at_call 299;refine aqZ.o.mono ?_;rintro r wG ⟨aG,nG,cG,rfl,hoG,hkG,haG⟩;have TM:Hid (aC (fun b=>bX (.slice (some (Ad eb 0)) es.length ce) b) w2 wG):=hkG;have HOG:=ai hoG;have HAG:=ai haG;clear hoG hkG haG;try go_simp;refine hK.out _ _ (fun _=>?_) ?_
     · exact TM.o
     clear hK K
     try simp only[Act.put,dJ,dE,dz]
     refine eH (rs:=[9]) (by kernel_rfl) (by simp) ?_;refine bo.cons rfl (fun K hK=>?_) bo.nil;go_simp;refine hK.out _ _ (fun _=>?_) ?_
     · exact TM.o
     clear hK K
     try simp only[Act.put,dJ,dE,dz]
     refine iK 10 TM.o ?_ ?_ ?_;rotate_left 1
     · intro V h;rfl
     obtain⟨k0,k1,k2,k3,k4⟩:=qc.o wG TM.o;refine eH (rs:=[11]) (by kernel_rfl) (by simp) ?_;refine bo.cons rfl (fun K hK=>?_) bo.nil;go_simp;refine hK.out _ _ (fun g=>absurd rfl g) ?_;refine rB (by rfl) ?_ _;go_wp2;refine vK (v:=.tuple #[]) (by simp[results]) rfl ?_;refine HE.o wG _ (es.take n++e::es.drop n) ((aC.bZ gK.o).trans TM.o (fun b _ hx=>HLE.o b hx)) HOG.o (fun b hb=>?_) HPU.o
     grind [Hid.o]
open Go.RowKit
theorem FN (k:aR) (j:Nat) (x e:bD):gy (dM k e) j x=dM (gy k j x) e:=by grind [dM,gy]
def KR (X:List Value) (hs:List bG):Prop:=∀n:Nat,n<256->X[n]?=some (.string (fq hs n))
theorem Jr {lo mb:Nat} {tt:TypeId} {X:List Value} (k:aR) (S:gL) (w:World) (j:Nat) (p:Int) (h:bJ lo mb tt X w S k) (hR:aW k) (hj:j<k.aj.length) :
  Calls Tryz.prog 129 #[.pointer (some (Ad mb 0)),I (j:Int),I p] w fun e w'=>e=.returned (.tuple #[rQ (jb (ak k.aj j).bf p).1,.bool (jb (ak k.aj j).bf p).2])/\Below w.heap.size w w':=by
 have hcc:=hR.c;have hen:=ot hR hj;obtain⟨pb,cP,A⟩:=h.toKr.sp (by omega);obtain⟨ae,ce,SE,hre⟩:=h.toKr.bf hj;have c3:=h.c3;rw[A.v] at c3;have a2:=A.x2 j hj;rw[SE] at a2;have e0:0+j*3+2=j*3+2:=by omega
 exact KY (ak k.aj j).bf p j k.aj.length mb pb 0 cP ae ce w c3 hj (by grind) hre (by omega) (by omega)
theorem OM {lo mb:Nat} {tt:TypeId} {X:List Value} (k:aR) (S:gL) (w:World) (j:Nat) (p:Int) (held:List Int) (ah:Option Addr) (ch:Nat) (e:bD) (h:bJ lo mb tt X w S k) (hR:aW k) (hj:j<k.aj.length) (he:bl (ak k.aj j).bf p=some e) (hk:e.kind=1) :
  Calls Tryz.prog 290 #[.pointer (some (Ad mb 0)),I (j:Int),I p,.slice ah held.length ch] w (gj lo mb tt X w S (I ((dD k j p held).1:Int)) (dD k j p held).2):=by
 have yF:=ai (Jr k S w j p h hR hj);have e1:jb (ak k.aj j).bf p=(e,true):=by grind [jb]
 rw[e1] at yF;have hP:dD k j p held=(e.loc.toNat,k):=by
  grind [dD]
 have hb:=(iO hR hj (mj he)).resolve_right (fun y=>by omega);rw[hP];have dB:Hid (∀V,Below w.heap.size w V->gj lo mb tt X w S (I ((e.loc.toNat:Nat):Int)) k (.returned (I e.loc)) V):=fun V hV=>⟨by grind,S,h.below hV,cK.below hV⟩
 obtain⟨P,VA⟩:=ex (gj lo mb tt X w S (I ((e.loc.toNat:Nat):Int)) k);rw[<- VA] at dB ⊢;obtain⟨pg,kd,lc⟩:=e;unfold rQ at yF;simp only at yF dB hk;have kb:(kd==1)=true:=by grind
 clear hP VA e1 he h hR hj hb hk;go_enter Tryz.func290,Tryz.ntmps290;go_wp2_with (go_at_call 129;refine yF.o.mono ?_;rintro r w1 ⟨rfl,hb1⟩;have cH:=ai hb1;have BX:=bB w1 #[I pg,I kd,I lc] 174;obtain⟨d0,d1,d2⟩:=GU BX;clear hb1 BX)
 exact dB.o _ (cH.o.alloc cH.o.size _)
theorem Jp {lo mb:Nat} {tt:TypeId} {X:List Value} (k:aR) (S:gL) (w:World) (j:Nat) (p:Int) (held:List Int) (ah:Option Addr) (ch:Nat) (e:bD) (h:bJ lo mb tt X w S k) (hR:aW k) (hj:j<k.aj.length) (he:bl (ak k.aj j).bf p=some e) (hk:e.kind≠1) (hl:held.length<=2) (hH:nk w S ah held) :
  Calls Tryz.prog 290 #[.pointer (some (Ad mb 0)),I (j:Int),I p,.slice ah held.length ch] w (gj lo mb tt X w S (I ((dD k j p held).1:Int)) (dD k j p held).2):=by
 have yF:=ai (Jr k S w j p h hR hj);have e1:jb (ak k.aj j).bf p=(e,true):=by grind [jb]
 rw[e1] at yF;have hP:dD k j p held=((bM k held).1,eQ (bM k held).2 j p (bM k held).1 (bE (bM k held).2.slots e.loc.toNat).data true):=by
  grind [dD]
 have hb:=(iO hR hj (mj he)).resolve_left (fun y=>hk y.1);have G:=tq hR hl;have hent:bl (ak (bM k held).2.aj j).bf p=some e:=by grind [uw.Mq]
 have hmv:eQ (bM k held).2 j p (bM k held).1 (bE (bM k held).2.slots e.loc.toNat).data true=gy (dM (iV (bM k held).2 (bM k held).1 (bE (bM k held).2.slots e.loc.toNat).data true) e) j ⟨p,1,(bM k held).1⟩:=by
  grind [FN,eQ]
 rw[hP,hmv];have hcc:=hR.c;have Vy:j<(bM k held).2.aj.length:=by rw[G.kept.np];exact hj
 have hi1:(bM k held).1<(bM k held).2.frames.length:=by rw[G.kept.nf];exact G.lt
 have hs1:e.loc.toNat<(bM k held).2.slots.length:=by rw[G.kept.ns];omega
 have hrf:=(yt G.right).2 e.loc.toNat hs1;have aa1:=ot G.right Vy;have afl:=G.kept.np;have HGT:Hid (∀V,Below w.heap.size w V->Calls Tryz.prog 292 #[.pointer (some (Ad mb 0)),.slice ah held.length ch] V (gj lo mb tt X V S (I ((bM k held).1:Int)) (bM k held).2)):=fun V hV=>Jq k S V held ah ch (h.below hV) hR hl (hH.ch (cK.below hV))
 obtain⟨k1,hk1⟩:=ex ((bM k held).2);obtain⟨i,hi⟩:=ex ((bM k held).1);rw[<- hk1,<- hi] at HGT hi1;rw[<- hk1] at hs1 hrf Vy aa1 afl;rw[<- hk1,<- hi];obtain⟨D,hD⟩:=ex ((bE k1.slots e.loc.toNat).data);rw[<- hD];have Mh:Hid (∀V S',bJ lo mb tt X V S' k1->∃fb cF lb cL,V.cell? (Ad mb 1)=some (.slice (some (Ad fb 0)) k1.frames.length cF)/\V.cell? (Ad mb 2)=some (.slice (some (Ad lb 0)) k1.slots.length cL)/\V.cell? (Ad lb (e.loc.toNat*2))=some (.string D)/\V.cell? (Ad fb (i*4))=some (.string (aH k1.frames i).data)/\V.cell? (Ad fb (i*4+1))=some (I (aH k1.frames i).refs)/\V.cell? (Ad fb (i*4+2))=some (.bool (aH k1.frames i).jG)/\V.cell? (Ad fb (i*4+3))=some (.bool (aH k1.frames i).seen)/\V.frozen? (Ad fb (i*4))=false/\V.frozen? (Ad fb (i*4+1))=false/\V.frozen? (Ad fb (i*4+2))=false/\V.frozen? (Ad fb (i*4+3))=false /\
   (∀U,U=((((V.setCell (Ad fb (i*4)) (.string D)).setCell (Ad fb (i*4+1)) (I 1)).setCell (Ad fb (i*4+2)) (.bool true)).setCell (Ad fb (i*4+3)) (.bool false)).drew->bJ lo mb tt X U S' (iV k1 i D true)/\cK S' V S' U)):=fun V S' hV=>by
  obtain⟨fb,cF,A⟩:=hV.toKr.fr (by omega);obtain⟨lb,cL,AL⟩:=hV.toKr.sl (by omega);have c1:=hV.c1;have c2:=hV.c2;rw[A.v] at c1;rw[AL.v] at c2;refine⟨fb,cF,lb,cL,c1,c2,by rw[hD];exact AL.x0 _ hs1,A.x0 i hi1,A.x1 i hi1,A.x2 i hi1,A.x3 i hi1,A.fz _,A.fz _,A.fz _,A.fz _,fun U hU=>?_⟩;have m:=hV.aff A.v hi1 ⟨D,1,true,false⟩;subst hU;exact⟨m.1.below (aK _ _).drew,m.2.trans (cK.below (aK _ _).drew)⟩
 have HCN:Hid (∀V S',bJ lo mb tt X V S' (iV k1 i D true)->Calls Tryz.prog 270 #[.pointer (some (Ad mb 0)),.agg #[I e.page,I e.kind,I e.loc],I (-1)] V (mO lo mb tt X V S' (.tuple #[]) (dM (iV k1 i D true) e))):=fun V S' hV=>by
  rw[<- Gh];refine DY _ S' V e (-1) hV (fun c=>absurd c hk) (fun _=>?_) (.inr rfl) ⟨fun c=>absurd c hk,fun _=>?_⟩
  · show 0<=e.loc/\e.loc<(k1.slots.length:Int);omega
  · show -1000000<=(bE k1.slots e.loc.toNat).refs/\(bE k1.slots e.loc.toNat).refs<=1000000;omega
 have HET:Hid (∀V S',bJ lo mb tt X V S' (dM (iV k1 i D true) e)->Calls Tryz.prog 293 #[.pointer (some (Ad mb 0)),I (j:Int),.agg #[I p,I 1,I (i:Int)]] V (gj lo mb tt X V S' (.tuple #[]) (gy (dM (iV k1 i D true) e) j ⟨p,1,i⟩))):=fun V S' hV=>by
  have hsp:(dM (iV k1 i D true) e).aj=k1.aj:=EW _ _;exact DX _ S' V j ⟨p,1,i⟩ hV (by grind) (by grind) (by grind)
 have dB:Hid (∀V S',bJ lo mb tt X V S' (gy (dM (iV k1 i D true) e) j ⟨p,1,i⟩)->cK S w S' V->gj lo mb tt X w S (I (i:Int)) (gy (dM (iV k1 i D true) e) j ⟨p,1,i⟩) (.returned (I (i:Int))) V):=fun V S' h1 h2=>⟨rfl,S',h1,h2⟩
 obtain⟨K3,hK3⟩:=ex (gy (dM (iV k1 i D true) e) j ⟨p,1,i⟩);rw[<- hK3] at HET dB ⊢;obtain⟨K2,hK2⟩:=ex (dM (iV k1 i D true) e);rw[<- hK2] at HCN HET;obtain⟨K1,hK1⟩:=ex (iV k1 i D true);rw[<- hK1] at Mh HCN;obtain⟨P,VA⟩:=ex (gj lo mb tt X w S (I (i:Int)) K3);rw[<- VA] at dB ⊢;have uJ:Hid (∀V:World,w.heap.size<=V.heap.size->S.lab V.heap.size=.no):=fun V hV=>h.toKr.new hV
 obtain⟨FR,Uu⟩:=ex (aH k1.frames i);rw[<- Uu] at Mh;obtain⟨nf,Cb⟩:=ex k1.frames.length;obtain⟨nl,hnl⟩:=ex k1.slots.length;rw[<- Cb,<- hnl] at Mh;obtain⟨m,hm⟩:∃m:Nat,e.loc=(m:Int):=⟨e.loc.toNat,by omega⟩;rw[hm,jz] at Mh;have hmi:(m:Int)<(nl:Int):=by omega
 have hii:(i:Int)<(nf:Int):=by omega
 obtain⟨pg,kd,lc⟩:=e;unfold rQ at yF;simp only at yF hk HCN hm;subst hm;have kb:(kd==1)=false:=by simpa using hk
 clear hP VA e1 he h hR hj hb hk G hent hmv hcc Vy hi1 hs1 hrf aa1 afl hk1 hi hD hK3 hK2 hK1 hH hl Uu Cb hnl;go_enter Tryz.func290,Tryz.ntmps290;go_upto_region 6 with(first
  | (go_at_call 129;refine yF.o.mono ?_;rintro r w1 ⟨rfl,hb1⟩;have cH:=ai hb1;have jk:=ai (cH.o.alloc cH.o.size (.cells #[I pg,I kd,I (m:Int)] 174));have BX:=ai (bB w1 #[I pg,I kd,I (m:Int)] 174);obtain⟨d0,d1,d2⟩:=GU BX.o;have HN1:=ai (uJ.o w1 hb1.size);clear hb1)
  | (go_at_call 292;refine(HGT.o _ jk.o).mono ?_;rintro r w2 ⟨rfl,S2,hk2,hc2⟩;have pq:=ai hk2;have yG:=ai ((cK.below jk.o).trans hc2);have BX2:=ai (hc2.keep BX.o HN1.o);have TR:=ai (hc2.no _ (aJ BX.o) HN1.o);clear hk2 hc2 d0 d1 d2))
 obtain⟨fb,cF,lb,cL,g1,g2,g3,g4,g5,g6,g7,g8,g9,g10,g11,hfin⟩:=Mh.o w2 S2 pq.o;obtain⟨d0,d1,d2⟩:=GU BX2.o;obtain⟨U,hU⟩:=ex (((((w2.setCell (Ad fb (i*4)) (.string D)).setCell (Ad fb (i*4+1)) (I 1)).setCell (Ad fb (i*4+2)) (.bool true)).setCell (Ad fb (i*4+3)) (.bool false)).drew);obtain⟨hk3,hc3⟩:=hfin U hU;have HU:=ai hU;have zG:=ai hk3;have T5:=ai (yG.o.trans hc3);have BX3:=ai (hc3.keep BX2.o TR.o);clear hfin hU hk3 hc3;go_region;rw[<- HU.o];clear g1 g2 g3 g4 g5 g6 g7 g8 g9 g10 g11 d0 d1 d2 HU;obtain⟨d0,d1,d2⟩:=GU BX3.o;go_wp2_with (first
  | (go_at_call 270;refine(HCN.o _ _ zG.o).mono ?_;rintro r w4 ⟨rfl,hk4,hc4⟩;have HK4:=ai hk4;have HC4:=ai (T5.o.trans hc4);clear hk4 hc4)
  | (go_at_call 293;refine(HET.o _ _ HK4.o).mono ?_;rintro r w5 ⟨rfl,S5,hk5,hc5⟩;have HK5:=ai hk5;have HC5:=ai (HC4.o.trans hc5);clear hk5 hc5))
 exact dB.o _ _ HK5.o HC5.o
open Go.RowKit
theorem aeb {lo mb:Nat} {tt:TypeId} {X:List Value} {U:World} {S:gL} {k:aR} (h:bJ lo mb tt X U.drew S k):bJ lo mb tt X U S k:=h.kp (E:=fun _=>False) ⟨rfl,rfl,rfl,aD _,fun _ _ _=>rfl⟩ (fun _ _ g=>g)
theorem Wj {S S':gL} {w U:World} (h:cK S w S' U.drew):cK S w S' U:=⟨⟨h.kp.os,h.kp.tape,h.kp.output,h.kp.size,h.kp.block⟩,h.no,h.eS,h.eF,h.eL,h.eP⟩
theorem OL {lo mb:Nat} {tt:TypeId} {X:List Value} (k:aR) (S:gL) (w:World) (j:Nat) (p:Int) (held:List Int) (ah:Option Addr) (ch:Nat) (h:bJ lo mb tt X w S k) (hR:aW k) (hj:j<k.aj.length) (he:bl (ak k.aj j).bf p=none) (hp:dV k j p) (hX:KR X k.aM) (hl:held.length<=2) (hH:nk w S ah held) :
  Calls Tryz.prog 290 #[.pointer (some (Ad mb 0)),I (j:Int),I p,.slice ah held.length ch] w (gj lo mb tt X w S (I ((dD k j p held).1:Int)) (dD k j p held).2):=by
 have yF:=ai (Jr k S w j p h hR hj);have e1:jb (ak k.aj j).bf p=(gY,false):=by grind [jb]
 rw[e1] at yF;have G:=tq hR hl;have hP:dD k j p held=((bM k held).1,eQ (bM k held).2 j p (bM k held).1 (fY (bM k held).2.aM p (oG (bM k held).2 j p)) false):=by
  grind [dD]
 have hent:bl (ak (bM k held).2.aj j).bf p=none:=by grind [uw.Mq]
 have hmv:eQ (bM k held).2 j p (bM k held).1 (fY (bM k held).2.aM p (oG (bM k held).2 j p)) false=gy (iV (bM k held).2 (bM k held).1 (fY (bM k held).2.aM p (oG (bM k held).2 j p)) false) j ⟨p,1,(bM k held).1⟩:=by
  grind [eQ]
 rw[hP,hmv];have Fh:=kf hp;have hsh:=G.kept.aM;have afu:dO (ak (bM k held).2.aj j).aT:=by
  have:=(G.right.sp (by rw[G.kept.np];exact hj)).aT;exact lO _ this
 have hcc:=hR.c;have Vy:j<(bM k held).2.aj.length:=by rw[G.kept.np];exact hj
 have hi1:(bM k held).1<(bM k held).2.frames.length:=by rw[G.kept.nf];exact G.lt
 have aa1:=ot G.right Vy;have afl:=G.kept.np;have HGT:Hid (∀V,Below w.heap.size w V->Calls Tryz.prog 292 #[.pointer (some (Ad mb 0)),.slice ah held.length ch] V (gj lo mb tt X V S (I ((bM k held).1:Int)) (bM k held).2)):=fun V hV=>Jq k S V held ah ch (h.below hV) hR hl (hH.ch (cK.below hV))
 obtain⟨k1,hk1⟩:=ex ((bM k held).2);obtain⟨i,hi⟩:=ex ((bM k held).1);rw[<- hk1,<- hi] at HGT hi1;rw[<- hk1] at Vy aa1 afl hsh afu;rw[<- hk1,<- hi];obtain⟨D,hD⟩:=ex (fY k1.aM p (oG k1 j p));rw[<- hD];have Mh:Hid (∀V S',bJ lo mb tt X V S' k1->∃fb cF pb cP va,¬mb=fb/\V.cell? (Ad mb 1)=some (.slice (some (Ad fb 0)) k1.frames.length cF)/\V.cell? (Ad mb 3)=some (.slice (some (Ad pb 0)) k1.aj.length cP)/\V.cell? (Ad pb (j*3+1))=some va/\(∃ax nx cx,va=.slice ax nx cx)/\(∀V',Below V.heap.size V V'->Calls Tryz.prog 77 #[va,I p] V' fun e w'=>e=.returned (.tuple #[.agg (nK (aV (ak k1.aj j).aT p).1),.bool (aV (ak k1.aj j).aT p).2])/\Below V'.heap.size V' w')/\(∀V',Below V.heap.size V V'->Calls Tryz.prog 130 #[.pointer (some (Ad mb 0)),I p,.bool (aV (ak k1.aj j).aT p).1.zero] V' fun e w'=>e=.returned (.string D)/\Below V'.heap.size V' w')/\V.cell? (Ad fb (i*4))=some (.string (aH k1.frames i).data)/\V.cell? (Ad fb (i*4+1))=some (I (aH k1.frames i).refs)/\V.cell? (Ad fb (i*4+2))=some (.bool (aH k1.frames i).jG)/\V.cell? (Ad fb (i*4+3))=some (.bool (aH k1.frames i).seen)/\V.frozen? (Ad fb (i*4))=false/\V.frozen? (Ad fb (i*4+1))=false/\V.frozen? (Ad fb (i*4+2))=false/\V.frozen? (Ad fb (i*4+3))=false /\
   (∀U,U=((((V.setCell (Ad fb (i*4)) (.string D)).setCell (Ad fb (i*4+1)) (I 1)).setCell (Ad fb (i*4+2)) (.bool false)).setCell (Ad fb (i*4+3)) (.bool false)).drew->bJ lo mb tt X U S' (iV k1 i D false)/\cK S' V S' U)):=fun V S' hV=>by
  obtain⟨fb,cF,A⟩:=hV.toKr.fr (by omega);obtain⟨pb,cP,AL⟩:=hV.toKr.sp (by omega);have c1:=hV.c1;have c2:=hV.c3;rw[A.v] at c1;rw[AL.v] at c2;refine⟨fb,cF,pb,cP,(fL S'.L j).va,fun e=>by have:=A.lab;rw[<- e,hV.lH] at this;grind,c1,c2,AL.x1 j Vy,?_,fun V' hb=>vH _ _ p V' (gD.below (hV.toKr.aT Vy) hb) afu,fun V' hb=>?_,A.x0 i hi1,A.x1 i hi1,A.x2 i hi1,A.x3 i hi1,A.fz _,A.fz _,A.fz _,A.fz _,fun U hU=>?_⟩
  · obtain⟨ax,cx,H8,_,_⟩:=bg (hV.each j Vy).aT
    grind
  · rw[hD,hsh];have hm':=hV.below hb;exact FT k.aM p _ mb V' (fun n hn=>hm'.cx n (hX n hn)) (by omega)
  have m:=hV.aff A.v hi1 ⟨D,1,false,false⟩;subst hU;exact⟨m.1.below (aK _ _).drew,m.2.trans (cK.below (aK _ _).drew)⟩
 have HET:Hid (∀V S',bJ lo mb tt X V S' (iV k1 i D false)->Calls Tryz.prog 293 #[.pointer (some (Ad mb 0)),I (j:Int),.agg #[I p,I 1,I (i:Int)]] V (gj lo mb tt X V S' (.tuple #[]) (gy (iV k1 i D false) j ⟨p,1,i⟩))):=fun V S' hV=>by
  have hsp:(iV k1 i D false).aj=k1.aj:=rfl;exact DX _ S' V j ⟨p,1,i⟩ hV (by grind) (by grind) (by grind)
 have dB:Hid (∀V S',bJ lo mb tt X V S' (gy (iV k1 i D false) j ⟨p,1,i⟩)->cK S w S' V->gj lo mb tt X w S (I (i:Int)) (gy (iV k1 i D false) j ⟨p,1,i⟩) (.returned (I (i:Int))) V):=fun V S' h1 h2=>⟨rfl,S',h1,h2⟩
 obtain⟨K3,hK3⟩:=ex (gy (iV k1 i D false) j ⟨p,1,i⟩);rw[<- hK3] at HET dB ⊢;obtain⟨K1,hK1⟩:=ex (iV k1 i D false);rw[<- hK1] at Mh HET;obtain⟨P,VA⟩:=ex (gj lo mb tt X w S (I (i:Int)) K3);rw[<- VA] at dB ⊢;obtain⟨FR,Uu⟩:=ex (aH k1.frames i);rw[<- Uu] at Mh;obtain⟨nf,Cb⟩:=ex k1.frames.length;obtain⟨np,yn⟩:=ex k1.aj.length;rw[<- Cb,<- yn] at Mh;have hji:(j:Int)<(np:Int):=by omega
 have hii:(i:Int)<(nf:Int):=by omega
 obtain⟨AR,hAR⟩:=ex (aV (ak k1.aj j).aT p);rw[<- hAR] at Mh;obtain⟨⟨q0,q1,q2,q3⟩,q4⟩:=AR;unfold rQ at yF;unfold nK at Mh;simp only[gY] at yF Mh;clear hP VA e1 he h hR hj G hent hmv hcc Vy hi1 aa1 afl hk1 hi hD hK3 hK1 hH hl Uu Cb yn hAR hX hsh afu;go_enter Tryz.func290,Tryz.ntmps290;go_upto_region 8 with(first
  | (go_at_call 129;refine yF.o.mono ?_;rintro r w1 ⟨rfl,hb1⟩;have cH:=ai hb1;have jk:=ai (cH.o.alloc cH.o.size (.cells #[I 0,I 0,I 0] 174));have BX:=ai (bB w1 #[I 0,I 0,I 0] 174);obtain⟨d0,d1,d2⟩:=GU BX.o;clear hb1)
  | (go_at_call 292;refine(HGT.o _ jk.o).mono ?_;rintro r w2 ⟨rfl,S2,hk2,hc2⟩;have pq:=ai hk2;have yG:=ai ((cK.below jk.o).trans hc2);clear hk2 hc2 d0 d1 d2))
 obtain⟨fb,cF,pb,cP,va,hmf,g1,g2,g3,⟨ax,nx,cx,H8⟩,ai3,ai4,g4,g5,g6,g7,g8,g9,g10,g11,hfin⟩:=Mh.o w2 S2 pq.o;subst H8;have LP:=ai (ai3 w2 (aK _ _));have HFL:=ai ai4;have Wm:=ai (fun V (hb:Below w2.heap.size w2 V)=>Mh.o V S2 (pq.o.below hb));have hwl:=nW w2 _ g4;have Ji:=nW w2 _ g1;have hwl:fb<w2.heap.size:=hwl;have Ji:mb<w2.heap.size:=Ji;clear ai3 ai4 g4 g5 g6 g7 g8 g9 g10 g11 hfin;have ani:Hid (∀V,Below w2.heap.size w2 V->V.cell? (Ad fb (i*4))=some (.string FR.data)/\V.cell? (Ad fb (i*4+1))=some (I FR.refs)/\V.cell? (Ad fb (i*4+2))=some (.bool FR.jG)/\V.cell? (Ad fb (i*4+3))=some (.bool FR.seen)/\V.frozen? (Ad fb (i*4))=false/\V.frozen? (Ad fb (i*4+1))=false/\V.frozen? (Ad fb (i*4+2))=false/\V.frozen? (Ad fb (i*4+3))=false/\(∀U,U=((((V.setCell (Ad fb (i*4)) (.string D)).setCell (Ad fb (i*4+1)) (I 1)).setCell (Ad fb (i*4+2)) (.bool false)).setCell (Ad fb (i*4+3)) (.bool false))->bJ lo mb tt X U S2 K1/\cK S w S2 U)):=fun V hb=>by
  obtain⟨fb',cF',pb',cP',va',_,z1,_,_,_,_,_,z4,z5,z6,z7,z8,z9,z10,z11,aoI⟩:=Wm.o V hb;have e:fb'=fb:=by
   rw[(hb.cell (p:=(Ad mb 1)) Ji).trans g1] at z1;injection z1 with z1;injection z1 with e1 _ _;injection e1 with e1;injection e1 with e1 _ _;omega
  subst e;refine⟨z4,z5,z6,z7,z8,z9,z10,z11,fun U hU=>?_⟩;obtain⟨q1,q2⟩:=aoI U.drew (by rw[hU]);exact⟨aeb q1,(yG.o.trans (cK.below hb)).trans (Wj q2)⟩
 clear Wm Mh;go_upto_region 9 with(go_at_call 77;refine LP.o.mono ?_;rintro r w3 ⟨rfl,hb3⟩;have mQ:=ai hb3;clear hb3)
 have JG:=ai (mQ.o.alloc mQ.o.size (.cells #[I q0,I q1,I q2,.bool q3] 139));have AX:=ai (bB w3 #[I q0,I q1,I q2,.bool q3] 139);have hl3:=mQ.o.size;obtain⟨W,hW⟩:=ex (w3.alloc (.cells #[I q0,I q1,I q2,.bool q3] 139));obtain⟨xb,Mf⟩:=ex w3.heap.size;rw[<- hW] at JG AX ⊢;rw[<- Mf] at AX ⊢;have hxf:¬xb=fb:=by omega
 clear hW Mf;have HS:Hid (∀V,Below W.heap.size W V->V.cell? (Ad mb 1)=some (.slice (some (Ad fb 0)) nf cF)/\V.cell? (Ad xb 3)=some (.bool q3)):=fun V hb=>⟨((JG.o.trans (hb.mono JG.o.size)).cell (p:=(Ad mb 1)) Ji).trans g1,aq (aN AX.o hb (aJ AX.o)) 3 rfl⟩
 have ub:=ai (aK W.heap.size W).drew;have nU:=ai (HS.o _ ub.o);have ang:Hid (∀V,Below W.heap.size W V->Calls Tryz.prog 130 #[.pointer (some (Ad mb 0)),I p,.bool q3] V fun e w'=>e=.returned (.string D)/\Below V.heap.size V w'):=fun V hb=>HFL.o V (JG.o.trans (hb.mono JG.o.size))
 have ZU:Hid (∀V:World,(V.cell? (Ad mb 1)=some (.slice (some (Ad fb 0)) nf cF)/\V.cell? (Ad xb 3)=some (.bool q3))->∀v0 v1 v2 v3,((((V.setCell (Ad fb (i*4)) v0).setCell (Ad fb (i*4+1)) v1).setCell (Ad fb (i*4+2)) v2).setCell (Ad fb (i*4+3)) v3).cell? (Ad mb 1)=some (.slice (some (Ad fb 0)) nf cF)/\((((V.setCell (Ad fb (i*4)) v0).setCell (Ad fb (i*4+1)) v1).setCell (Ad fb (i*4+2)) v2).setCell (Ad fb (i*4+3)) v3).cell? (Ad xb 3)=some (.bool q3)):=fun V ⟨h0,h1⟩ v0 v1 v2 v3=>by
  rw[cj _ _ _ _ _ _ hmf,cj _ _ _ _ _ _ hmf,cj _ _ _ _ _ _ hmf,cj _ _ _ _ _ _ hmf,cj _ _ _ _ _ _ hxf,cj _ _ _ _ _ _ hxf,cj _ _ _ _ _ _ hxf,cj _ _ _ _ _ _ hxf];omega
 go_region_held3 (fun V=>V.cell? (Ad mb 1)=some (.slice (some (Ad fb 0)) nf cF)/\V.cell? (Ad xb 3)=some (.bool q3)) (first | exact sL.o | exact nU.o | exact MR.o _ _ _ _)
  ((go_at_call 130;refine(ang.o _ ub.o).mono ?_;rintro r w5 ⟨rfl,Fm⟩;have HK5:=ai (ub.o.trans (Fm.mono ub.o.size));have sL:=ai (HS.o _ HK5.o);have MR:=ai (fun v0 v1 v2 v3=>ZU.o w5 sL.o v0 v1 v2 v3);have HZZ:=ai (ani.o w5 (JG.o.trans (HK5.o.mono JG.o.size)));obtain⟨z4,z5,z6,z7,z8,z9,z10,z11⟩:w5.cell? (Ad fb (i*4))=some (.string FR.data)/\w5.cell? (Ad fb (i*4+1))=some (I FR.refs)/\w5.cell? (Ad fb (i*4+2))=some (.bool FR.jG)/\w5.cell? (Ad fb (i*4+3))=some (.bool FR.seen)/\w5.frozen? (Ad fb (i*4))=false/\w5.frozen? (Ad fb (i*4+1))=false/\w5.frozen? (Ad fb (i*4+2))=false/\w5.frozen? (Ad fb (i*4+3))=false:=(by obtain⟨a1,a2,a3,a4,a5,a6,a7,a8,_⟩:=HZZ.o;exact⟨a1,a2,a3,a4,a5,a6,a7,a8⟩);clear Fm))
 all_goals clear MR ZU HS nU sL HFL ang
 obtain⟨U,hU⟩:=ex (((((w5.setCell (Ad fb (i*4)) (.string D)).setCell (Ad fb (i*4+1)) (I 1)).setCell (Ad fb (i*4+2)) (.bool false)).setCell (Ad fb (i*4+3)) (.bool false)));obtain⟨_,_,_,_,_,_,_,_,zf⟩:=HZZ.o;obtain⟨hk6,hc6⟩:=zf U hU;have HK6:=ai hk6;have HC6:=ai hc6;rw[<- hU];clear hU hk6 hc6 zf HZZ z4 z5 z6 z7 z8 z9 z10 z11 ani;go_wp2_with (go_at_call 293;refine(HET.o _ _ HK6.o).mono ?_;rintro r w7 ⟨rfl,S7,hk7,hc7⟩;have HK7:=ai hk7;have HC7:=ai (HC6.o.trans hc7);clear hk7 hc7)
 exact dB.o _ _ HK7.o HC7.o
end Go.Proofs.YtlgoihmkgaaemaaGreat
