import Derived.Test.YtpgifpeohlllfaaGreatGV18
set_option maxHeartbeats 20000000
set_option linter.unusedVariables false
set_option maxRecDepth 100000
set_option linter.unusedSimpArgs false
namespace Go.Proofs.YtpgifpeohlllfaaGreat
namespace Go.Proofs.YtpgifpeohlllfaaGreat
open Go.RowKit
theorem Ej:∀(es:List bC) (e:bC),(∀j,j<es.length->(aI es j).page<e.page)->jJ es e=es++[e]
 | [],e,_=>rfl
 | a::r,e,h=>by
  unfold jJ;rw[bf (show a.page<e.page from h 0 (NJ _)),Ej r e (fun j hj=>h (j+1) (NI hj))];rfl
theorem FJ:∀(es:List bC) (e:bC) (n:Nat),n<es.length->(∀j,j<n->(aI es j).page<e.page)->¬(aI es n).page<e.page->jJ es e=if (aI es n).page=e.page then es.set n e else es.take n++e::es.drop n
 | [],e,n,hn,_,_=>absurd hn (jQ _)
 | a::r,e,0,hn,h,Ue=>by
  unfold jJ;have Ue:¬a.page<e.page:=Ue;rw[bl Ue];rfl
 | a::r,e,n+1,hn,h,Ue=>by
  unfold jJ;rw[bf (show a.page<e.page from h 0 (NJ _)),FJ r e n (zP hn) (fun j hj=>h (j+1) (NI hj)) Ue]
  grind [aI]
theorem Rj (e o:bC) (x:Nat) (w:World) (hx:w.cell? (Ad x 0)=some (I e.page)) :
  Calls Tryz.prog 191 #[.agg #[I o.page,I o.kind,I o.loc],.pointer (some (Ad x 0))] w fun r w'=>r=.returned (.bool (decide (e.page<=o.page)))/\Below w.heap.size w w':=by
 obtain⟨pg,kd,lc⟩:=o;obtain⟨epg,ekd,elc⟩:=e;simp only at hx ⊢;have hxl:x<w.heap.size:=nQ w _ hx;have xA:(w.alloc (.cells #[I pg,I kd,I lc] 45)).cell? (Ad x 0)=some (I epg):=(NN ((aK w.heap.size w).alloc (aM _) _) (p:=(Ad x 0)) hxl).trans hx;by_cases c:epg<=pg
 · rw[dh c];go_enter Tryz.func191,Tryz.ntmps191;go_wp2
   try go_region
   try go_wp2
   go_ret;simp[aK,mq]
 · rw[dE c];go_enter Tryz.func191,Tryz.ntmps191;go_wp2
   try go_region
   try go_wp2
   go_ret;simp[aK,mq]
theorem aar (V:World) (e:bC):(V.alloc (.cells #[I e.page,I e.kind,I e.loc] 45)).ownsRow V.heap.size 45 3 (.slice (some (Ad V.heap.size 0)) 1 1) 1 ([e].flatMap bk) :=
 ⟨rfl,.inr ⟨V.heap.size,1,_,rfl,aM _,bG V _ _,aM _,by grind [maxLen],rfl,rfl⟩⟩
theorem eT.ak9 {lo mb:Nat} {tt:TypeId} {X:List Value} {w:World} {S:dN} {k:aN} (h:bQ lo mb tt X w S k) {j:Nat} (hj:j<k.aj.length) {g n cap:Nat} (hv:(cA S.L j).vp=.slice (some (Ad g 0)) n cap) {i:Nat} (hi:i<(ak k.aj j).aW.length) (e:bC) :
  bQ lo mb tt X (((w.setCell (Ad g (i*3)) (I e.page)).setCell (Ad g (i*3+1)) (I e.kind)).setCell (Ad g (i*3+2)) (I e.loc)) S { k with aj:=k.aj.set j (dX (ak k.aj j) ((ak k.aj j).aW.set i e)) } /\
  dI S w S (((w.setCell (Ad g (i*3)) (I e.page)).setCell (Ad g (i*3+1)) (I e.kind)).setCell (Ad g (i*3+2)) (I e.loc)):=by
 have at1:∀(ss:List dm) (es:List bC),j<ss.length->ak (ss.set j (dX (ak k.aj j) es)) j=dX (ak k.aj j) es:=fun ss es hl=>by grind [ja]
 have m1:=h.ad0 hj hv hi (c:=0) (by omega) (e:=⟨e.page,(aI (ak k.aj j).aW i).kind,(aI (ak k.aj j).aW i).loc⟩) (u:=I e.page) rfl;have m2:=m1.1.ad0 (j:=j) (by grind) hv (i:=i) (by
  show i<(ak (List.set _ _ _) j).aW.length;rw[at1 _ _ hj];show i<(List.set _ _ _).length
  grind) (c:=1) (by omega) (e:=⟨e.page,e.kind,(aI (ak k.aj j).aW i).loc⟩) (u:=I e.kind) (by
  show _=(bk (aI (ak (List.set _ _ _) j).aW i)).set 1 _;rw[at1 _ _ hj];show _=(bk ((List.set _ _ _).getD i eD)).set 1 _;rw[eX _ _ _ _ hi];rfl)
 simp only[rh,at1 _ _ hj] at m2;have m2a:bQ lo mb tt X ((w.setCell (Ad g (i*3)) (I e.page)).setCell (Ad g (i*3+1)) (I e.kind)) S { k with aj:=k.aj.set j (dX (ak k.aj j) ((ak k.aj j).aW.set i ⟨e.page,e.kind,(aI (ak k.aj j).aW i).loc⟩)) }:=by
  grind [dX,List.set_set]
 have m3:=m2a.ad0 (j:=j) (by grind) hv (i:=i) (by
  show i<(ak (List.set _ _ _) j).aW.length;rw[at1 _ _ hj];show i<(List.set _ _ _).length
  grind) (c:=2) (by omega) (e:=e) (u:=I e.loc) (by
  show _=(bk (aI (ak (List.set _ _ _) j).aW i)).set 2 _;rw[at1 _ _ hj];show _=(bk ((List.set _ _ _).getD i eD)).set 2 _;rw[eX _ _ _ _ hi];rfl)
 grind [List.set_set,dX,dI.trans]
theorem Jo {D:Nat->Prop} {N:Nat} {w0 w1 V:World} {b o:Nat} (hV:aH D w1 V) (hb:Below N w0 w1) (hl:b<N) (hl0:b<w0.heap.size) (hn:¬D b) (h:w0.frozen? (Ad b o)=false):V.frozen? (Ad b o)=false:=by
 have e1:=hb.block b hl
 grind [World.frozen?,aH.block]
theorem UQ (w1:World) (o:Obj):aH (fun _=>False) w1 ((w1.alloc o).drew):=(aH.alloc _ _ o).trans (aH.drew _ _) (fun _ _ g=>g)
theorem ac8 (w1:World) (e:bC):∀i u,(bk e)[i]?=some u->((w1.alloc (.cells #[I e.page,I e.kind,I e.loc] 45)).drew).cell? (((Ad w1.heap.size 0):Addr).add i)=some u:=fun i u hu=>vU (C:=#[I e.page,I e.kind,I e.loc]) (t:=45) (fr:=(0,0)) (bG w1 _ _) i u hu
theorem CN {lo mb:Nat} {tt:TypeId} {X:List Value} (k:aN) (S:dN) (w:World) (j:Nat) (e:bC) (h:bQ lo mb tt X w S k) (hj:j<k.aj.length) (hen:(ak k.aj j).aW.length<=1000) (G0:k.aj.length<=1000) :
  Calls Tryz.prog 166 #[.pointer (some (Ad mb 0)),I (j:Int),.agg #[I e.page,I e.kind,I e.loc]] w (dK lo mb tt X w S (.tuple #[]) (dW k j e)):=by
 have hlo:lo<=w.heap.size:=gJ h.lo_le (rV h.lt);obtain⟨WA,iK⟩:=ex (w.alloc (.cells #[I e.page,I e.kind,I e.loc] 45));have gK:Hid (Below w.heap.size w WA):=by rw[iK];exact(aK w.heap.size w).alloc (aM _) _
 have EX:Hid (WA.heap[w.heap.size]?=some (.cells #[I e.page,I e.kind,I e.loc] 45 (0,0))):=by rw[iK];exact bG w _ _
 have n0:S.lab w.heap.size=.no:=h.toiZ.new (aM _);have HMA:=ai (h.below gK.o);obtain⟨pb,cP,A⟩:=HMA.o.toiZ.sp (by omega);have hrow:=(HMA.o.each j hj).aR;obtain⟨ae,ce,Cv,hcap,hge⟩:=aY hrow;obtain⟨es,hes⟩:=ex ((ak k.aj j).aW);rw[<- hes] at hrow Cv hcap hge hen;rw[Cv] at hrow;have hre:=YP hrow;have abU:∀b,bI (.slice ae es.length ce) b->S.lab b=.aW j:=fun b hb=>h.lE j hj b (by grind)
 have hpl:=A.lab;have c3:=HMA.o.c3;rw[A.v] at c3;have a2:=A.x2 j hj;rw[Cv] at a2;have KT:(j:Int)<(k.aj.length:Int):=by omega
 have hix:=Hg 191 (.inr (.inl rfl)) (fun o=>decide (e.page<=o.page)) es ae ce w.heap.size WA hre (by omega) (fun V o hV=>Rj e o w.heap.size V (aB (aQ EX.o hV (aO EX.o)) 0 rfl));have HE:Hid (∀V v' fs,aH (fun b=>S.lab b=.aW j) WA V->V.ownsRow lo 45 3 v' fs.length (fs.flatMap bk)->(∀b,bI v' b->S.lab b=.aW j∨WA.heap.size<=b)->jJ es e=fs->dK lo mb tt X w S (.tuple #[]) (dW k j e) (.returned (.tuple #[])) (V.setCell (Ad pb (j*3+2)) v')):=fun V v' fs h1 h2 h3 h4=>by
  have sw:=HMA.o.SG hj A.v h1 h2 (fun b hb=>by
   rcases h3 b hb with g | g
   · grind
   · exact .inr (HMA.o.toiZ.new g))
  have hK:({ k with aj:=k.aj.set j (dX (ak k.aj j) fs) }:aN)=dW k j e:=by
   grind [dW]
  refine⟨rfl,_,hK ▸ sw.1,(dI.below gK.o).trans (sw.2 (fun b hb hx=>?_))⟩
  grind
 have HES:Hid (∀V n g,Below WA.heap.size WA V->n<es.length->ae=some (Ad g 0)->jJ es e=es.set n e->dK lo mb tt X w S (.tuple #[]) (dW k j e) (.returned (.tuple #[])) (((V.setCell (Ad g (n*3)) (I e.page)).setCell (Ad g (n*3+1)) (I e.kind)).setCell (Ad g (n*3+2)) (I e.loc)).drew.drew):=fun V n g hb hn hg hp=>by
  have m:=HMA.o.below hb;have m1:=eT.ak9 m hj (g:=g) (by rw[Cv,hg]) (i:=n) (by grind) e;have hK:({ k with aj:=k.aj.set j (dX (ak k.aj j) ((ak k.aj j).aW.set n e)) }:aN)=dW k j e:=by
   grind [dW]
  have m1a:=hK ▸ m1.1;have dr:∀V:World,Below V.heap.size V V.drew:=fun V=>(aK _ _).drew
  exact⟨rfl,S,(m1a.below (dr _)).below (dr _),((((dI.below gK.o).trans (dI.below hb)).trans m1.2).trans (dI.below (dr _))).trans (dI.below (dr _))⟩
 obtain⟨P,hP⟩:=ex (dK lo mb tt X w S (.tuple #[]) (dW k j e));rw[<- hP] at HE HES ⊢;obtain⟨np,agu⟩:=ex k.aj.length;rw[<- agu] at c3 KT;have apm:=A.lt;have hxl:=aO EX.o;have avk:=A.fz (j*3+2);have HPE:Hid (∀b,bI (.slice ae es.length ce) b->b≠pb/\b≠w.heap.size/\b<WA.heap.size):=fun b hb=>⟨fun z=>by grind,fun z=>by grind,(hrow.lt b hb).2⟩
 have HLE:=ai abU;have Qk:=ai hrow;have HGE:=ai hge;have iG:=ai iK;have HHE:=ai hre;obtain⟨i0,hin,hz0,hz1,hz2⟩:=iq uk;have tP:=ai hin;have Dg:=ai hz0;have Df:=ai hz1;have BI:=ai hz2;have hlA:lo<=WA.heap.size:=gJ hlo gK.o.size;have avW:es.length<=1000:=by omega
 by_cases hall:∀i,i<es.length->(aI es i).page<e.page
 · have HP0:=ai (Ej es e hall);have TD:Hid (Calls Tryz.prog 153 #[.slice ae es.length ce,.func (.func 191) #[] #[.pointer (some (Ad w.heap.size 0))]] WA fun r w'=>r=.returned (I (-1))/\Below WA.heap.size WA w'):=hix.mono fun r w' ⟨hb,hh⟩=>by
    grind
   clear hix iK h hrow hge hre abU HMA A Cv hes hP agu hin hz0 hz1 hz2 hall G0 hj hen hlo;go_enter Tryz.func166,Tryz.ntmps166;go_upto_region 1 with fail;rw[<- iG.o];go_upto_region 5 with(go_at_call 153;refine TD.o.mono ?_;rintro r w1 ⟨rfl,hb1⟩;have cT:=ai hb1;clear hb1)
   have gj:Hid (aH (fun b=>bI (.slice ae es.length ce) b) w1 w1.drew):=aH.drew _ _;have DF:Hid (∀o,aH (fun b=>bI (.slice ae es.length ce) b) w1 ((w1.alloc o).drew)):=fun o=>(aH.alloc _ _ o).trans (aH.drew _ _) (fun _ _ g=>g)
   have ij:Hid (∀V,aH (fun b=>bI (.slice ae es.length ce) b) w1 V->V.cell? (Ad pb (j*3+2))=some (.slice ae es.length ce)/\V.cell? (Ad w.heap.size 0)=some (I e.page)/\V.cell? (Ad w.heap.size 1)=some (I e.kind)/\V.cell? (Ad w.heap.size 2)=some (I e.loc)/\V.frozen? (Ad pb (j*3+2))=false):=fun V hV=>by
    have b1:=aQ EX.o cT.o (aO EX.o);have b2:=hV.keep b1 (fun g=>(HPE.o _ g).2.1 rfl)
    grind [aB,Jo,aH.cell,Hid.o,Below.cell]
   have Sh:Hid (∀o,((w1.alloc o).drew).ownsRow lo 45 3 (.slice ae es.length ce) es.length (es.flatMap bk)):=fun o=>((UQ w1 o).row ((aH.b7 (D:=fun _=>False) cT.o).row Qk.o (fun _ _ g=>g)) (fun _ _ g=>g))
   have hsz:=cT.o.size;refine nB (S:=fun V=>aH (fun b=>bI (.slice ae es.length ce) b) w1 V) (z:=10) (by rfl) ?_;refine cB 0 gj.o ?_ ?_ ?_;rotate_left 1
   · intro V h;rfl
   refine cB 1 gj.o ?_ ?_ ?_;rotate_left 1
   · intro V h;rfl
   refine cB 2 gj.o ?_ ?_ ?_;rotate_left 1
   · intro V h;rfl
   refine cB 3 gj.o ?_ ?_ ?_;rotate_left 1
   · intro V h;obtain⟨k0,k1,k2,k3,k4⟩:=ij.o V h;go_simp;rfl
   refine cB 4 gj.o ?_ ?_ ?_;rotate_left 1
   · intro V h;obtain⟨k0,k1,k2,k3,k4⟩:=ij.o V h;go_simp;rfl
   refine cB 5 gj.o ?_ ?_ ?_;rotate_left 1
   · intro V h;obtain⟨k0,k1,k2,k3,k4⟩:=ij.o V h;go_simp;rfl
   refine ck (rs:=[6]) (by kernel_rfl) (by simp) ?_;refine aU.cons rfl (fun K hK=>?_) aU.nil;go_simp;refine hK.out _ _ (fun _=>?_) ?_
   · exact DF.o _
   clear hK K
   try simp only[Act.put,bW,bV,bU]
   refine ck (rs:=[7]) (by kernel_rfl) (by simp) ?_;refine aU.cons rfl (fun K hK=>?_) aU.nil;rw[bf (by rfl)];refine eK (P:=Tryz.prog) _ _ 41 rfl lo 45 i0 (.agg #[I 0,I 0,I 0]) 3 24 Tryz.underlying41 tP.o Dg.o Df.o BI.o rfl (by decide) (.slice ae es.length ce) es.length (es.flatMap bk) rfl (Sh.o _) (some (Ad w1.heap.size 0)) 1 1 (bk e) rfl rfl (fun _=>⟨_,rfl,ac8 w1 e⟩) (by intro u hu;simp[bk] at hu;rcases hu with rfl | rfl | rfl <;> rfl) (by grind [maxLen]) (by omega) (by simp;omega) ?_;intro vG wG zu Ce D5;obtain⟨aG,cG,MT,_,_⟩:=aY zu;subst MT;have BJ:Hid (aH (fun b=>bI (.slice ae es.length ce) b) w1 wG):=(DF.o _).trans (aH.grown (D:=fun b=>bI (.slice ae es.length ce) b) Ce (fun q hq=>hq)) (fun _ _ g=>g);have HOG:=ai zu;have HAG:=ai D5;clear zu Ce D5;refine hK.out _ _ (fun _=>?_) ?_
   · exact BJ.o
   clear hK K
   try simp only[Act.put,bW,bV,bU]
   refine ck (rs:=[8]) (by kernel_rfl) (by simp) ?_;refine aU.cons rfl (fun K hK=>?_) aU.nil;go_simp;refine hK.out _ _ (fun _=>?_) ?_
   · exact BJ.o
   clear hK K
   try simp only[Act.put,bW,bV,bU]
   refine cB 9 BJ.o ?_ ?_ ?_;rotate_left 1
   · intro V h;rfl
   obtain⟨k0,k1,k2,k3,k4⟩:=ij.o wG BJ.o;refine ck (rs:=[10]) (by kernel_rfl) (by simp) ?_;refine aU.cons rfl (fun K hK=>?_) aU.nil;go_simp;refine hK.out _ _ (fun g=>absurd rfl g) ?_;refine jL (by rfl) ?_ _;go_wp2;refine q9 (v:=.tuple #[]) (by simp[results]) rfl ?_;refine HE.o wG _ (es++[e]) ?_ (by grind [Hid.o]) (fun b hb=>?_) HP0.o
   · exact(aH.b7 cT.o).trans BJ.o (fun b _ hx=>HLE.o b hx)
   · rcases HAG.o with g | g
     · exact .inl (HLE.o b (by show Value.ownBlock _=_;rw[<- g];exact hb))
     · right;have hb:Value.ownBlock _=some b:=hb
       grind [World.alloc,World.drew]
 · have hex:∃n,n<es.length/\(∀i,i<n->(aI es i).page<e.page)/\¬(aI es n).page<e.page:=by
    obtain⟨n,hn⟩:=Classical.not_forall.1 hall;rw[Classical.not_imp] at hn;obtain⟨SJ,zR⟩:=hn;induction n using Nat.strongRecOn with
    | _ n ih =>
     grind
   obtain⟨n,hn,Gc,Ue⟩:=hex;have hput:=FJ es e n hn Gc Ue;have TD:Hid (Calls Tryz.prog 153 #[.slice ae es.length ce,.func (.func 191) #[] #[.pointer (some (Ad w.heap.size 0))]] WA fun r w'=>r=.returned (I (n:Int))/\Below WA.heap.size WA w'):=hix.mono fun r w' ⟨hb,hh⟩=>by
    grind
   obtain⟨eb,hae,_,ai0⟩:=hge (by omega);subst hae;have hni:(n:Int)<(es.length:Int):=by omega
   have hn0:(0:Int)<=(n:Int):=by omega
   have HXE:Hid (∀V,Below WA.heap.size WA V->V.cell? (Ad eb (n*3))=some (I (aI es n).page)/\V.cell? (Ad eb (n*3+1))=some (I (aI es n).kind)/\V.cell? (Ad eb (n*3+2))=some (I (aI es n).loc)/\(∀q,V.frozen? (Ad eb q)=false)/\V.cell? (Ad pb (j*3+2))=some (.slice (some (Ad eb 0)) es.length ce)/\V.cell? (Ad w.heap.size 0)=some (I e.page)/\V.cell? (Ad w.heap.size 1)=some (I e.kind)/\V.cell? (Ad w.heap.size 2)=some (I e.loc)):=fun V hV=>by
    have hr:=(aH.b7 (D:=fun _=>False) hV).row hrow (fun _ _ g=>g);have b1:=aQ EX.o hV (aO EX.o);exact⟨lB bk (fun _=>rfl) eD hr n 0 hn (by omega),lB bk (fun _=>rfl) eD hr n 1 hn (by omega),lB bk (fun _=>rfl) eD hr n 2 hn (by omega),ig hr,(hV.cell (p:=(Ad pb (j*3+2))) apm).trans a2,aB b1 0 rfl,aB b1 1 rfl,aB b1 2 rfl⟩
   by_cases c:(aI es n).page=e.page
   · rw[bf c] at hput;have Wa:=ai hput;have cb:((aI es n).page==e.page)=true:=by grind
     obtain⟨Z,hZ⟩:=ex (aI es n);rw[<- hZ] at HXE cb;clear hix iK h hrow hge hre abU HMA A Cv hes hP agu hin hz0 hz1 hz2 hall G0 hj hen hlo hput Gc Ue hZ c;go_enter Tryz.func166,Tryz.ntmps166;go_upto_region 1 with fail;rw[<- iG.o];go_upto_region 6 with(go_at_call 153;refine TD.o.mono ?_;rintro r w1 ⟨rfl,hb1⟩;have cT:=ai hb1;clear hb1)
     obtain⟨y0,y1,y2,yf,y3,y4,y5,y6⟩:=HXE.o w1 cT.o;have yf0:=yf (n*3);have yf1:=yf (n*3+1);have yf2:=yf (n*3+2);clear yf;go_region;go_upto_region 7 with fail;go_region;go_wp2;refine q9 (v:=.tuple #[]) (by simp[results]) rfl ?_
     grind [Hid.o]
   · rw[bl c] at hput;have Wa:=ai hput;have cb:((aI es n).page==e.page)=false:=by grind
     have ark:Hid (∀V,aH (fun b=>bI (.slice (some (Ad eb 0)) es.length ce) b) WA V->V.ownsRow lo 45 3 (.slice (some (Ad eb 0)) es.length ce) es.length (es.flatMap bk)->WA.heap.size<=V.heap.size->Calls Tryz.prog 192 #[.slice (some (Ad eb 0)) es.length ce,I (n:Int),.slice (some (Ad V.heap.size 0)) 1 1] ((V.alloc (.cells #[I e.page,I e.kind,I e.loc] 45)).drew) fun r w'=>∃av nv cv,r=.returned (.slice av nv cv)/\w'.ownsRow lo 45 3 (.slice av nv cv) (es.take n++e::es.drop n).length ((es.take n++e::es.drop n).flatMap bk)/\aH (fun b=>bI (.slice (some (Ad eb 0)) es.length ce) b) V w'/\(∀b,bI (.slice av nv cv) b->bI (.slice (some (Ad eb 0)) es.length ce) b∨WA.heap.size<=b)):=fun V hV hr hsz=>by
      have k1:aH (fun _=>False) V ((V.alloc (.cells #[I e.page,I e.kind,I e.loc] 45)).drew):=(aH.alloc _ _ _).trans (aH.drew _ _) (fun _ _ g=>g);have r1:=k1.row hr (fun _ _ g=>g);have r2:((V.alloc (.cells #[I e.page,I e.kind,I e.loc] 45)).drew).ownsRow V.heap.size 45 3 (.slice (some (Ad V.heap.size 0)) [e].length 1) [e].length ([e].flatMap bk):=(aH.drew (fun _=>False) _).row (aar V e) (fun _ _ g=>g);have hs1:((V.alloc (.cells #[I e.page,I e.kind,I e.loc] 45)).drew).heap.size=V.heap.size+1:=iJ _ _;refine(Sc lo es [e] (.slice (some (Ad eb 0)) es.length ce) (.slice (some (Ad V.heap.size 0)) 1 1) V.heap.size n _ r1 r2 (by omega) (fun b h1 h2=>?_) (by omega) (by simp) (by omega) (by simp)).mono fun r w' ⟨v',g1,g2,g3,g4⟩=>?_
      · have:V.heap.size=b:=by injection h1
        have:=(hr.lt b h2).2;omega
      · obtain⟨av,cv,rfl,_,_⟩:=aY g2;refine⟨av,_,cv,g1,g2,(k1.mono (fun _ _ z=>z.elim)).trans g3 (fun _ _ z=>z),fun b hb=>?_⟩
        grind
     obtain⟨Z,hZ⟩:=ex (aI es n);rw[<- hZ] at HXE cb;clear hix iK h hrow hge hre abU HMA A Cv hes hP agu hin hz0 hz1 hz2 hall G0 hj hen hlo hput Gc Ue hZ c;go_enter Tryz.func166,Tryz.ntmps166;go_upto_region 1 with fail;rw[<- iG.o];go_upto_region 6 with(go_at_call 153;refine TD.o.mono ?_;rintro r w1 ⟨rfl,hb1⟩;have cT:=ai hb1;clear hb1)
     obtain⟨y0,y1,y2,yf,y3,y4,y5,y6⟩:=HXE.o w1 cT.o;clear yf;go_region;go_upto_region 3 with fail;clear y0 y1 y2 y3 y4 y5 y6;have fq:Hid (Below WA.heap.size WA w1.drew):=cT.o.drew;clear cT;obtain⟨w2,hw2⟩:=ex w1.drew;rw[<- hw2] at fq ⊢;clear hw2;have gj:Hid (aH (fun b=>bI (.slice (some (Ad eb 0)) es.length ce) b) w2 w2.drew):=aH.drew _ _;have DF:Hid (∀o,aH (fun b=>bI (.slice (some (Ad eb 0)) es.length ce) b) w2 ((w2.alloc o).drew)):=fun o=>(aH.alloc _ _ o).trans (aH.drew _ _) (fun _ _ g=>g)
     have ij:Hid (∀V,aH (fun b=>bI (.slice (some (Ad eb 0)) es.length ce) b) w2 V->V.cell? (Ad pb (j*3+2))=some (.slice (some (Ad eb 0)) es.length ce)/\V.cell? (Ad w.heap.size 0)=some (I e.page)/\V.cell? (Ad w.heap.size 1)=some (I e.kind)/\V.cell? (Ad w.heap.size 2)=some (I e.loc)/\V.frozen? (Ad pb (j*3+2))=false):=fun V hV=>by
      grind [Jo,Hid.o,aH.cell]
     have arl:=ai (ark.o w2 (aH.b7 fq.o) ((aH.b7 (D:=fun _=>False) fq.o).row Qk.o (fun _ _ g=>g)) fq.o.size);refine nB (S:=fun V=>aH (fun b=>bI (.slice (some (Ad eb 0)) es.length ce) b) w2 V) (z:=11) (by rfl) ?_;refine cB 0 gj.o ?_ ?_ ?_;rotate_left 1
     · intro V h;rfl
     refine cB 1 gj.o ?_ ?_ ?_;rotate_left 1
     · intro V h;rfl
     refine cB 2 gj.o ?_ ?_ ?_;rotate_left 1
     · intro V h;rfl
     refine cB 3 gj.o ?_ ?_ ?_;rotate_left 1
     · intro V h;obtain⟨k0,k1,k2,k3,k4⟩:=ij.o V h;go_simp;rfl
     refine cB 4 gj.o ?_ ?_ ?_;rotate_left 1
     · intro V h;obtain⟨k0,k1,k2,k3,k4⟩:=ij.o V h;go_simp;rfl
     refine cB 5 gj.o ?_ ?_ ?_;rotate_left 1
     · intro V h;rfl
     refine cB 6 gj.o ?_ ?_ ?_;rotate_left 1
     · intro V h;obtain⟨k0,k1,k2,k3,k4⟩:=ij.o V h;go_simp;rfl
     refine ck (rs:=[7]) (by kernel_rfl) (by simp) ?_;refine aU.cons rfl (fun K hK=>?_) aU.nil;go_simp;refine hK.out _ _ (fun _=>?_) ?_
     · exact DF.o _
     clear hK K
     try simp only[Act.put,bW,bV,bU]
     refine ck (rs:=[8]) (by kernel_rfl) (by simp) ?_;refine aU.cons rfl (fun K hK=>?_) aU.nil;rw[bf (by rfl)];go_simp;go_at_call 192;refine arl.o.mono ?_;rintro r wG ⟨aG,nG,cG,rfl,zu,hkG,D5⟩;have BJ:Hid (aH (fun b=>bI (.slice (some (Ad eb 0)) es.length ce) b) w2 wG):=hkG;have HOG:=ai zu;have HAG:=ai D5;clear zu hkG D5;try go_simp;refine hK.out _ _ (fun _=>?_) ?_
     · exact BJ.o
     clear hK K
     try simp only[Act.put,bW,bV,bU]
     refine ck (rs:=[9]) (by kernel_rfl) (by simp) ?_;refine aU.cons rfl (fun K hK=>?_) aU.nil;go_simp;refine hK.out _ _ (fun _=>?_) ?_
     · exact BJ.o
     clear hK K
     try simp only[Act.put,bW,bV,bU]
     refine cB 10 BJ.o ?_ ?_ ?_;rotate_left 1
     · intro V h;rfl
     obtain⟨k0,k1,k2,k3,k4⟩:=ij.o wG BJ.o;refine ck (rs:=[11]) (by kernel_rfl) (by simp) ?_;refine aU.cons rfl (fun K hK=>?_) aU.nil;go_simp;refine hK.out _ _ (fun g=>absurd rfl g) ?_;refine jL (by rfl) ?_ _;go_wp2;refine q9 (v:=.tuple #[]) (by simp[results]) rfl ?_;refine HE.o wG _ (es.take n++e::es.drop n) ((aH.b7 fq.o).trans BJ.o (fun b _ hx=>HLE.o b hx)) HOG.o (fun b hb=>?_) Wa.o
     grind [Hid.o]
theorem El (k:aN) (j:Nat) (x e:bC):dW (df k e) j x=df (dW k j x) e:=by grind [df,dW]
def Jp (X:List Value) (hs:List bM):Prop:=∀n:Nat,n<256->X[n]?=some (.string (fM hs n))
theorem Hd {lo mb:Nat} {tt:TypeId} {X:List Value} (k:aN) (S:dN) (w:World) (j:Nat) (p:Int) (h:bQ lo mb tt X w S k) (hR:bg k) (hj:j<k.aj.length) :
  Calls Tryz.prog 118 #[.pointer (some (Ad mb 0)),I (j:Int),I p] w fun e w'=>e=.returned (.tuple #[lZ (jh (ak k.aj j).aW p).1,.bool (jh (ak k.aj j).aW p).2])/\Below w.heap.size w w':=by
 have hcc:=hR.c;have hen:=jC hR hj;obtain⟨pb,cP,A⟩:=h.toiZ.sp (by omega);obtain⟨ae,ce,Cv,hre⟩:=h.toiZ.aW hj;have c3:=h.c3;rw[A.v] at c3;have a2:=A.x2 j hj;rw[Cv] at a2;have e0:0+j*3+2=j*3+2:=by omega
 exact Jv (ak k.aj j).aW p j k.aj.length mb pb 0 cP ae ce w c3 hj (by grind) hre (by omega) (by omega)
theorem Nh {lo mb:Nat} {tt:TypeId} {X:List Value} (k:aN) (S:dN) (w:World) (j:Nat) (p:Int) (held:List Int) (ah:Option Addr) (ch:Nat) (e:bC) (h:bQ lo mb tt X w S k) (hR:bg k) (hj:j<k.aj.length) (he:bD (ak k.aj j).aW p=some e) (hk:e.kind=1) :
  Calls Tryz.prog 141 #[.pointer (some (Ad mb 0)),I (j:Int),I p,.slice ah held.length ch] w (dK lo mb tt X w S (I ((di k j p held).1:Int)) (di k j p held).2):=by
 have px:=ai (Hd k S w j p h hR hj);have e1:jh (ak k.aj j).aW p=(e,true):=by grind [jh]
 rw[e1] at px;have hP:di k j p held=(e.loc.toNat,k):=by
  grind [di]
 have hb:=(iQ hR hj (ma he)).resolve_right (fun y=>by omega);rw[hP];have cZ:Hid (∀V,Below w.heap.size w V->dK lo mb tt X w S (I ((e.loc.toNat:Nat):Int)) k (.returned (I e.loc)) V):=fun V hV=>⟨by grind,S,h.below hV,dI.below hV⟩
 obtain⟨P,OD⟩:=ex (dK lo mb tt X w S (I ((e.loc.toNat:Nat):Int)) k);rw[<- OD] at cZ ⊢;obtain⟨pg,kd,lc⟩:=e;unfold lZ at px;simp only at px cZ hk;have kb:(kd==1)=true:=by grind
 clear hP OD e1 he h hR hj hb hk;go_enter Tryz.func141,Tryz.ntmps141;go_wp2_with (go_at_call 118;refine px.o.mono ?_;rintro r w1 ⟨rfl,hb1⟩;have cT:=ai hb1;have BX:=bG w1 #[I pg,I kd,I lc] 45;obtain⟨d0,d1,d2⟩:=og BX;clear hb1 BX)
 exact cZ.o _ (cT.o.alloc cT.o.size _)
theorem Hb {lo mb:Nat} {tt:TypeId} {X:List Value} (k:aN) (S:dN) (w:World) (j:Nat) (p:Int) (held:List Int) (ah:Option Addr) (ch:Nat) (e:bC) (h:bQ lo mb tt X w S k) (hR:bg k) (hj:j<k.aj.length) (he:bD (ak k.aj j).aW p=some e) (hk:e.kind≠1) (hl:held.length<=2) (hH:kL w S ah held) :
  Calls Tryz.prog 141 #[.pointer (some (Ad mb 0)),I (j:Int),I p,.slice ah held.length ch] w (dK lo mb tt X w S (I ((di k j p held).1:Int)) (di k j p held).2):=by
 have px:=ai (Hd k S w j p h hR hj);have e1:jh (ak k.aj j).aW p=(e,true):=by grind [jh]
 rw[e1] at px;have hP:di k j p held=((bH k held).1,fe (bH k held).2 j p (bH k held).1 (bw (bH k held).2.slots e.loc.toNat).data true):=by
  grind [di]
 have hb:=(iQ hR hj (ma he)).resolve_left (fun y=>hk y.1);have G:=mK hR hl;have hent:bD (ak (bH k held).2.aj j).aW p=some e:=by grind [pY.FC]
 have hmv:fe (bH k held).2 j p (bH k held).1 (bw (bH k held).2.slots e.loc.toNat).data true=dW (df (fC (bH k held).2 (bH k held).1 (bw (bH k held).2.slots e.loc.toNat).data true) e) j ⟨p,1,(bH k held).1⟩:=by
  grind [El,fe]
 rw[hP,hmv];have hcc:=hR.c;have QI:j<(bH k held).2.aj.length:=by rw[G.kept.np];exact hj
 have hi1:(bH k held).1<(bH k held).2.frames.length:=by rw[G.kept.nf];exact G.lt
 have hs1:e.loc.toNat<(bH k held).2.slots.length:=by rw[G.kept.ns];omega
 have hrf:=(o7 G.right).2 e.loc.toNat hs1;have ZU:=jC G.right QI;have aeb:=G.kept.np;have HGT:Hid (∀V,Below w.heap.size w V->Calls Tryz.prog 165 #[.pointer (some (Ad mb 0)),.slice ah held.length ch] V (dK lo mb tt X V S (I ((bH k held).1:Int)) (bH k held).2)):=fun V hV=>Hc k S V held ah ch (h.below hV) hR hl (hH.ch (dI.below hV))
 obtain⟨k1,hk1⟩:=ex ((bH k held).2);obtain⟨i,hi⟩:=ex ((bH k held).1);rw[<- hk1,<- hi] at HGT hi1;rw[<- hk1] at hs1 hrf QI ZU aeb;rw[<- hk1,<- hi];obtain⟨D,hD⟩:=ex ((bw k1.slots e.loc.toNat).data);rw[<- hD];have Kv:Hid (∀V S',bQ lo mb tt X V S' k1->∃fb cF lb cL,V.cell? (Ad mb 1)=some (.slice (some (Ad fb 0)) k1.frames.length cF)/\V.cell? (Ad mb 2)=some (.slice (some (Ad lb 0)) k1.slots.length cL)/\V.cell? (Ad lb (e.loc.toNat*2))=some (.string D)/\V.cell? (Ad fb (i*4))=some (.string (au k1.frames i).data)/\V.cell? (Ad fb (i*4+1))=some (I (au k1.frames i).refs)/\V.cell? (Ad fb (i*4+2))=some (.bool (au k1.frames i).fN)/\V.cell? (Ad fb (i*4+3))=some (.bool (au k1.frames i).seen)/\V.frozen? (Ad fb (i*4))=false/\V.frozen? (Ad fb (i*4+1))=false/\V.frozen? (Ad fb (i*4+2))=false/\V.frozen? (Ad fb (i*4+3))=false /\
   (∀U,U=((((V.setCell (Ad fb (i*4)) (.string D)).setCell (Ad fb (i*4+1)) (I 1)).setCell (Ad fb (i*4+2)) (.bool true)).setCell (Ad fb (i*4+3)) (.bool false)).drew->bQ lo mb tt X U S' (fC k1 i D true)/\dI S' V S' U)):=fun V S' hV=>by
  obtain⟨fb,cF,A⟩:=hV.toiZ.fr (by omega);obtain⟨lb,cL,AL⟩:=hV.toiZ.sl (by omega);have c1:=hV.c1;have c2:=hV.c2;rw[A.v] at c1;rw[AL.v] at c2;refine⟨fb,cF,lb,cL,c1,c2,by rw[hD];exact AL.x0 _ hs1,A.x0 i hi1,A.x1 i hi1,A.x2 i hi1,A.x3 i hi1,A.fz _,A.fz _,A.fz _,A.fz _,fun U hU=>?_⟩;have m:=hV.WW A.v hi1 ⟨D,1,true,false⟩;subst hU;exact⟨m.1.below (aK _ _).drew,m.2.trans (dI.below (aK _ _).drew)⟩
 have HCN:Hid (∀V S',bQ lo mb tt X V S' (fC k1 i D true)->Calls Tryz.prog 85 #[.pointer (some (Ad mb 0)),.agg #[I e.page,I e.kind,I e.loc],I (-1)] V (kW lo mb tt X V S' (.tuple #[]) (df (fC k1 i D true) e))):=fun V S' hV=>by
  rw[<- EW];refine CO _ S' V e (-1) hV (fun c=>absurd c hk) (fun _=>?_) (.inr rfl) ⟨fun c=>absurd c hk,fun _=>?_⟩
  · show 0<=e.loc/\e.loc<(k1.slots.length:Int);omega
  · show -1000000<=(bw k1.slots e.loc.toNat).refs/\(bw k1.slots e.loc.toNat).refs<=1000000;omega
 have HET:Hid (∀V S',bQ lo mb tt X V S' (df (fC k1 i D true) e)->Calls Tryz.prog 166 #[.pointer (some (Ad mb 0)),I (j:Int),.agg #[I p,I 1,I (i:Int)]] V (dK lo mb tt X V S' (.tuple #[]) (dW (df (fC k1 i D true) e) j ⟨p,1,i⟩))):=fun V S' hV=>by
  have hsp:(df (fC k1 i D true) e).aj=k1.aj:=DA _ _;exact CN _ S' V j ⟨p,1,i⟩ hV (by grind) (by grind) (by grind)
 have cZ:Hid (∀V S',bQ lo mb tt X V S' (dW (df (fC k1 i D true) e) j ⟨p,1,i⟩)->dI S w S' V->dK lo mb tt X w S (I (i:Int)) (dW (df (fC k1 i D true) e) j ⟨p,1,i⟩) (.returned (I (i:Int))) V):=fun V S' h1 h2=>⟨rfl,S',h1,h2⟩
 obtain⟨K3,hK3⟩:=ex (dW (df (fC k1 i D true) e) j ⟨p,1,i⟩);rw[<- hK3] at HET cZ ⊢;obtain⟨K2,hK2⟩:=ex (df (fC k1 i D true) e);rw[<- hK2] at HCN HET;obtain⟨K1,Cg⟩:=ex (fC k1 i D true);rw[<- Cg] at Kv HCN;obtain⟨P,OD⟩:=ex (dK lo mb tt X w S (I (i:Int)) K3);rw[<- OD] at cZ ⊢;have pq:Hid (∀V:World,w.heap.size<=V.heap.size->S.lab V.heap.size=.no):=fun V hV=>h.toiZ.new hV
 obtain⟨FR,SM⟩:=ex (au k1.frames i);rw[<- SM] at Kv;obtain⟨nf,rU⟩:=ex k1.frames.length;obtain⟨nl,hnl⟩:=ex k1.slots.length;rw[<- rU,<- hnl] at Kv;obtain⟨m,hm⟩:∃m:Nat,e.loc=(m:Int):=⟨e.loc.toNat,by omega⟩;rw[hm,iu] at Kv;have hmi:(m:Int)<(nl:Int):=by omega
 have Gd:(i:Int)<(nf:Int):=by omega
 obtain⟨pg,kd,lc⟩:=e;unfold lZ at px;simp only at px hk HCN hm;subst hm;have kb:(kd==1)=false:=by simpa using hk
 clear hP OD e1 he h hR hj hb hk G hent hmv hcc QI hi1 hs1 hrf ZU aeb hk1 hi hD hK3 hK2 Cg hH hl SM rU hnl;go_enter Tryz.func141,Tryz.ntmps141;go_upto_region 6 with(first
  | (go_at_call 118;refine px.o.mono ?_;rintro r w1 ⟨rfl,hb1⟩;have cT:=ai hb1;have gK:=ai (cT.o.alloc cT.o.size (.cells #[I pg,I kd,I (m:Int)] 45));have BX:=ai (bG w1 #[I pg,I kd,I (m:Int)] 45);obtain⟨d0,d1,d2⟩:=og BX.o;have QN:=ai (pq.o w1 hb1.size);clear hb1)
  | (go_at_call 165;refine(HGT.o _ gK.o).mono ?_;rintro r w2 ⟨rfl,S2,hk2,hc2⟩;have pH:=ai hk2;have vv:=ai ((dI.below gK.o).trans hc2);have BX2:=ai (hc2.keep BX.o QN.o);have QM:=ai (hc2.no _ (aO BX.o) QN.o);clear hk2 hc2 d0 d1 d2))
 obtain⟨fb,cF,lb,cL,g1,g2,g3,g4,g5,g6,g7,g8,g9,g10,g11,hfin⟩:=Kv.o w2 S2 pH.o;obtain⟨d0,d1,d2⟩:=og BX2.o;obtain⟨U,hU⟩:=ex (((((w2.setCell (Ad fb (i*4)) (.string D)).setCell (Ad fb (i*4+1)) (I 1)).setCell (Ad fb (i*4+2)) (.bool true)).setCell (Ad fb (i*4+3)) (.bool false)).drew);obtain⟨hk3,hc3⟩:=hfin U hU;have HU:=ai hU;have sX:=ai hk3;have vO:=ai (vv.o.trans hc3);have BX3:=ai (hc3.keep BX2.o QM.o);clear hfin hU hk3 hc3;go_region;rw[<- HU.o];clear g1 g2 g3 g4 g5 g6 g7 g8 g9 g10 g11 d0 d1 d2 HU;obtain⟨d0,d1,d2⟩:=og BX3.o;go_wp2_with (first
  | (go_at_call 85;refine(HCN.o _ _ sX.o).mono ?_;rintro r w4 ⟨rfl,hk4,QQ⟩;have HK4:=ai hk4;have HC4:=ai (vO.o.trans QQ);clear hk4 QQ)
  | (go_at_call 166;refine(HET.o _ _ HK4.o).mono ?_;rintro r w5 ⟨rfl,S5,Ou,hc5⟩;have Bj:=ai Ou;have HC5:=ai (HC4.o.trans hc5);clear Ou hc5))
 exact cZ.o _ _ Bj.o HC5.o
theorem ac7 {lo mb:Nat} {tt:TypeId} {X:List Value} {U:World} {S:dN} {k:aN} (h:bQ lo mb tt X U.drew S k):bQ lo mb tt X U S k:=h.kp (E:=fun _=>False) ⟨rfl,rfl,rfl,aM _,fun _ _ _=>rfl⟩ (fun _ _ g=>g)
theorem UM {S S':dN} {w U:World} (h:dI S w S' U.drew):dI S w S' U:=⟨⟨h.kp.os,h.kp.tape,h.kp.output,h.kp.size,h.kp.block⟩,h.no,h.eS,h.eF,h.eL,h.eP⟩
theorem Ng {lo mb:Nat} {tt:TypeId} {X:List Value} (k:aN) (S:dN) (w:World) (j:Nat) (p:Int) (held:List Int) (ah:Option Addr) (ch:Nat) (h:bQ lo mb tt X w S k) (hR:bg k) (hj:j<k.aj.length) (he:bD (ak k.aj j).aW p=none) (hp:cV k j p) (hX:Jp X k.aA) (hl:held.length<=2) (hH:kL w S ah held) :
  Calls Tryz.prog 141 #[.pointer (some (Ad mb 0)),I (j:Int),I p,.slice ah held.length ch] w (dK lo mb tt X w S (I ((di k j p held).1:Int)) (di k j p held).2):=by
 have px:=ai (Hd k S w j p h hR hj);have e1:jh (ak k.aj j).aW p=(eD,false):=by grind [jh]
 rw[e1] at px;have G:=mK hR hl;have hP:di k j p held=((bH k held).1,fe (bH k held).2 j p (bH k held).1 (eH (bH k held).2.aA p (kq (bH k held).2 j p)) false):=by
  grind [di]
 have hent:bD (ak (bH k held).2.aj j).aW p=none:=by grind [pY.FC]
 have hmv:fe (bH k held).2 j p (bH k held).1 (eH (bH k held).2.aA p (kq (bH k held).2 j p)) false=dW (fC (bH k held).2 (bH k held).1 (eH (bH k held).2.aA p (kq (bH k held).2 j p)) false) j ⟨p,1,(bH k held).1⟩:=by
  grind [fe]
 rw[hP,hmv];have xw:=gN hp;have hsh:=G.kept.aA;have aem:ed (ak (bH k held).2.aj j).aZ:=by
  have:=(G.right.sp (by rw[G.kept.np];exact hj)).aZ;exact lD _ this
 have hcc:=hR.c;have QI:j<(bH k held).2.aj.length:=by rw[G.kept.np];exact hj
 have hi1:(bH k held).1<(bH k held).2.frames.length:=by rw[G.kept.nf];exact G.lt
 have ZU:=jC G.right QI;have aeb:=G.kept.np;have HGT:Hid (∀V,Below w.heap.size w V->Calls Tryz.prog 165 #[.pointer (some (Ad mb 0)),.slice ah held.length ch] V (dK lo mb tt X V S (I ((bH k held).1:Int)) (bH k held).2)):=fun V hV=>Hc k S V held ah ch (h.below hV) hR hl (hH.ch (dI.below hV))
 obtain⟨k1,hk1⟩:=ex ((bH k held).2);obtain⟨i,hi⟩:=ex ((bH k held).1);rw[<- hk1,<- hi] at HGT hi1;rw[<- hk1] at QI ZU aeb hsh aem;rw[<- hk1,<- hi];obtain⟨D,hD⟩:=ex (eH k1.aA p (kq k1 j p));rw[<- hD];have Kv:Hid (∀V S',bQ lo mb tt X V S' k1->∃fb cF pb cP va,¬mb=fb/\V.cell? (Ad mb 1)=some (.slice (some (Ad fb 0)) k1.frames.length cF)/\V.cell? (Ad mb 3)=some (.slice (some (Ad pb 0)) k1.aj.length cP)/\V.cell? (Ad pb (j*3+1))=some va/\(∃ax nx cx,va=.slice ax nx cx)/\(∀V',Below V.heap.size V V'->Calls Tryz.prog 70 #[va,I p] V' fun e w'=>e=.returned (.tuple #[.agg (kY (aV (ak k1.aj j).aZ p).1),.bool (aV (ak k1.aj j).aZ p).2])/\Below V'.heap.size V' w')/\(∀V',Below V.heap.size V V'->Calls Tryz.prog 119 #[.pointer (some (Ad mb 0)),I p,.bool (aV (ak k1.aj j).aZ p).1.zero] V' fun e w'=>e=.returned (.string D)/\Below V'.heap.size V' w')/\V.cell? (Ad fb (i*4))=some (.string (au k1.frames i).data)/\V.cell? (Ad fb (i*4+1))=some (I (au k1.frames i).refs)/\V.cell? (Ad fb (i*4+2))=some (.bool (au k1.frames i).fN)/\V.cell? (Ad fb (i*4+3))=some (.bool (au k1.frames i).seen)/\V.frozen? (Ad fb (i*4))=false/\V.frozen? (Ad fb (i*4+1))=false/\V.frozen? (Ad fb (i*4+2))=false/\V.frozen? (Ad fb (i*4+3))=false /\
   (∀U,U=((((V.setCell (Ad fb (i*4)) (.string D)).setCell (Ad fb (i*4+1)) (I 1)).setCell (Ad fb (i*4+2)) (.bool false)).setCell (Ad fb (i*4+3)) (.bool false)).drew->bQ lo mb tt X U S' (fC k1 i D false)/\dI S' V S' U)):=fun V S' hV=>by
  obtain⟨fb,cF,A⟩:=hV.toiZ.fr (by omega);obtain⟨pb,cP,AL⟩:=hV.toiZ.sp (by omega);have c1:=hV.c1;have c2:=hV.c3;rw[A.v] at c1;rw[AL.v] at c2;refine⟨fb,cF,pb,cP,(cA S'.L j).va,fun e=>by have:=A.lab;rw[<- e,hV.lH] at this;grind,c1,c2,AL.x1 j QI,?_,fun V' hb=>uo _ _ p V' (eU.below (hV.toiZ.aZ QI) hb) aem,fun V' hb=>?_,A.x0 i hi1,A.x1 i hi1,A.x2 i hi1,A.x3 i hi1,A.fz _,A.fz _,A.fz _,A.fz _,fun U hU=>?_⟩
  · obtain⟨ax,cx,yt,_,_⟩:=aY (hV.each j QI).aZ
    grind
  · rw[hD,hsh];have hm':=hV.below hb;exact Ep k.aA p _ mb V' (fun n hn=>hm'.cx n (hX n hn)) (by omega)
  have m:=hV.WW A.v hi1 ⟨D,1,false,false⟩;subst hU;exact⟨m.1.below (aK _ _).drew,m.2.trans (dI.below (aK _ _).drew)⟩
 have HET:Hid (∀V S',bQ lo mb tt X V S' (fC k1 i D false)->Calls Tryz.prog 166 #[.pointer (some (Ad mb 0)),I (j:Int),.agg #[I p,I 1,I (i:Int)]] V (dK lo mb tt X V S' (.tuple #[]) (dW (fC k1 i D false) j ⟨p,1,i⟩))):=fun V S' hV=>by
  have hsp:(fC k1 i D false).aj=k1.aj:=rfl;exact CN _ S' V j ⟨p,1,i⟩ hV (by grind) (by grind) (by grind)
 have cZ:Hid (∀V S',bQ lo mb tt X V S' (dW (fC k1 i D false) j ⟨p,1,i⟩)->dI S w S' V->dK lo mb tt X w S (I (i:Int)) (dW (fC k1 i D false) j ⟨p,1,i⟩) (.returned (I (i:Int))) V):=fun V S' h1 h2=>⟨rfl,S',h1,h2⟩
 obtain⟨K3,hK3⟩:=ex (dW (fC k1 i D false) j ⟨p,1,i⟩);rw[<- hK3] at HET cZ ⊢;obtain⟨K1,Cg⟩:=ex (fC k1 i D false);rw[<- Cg] at Kv HET;obtain⟨P,OD⟩:=ex (dK lo mb tt X w S (I (i:Int)) K3);rw[<- OD] at cZ ⊢;obtain⟨FR,SM⟩:=ex (au k1.frames i);rw[<- SM] at Kv;obtain⟨nf,rU⟩:=ex k1.frames.length;obtain⟨np,G0⟩:=ex k1.aj.length;rw[<- rU,<- G0] at Kv;have KT:(j:Int)<(np:Int):=by omega
 have Gd:(i:Int)<(nf:Int):=by omega
 obtain⟨AR,hAR⟩:=ex (aV (ak k1.aj j).aZ p);rw[<- hAR] at Kv;obtain⟨⟨q0,q1,q2,q3⟩,q4⟩:=AR;unfold lZ at px;unfold kY at Kv;simp only[eD] at px Kv;clear hP OD e1 he h hR hj G hent hmv hcc QI hi1 ZU aeb hk1 hi hD hK3 Cg hH hl SM rU G0 hAR hX hsh aem;go_enter Tryz.func141,Tryz.ntmps141;go_upto_region 8 with(first
  | (go_at_call 118;refine px.o.mono ?_;rintro r w1 ⟨rfl,hb1⟩;have cT:=ai hb1;have gK:=ai (cT.o.alloc cT.o.size (.cells #[I 0,I 0,I 0] 45));have BX:=ai (bG w1 #[I 0,I 0,I 0] 45);obtain⟨d0,d1,d2⟩:=og BX.o;clear hb1)
  | (go_at_call 165;refine(HGT.o _ gK.o).mono ?_;rintro r w2 ⟨rfl,S2,hk2,hc2⟩;have pH:=ai hk2;have vv:=ai ((dI.below gK.o).trans hc2);clear hk2 hc2 d0 d1 d2))
 obtain⟨fb,cF,pb,cP,va,hmf,g1,g2,g3,⟨ax,nx,cx,yt⟩,ah1,ah2,g4,g5,g6,g7,g8,g9,g10,g11,hfin⟩:=Kv.o w2 S2 pH.o;subst yt;have Gi:=ai (ah1 w2 (aK _ _));have ZL:=ai ah2;have UQ:=ai (fun V (hb:Below w2.heap.size w2 V)=>Kv.o V S2 (pH.o.below hb));have ID:=nQ w2 _ g4;have Bk:=nQ w2 _ g1;have ID:fb<w2.heap.size:=ID;have Bk:mb<w2.heap.size:=Bk;clear ah1 ah2 g4 g5 g6 g7 g8 g9 g10 g11 hfin;have anq:Hid (∀V,Below w2.heap.size w2 V->V.cell? (Ad fb (i*4))=some (.string FR.data)/\V.cell? (Ad fb (i*4+1))=some (I FR.refs)/\V.cell? (Ad fb (i*4+2))=some (.bool FR.fN)/\V.cell? (Ad fb (i*4+3))=some (.bool FR.seen)/\V.frozen? (Ad fb (i*4))=false/\V.frozen? (Ad fb (i*4+1))=false/\V.frozen? (Ad fb (i*4+2))=false/\V.frozen? (Ad fb (i*4+3))=false/\(∀U,U=((((V.setCell (Ad fb (i*4)) (.string D)).setCell (Ad fb (i*4+1)) (I 1)).setCell (Ad fb (i*4+2)) (.bool false)).setCell (Ad fb (i*4+3)) (.bool false))->bQ lo mb tt X U S2 K1/\dI S w S2 U)):=fun V hb=>by
  obtain⟨fb',cF',GV,ZX,va',_,z1,_,_,_,_,_,z4,z5,z6,z7,z8,z9,z10,z11,aoM⟩:=UQ.o V hb;have e:fb'=fb:=by
   rw[(hb.cell (p:=(Ad mb 1)) Bk).trans g1] at z1;injection z1 with z1;injection z1 with e1 _ _;injection e1 with e1;injection e1 with e1 _ _;omega
  subst e;refine⟨z4,z5,z6,z7,z8,z9,z10,z11,fun U hU=>?_⟩;obtain⟨q1,q2⟩:=aoM U.drew (by rw[hU]);exact⟨ac7 q1,(vv.o.trans (dI.below hb)).trans (UM q2)⟩
 clear UQ Kv;go_upto_region 9 with(go_at_call 70;refine Gi.o.mono ?_;rintro r w3 ⟨rfl,hb3⟩;have jo:=ai hb3;clear hb3)
 have Wl:=ai (jo.o.alloc jo.o.size (.cells #[I q0,I q1,I q2,.bool q3] 47));have AX:=ai (bG w3 #[I q0,I q1,I q2,.bool q3] 47);have hl3:=jo.o.size;obtain⟨W,hW⟩:=ex (w3.alloc (.cells #[I q0,I q1,I q2,.bool q3] 47));obtain⟨xb,KS⟩:=ex w3.heap.size;rw[<- hW] at Wl AX ⊢;rw[<- KS] at AX ⊢;have hxf:¬xb=fb:=by omega
 clear hW KS;have HS:Hid (∀V,Below W.heap.size W V->V.cell? (Ad mb 1)=some (.slice (some (Ad fb 0)) nf cF)/\V.cell? (Ad xb 3)=some (.bool q3)):=fun V hb=>⟨((Wl.o.trans (hb.mono Wl.o.size)).cell (p:=(Ad mb 1)) Bk).trans g1,aB (aQ AX.o hb (aO AX.o)) 3 rfl⟩
 have rz:=ai (aK W.heap.size W).drew;have gj:=ai (HS.o _ rz.o);have Sl:Hid (∀V,Below W.heap.size W V->Calls Tryz.prog 119 #[.pointer (some (Ad mb 0)),I p,.bool q3] V fun e w'=>e=.returned (.string D)/\Below V.heap.size V w'):=fun V hb=>ZL.o V (Wl.o.trans (hb.mono Wl.o.size))
 have HSY:Hid (∀V:World,(V.cell? (Ad mb 1)=some (.slice (some (Ad fb 0)) nf cF)/\V.cell? (Ad xb 3)=some (.bool q3))->∀v0 v1 v2 v3,((((V.setCell (Ad fb (i*4)) v0).setCell (Ad fb (i*4+1)) v1).setCell (Ad fb (i*4+2)) v2).setCell (Ad fb (i*4+3)) v3).cell? (Ad mb 1)=some (.slice (some (Ad fb 0)) nf cF)/\((((V.setCell (Ad fb (i*4)) v0).setCell (Ad fb (i*4+1)) v1).setCell (Ad fb (i*4+2)) v2).setCell (Ad fb (i*4+3)) v3).cell? (Ad xb 3)=some (.bool q3)):=fun V ⟨h0,h1⟩ v0 v1 v2 v3=>by
  rw[fO _ _ _ _ _ _ hmf,fO _ _ _ _ _ _ hmf,fO _ _ _ _ _ _ hmf,fO _ _ _ _ _ _ hmf,fO _ _ _ _ _ _ hxf,fO _ _ _ _ _ _ hxf,fO _ _ _ _ _ _ hxf,fO _ _ _ _ _ _ hxf];omega
 go_region_held3 (fun V=>V.cell? (Ad mb 1)=some (.slice (some (Ad fb 0)) nf cF)/\V.cell? (Ad xb 3)=some (.bool q3)) (first | exact vr.o | exact gj.o | exact HSX.o _ _ _ _)
  ((go_at_call 119;refine(Sl.o _ rz.o).mono ?_;rintro r w5 ⟨rfl,Cf⟩;have Bj:=ai (rz.o.trans (Cf.mono rz.o.size));have vr:=ai (HS.o _ Bj.o);have HSX:=ai (fun v0 v1 v2 v3=>HSY.o w5 vr.o v0 v1 v2 v3);have HZZ:=ai (anq.o w5 (Wl.o.trans (Bj.o.mono Wl.o.size)));obtain⟨z4,z5,z6,z7,z8,z9,z10,z11⟩:w5.cell? (Ad fb (i*4))=some (.string FR.data)/\w5.cell? (Ad fb (i*4+1))=some (I FR.refs)/\w5.cell? (Ad fb (i*4+2))=some (.bool FR.fN)/\w5.cell? (Ad fb (i*4+3))=some (.bool FR.seen)/\w5.frozen? (Ad fb (i*4))=false/\w5.frozen? (Ad fb (i*4+1))=false/\w5.frozen? (Ad fb (i*4+2))=false/\w5.frozen? (Ad fb (i*4+3))=false:=(by obtain⟨a1,a2,a3,a4,a5,a6,a7,a8,_⟩:=HZZ.o;exact⟨a1,a2,a3,a4,a5,a6,a7,a8⟩);clear Cf))
 all_goals clear HSX HSY HS gj vr ZL Sl
 obtain⟨U,hU⟩:=ex (((((w5.setCell (Ad fb (i*4)) (.string D)).setCell (Ad fb (i*4+1)) (I 1)).setCell (Ad fb (i*4+2)) (.bool false)).setCell (Ad fb (i*4+3)) (.bool false)));obtain⟨_,_,_,_,_,_,_,_,zf⟩:=HZZ.o;obtain⟨Xf,Xk⟩:=zf U hU;have HK6:=ai Xf;have HC6:=ai Xk;rw[<- hU];clear hU Xf Xk zf HZZ z4 z5 z6 z7 z8 z9 z10 z11 anq;go_wp2_with (go_at_call 166;refine(HET.o _ _ HK6.o).mono ?_;rintro r w7 ⟨rfl,S7,hk7,hc7⟩;have Wh:=ai hk7;have HC7:=ai (HC6.o.trans hc7);clear hk7 hc7)
 exact cZ.o _ _ Wh.o HC7.o
end Go.Proofs.YtpgifpeohlllfaaGreat
end Go.Proofs.YtpgifpeohlllfaaGreat
