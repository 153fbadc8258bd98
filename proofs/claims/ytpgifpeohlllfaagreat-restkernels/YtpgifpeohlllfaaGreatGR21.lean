import Derived.Test.YtpgifpeohlllfaaGreatGR18
set_option maxHeartbeats 20000000
set_option linter.unusedVariables false
set_option maxRecDepth 100000
set_option linter.unusedSimpArgs false
namespace Go.Proofs.YtpgifpeohlllfaaGreat
open Go.RowKit
theorem BG:∀(es:List bG) (e:bG),(∀j,j<es.length->(aH es j).page<e.page)->iK es e=es++[e]
 | [],e,_=>rfl
 | a::r,e,h=>by
  unfold iK;rw[aR (show a.page<e.page from h 0 (Kh _)),BG r e (fun j hj=>h (j+1) (Kg hj))];rfl
theorem Dc:∀(es:List bG) (e:bG) (n:Nat),n<es.length->(∀j,j<n->(aH es j).page<e.page)->¬(aH es n).page<e.page->iK es e=if (aH es n).page=e.page then es.set n e else es.take n++e::es.drop n
 | [],e,n,hn,_,_=>absurd hn (gN _)
 | a::r,e,0,hn,h,P8=>by
  unfold iK;have P8:¬a.page<e.page:=P8;rw[bf P8];rfl
 | a::r,e,n+1,hn,h,P8=>by
  unfold iK;rw[aR (show a.page<e.page from h 0 (Kh _)),Dc r e n (xH hn) (fun j hj=>h (j+1) (Kg hj)) P8]
  grind [aH]
theorem ND (e o:bG) (x:Nat) (w:World) (hx:w.cell? (Ad x 0)=some (I e.page)) :
  Calls Tryz.prog 191 #[.agg #[I o.page,I o.kind,I o.loc],.pointer (some (Ad x 0))] w fun r w'=>r=.returned (.bool (decide (e.page<=o.page)))/\Below w.heap.size w w':=by
 obtain⟨pg,kd,lc⟩:=o;obtain⟨epg,ekd,elc⟩:=e;simp only at hx ⊢;have hxl:x<w.heap.size:=oc w _ hx;have xA:(w.alloc (.cells #[I pg,I kd,I lc] 45)).cell? (Ad x 0)=some (I epg):=(Kl ((aK w.heap.size w).alloc (aI _) _) (p:=(Ad x 0)) hxl).trans hx;by_cases c:epg<=pg
 · rw[dI c];go_enter Tryz.func191,Tryz.ntmps191;go_wp2
   try go_region
   try go_wp2
   go_ret;simp[aK,m9]
 · rw[dJ c];go_enter Tryz.func191,Tryz.ntmps191;go_wp2
   try go_region
   try go_wp2
   go_ret;simp[aK,m9]
theorem V7 (V:World) (e:bG):(V.alloc (.cells #[I e.page,I e.kind,I e.loc] 45)).ownsRow V.heap.size 45 3 (.slice (some (Ad V.heap.size 0)) 1 1) 1 ([e].flatMap bj) :=
 ⟨rfl,.inr ⟨V.heap.size,1,_,rfl,aI _,bO V _ _,aI _,by grind [maxLen],rfl,rfl⟩⟩
theorem aed.ag6 {lo mb:Nat} {tt:TypeId} {X:List Value} {w:World} {S:dE} {k:aN} (h:bu lo mb tt X w S k) {j:Nat} (hj:j<k.aj.length) {g n cap:Nat} (hv:(fZ S.L j).vp=.slice (some (Ad g 0)) n cap) {i:Nat} (hi:i<(ak k.aj j).aU.length) (e:bG) :
  bu lo mb tt X (((w.setCell (Ad g (i*3)) (I e.page)).setCell (Ad g (i*3+1)) (I e.kind)).setCell (Ad g (i*3+2)) (I e.loc)) S { k with aj:=k.aj.set j (dG (ak k.aj j) ((ak k.aj j).aU.set i e)) } /\
  bU S w S (((w.setCell (Ad g (i*3)) (I e.page)).setCell (Ad g (i*3+1)) (I e.kind)).setCell (Ad g (i*3+2)) (I e.loc)):=by
 have at1:∀(ss:List cO) (es:List bG),j<ss.length->ak (ss.set j (dG (ak k.aj j) es)) j=dG (ak k.aj j) es:=fun ss es hl=>by grind [lO]
 have m1:=h.Z8 hj hv hi (c:=0) (by omega) (e:=⟨e.page,(aH (ak k.aj j).aU i).kind,(aH (ak k.aj j).aU i).loc⟩) (u:=I e.page) rfl;have m2:=m1.1.Z8 (j:=j) (by grind) hv (i:=i) (by
  show i<(ak (List.set _ _ _) j).aU.length;rw[at1 _ _ hj];show i<(List.set _ _ _).length
  grind) (c:=1) (by omega) (e:=⟨e.page,e.kind,(aH (ak k.aj j).aU i).loc⟩) (u:=I e.kind) (by
  show _=(bj (aH (ak (List.set _ _ _) j).aU i)).set 1 _;rw[at1 _ _ hj];show _=(bj ((List.set _ _ _).getD i dW)).set 1 _;rw[eD _ _ _ _ hi];rfl)
 simp only[pF,at1 _ _ hj] at m2;have m2a:bu lo mb tt X ((w.setCell (Ad g (i*3)) (I e.page)).setCell (Ad g (i*3+1)) (I e.kind)) S { k with aj:=k.aj.set j (dG (ak k.aj j) ((ak k.aj j).aU.set i ⟨e.page,e.kind,(aH (ak k.aj j).aU i).loc⟩)) }:=by
  grind [dG,List.set_set]
 have m3:=m2a.Z8 (j:=j) (by grind) hv (i:=i) (by
  show i<(ak (List.set _ _ _) j).aU.length;rw[at1 _ _ hj];show i<(List.set _ _ _).length
  grind) (c:=2) (by omega) (e:=e) (u:=I e.loc) (by
  show _=(bj (aH (ak (List.set _ _ _) j).aU i)).set 2 _;rw[at1 _ _ hj];show _=(bj ((List.set _ _ _).getD i dW)).set 2 _;rw[eD _ _ _ _ hi];rfl)
 grind [List.set_set,dG,bU.trans]
theorem Gf {D:Nat->Prop} {N:Nat} {w0 w1 V:World} {b o:Nat} (hV:aM D w1 V) (hb:Below N w0 w1) (hl:b<N) (hl0:b<w0.heap.size) (hn:¬D b) (h:w0.frozen? (Ad b o)=false):V.frozen? (Ad b o)=false:=by
 have e1:=hb.block b hl
 grind [World.frozen?,aM.block]
theorem QG (w1:World) (o:Obj):aM (fun _=>False) w1 ((w1.alloc o).drew):=(aM.alloc _ _ o).trans (aM.drew _ _) (fun _ _ g=>g)
theorem Zd (w1:World) (e:bG):∀i u,(bj e)[i]?=some u->((w1.alloc (.cells #[I e.page,I e.kind,I e.loc] 45)).drew).cell? (((Ad w1.heap.size 0):Addr).add i)=some u:=fun i u hu=>tT (C:=#[I e.page,I e.kind,I e.loc]) (t:=45) (fr:=(0,0)) (bO w1 _ _) i u hu
open Go.RowKit
theorem zT {lo mb:Nat} {tt:TypeId} {X:List Value} (k:aN) (S:dE) (w:World) (j:Nat) (e:bG) (h:bu lo mb tt X w S k) (hj:j<k.aj.length) (hen:(ak k.aj j).aU.length<=1000) (Ee:k.aj.length<=1000) :
  Calls Tryz.prog 166 #[.pointer (some (Ad mb 0)),I (j:Int),.agg #[I e.page,I e.kind,I e.loc]] w (cT lo mb tt X w S (.tuple #[]) (df k j e)):=by
 have hlo:lo<=w.heap.size:=gy h.lo_le (qc h.lt);obtain⟨WA,jG⟩:=ex (w.alloc (.cells #[I e.page,I e.kind,I e.loc] 45));have fV:Hid (Below w.heap.size w WA):=by rw[jG];exact(aK w.heap.size w).alloc (aI _) _
 have EX:Hid (WA.heap[w.heap.size]?=some (.cells #[I e.page,I e.kind,I e.loc] 45 (0,0))):=by rw[jG];exact bO w _ _
 have n0:S.lab w.heap.size=.no:=h.toKr.new (aI _);have HMA:=ai (h.below fV.o);obtain⟨pb,cP,A⟩:=HMA.o.toKr.sp (by omega);have hrow:=(HMA.o.each j hj).bC;obtain⟨ae,ce,zE,hcap,hge⟩:=aY hrow;obtain⟨es,hes⟩:=ex ((ak k.aj j).aU);rw[<- hes] at hrow zE hcap hge hen;rw[zE] at hrow;have hre:=Uu hrow;have Yc:∀b,bQ (.slice ae es.length ce) b->S.lab b=.aU j:=fun b hb=>h.lE j hj b (by grind)
 have hpl:=A.lab;have c3:=HMA.o.c3;rw[A.v] at c3;have a2:=A.x2 j hj;rw[zE] at a2;have Sw:(j:Int)<(k.aj.length:Int):=by omega
 have YV:=Es 191 (.inr (.inl rfl)) (fun o=>decide (e.page<=o.page)) es ae ce w.heap.size WA hre (by omega) (fun V o hV=>ND e o w.heap.size V (aB (aQ EX.o hV (aT EX.o)) 0 rfl));have HE:Hid (∀V v' fs,aM (fun b=>S.lab b=.aU j) WA V->V.ownsRow lo 45 3 v' fs.length (fs.flatMap bj)->(∀b,bQ v' b->S.lab b=.aU j∨WA.heap.size<=b)->iK es e=fs->cT lo mb tt X w S (.tuple #[]) (df k j e) (.returned (.tuple #[])) (V.setCell (Ad pb (j*3+2)) v')):=fun V v' fs h1 h2 h3 h4=>by
  have sw:=HMA.o.XR hj A.v h1 h2 (fun b hb=>by
   rcases h3 b hb with g | g
   · grind
   · exact .inr (HMA.o.toKr.new g))
  have hK:({ k with aj:=k.aj.set j (dG (ak k.aj j) fs) }:aN)=df k j e:=by
   grind [df]
  refine⟨rfl,_,hK ▸ sw.1,(bU.below fV.o).trans (sw.2 (fun b hb hx=>?_))⟩
  grind
 have HES:Hid (∀V n g,Below WA.heap.size WA V->n<es.length->ae=some (Ad g 0)->iK es e=es.set n e->cT lo mb tt X w S (.tuple #[]) (df k j e) (.returned (.tuple #[])) (((V.setCell (Ad g (n*3)) (I e.page)).setCell (Ad g (n*3+1)) (I e.kind)).setCell (Ad g (n*3+2)) (I e.loc)).drew.drew):=fun V n g hb hn hg hp=>by
  have m:=HMA.o.below hb;have m1:=aed.ag6 m hj (g:=g) (by rw[zE,hg]) (i:=n) (by grind) e;have hK:({ k with aj:=k.aj.set j (dG (ak k.aj j) ((ak k.aj j).aU.set n e)) }:aN)=df k j e:=by
   grind [df]
  have m1a:=hK ▸ m1.1;have dr:∀V:World,Below V.heap.size V V.drew:=fun V=>(aK _ _).drew
  exact⟨rfl,S,(m1a.below (dr _)).below (dr _),((((bU.below fV.o).trans (bU.below hb)).trans m1.2).trans (bU.below (dr _))).trans (bU.below (dr _))⟩
 obtain⟨P,hP⟩:=ex (cT lo mb tt X w S (.tuple #[]) (df k j e));rw[<- hP] at HE HES ⊢;obtain⟨np,acj⟩:=ex k.aj.length;rw[<- acj] at c3 Sw;have alB:=A.lt;have hxl:=aT EX.o;have arR:=A.fz (j*3+2);have HPE:Hid (∀b,bQ (.slice ae es.length ce) b->b≠pb/\b≠w.heap.size/\b<WA.heap.size):=fun b hb=>⟨fun z=>by grind,fun z=>by grind,(hrow.lt b hb).2⟩
 have HLE:=ai Yc;have Mv:=ai hrow;have HGE:=ai hge;have lI:=ai jG;have YE:=ai hre;obtain⟨i0,hin,hz0,hz1,hz2⟩:=gm tS;have yG:=ai hin;have Bg:=ai hz0;have Bf:=ai hz1;have Aj:=ai hz2;have hlA:lo<=WA.heap.size:=gy hlo fV.o.size;have asu:es.length<=1000:=by omega
 by_cases hall:∀i,i<es.length->(aH es i).page<e.page
 · have HP0:=ai (BG es e hall);have Pt:Hid (Calls Tryz.prog 153 #[.slice ae es.length ce,.func (.func 191) #[] #[.pointer (some (Ad w.heap.size 0))]] WA fun r w'=>r=.returned (I (-1))/\Below WA.heap.size WA w'):=YV.mono fun r w' ⟨hb,hh⟩=>by
    grind
   clear YV jG h hrow hge hre Yc HMA A zE hes hP acj hin hz0 hz1 hz2 hall Ee hj hen hlo;go_enter Tryz.func166,Tryz.ntmps166;go_upto_region 1 with fail;rw[<- lI.o];go_upto_region 5 with(go_at_call 153;refine Pt.o.mono ?_;rintro r w1 ⟨rfl,hb1⟩;have dz:=ai hb1;clear hb1)
   have gu:Hid (aM (fun b=>bQ (.slice ae es.length ce) b) w1 w1.drew):=aM.drew _ _;have Dj:Hid (∀o,aM (fun b=>bQ (.slice ae es.length ce) b) w1 ((w1.alloc o).drew)):=fun o=>(aM.alloc _ _ o).trans (aM.drew _ _) (fun _ _ g=>g)
   have gq:Hid (∀V,aM (fun b=>bQ (.slice ae es.length ce) b) w1 V->V.cell? (Ad pb (j*3+2))=some (.slice ae es.length ce)/\V.cell? (Ad w.heap.size 0)=some (I e.page)/\V.cell? (Ad w.heap.size 1)=some (I e.kind)/\V.cell? (Ad w.heap.size 2)=some (I e.loc)/\V.frozen? (Ad pb (j*3+2))=false):=fun V hV=>by
    have b1:=aQ EX.o dz.o (aT EX.o);have b2:=hV.keep b1 (fun g=>(HPE.o _ g).2.1 rfl)
    grind [aB,Gf,aM.cell,Hid.o,Below.cell]
   have SG:Hid (∀o,((w1.alloc o).drew).ownsRow lo 45 3 (.slice ae es.length ce) es.length (es.flatMap bj)):=fun o=>((QG w1 o).row ((aM.cH (D:=fun _=>False) dz.o).row Mv.o (fun _ _ g=>g)) (fun _ _ g=>g))
   have hsz:=dz.o.size;refine m7 (S:=fun V=>aM (fun b=>bQ (.slice ae es.length ce) b) w1 V) (z:=10) (by rfl) ?_;refine cN 0 gu.o ?_ ?_ ?_;rotate_left 1
   · intro V h;rfl
   refine cN 1 gu.o ?_ ?_ ?_;rotate_left 1
   · intro V h;rfl
   refine cN 2 gu.o ?_ ?_ ?_;rotate_left 1
   · intro V h;rfl
   refine cN 3 gu.o ?_ ?_ ?_;rotate_left 1
   · intro V h;obtain⟨k0,k1,k2,k3,k4⟩:=gq.o V h;go_simp;rfl
   refine cN 4 gu.o ?_ ?_ ?_;rotate_left 1
   · intro V h;obtain⟨k0,k1,k2,k3,k4⟩:=gq.o V h;go_simp;rfl
   refine cN 5 gu.o ?_ ?_ ?_;rotate_left 1
   · intro V h;obtain⟨k0,k1,k2,k3,k4⟩:=gq.o V h;go_simp;rfl
   refine bW (rs:=[6]) (by kernel_rfl) (by simp) ?_;refine aJ.cons rfl (fun K hK=>?_) aJ.nil;go_simp;refine hK.out _ _ (fun _=>?_) ?_
   · exact Dj.o _
   clear hK K
   try simp only[Act.put,bJ,bI,bH]
   refine bW (rs:=[7]) (by kernel_rfl) (by simp) ?_;refine aJ.cons rfl (fun K hK=>?_) aJ.nil;rw[aR (by rfl)];refine dM (P:=Tryz.prog) _ _ 41 rfl lo 45 i0 (.agg #[I 0,I 0,I 0]) 3 24 Tryz.underlying41 yG.o Bg.o Bf.o Aj.o rfl (by decide) (.slice ae es.length ce) es.length (es.flatMap bj) rfl (SG.o _) (some (Ad w1.heap.size 0)) 1 1 (bj e) rfl rfl (fun _=>⟨_,rfl,Zd w1 e⟩) (by intro u hu;simp[bj] at hu;rcases hu with rfl | rfl | rfl <;> rfl) (by grind [maxLen]) (by omega) (by simp;omega) ?_;intro vG wG yR Bj Dy;obtain⟨aG,cG,KR,_,_⟩:=aY yR;subst KR;have Bl:Hid (aM (fun b=>bQ (.slice ae es.length ce) b) w1 wG):=(Dj.o _).trans (aM.grown (D:=fun b=>bQ (.slice ae es.length ce) b) Bj (fun q hq=>hq)) (fun _ _ g=>g);have HOG:=ai yR;have HAG:=ai Dy;clear yR Bj Dy;refine hK.out _ _ (fun _=>?_) ?_
   · exact Bl.o
   clear hK K
   try simp only[Act.put,bJ,bI,bH]
   refine bW (rs:=[8]) (by kernel_rfl) (by simp) ?_;refine aJ.cons rfl (fun K hK=>?_) aJ.nil;go_simp;refine hK.out _ _ (fun _=>?_) ?_
   · exact Bl.o
   clear hK K
   try simp only[Act.put,bJ,bI,bH]
   refine cN 9 Bl.o ?_ ?_ ?_;rotate_left 1
   · intro V h;rfl
   obtain⟨k0,k1,k2,k3,k4⟩:=gq.o wG Bl.o;refine bW (rs:=[10]) (by kernel_rfl) (by simp) ?_;refine aJ.cons rfl (fun K hK=>?_) aJ.nil;go_simp;refine hK.out _ _ (fun g=>absurd rfl g) ?_;refine ij (by rfl) ?_ _;go_wp2;refine pE (v:=.tuple #[]) (by simp[results]) rfl ?_;refine HE.o wG _ (es++[e]) ?_ (by grind [Hid.o]) (fun b hb=>?_) HP0.o
   · exact(aM.cH dz.o).trans Bl.o (fun b _ hx=>HLE.o b hx)
   · rcases HAG.o with g | g
     · exact .inl (HLE.o b (by show Value.ownBlock _=_;rw[<- g];exact hb))
     · right;have hb:Value.ownBlock _=some b:=hb
       grind [World.alloc,World.drew]
 · have hex:∃n,n<es.length/\(∀i,i<n->(aH es i).page<e.page)/\¬(aH es n).page<e.page:=by
    obtain⟨n,hn⟩:=Classical.not_forall.1 hall;rw[Classical.not_imp] at hn;obtain⟨hn1,Fg⟩:=hn;induction n using Nat.strongRecOn with
    | _ n ih =>
     grind
   obtain⟨n,hn,Dr,P8⟩:=hex;have hput:=Dc es e n hn Dr P8;have Pt:Hid (Calls Tryz.prog 153 #[.slice ae es.length ce,.func (.func 191) #[] #[.pointer (some (Ad w.heap.size 0))]] WA fun r w'=>r=.returned (I (n:Int))/\Below WA.heap.size WA w'):=YV.mono fun r w' ⟨hb,hh⟩=>by
    grind
   obtain⟨eb,hae,_,aeS⟩:=hge (by omega);subst hae;have hni:(n:Int)<(es.length:Int):=by omega
   have hn0:(0:Int)<=(n:Int):=by omega
   have HXE:Hid (∀V,Below WA.heap.size WA V->V.cell? (Ad eb (n*3))=some (I (aH es n).page)/\V.cell? (Ad eb (n*3+1))=some (I (aH es n).kind)/\V.cell? (Ad eb (n*3+2))=some (I (aH es n).loc)/\(∀q,V.frozen? (Ad eb q)=false)/\V.cell? (Ad pb (j*3+2))=some (.slice (some (Ad eb 0)) es.length ce)/\V.cell? (Ad w.heap.size 0)=some (I e.page)/\V.cell? (Ad w.heap.size 1)=some (I e.kind)/\V.cell? (Ad w.heap.size 2)=some (I e.loc)):=fun V hV=>by
    have hr:=(aM.cH (D:=fun _=>False) hV).row hrow (fun _ _ g=>g);have b1:=aQ EX.o hV (aT EX.o);exact⟨jJ bj (fun _=>rfl) dW hr n 0 hn (by omega),jJ bj (fun _=>rfl) dW hr n 1 hn (by omega),jJ bj (fun _=>rfl) dW hr n 2 hn (by omega),gp hr,(hV.cell (p:=(Ad pb (j*3+2))) alB).trans a2,aB b1 0 rfl,aB b1 1 rfl,aB b1 2 rfl⟩
   by_cases c:(aH es n).page=e.page
   · rw[aR c] at hput;have UH:=ai hput;have cb:((aH es n).page==e.page)=true:=by grind
     obtain⟨Z,hZ⟩:=ex (aH es n);rw[<- hZ] at HXE cb;clear YV jG h hrow hge hre Yc HMA A zE hes hP acj hin hz0 hz1 hz2 hall Ee hj hen hlo hput Dr P8 hZ c;go_enter Tryz.func166,Tryz.ntmps166;go_upto_region 1 with fail;rw[<- lI.o];go_upto_region 6 with(go_at_call 153;refine Pt.o.mono ?_;rintro r w1 ⟨rfl,hb1⟩;have dz:=ai hb1;clear hb1)
     obtain⟨y0,y1,y2,yf,y3,y4,y5,y6⟩:=HXE.o w1 dz.o;have yf0:=yf (n*3);have yf1:=yf (n*3+1);have yf2:=yf (n*3+2);clear yf;go_region;go_upto_region 7 with fail;go_region;go_wp2;refine pE (v:=.tuple #[]) (by simp[results]) rfl ?_
     grind [Hid.o]
   · rw[bf c] at hput;have UH:=ai hput;have cb:((aH es n).page==e.page)=false:=by grind
     have anm:Hid (∀V,aM (fun b=>bQ (.slice (some (Ad eb 0)) es.length ce) b) WA V->V.ownsRow lo 45 3 (.slice (some (Ad eb 0)) es.length ce) es.length (es.flatMap bj)->WA.heap.size<=V.heap.size->Calls Tryz.prog 192 #[.slice (some (Ad eb 0)) es.length ce,I (n:Int),.slice (some (Ad V.heap.size 0)) 1 1] ((V.alloc (.cells #[I e.page,I e.kind,I e.loc] 45)).drew) fun r w'=>∃av nv cv,r=.returned (.slice av nv cv)/\w'.ownsRow lo 45 3 (.slice av nv cv) (es.take n++e::es.drop n).length ((es.take n++e::es.drop n).flatMap bj)/\aM (fun b=>bQ (.slice (some (Ad eb 0)) es.length ce) b) V w'/\(∀b,bQ (.slice av nv cv) b->bQ (.slice (some (Ad eb 0)) es.length ce) b∨WA.heap.size<=b)):=fun V hV hr hsz=>by
      have k1:aM (fun _=>False) V ((V.alloc (.cells #[I e.page,I e.kind,I e.loc] 45)).drew):=(aM.alloc _ _ _).trans (aM.drew _ _) (fun _ _ g=>g);have r1:=k1.row hr (fun _ _ g=>g);have r2:((V.alloc (.cells #[I e.page,I e.kind,I e.loc] 45)).drew).ownsRow V.heap.size 45 3 (.slice (some (Ad V.heap.size 0)) [e].length 1) [e].length ([e].flatMap bj):=(aM.drew (fun _=>False) _).row (V7 V e) (fun _ _ g=>g);have hs1:((V.alloc (.cells #[I e.page,I e.kind,I e.loc] 45)).drew).heap.size=V.heap.size+1:=ig _ _;refine(Oe lo es [e] (.slice (some (Ad eb 0)) es.length ce) (.slice (some (Ad V.heap.size 0)) 1 1) V.heap.size n _ r1 r2 (by omega) (fun b h1 h2=>?_) (by omega) (by simp) (by omega) (by simp)).mono fun r w' ⟨v',g1,g2,g3,g4⟩=>?_
      · have:V.heap.size=b:=by injection h1
        have:=(hr.lt b h2).2;omega
      · obtain⟨av,cv,rfl,_,_⟩:=aY g2;refine⟨av,_,cv,g1,g2,(k1.mono (fun _ _ z=>z.elim)).trans g3 (fun _ _ z=>z),fun b hb=>?_⟩
        grind
     obtain⟨Z,hZ⟩:=ex (aH es n);rw[<- hZ] at HXE cb;clear YV jG h hrow hge hre Yc HMA A zE hes hP acj hin hz0 hz1 hz2 hall Ee hj hen hlo hput Dr P8 hZ c;go_enter Tryz.func166,Tryz.ntmps166;go_upto_region 1 with fail;rw[<- lI.o];go_upto_region 6 with(go_at_call 153;refine Pt.o.mono ?_;rintro r w1 ⟨rfl,hb1⟩;have dz:=ai hb1;clear hb1)
     obtain⟨y0,y1,y2,yf,y3,y4,y5,y6⟩:=HXE.o w1 dz.o;clear yf;go_region;go_upto_region 3 with fail;clear y0 y1 y2 y3 y4 y5 y6;have gj:Hid (Below WA.heap.size WA w1.drew):=dz.o.drew;clear dz;obtain⟨w2,hw2⟩:=ex w1.drew;rw[<- hw2] at gj ⊢;clear hw2;have gu:Hid (aM (fun b=>bQ (.slice (some (Ad eb 0)) es.length ce) b) w2 w2.drew):=aM.drew _ _;have Dj:Hid (∀o,aM (fun b=>bQ (.slice (some (Ad eb 0)) es.length ce) b) w2 ((w2.alloc o).drew)):=fun o=>(aM.alloc _ _ o).trans (aM.drew _ _) (fun _ _ g=>g)
     have gq:Hid (∀V,aM (fun b=>bQ (.slice (some (Ad eb 0)) es.length ce) b) w2 V->V.cell? (Ad pb (j*3+2))=some (.slice (some (Ad eb 0)) es.length ce)/\V.cell? (Ad w.heap.size 0)=some (I e.page)/\V.cell? (Ad w.heap.size 1)=some (I e.kind)/\V.cell? (Ad w.heap.size 2)=some (I e.loc)/\V.frozen? (Ad pb (j*3+2))=false):=fun V hV=>by
      grind [Gf,Hid.o,aM.cell]
     have ann:=ai (anm.o w2 (aM.cH gj.o) ((aM.cH (D:=fun _=>False) gj.o).row Mv.o (fun _ _ g=>g)) gj.o.size);refine m7 (S:=fun V=>aM (fun b=>bQ (.slice (some (Ad eb 0)) es.length ce) b) w2 V) (z:=11) (by rfl) ?_;refine cN 0 gu.o ?_ ?_ ?_;rotate_left 1
     · intro V h;rfl
     refine cN 1 gu.o ?_ ?_ ?_;rotate_left 1
     · intro V h;rfl
     refine cN 2 gu.o ?_ ?_ ?_;rotate_left 1
     · intro V h;rfl
     refine cN 3 gu.o ?_ ?_ ?_;rotate_left 1
     · intro V h;obtain⟨k0,k1,k2,k3,k4⟩:=gq.o V h;go_simp;rfl
     refine cN 4 gu.o ?_ ?_ ?_;rotate_left 1
     · intro V h;obtain⟨k0,k1,k2,k3,k4⟩:=gq.o V h;go_simp;rfl
     refine cN 5 gu.o ?_ ?_ ?_;rotate_left 1
     · intro V h;rfl
     refine cN 6 gu.o ?_ ?_ ?_;rotate_left 1
     · intro V h;obtain⟨k0,k1,k2,k3,k4⟩:=gq.o V h;go_simp;rfl
     refine bW (rs:=[7]) (by kernel_rfl) (by simp) ?_;refine aJ.cons rfl (fun K hK=>?_) aJ.nil;go_simp;refine hK.out _ _ (fun _=>?_) ?_
     · exact Dj.o _
     clear hK K
     try simp only[Act.put,bJ,bI,bH]
     refine bW (rs:=[8]) (by kernel_rfl) (by simp) ?_;refine aJ.cons rfl (fun K hK=>?_) aJ.nil;rw[aR (by rfl)];go_simp;go_at_call 192;refine ann.o.mono ?_;rintro r wG ⟨aG,nG,cG,rfl,yR,hkG,Dy⟩;have Bl:Hid (aM (fun b=>bQ (.slice (some (Ad eb 0)) es.length ce) b) w2 wG):=hkG;have HOG:=ai yR;have HAG:=ai Dy;clear yR hkG Dy;try go_simp;refine hK.out _ _ (fun _=>?_) ?_
     · exact Bl.o
     clear hK K
     try simp only[Act.put,bJ,bI,bH]
     refine bW (rs:=[9]) (by kernel_rfl) (by simp) ?_;refine aJ.cons rfl (fun K hK=>?_) aJ.nil;go_simp;refine hK.out _ _ (fun _=>?_) ?_
     · exact Bl.o
     clear hK K
     try simp only[Act.put,bJ,bI,bH]
     refine cN 10 Bl.o ?_ ?_ ?_;rotate_left 1
     · intro V h;rfl
     obtain⟨k0,k1,k2,k3,k4⟩:=gq.o wG Bl.o;refine bW (rs:=[11]) (by kernel_rfl) (by simp) ?_;refine aJ.cons rfl (fun K hK=>?_) aJ.nil;go_simp;refine hK.out _ _ (fun g=>absurd rfl g) ?_;refine ij (by rfl) ?_ _;go_wp2;refine pE (v:=.tuple #[]) (by simp[results]) rfl ?_;refine HE.o wG _ (es.take n++e::es.drop n) ((aM.cH gj.o).trans Bl.o (fun b _ hx=>HLE.o b hx)) HOG.o (fun b hb=>?_) UH.o
     grind [Hid.o]
open Go.RowKit
theorem BI (k:aN) (j:Nat) (x e:bG):df (cK k e) j x=cK (df k j x) e:=by grind [cK,df]
def Gg (X:List Value) (hs:List bR):Prop:=∀n:Nat,n<256->X[n]?=some (.string (eO hs n))
theorem Eo {lo mb:Nat} {tt:TypeId} {X:List Value} (k:aN) (S:dE) (w:World) (j:Nat) (p:Int) (h:bu lo mb tt X w S k) (hR:bc k) (hj:j<k.aj.length) :
  Calls Tryz.prog 118 #[.pointer (some (Ad mb 0)),I (j:Int),I p] w fun e w'=>e=.returned (.tuple #[kE (gY (ak k.aj j).aU p).1,.bool (gY (ak k.aj j).aU p).2])/\Below w.heap.size w w':=by
 have hcc:=hR.c;have hen:=iZ hR hj;obtain⟨pb,cP,A⟩:=h.toKr.sp (by omega);obtain⟨ae,ce,zE,hre⟩:=h.toKr.aU hj;have c3:=h.c3;rw[A.v] at c3;have a2:=A.x2 j hj;rw[zE] at a2;have e0:0+j*3+2=j*3+2:=by omega
 exact Gn (ak k.aj j).aU p j k.aj.length mb pb 0 cP ae ce w c3 hj (by grind) hre (by omega) (by omega)
theorem JO {lo mb:Nat} {tt:TypeId} {X:List Value} (k:aN) (S:dE) (w:World) (j:Nat) (p:Int) (held:List Int) (ah:Option Addr) (ch:Nat) (e:bG) (h:bu lo mb tt X w S k) (hR:bc k) (hj:j<k.aj.length) (he:bD (ak k.aj j).aU p=some e) (hk:e.kind=1) :
  Calls Tryz.prog 141 #[.pointer (some (Ad mb 0)),I (j:Int),I p,.slice ah held.length ch] w (cT lo mb tt X w S (I ((cI k j p held).1:Int)) (cI k j p held).2):=by
 have oD:=ai (Eo k S w j p h hR hj);have e1:gY (ak k.aj j).aU p=(e,true):=by grind [gY]
 rw[e1] at oD;have hP:cI k j p held=(e.loc.toNat,k):=by
  grind [cI]
 have hb:=(ic hR hj (lq he)).resolve_right (fun y=>by omega);rw[hP];have cV:Hid (∀V,Below w.heap.size w V->cT lo mb tt X w S (I ((e.loc.toNat:Nat):Int)) k (.returned (I e.loc)) V):=fun V hV=>⟨by grind,S,h.below hV,bU.below hV⟩
 obtain⟨P,Sz⟩:=ex (cT lo mb tt X w S (I ((e.loc.toNat:Nat):Int)) k);rw[<- Sz] at cV ⊢;obtain⟨pg,kd,lc⟩:=e;unfold kE at oD;simp only at oD cV hk;have kb:(kd==1)=true:=by grind
 clear hP Sz e1 he h hR hj hb hk;go_enter Tryz.func141,Tryz.ntmps141;go_wp2_with (go_at_call 118;refine oD.o.mono ?_;rintro r w1 ⟨rfl,hb1⟩;have dz:=ai hb1;have BX:=bO w1 #[I pg,I kd,I lc] 45;obtain⟨d0,d1,d2⟩:=nV BX;clear hb1 BX)
 exact cV.o _ (dz.o.alloc dz.o.size _)
theorem Em {lo mb:Nat} {tt:TypeId} {X:List Value} (k:aN) (S:dE) (w:World) (j:Nat) (p:Int) (held:List Int) (ah:Option Addr) (ch:Nat) (e:bG) (h:bu lo mb tt X w S k) (hR:bc k) (hj:j<k.aj.length) (he:bD (ak k.aj j).aU p=some e) (hk:e.kind≠1) (hl:held.length<=2) (hH:jD w S ah held) :
  Calls Tryz.prog 141 #[.pointer (some (Ad mb 0)),I (j:Int),I p,.slice ah held.length ch] w (cT lo mb tt X w S (I ((cI k j p held).1:Int)) (cI k j p held).2):=by
 have oD:=ai (Eo k S w j p h hR hj);have e1:gY (ak k.aj j).aU p=(e,true):=by grind [gY]
 rw[e1] at oD;have hP:cI k j p held=((bE k held).1,dR (bE k held).2 j p (bE k held).1 (br (bE k held).2.slots e.loc.toNat).data true):=by
  grind [cI]
 have hb:=(ic hR hj (lq he)).resolve_left (fun y=>hk y.1);have G:=ll hR hl;have hent:bD (ak (bE k held).2.aj j).aU p=some e:=by grind [oC.Hf]
 have hmv:dR (bE k held).2 j p (bE k held).1 (br (bE k held).2.slots e.loc.toNat).data true=df (cK (ez (bE k held).2 (bE k held).1 (br (bE k held).2.slots e.loc.toNat).data true) e) j ⟨p,1,(bE k held).1⟩:=by
  grind [BI,dR]
 rw[hP,hmv];have hcc:=hR.c;have MV:j<(bE k held).2.aj.length:=by rw[G.kept.np];exact hj
 have hi1:(bE k held).1<(bE k held).2.frames.length:=by rw[G.kept.nf];exact G.lt
 have hs1:e.loc.toNat<(bE k held).2.slots.length:=by rw[G.kept.ns];omega
 have hrf:=(oL G.right).2 e.loc.toNat hs1;have Vx:=iZ G.right MV;have aah:=G.kept.np;have YF:Hid (∀V,Below w.heap.size w V->Calls Tryz.prog 165 #[.pointer (some (Ad mb 0)),.slice ah held.length ch] V (cT lo mb tt X V S (I ((bE k held).1:Int)) (bE k held).2)):=fun V hV=>En k S V held ah ch (h.below hV) hR hl (hH.ch (bU.below hV))
 obtain⟨k1,hk1⟩:=ex ((bE k held).2);obtain⟨i,hi⟩:=ex ((bE k held).1);rw[<- hk1,<- hi] at YF hi1;rw[<- hk1] at hs1 hrf MV Vx aah;rw[<- hk1,<- hi];obtain⟨D,hD⟩:=ex ((br k1.slots e.loc.toNat).data);rw[<- hD];have Hg:Hid (∀V S',bu lo mb tt X V S' k1->∃fb cF lb cL,V.cell? (Ad mb 1)=some (.slice (some (Ad fb 0)) k1.frames.length cF)/\V.cell? (Ad mb 2)=some (.slice (some (Ad lb 0)) k1.slots.length cL)/\V.cell? (Ad lb (e.loc.toNat*2))=some (.string D)/\V.cell? (Ad fb (i*4))=some (.string (au k1.frames i).data)/\V.cell? (Ad fb (i*4+1))=some (I (au k1.frames i).refs)/\V.cell? (Ad fb (i*4+2))=some (.bool (au k1.frames i).eX)/\V.cell? (Ad fb (i*4+3))=some (.bool (au k1.frames i).seen)/\V.frozen? (Ad fb (i*4))=false/\V.frozen? (Ad fb (i*4+1))=false/\V.frozen? (Ad fb (i*4+2))=false/\V.frozen? (Ad fb (i*4+3))=false /\
   (∀U,U=((((V.setCell (Ad fb (i*4)) (.string D)).setCell (Ad fb (i*4+1)) (I 1)).setCell (Ad fb (i*4+2)) (.bool true)).setCell (Ad fb (i*4+3)) (.bool false)).drew->bu lo mb tt X U S' (ez k1 i D true)/\bU S' V S' U)):=fun V S' hV=>by
  obtain⟨fb,cF,A⟩:=hV.toKr.fr (by omega);obtain⟨lb,cL,AL⟩:=hV.toKr.sl (by omega);have c1:=hV.c1;have c2:=hV.c2;rw[A.v] at c1;rw[AL.v] at c2;refine⟨fb,cF,lb,cL,c1,c2,by rw[hD];exact AL.x0 _ hs1,A.x0 i hi1,A.x1 i hi1,A.x2 i hi1,A.x3 i hi1,A.fz _,A.fz _,A.fz _,A.fz _,fun U hU=>?_⟩;have m:=hV.SM A.v hi1 ⟨D,1,true,false⟩;subst hU;exact⟨m.1.below (aK _ _).drew,m.2.trans (bU.below (aK _ _).drew)⟩
 have HCN:Hid (∀V S',bu lo mb tt X V S' (ez k1 i D true)->Calls Tryz.prog 85 #[.pointer (some (Ad mb 0)),.agg #[I e.page,I e.kind,I e.loc],I (-1)] V (jN lo mb tt X V S' (.tuple #[]) (cK (ez k1 i D true) e))):=fun V S' hV=>by
  rw[<- Cx];refine zU _ S' V e (-1) hV (fun c=>absurd c hk) (fun _=>?_) (.inr rfl) ⟨fun c=>absurd c hk,fun _=>?_⟩
  · show 0<=e.loc/\e.loc<(k1.slots.length:Int);omega
  · show -1000000<=(br k1.slots e.loc.toNat).refs/\(br k1.slots e.loc.toNat).refs<=1000000;omega
 have HET:Hid (∀V S',bu lo mb tt X V S' (cK (ez k1 i D true) e)->Calls Tryz.prog 166 #[.pointer (some (Ad mb 0)),I (j:Int),.agg #[I p,I 1,I (i:Int)]] V (cT lo mb tt X V S' (.tuple #[]) (df (cK (ez k1 i D true) e) j ⟨p,1,i⟩))):=fun V S' hV=>by
  have hsp:(cK (ez k1 i D true) e).aj=k1.aj:=AW _ _;exact zT _ S' V j ⟨p,1,i⟩ hV (by grind) (by grind) (by grind)
 have cV:Hid (∀V S',bu lo mb tt X V S' (df (cK (ez k1 i D true) e) j ⟨p,1,i⟩)->bU S w S' V->cT lo mb tt X w S (I (i:Int)) (df (cK (ez k1 i D true) e) j ⟨p,1,i⟩) (.returned (I (i:Int))) V):=fun V S' h1 h2=>⟨rfl,S',h1,h2⟩
 obtain⟨K3,hK3⟩:=ex (df (cK (ez k1 i D true) e) j ⟨p,1,i⟩);rw[<- hK3] at HET cV ⊢;obtain⟨K2,hK2⟩:=ex (cK (ez k1 i D true) e);rw[<- hK2] at HCN HET;obtain⟨K1,Eg⟩:=ex (ez k1 i D true);rw[<- Eg] at Hg HCN;obtain⟨P,Sz⟩:=ex (cT lo mb tt X w S (I (i:Int)) K3);rw[<- Sz] at cV ⊢;have pK:Hid (∀V:World,w.heap.size<=V.heap.size->S.lab V.heap.size=.no):=fun V hV=>h.toKr.new hV
 obtain⟨FR,OM⟩:=ex (au k1.frames i);rw[<- OM] at Hg;obtain⟨nf,tq⟩:=ex k1.frames.length;obtain⟨nl,hnl⟩:=ex k1.slots.length;rw[<- tq,<- hnl] at Hg;obtain⟨m,hm⟩:∃m:Nat,e.loc=(m:Int):=⟨e.loc.toNat,by omega⟩;rw[hm,jn] at Hg;have hmi:(m:Int)<(nl:Int):=by omega
 have Dw:(i:Int)<(nf:Int):=by omega
 obtain⟨pg,kd,lc⟩:=e;unfold kE at oD;simp only at oD hk HCN hm;subst hm;have kb:(kd==1)=false:=by simpa using hk
 clear hP Sz e1 he h hR hj hb hk G hent hmv hcc MV hi1 hs1 hrf Vx aah hk1 hi hD hK3 hK2 Eg hH hl OM tq hnl;go_enter Tryz.func141,Tryz.ntmps141;go_upto_region 6 with(first
  | (go_at_call 118;refine oD.o.mono ?_;rintro r w1 ⟨rfl,hb1⟩;have dz:=ai hb1;have fV:=ai (dz.o.alloc dz.o.size (.cells #[I pg,I kd,I (m:Int)] 45));have BX:=ai (bO w1 #[I pg,I kd,I (m:Int)] 45);obtain⟨d0,d1,d2⟩:=nV BX.o;have Pq:=ai (pK.o w1 hb1.size);clear hb1)
  | (go_at_call 165;refine(YF.o _ fV.o).mono ?_;rintro r w2 ⟨rfl,S2,hk2,hc2⟩;have qa:=ai hk2;have tD:=ai ((bU.below fV.o).trans hc2);have ZN:=ai (hc2.keep BX.o Pq.o);have Xp:=ai (hc2.no _ (aT BX.o) Pq.o);clear hk2 hc2 d0 d1 d2))
 obtain⟨fb,cF,lb,cL,g1,g2,g3,g4,g5,g6,g7,g8,g9,g10,g11,hfin⟩:=Hg.o w2 S2 qa.o;obtain⟨d0,d1,d2⟩:=nV ZN.o;obtain⟨U,hU⟩:=ex (((((w2.setCell (Ad fb (i*4)) (.string D)).setCell (Ad fb (i*4+1)) (I 1)).setCell (Ad fb (i*4+2)) (.bool true)).setCell (Ad fb (i*4+3)) (.bool false)).drew);obtain⟨hk3,hc3⟩:=hfin U hU;have HU:=ai hU;have p9:=ai hk3;have tP:=ai (tD.o.trans hc3);have BX3:=ai (hc3.keep ZN.o Xp.o);clear hfin hU hk3 hc3;go_region;rw[<- HU.o];clear g1 g2 g3 g4 g5 g6 g7 g8 g9 g10 g11 d0 d1 d2 HU;obtain⟨d0,d1,d2⟩:=nV BX3.o;go_wp2_with (first
  | (go_at_call 85;refine(HCN.o _ _ p9.o).mono ?_;rintro r w4 ⟨rfl,hk4,Nc⟩;have HK4:=ai hk4;have HC4:=ai (tP.o.trans Nc);clear hk4 Nc)
  | (go_at_call 166;refine(HET.o _ _ HK4.o).mono ?_;rintro r w5 ⟨rfl,S5,P9,Yf⟩;have M5:=ai P9;have HC5:=ai (HC4.o.trans Yf);clear P9 Yf))
 exact cV.o _ _ M5.o HC5.o
open Go.RowKit
theorem Zc {lo mb:Nat} {tt:TypeId} {X:List Value} {U:World} {S:dE} {k:aN} (h:bu lo mb tt X U.drew S k):bu lo mb tt X U S k:=h.kp (E:=fun _=>False) ⟨rfl,rfl,rfl,aI _,fun _ _ _=>rfl⟩ (fun _ _ g=>g)
theorem QD {S S':dE} {w U:World} (h:bU S w S' U.drew):bU S w S' U:=⟨⟨h.kp.os,h.kp.tape,h.kp.output,h.kp.size,h.kp.block⟩,h.no,h.eS,h.eF,h.eL,h.eP⟩
theorem JN {lo mb:Nat} {tt:TypeId} {X:List Value} (k:aN) (S:dE) (w:World) (j:Nat) (p:Int) (held:List Int) (ah:Option Addr) (ch:Nat) (h:bu lo mb tt X w S k) (hR:bc k) (hj:j<k.aj.length) (he:bD (ak k.aj j).aU p=none) (hp:dx k j p) (hX:Gg X k.aD) (hl:held.length<=2) (hH:jD w S ah held) :
  Calls Tryz.prog 141 #[.pointer (some (Ad mb 0)),I (j:Int),I p,.slice ah held.length ch] w (cT lo mb tt X w S (I ((cI k j p held).1:Int)) (cI k j p held).2):=by
 have oD:=ai (Eo k S w j p h hR hj);have e1:gY (ak k.aj j).aU p=(dW,false):=by grind [gY]
 rw[e1] at oD;have G:=ll hR hl;have hP:cI k j p held=((bE k held).1,dR (bE k held).2 j p (bE k held).1 (dY (bE k held).2.aD p (jq (bE k held).2 j p)) false):=by
  grind [cI]
 have hent:bD (ak (bE k held).2.aj j).aU p=none:=by grind [oC.Hf]
 have hmv:dR (bE k held).2 j p (bE k held).1 (dY (bE k held).2.aD p (jq (bE k held).2 j p)) false=df (ez (bE k held).2 (bE k held).1 (dY (bE k held).2.aD p (jq (bE k held).2 j p)) false) j ⟨p,1,(bE k held).1⟩:=by
  grind [dR]
 rw[hP,hmv];have Jz:=nU hp;have hsh:=G.kept.aD;have aar:fU (ak (bE k held).2.aj j).bk:=by
  have:=(G.right.sp (by rw[G.kept.np];exact hj)).bk;exact lC _ this
 have hcc:=hR.c;have MV:j<(bE k held).2.aj.length:=by rw[G.kept.np];exact hj
 have hi1:(bE k held).1<(bE k held).2.frames.length:=by rw[G.kept.nf];exact G.lt
 have Vx:=iZ G.right MV;have aah:=G.kept.np;have YF:Hid (∀V,Below w.heap.size w V->Calls Tryz.prog 165 #[.pointer (some (Ad mb 0)),.slice ah held.length ch] V (cT lo mb tt X V S (I ((bE k held).1:Int)) (bE k held).2)):=fun V hV=>En k S V held ah ch (h.below hV) hR hl (hH.ch (bU.below hV))
 obtain⟨k1,hk1⟩:=ex ((bE k held).2);obtain⟨i,hi⟩:=ex ((bE k held).1);rw[<- hk1,<- hi] at YF hi1;rw[<- hk1] at MV Vx aah hsh aar;rw[<- hk1,<- hi];obtain⟨D,hD⟩:=ex (dY k1.aD p (jq k1 j p));rw[<- hD];have Hg:Hid (∀V S',bu lo mb tt X V S' k1->∃fb cF pb cP va,¬mb=fb/\V.cell? (Ad mb 1)=some (.slice (some (Ad fb 0)) k1.frames.length cF)/\V.cell? (Ad mb 3)=some (.slice (some (Ad pb 0)) k1.aj.length cP)/\V.cell? (Ad pb (j*3+1))=some va/\(∃ax nx cx,va=.slice ax nx cx)/\(∀V',Below V.heap.size V V'->Calls Tryz.prog 70 #[va,I p] V' fun e w'=>e=.returned (.tuple #[.agg (jU (bh (ak k1.aj j).bk p).1),.bool (bh (ak k1.aj j).bk p).2])/\Below V'.heap.size V' w')/\(∀V',Below V.heap.size V V'->Calls Tryz.prog 119 #[.pointer (some (Ad mb 0)),I p,.bool (bh (ak k1.aj j).bk p).1.zero] V' fun e w'=>e=.returned (.string D)/\Below V'.heap.size V' w')/\V.cell? (Ad fb (i*4))=some (.string (au k1.frames i).data)/\V.cell? (Ad fb (i*4+1))=some (I (au k1.frames i).refs)/\V.cell? (Ad fb (i*4+2))=some (.bool (au k1.frames i).eX)/\V.cell? (Ad fb (i*4+3))=some (.bool (au k1.frames i).seen)/\V.frozen? (Ad fb (i*4))=false/\V.frozen? (Ad fb (i*4+1))=false/\V.frozen? (Ad fb (i*4+2))=false/\V.frozen? (Ad fb (i*4+3))=false /\
   (∀U,U=((((V.setCell (Ad fb (i*4)) (.string D)).setCell (Ad fb (i*4+1)) (I 1)).setCell (Ad fb (i*4+2)) (.bool false)).setCell (Ad fb (i*4+3)) (.bool false)).drew->bu lo mb tt X U S' (ez k1 i D false)/\bU S' V S' U)):=fun V S' hV=>by
  obtain⟨fb,cF,A⟩:=hV.toKr.fr (by omega);obtain⟨pb,cP,AL⟩:=hV.toKr.sp (by omega);have c1:=hV.c1;have c2:=hV.c3;rw[A.v] at c1;rw[AL.v] at c2;refine⟨fb,cF,pb,cP,(fZ S'.L j).va,fun e=>by have:=A.lab;rw[<- e,hV.lH] at this;grind,c1,c2,AL.x1 j MV,?_,fun V' hb=>uN _ _ p V' (fu.below (hV.toKr.bk MV) hb) aar,fun V' hb=>?_,A.x0 i hi1,A.x1 i hi1,A.x2 i hi1,A.x3 i hi1,A.fz _,A.fz _,A.fz _,A.fz _,fun U hU=>?_⟩
  · obtain⟨ax,cx,Av,_,_⟩:=aY (hV.each j MV).bk
    grind
  · rw[hD,hsh];have hm':=hV.below hb;exact BV k.aD p _ mb V' (fun n hn=>hm'.cx n (hX n hn)) (by omega)
  have m:=hV.SM A.v hi1 ⟨D,1,false,false⟩;subst hU;exact⟨m.1.below (aK _ _).drew,m.2.trans (bU.below (aK _ _).drew)⟩
 have HET:Hid (∀V S',bu lo mb tt X V S' (ez k1 i D false)->Calls Tryz.prog 166 #[.pointer (some (Ad mb 0)),I (j:Int),.agg #[I p,I 1,I (i:Int)]] V (cT lo mb tt X V S' (.tuple #[]) (df (ez k1 i D false) j ⟨p,1,i⟩))):=fun V S' hV=>by
  have hsp:(ez k1 i D false).aj=k1.aj:=rfl;exact zT _ S' V j ⟨p,1,i⟩ hV (by grind) (by grind) (by grind)
 have cV:Hid (∀V S',bu lo mb tt X V S' (df (ez k1 i D false) j ⟨p,1,i⟩)->bU S w S' V->cT lo mb tt X w S (I (i:Int)) (df (ez k1 i D false) j ⟨p,1,i⟩) (.returned (I (i:Int))) V):=fun V S' h1 h2=>⟨rfl,S',h1,h2⟩
 obtain⟨K3,hK3⟩:=ex (df (ez k1 i D false) j ⟨p,1,i⟩);rw[<- hK3] at HET cV ⊢;obtain⟨K1,Eg⟩:=ex (ez k1 i D false);rw[<- Eg] at Hg HET;obtain⟨P,Sz⟩:=ex (cT lo mb tt X w S (I (i:Int)) K3);rw[<- Sz] at cV ⊢;obtain⟨FR,OM⟩:=ex (au k1.frames i);rw[<- OM] at Hg;obtain⟨nf,tq⟩:=ex k1.frames.length;obtain⟨np,Ee⟩:=ex k1.aj.length;rw[<- tq,<- Ee] at Hg;have Sw:(j:Int)<(np:Int):=by omega
 have Dw:(i:Int)<(nf:Int):=by omega
 obtain⟨AR,hAR⟩:=ex (bh (ak k1.aj j).bk p);rw[<- hAR] at Hg;obtain⟨⟨q0,q1,q2,q3⟩,q4⟩:=AR;unfold kE at oD;unfold jU at Hg;simp only[dW] at oD Hg;clear hP Sz e1 he h hR hj G hent hmv hcc MV hi1 Vx aah hk1 hi hD hK3 Eg hH hl OM tq Ee hAR hX hsh aar;go_enter Tryz.func141,Tryz.ntmps141;go_upto_region 8 with(first
  | (go_at_call 118;refine oD.o.mono ?_;rintro r w1 ⟨rfl,hb1⟩;have dz:=ai hb1;have fV:=ai (dz.o.alloc dz.o.size (.cells #[I 0,I 0,I 0] 45));have BX:=ai (bO w1 #[I 0,I 0,I 0] 45);obtain⟨d0,d1,d2⟩:=nV BX.o;clear hb1)
  | (go_at_call 165;refine(YF.o _ fV.o).mono ?_;rintro r w2 ⟨rfl,S2,hk2,hc2⟩;have qa:=ai hk2;have tD:=ai ((bU.below fV.o).trans hc2);clear hk2 hc2 d0 d1 d2))
 obtain⟨fb,cF,pb,cP,va,hmf,g1,g2,g3,⟨ax,nx,cx,Av⟩,adV,adW,g4,g5,g6,g7,g8,g9,g10,g11,hfin⟩:=Hg.o w2 S2 qa.o;subst Av;have GR:=ai (adV w2 (aK _ _));have Vp:=ai adW;have QG:=ai (fun V (hb:Below w2.heap.size w2 V)=>Hg.o V S2 (qa.o.below hb));have E9:=oc w2 _ g4;have yT:=oc w2 _ g1;have E9:fb<w2.heap.size:=E9;have yT:mb<w2.heap.size:=yT;clear adV adW g4 g5 g6 g7 g8 g9 g10 g11 hfin;have ai6:Hid (∀V,Below w2.heap.size w2 V->V.cell? (Ad fb (i*4))=some (.string FR.data)/\V.cell? (Ad fb (i*4+1))=some (I FR.refs)/\V.cell? (Ad fb (i*4+2))=some (.bool FR.eX)/\V.cell? (Ad fb (i*4+3))=some (.bool FR.seen)/\V.frozen? (Ad fb (i*4))=false/\V.frozen? (Ad fb (i*4+1))=false/\V.frozen? (Ad fb (i*4+2))=false/\V.frozen? (Ad fb (i*4+3))=false/\(∀U,U=((((V.setCell (Ad fb (i*4)) (.string D)).setCell (Ad fb (i*4+1)) (I 1)).setCell (Ad fb (i*4+2)) (.bool false)).setCell (Ad fb (i*4+3)) (.bool false))->bu lo mb tt X U S2 K1/\bU S w S2 U)):=fun V hb=>by
  obtain⟨YZ,cF',KO,cP',va',_,z1,_,_,_,_,_,z4,z5,z6,z7,z8,z9,z10,z11,akW⟩:=QG.o V hb;have e:YZ=fb:=by
   rw[(hb.cell (p:=(Ad mb 1)) yT).trans g1] at z1;injection z1 with z1;injection z1 with e1 _ _;injection e1 with e1;injection e1 with e1 _ _;omega
  subst e;refine⟨z4,z5,z6,z7,z8,z9,z10,z11,fun U hU=>?_⟩;obtain⟨q1,q2⟩:=akW U.drew (by rw[hU]);exact⟨Zc q1,(tD.o.trans (bU.below hb)).trans (QD q2)⟩
 clear QG Hg;go_upto_region 9 with(go_at_call 70;refine GR.o.mono ?_;rintro r w3 ⟨rfl,hb3⟩;have kJ:=ai hb3;clear hb3)
 have R8:=ai (kJ.o.alloc kJ.o.size (.cells #[I q0,I q1,I q2,.bool q3] 47));have AX:=ai (bO w3 #[I q0,I q1,I q2,.bool q3] 47);have hl3:=kJ.o.size;obtain⟨W,hW⟩:=ex (w3.alloc (.cells #[I q0,I q1,I q2,.bool q3] 47));obtain⟨xb,Su⟩:=ex w3.heap.size;rw[<- hW] at R8 AX ⊢;rw[<- Su] at AX ⊢;have hxf:¬xb=fb:=by omega
 clear hW Su;have HS:Hid (∀V,Below W.heap.size W V->V.cell? (Ad mb 1)=some (.slice (some (Ad fb 0)) nf cF)/\V.cell? (Ad xb 3)=some (.bool q3)):=fun V hb=>⟨((R8.o.trans (hb.mono R8.o.size)).cell (p:=(Ad mb 1)) yT).trans g1,aB (aQ AX.o hb (aT AX.o)) 3 rfl⟩
 have pL:=ai (aK W.heap.size W).drew;have gu:=ai (HS.o _ pL.o);have Om:Hid (∀V,Below W.heap.size W V->Calls Tryz.prog 119 #[.pointer (some (Ad mb 0)),I p,.bool q3] V fun e w'=>e=.returned (.string D)/\Below V.heap.size V w'):=fun V hb=>Vp.o V (R8.o.trans (hb.mono R8.o.size))
 have HSY:Hid (∀V:World,(V.cell? (Ad mb 1)=some (.slice (some (Ad fb 0)) nf cF)/\V.cell? (Ad xb 3)=some (.bool q3))->∀v0 v1 v2 v3,((((V.setCell (Ad fb (i*4)) v0).setCell (Ad fb (i*4+1)) v1).setCell (Ad fb (i*4+2)) v2).setCell (Ad fb (i*4+3)) v3).cell? (Ad mb 1)=some (.slice (some (Ad fb 0)) nf cF)/\((((V.setCell (Ad fb (i*4)) v0).setCell (Ad fb (i*4+1)) v1).setCell (Ad fb (i*4+2)) v2).setCell (Ad fb (i*4+3)) v3).cell? (Ad xb 3)=some (.bool q3)):=fun V ⟨h0,h1⟩ v0 v1 v2 v3=>by
  rw[eQ _ _ _ _ _ _ hmf,eQ _ _ _ _ _ _ hmf,eQ _ _ _ _ _ _ hmf,eQ _ _ _ _ _ _ hmf,eQ _ _ _ _ _ _ hxf,eQ _ _ _ _ _ _ hxf,eQ _ _ _ _ _ _ hxf,eQ _ _ _ _ _ _ hxf];omega
 go_region_held3 (fun V=>V.cell? (Ad mb 1)=some (.slice (some (Ad fb 0)) nf cF)/\V.cell? (Ad xb 3)=some (.bool q3)) (first | exact oN.o | exact gu.o | exact HSX.o _ _ _ _)
  ((go_at_call 119;refine(Om.o _ pL.o).mono ?_;rintro r w5 ⟨rfl,Bk⟩;have M5:=ai (pL.o.trans (Bk.mono pL.o.size));have oN:=ai (HS.o _ M5.o);have HSX:=ai (fun v0 v1 v2 v3=>HSY.o w5 oN.o v0 v1 v2 v3);have HZZ:=ai (ai6.o w5 (R8.o.trans (M5.o.mono R8.o.size)));obtain⟨z4,z5,z6,z7,z8,z9,z10,z11⟩:w5.cell? (Ad fb (i*4))=some (.string FR.data)/\w5.cell? (Ad fb (i*4+1))=some (I FR.refs)/\w5.cell? (Ad fb (i*4+2))=some (.bool FR.eX)/\w5.cell? (Ad fb (i*4+3))=some (.bool FR.seen)/\w5.frozen? (Ad fb (i*4))=false/\w5.frozen? (Ad fb (i*4+1))=false/\w5.frozen? (Ad fb (i*4+2))=false/\w5.frozen? (Ad fb (i*4+3))=false:=(by obtain⟨a1,a2,a3,a4,a5,a6,a7,a8,_⟩:=HZZ.o;exact⟨a1,a2,a3,a4,a5,a6,a7,a8⟩);clear Bk))
 all_goals clear HSX HSY HS gu oN Vp Om
 obtain⟨U,hU⟩:=ex (((((w5.setCell (Ad fb (i*4)) (.string D)).setCell (Ad fb (i*4+1)) (I 1)).setCell (Ad fb (i*4+2)) (.bool false)).setCell (Ad fb (i*4+3)) (.bool false)));obtain⟨_,_,_,_,_,_,_,_,zf⟩:=HZZ.o;obtain⟨Yd,Ta⟩:=zf U hU;have ZB:=ai Yd;have HC6:=ai Ta;rw[<- hU];clear hU Yd Ta zf HZZ z4 z5 z6 z7 z8 z9 z10 z11 ai6;go_wp2_with (go_at_call 166;refine(HET.o _ _ ZB.o).mono ?_;rintro r w7 ⟨rfl,S7,hk7,hc7⟩;have HK7:=ai hk7;have HC7:=ai (HC6.o.trans hc7);clear hk7 hc7)
 exact cV.o _ _ HK7.o HC7.o
end Go.Proofs.YtpgifpeohlllfaaGreat
