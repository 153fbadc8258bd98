import Derived.Test.YtlgoihmkgaaemaaGreatGQ22
set_option maxHeartbeats 20000000
set_option linter.unusedVariables false
set_option maxRecDepth 100000
set_option linter.unusedSimpArgs false
namespace Go.Proofs.YtlgoihmkgaaemaaGreat
open Go.RowKit Tryz
theorem RV:∀(es:List bJ) (e:bJ),(∀j,j<es.length->(bc es j).page<e.page)->oq es e=es++[e]
 | [],e,_=>rfl
 | a::r,e,h=>by
  unfold oq;rw[aC (show a.page<e.page from h 0 (TX _)),RV r e (λj hj=>h (j+1) (TW hj))];rfl
theorem Z3:∀(es:List bJ) (e:bJ) (n:Nat),n<es.length->(∀j,j<n->(bc es j).page<e.page)->¬(bc es n).page<e.page->oq es e=if (bc es n).page=e.page then es.set n e else es.take n++e::es.drop n
 | [],e,n,hn,_,_=>absurd hn (iW _)
 | a::r,e,0,hn,h,UI=>by
  unfold oq;have UI:¬a.page<e.page:=UI;rw[aB UI];rfl
 | a::r,e,n+1,hn,h,UI=>by
  unfold oq;rw[aC (show a.page<e.page from h 0 (TX _)),Z3 r e n (Gq hn) (λj hj=>h (j+1) (TW hj)) UI]
  grind [bc]
variable {lo mb:Nat} {tt:TypeId} {X:List Value} (k:aT) (S:gJ) (w:World) (j:Nat) (p:Int) (held:List Int) (ah:Option Addr) (ch:Nat) (e:bJ)
theorem Yo (o:bJ) (x:Nat) (w:World) (hx:w.cell? (Ad x 0)=some (I e.page)) :
  Calls prog 298 #[.agg #[I o.page,I o.kind,I o.loc],.pointer (some (Ad x 0))] w λr w'=>r=.returned (.bool (decide (e.page<=o.page)))/\Below w.heap.size w w':=by
 obtain⟨pg,kd,lc⟩:=o;obtain⟨b,y,A⟩:=e;simp only at hx ⊢;have q:x<w.heap.size:=jL w _ hx;have xA:(w.alloc (.cells #[I pg,I kd,I lc] 174)).cell? (Ad x 0)=some (I b):=(T4 ((aN w.heap.size w).alloc (aK _) _) (p:=(Ad x 0)) q).trans hx;by_cases c:b<=pg
 . rw[fD c];go_enter func298,ntmps298;go_wp2
   try go_region
   try go_wp2
   go_ret;simp[aN,sI]
 rw[fE c];go_enter func298,ntmps298;go_wp2
 try go_region
 try go_wp2
 go_ret;simp[aN,sI]
theorem ahE (V:World) (e:bJ):(V.alloc (.cells #[I e.page,I e.kind,I e.loc] 174)).ownsRow V.heap.size 174 3 (.slice (some (Ad V.heap.size 0)) 1 1) 1 ([e].flatMap bZ) :=
 ⟨rfl,.inr ⟨V.heap.size,1,_,rfl,aK _,bH V _ _,aK _,by grind [maxLen],rfl,rfl⟩⟩
theorem at2.awO {w:World} {S:gJ} {k:aT} (h:bR lo mb tt X w S k) {j:Nat} (hj:j<k.aj.length) {g n cap:Nat} (hv:(gh S.L j).vp=.slice (some (Ad g 0)) n cap) {i:Nat} (hi:i<(ak k.aj j).bh.length) (e:bJ) :
  bR lo mb tt X (((w.setCell (Ad g (i*3)) (I e.page)).setCell (Ad g (i*3+1)) (I e.kind)).setCell (Ad g (i*3+2)) (I e.loc)) S { k with aj:=k.aj.set j (eD (ak k.aj j) ((ak k.aj j).bh.set i e)) } /\
  cO S w S (((w.setCell (Ad g (i*3)) (I e.page)).setCell (Ad g (i*3+1)) (I e.kind)).setCell (Ad g (i*3+2)) (I e.loc)):=by
 have b:∀(ss:List dA) (es:List bJ),j<ss.length->ak (ss.set j (eD (ak k.aj j) es)) j=eD (ak k.aj j) es:=λss es hl=>by grind [jd]
 have m1:=h.alN hj hv hi (c:=0) ω (e:=⟨e.page,(bc (ak k.aj j).bh i).kind,(bc (ak k.aj j).bh i).loc⟩) (u:=I e.page) rfl;have m2:=m1.1.alN (j:=j) Γ hv (i:=i) (by
  show i<(ak (List.set _ _ _) j).bh.length;rw[b _ _ hj];show i<(List.set _ _ _).length
  grind) (c:=1) ω (e:=⟨e.page,e.kind,(bc (ak k.aj j).bh i).loc⟩) (u:=I e.kind) (by
  show _=(bZ (bc (ak (List.set _ _ _) j).bh i)).set 1 _;rw[b _ _ hj];show _=(bZ ((List.set _ _ _).getD i iD)).set 1 _;rw[fh _ _ _ _ hi];rfl)
 simp only[pS,b _ _ hj] at m2;have q:bR lo mb tt X ((w.setCell (Ad g (i*3)) (I e.page)).setCell (Ad g (i*3+1)) (I e.kind)) S { k with aj:=k.aj.set j (eD (ak k.aj j) ((ak k.aj j).bh.set i ⟨e.page,e.kind,(bc (ak k.aj j).bh i).loc⟩)) }:=by
  grind [eD,List.set_set]
 have m3:=q.alN (j:=j) Γ hv (i:=i) (by
  show i<(ak (List.set _ _ _) j).bh.length;rw[b _ _ hj];show i<(List.set _ _ _).length
  grind) (c:=2) ω (e:=e) (u:=I e.loc) (by
  show _=(bZ (bc (ak (List.set _ _ _) j).bh i)).set 2 _;rw[b _ _ hj];show _=(bZ ((List.set _ _ _).getD i iD)).set 2 _;rw[fh _ _ _ _ hi];rfl)
 grind [List.set_set,eD,cO.trans]
theorem OM {D:Nat->Prop} {N:Nat} {w0 w1 V:World} {b o:Nat} (hV:aH D w1 V) (hb:Below N w0 w1) (hl:b<N) (hl0:b<w0.heap.size) (hn:¬D b) (h:w0.frozen? (Ad b o)=false):V.frozen? (Ad b o)=false:=by
 have e1:=hb.block b hl
 grind [World.frozen?,aH.block]
theorem abR (w1:World) (o:Obj):aH (λ_=>False) w1 ((w1.alloc o).drew):=(aH.alloc _ _ o).trans (aH.drew _ _) (λ_ _ g=>g)
theorem akJ (w1:World) (e:bJ):∀i u,(bZ e)[i]?=some u->((w1.alloc (.cells #[I e.page,I e.kind,I e.loc] 174)).drew).cell? (((Ad w1.heap.size 0):Addr).add i)=some u:=λi u hu=>xY (C:=#[I e.page,I e.kind,I e.loc]) (t:=174) (fr:=(0,0)) (bH w1 _ _) i u hu
open Go.RowKit
theorem GU (h:bR lo mb tt X w S k) (hj:j<k.aj.length) (hen:(ak k.aj j).bh.length<=1000) (C0:k.aj.length<=1000) :
  Calls prog 293 #[.pointer (some (Ad mb 0)),I (j:Int),.agg #[I e.page,I e.kind,I e.loc]] w (fZ lo mb tt X w S (.tuple #[]) (gK k j e)):=by
 have hlo:lo<=w.heap.size:=eJ h.lo_le (Nw h.lt);obtain⟨WA,pU⟩:=ex (w.alloc (.cells #[I e.page,I e.kind,I e.loc] 174));have iQ:Hid (Below w.heap.size w WA):=by rw[pU];exact(aN w.heap.size w).alloc (aK _) _
 have EX:Hid (WA.heap[w.heap.size]?=some (.cells #[I e.page,I e.kind,I e.loc] 174 (0,0))):=by rw[pU];exact bH w _ _
 have n0:S.lab w.heap.size=.no:=h.toKr.new (aK _);have F:=ai (h.below iQ.o);obtain⟨pb,cP,A⟩:=F.o.toKr.sp ω;have y:=(F.o.each j hj).aD;obtain⟨ae,ce,XL,a7,J⟩:=aZ y;obtain⟨es,Q⟩:=ex ((ak k.aj j).bh);rw[<- Q] at y XL a7 J hen;rw[XL] at y;have O:=aeZ y;have R:∀b,cA (.slice ae es.length ce) b->S.lab b=.bh j:=λb hb=>h.lE j hj b Γ
 have aR:=A.lab;have c3:=F.o.c3;rw[A.v] at c3;have a2:=A.x2 j hj;rw[XL] at a2;have al:(j:Int)<(k.aj.length:Int):=by omega
 have M:=MV 298 (.inr (.inl rfl)) (λo=>decide (e.page<=o.page)) es ae ce w.heap.size WA O ω (λV o hV=>Yo e o w.heap.size V (aA (aU EX.o hV (aQ EX.o)) 0 rfl));have HE:Hid (∀V v' fs,aH (λb=>S.lab b=.bh j) WA V->V.ownsRow lo 174 3 v' fs.length (fs.flatMap bZ)->(∀b,cA v' b->S.lab b=.bh j\/WA.heap.size<=b)->oq es e=fs->fZ lo mb tt X w S (.tuple #[]) (gK k j e) (.returned (.tuple #[])) (V.setCell (Ad pb (j*3+2)) v')):=λV v' fs h1 h2 h3 h4=>by
  have sw:=F.o.apq hj A.v h1 h2 (λb hb=>by
   rcases h3 b hb with g | g
   . grind
   exact .inr (F.o.toKr.new g))
  have hK:({ k with aj:=k.aj.set j (eD (ak k.aj j) fs) }:aT)=gK k j e:=by
   grind [gK]
  refine⟨rfl,_,hK ▸ sw.1,(cO.below iQ.o).trans (sw.2 (λb hb hx=>?_))⟩
  grind
 have ag:Hid (∀V n g,Below WA.heap.size WA V->n<es.length->ae=some (Ad g 0)->oq es e=es.set n e->fZ lo mb tt X w S (.tuple #[]) (gK k j e) (.returned (.tuple #[])) (((V.setCell (Ad g (n*3)) (I e.page)).setCell (Ad g (n*3+1)) (I e.kind)).setCell (Ad g (n*3+2)) (I e.loc)).drew.drew):=λV n g hb hn hg hp=>by
  have m:=F.o.below hb;have m1:=at2.awO m hj (g:=g) (by rw[XL,hg]) (i:=n) Γ e;have hK:({ k with aj:=k.aj.set j (eD (ak k.aj j) ((ak k.aj j).bh.set n e)) }:aT)=gK k j e:=by
   grind [gK]
  have aw:=hK ▸ m1.1;have dr:∀V:World,Below V.heap.size V V.drew:=λV=>(aN _ _).drew
  exact⟨rfl,S,(aw.below (dr _)).below (dr _),((((cO.below iQ.o).trans (cO.below hb)).trans m1.2).trans (cO.below (dr _))).trans (cO.below (dr _))⟩
 obtain⟨P,hP⟩:=ex (fZ lo mb tt X w S (.tuple #[]) (gK k j e));rw[<- hP] at HE ag ⊢;obtain⟨np,UH⟩:=ex k.aj.length;rw[<- UH] at c3 al;have ab:=A.lt;have aL:=aQ EX.o;have aE:=A.fz (j*3+2);have ac:Hid (∀b,cA (.slice ae es.length ce) b->b≠pb/\b≠w.heap.size/\b<WA.heap.size):=λb hb=>⟨λz=>Γ,λz=>Γ,(y.lt b hb).2⟩
 have a1:=ai R;have a4:=ai y;have b8:=ai J;have Au:=ai pU;have b3:=ai O;obtain⟨i0,T,Y,W,U⟩:=kI aax;have Mk:=ai T;have Tn:=ai Y;have Nr:=ai W;have DY:=ai U;have aS:lo<=WA.heap.size:=eJ hlo iQ.o.size;have aF:es.length<=1000:=by omega
 by_cases hall:∀i,i<es.length->(bc es i).page<e.page
 . have an:=ai (RV es e hall);have Mj:Hid (Calls prog 186 #[.slice ae es.length ce,.func (.func 298) #[] #[.pointer (some (Ad w.heap.size 0))]] WA λr w'=>r=.returned (I (-1))/\Below WA.heap.size WA w'):=M.mono λr w' ⟨hb,hh⟩=>by
    grind
   clear M pU h y J O R F A XL Q hP UH T Y W U hall C0 hj hen hlo;go_enter func293,ntmps293;go_upto_region 1 with fail;rw[<- Au.o];go_upto_region 5 with(go_at_call 186;refine Mj.o.mono ?_;rintro r w1 ⟨rfl,G⟩;have cD:=ai G;clear G);have pK:Hid (aH (λb=>cA (.slice ae es.length ce) b) w1 w1.drew):=aH.drew _ _;have YQ:Hid (∀o,aH (λb=>cA (.slice ae es.length ce) b) w1 ((w1.alloc o).drew)):=λo=>(aH.alloc _ _ o).trans (aH.drew _ _) (λ_ _ g=>g)
   have E7:Hid (∀V,aH (λb=>cA (.slice ae es.length ce) b) w1 V->V.cell? (Ad pb (j*3+2))=some (.slice ae es.length ce)/\V.cell? (Ad w.heap.size 0)=some (I e.page)/\V.cell? (Ad w.heap.size 1)=some (I e.kind)/\V.cell? (Ad w.heap.size 2)=some (I e.loc)/\V.frozen? (Ad pb (j*3+2))=false):=λV hV=>by
    have b1:=aU EX.o cD.o (aQ EX.o);have b2:=hV.keep b1 (λg=>(ac.o _ g).2.1 rfl)
    grind [aA,OM,aH.cell,Hid.o,Below.cell]
   have af:Hid (∀o,((w1.alloc o).drew).ownsRow lo 174 3 (.slice ae es.length ce) es.length (es.flatMap bZ)):=λo=>((abR w1 o).row ((aH.bQ (D:=λ_=>False) cD.o).row a4.o (λ_ _ g=>g)) (λ_ _ g=>g))
   have ah:=cD.o.size;refine zT (S:=λV=>aH (λb=>cA (.slice ae es.length ce) b) w1 V) (z:=10) ρ ?_;refine Dz 0 pK.o ?_ ?_ ?_;rotate_left 1
   . intro V h;rfl
   refine Dz 1 pK.o ?_ ?_ ?_;rotate_left 1
   . intro V h;rfl
   refine Dz 2 pK.o ?_ ?_ ?_;rotate_left 1
   . intro V h;rfl
   refine Dz 3 pK.o ?_ ?_ ?_;rotate_left 1
   . intro V h;obtain⟨k0,k1,k2,k3,k4⟩:=E7.o V h;go_simp;rfl
   refine Dz 4 pK.o ?_ ?_ ?_;rotate_left 1
   . intro V h;obtain⟨k0,k1,k2,k3,k4⟩:=E7.o V h;go_simp;rfl
   refine Dz 5 pK.o ?_ ?_ ?_;rotate_left 1
   . intro V h;obtain⟨k0,k1,k2,k3,k4⟩:=E7.o V h;go_simp;rfl
   refine oQ (rs:=[6]) κ ξ ?_;refine dW.cons rfl (λK hK=>?_) dW.nil;go_simp;refine hK.out _ _ (λ_=>?_) ?_
   . exact YQ.o _
   clear hK K
   try simp only[Act.put,uI,sK,q9]
   refine oQ (rs:=[7]) κ ξ ?_;refine dW.cons rfl (λK hK=>?_) dW.nil;rw[aC ρ];refine s8 (P:=prog) _ _ 97 rfl lo 174 i0 (.agg #[I 0,I 0,I 0]) 3 24 underlying97 Mk.o Tn.o Nr.o DY.o rfl Δ (.slice ae es.length ce) es.length (es.flatMap bZ) rfl (af.o _) (some (Ad w1.heap.size 0)) 1 1 (bZ e) rfl rfl (λ_=>⟨_,rfl,akJ w1 e⟩) (by intro u hu;simp[bZ] at hu;rcases hu with rfl | rfl | rfl <;> rfl) (by grind [maxLen]) ω (by simp;omega) ?_;intro vG wG L a5 N;obtain⟨aG,cG,am,_,_⟩:=aZ L;subst am;have QR:Hid (aH (λb=>cA (.slice ae es.length ce) b) w1 wG):=(YQ.o _).trans (aH.grown (D:=λb=>cA (.slice ae es.length ce) b) a5 (λq hq=>hq)) (λ_ _ g=>g);have aa:=ai L;have a8:=ai N;clear L a5 N;refine hK.out _ _ (λ_=>?_) ?_
   . exact QR.o
   clear hK K
   try simp only[Act.put,uI,sK,q9]
   refine oQ (rs:=[8]) κ ξ ?_;refine dW.cons rfl (λK hK=>?_) dW.nil;go_simp;refine hK.out _ _ (λ_=>?_) ?_
   . exact QR.o
   clear hK K
   try simp only[Act.put,uI,sK,q9]
   refine Dz 9 QR.o ?_ ?_ ?_;rotate_left 1
   . intro V h;rfl
   obtain⟨k0,k1,k2,k3,k4⟩:=E7.o wG QR.o;refine oQ (rs:=[10]) κ ξ ?_;refine dW.cons rfl (λK hK=>?_) dW.nil;go_simp;refine hK.out _ _ (λg=>absurd rfl g) ?_;refine Ho ρ ?_ _;go_wp2;refine yu (v:=.tuple #[]) (by simp[results]) rfl ?_;refine HE.o wG _ (es++[e]) ?_ (by grind [Hid.o]) (λb hb=>?_) an.o
   . exact(aH.bQ cD.o).trans QR.o (λb _ hx=>a1.o b hx)
   rcases a8.o with g | g
   . exact .inl (a1.o b (by show Value.ownBlock _=_;rw[<- g];exact hb))
   right;have hb:Value.ownBlock _=some b:=hb
   grind [World.alloc,World.drew]
 have au:∃n,n<es.length/\(∀i,i<n->(bc es i).page<e.page)/\¬(bc es n).page<e.page:=by
  obtain⟨n,hn⟩:=Classical.not_forall.1 hall;rw[Classical.not_imp] at hn;obtain⟨UJ,KI⟩:=hn;induction n using Nat.strongRecOn with
  | _ n ih =>
   grind
 obtain⟨n,hn,Ck,UI⟩:=au;have B:=Z3 es e n hn Ck UI;have Mj:Hid (Calls prog 186 #[.slice ae es.length ce,.func (.func 298) #[] #[.pointer (some (Ad w.heap.size 0))]] WA λr w'=>r=.returned (I (n:Int))/\Below WA.heap.size WA w'):=M.mono λr w' ⟨hb,hh⟩=>by
  grind
 obtain⟨eb,ao,_,b6⟩:=J ω;subst ao;have aP:(n:Int)<(es.length:Int):=by omega
 have b5:(0:Int)<=(n:Int):=by omega
 have a0:Hid (∀V,Below WA.heap.size WA V->V.cell? (Ad eb (n*3))=some (I (bc es n).page)/\V.cell? (Ad eb (n*3+1))=some (I (bc es n).kind)/\V.cell? (Ad eb (n*3+2))=some (I (bc es n).loc)/\(∀q,V.frozen? (Ad eb q)=false)/\V.cell? (Ad pb (j*3+2))=some (.slice (some (Ad eb 0)) es.length ce)/\V.cell? (Ad w.heap.size 0)=some (I e.page)/\V.cell? (Ad w.heap.size 1)=some (I e.kind)/\V.cell? (Ad w.heap.size 2)=some (I e.loc)):=λV hV=>by
  have hr:=(aH.bQ (D:=λ_=>False) hV).row y (λ_ _ g=>g);have b1:=aU EX.o hV (aQ EX.o);exact⟨gw bZ (λ_=>rfl) iD hr n 0 hn ω,gw bZ (λ_=>rfl) iD hr n 1 hn ω,gw bZ (λ_=>rfl) iD hr n 2 hn ω,ie hr,(hV.cell (p:=(Ad pb (j*3+2))) ab).trans a2,aA b1 0 rfl,aA b1 1 rfl,aA b1 2 rfl⟩
 by_cases c:(bc es n).page=e.page
 . rw[aC c] at B;have a3:=ai B;have cb:((bc es n).page==e.page)=true:=by grind
   obtain⟨Z,hZ⟩:=ex (bc es n);rw[<- hZ] at a0 cb;clear M pU h y J O R F A XL Q hP UH T Y W U hall C0 hj hen hlo B Ck UI hZ c;go_enter func293,ntmps293;go_upto_region 1 with fail;rw[<- Au.o];go_upto_region 6 with(go_at_call 186;refine Mj.o.mono ?_;rintro r w1 ⟨rfl,G⟩;have cD:=ai G;clear G);obtain⟨y0,y1,y2,yf,y3,y4,y5,y6⟩:=a0.o w1 cD.o;have az:=yf (n*3);have b4:=yf (n*3+1);have b0:=yf (n*3+2);clear yf;go_region;go_upto_region 7 with fail;go_region;go_wp2;refine yu (v:=.tuple #[]) (by simp[results]) rfl ?_
   grind [Hid.o]
 rw[aB c] at B;have a3:=ai B;have cb:((bc es n).page==e.page)=false:=by grind
 have ad:Hid (∀V,aH (λb=>cA (.slice (some (Ad eb 0)) es.length ce) b) WA V->V.ownsRow lo 174 3 (.slice (some (Ad eb 0)) es.length ce) es.length (es.flatMap bZ)->WA.heap.size<=V.heap.size->Calls prog 299 #[.slice (some (Ad eb 0)) es.length ce,I (n:Int),.slice (some (Ad V.heap.size 0)) 1 1] ((V.alloc (.cells #[I e.page,I e.kind,I e.loc] 174)).drew) λr w'=>∃av nv cv,r=.returned (.slice av nv cv)/\w'.ownsRow lo 174 3 (.slice av nv cv) (es.take n++e::es.drop n).length ((es.take n++e::es.drop n).flatMap bZ)/\aH (λb=>cA (.slice (some (Ad eb 0)) es.length ce) b) V w'/\(∀b,cA (.slice av nv cv) b->cA (.slice (some (Ad eb 0)) es.length ce) b\/WA.heap.size<=b)):=λV hV hr ah=>by
  have k1:aH (λ_=>False) V ((V.alloc (.cells #[I e.page,I e.kind,I e.loc] 174)).drew):=(aH.alloc _ _ _).trans (aH.drew _ _) (λ_ _ g=>g);have r1:=k1.row hr (λ_ _ g=>g);have r2:((V.alloc (.cells #[I e.page,I e.kind,I e.loc] 174)).drew).ownsRow V.heap.size 174 3 (.slice (some (Ad V.heap.size 0)) [e].length 1) [e].length ([e].flatMap bZ):=(aH.drew (λ_=>False) _).row (ahE V e) (λ_ _ g=>g);have ay:((V.alloc (.cells #[I e.page,I e.kind,I e.loc] 174)).drew).heap.size=V.heap.size+1:=fY _ _;refine(Me aoK lo es [e] (.slice (some (Ad eb 0)) es.length ce) (.slice (some (Ad V.heap.size 0)) 1 1) V.heap.size n _ r1 r2 ω (λb h1 h2=>?_) ω ξ ω ξ).mono λr w' ⟨v',g1,g2,g3,g4⟩=>?_
  . have:V.heap.size=b:=by injection h1
    have:=(hr.lt b h2).2;omega
  obtain⟨av,cv,rfl,_,_⟩:=aZ g2;refine⟨av,_,cv,g1,g2,(k1.mono (λ_ _ z=>z.elim)).trans g3 (λ_ _ z=>z),λb hb=>?_⟩
  grind
 obtain⟨Z,hZ⟩:=ex (bc es n);rw[<- hZ] at a0 cb;clear M pU h y J O R F A XL Q hP UH T Y W U hall C0 hj hen hlo B Ck UI hZ c;go_enter func293,ntmps293;go_upto_region 1 with fail;rw[<- Au.o];go_upto_region 6 with(go_at_call 186;refine Mj.o.mono ?_;rintro r w1 ⟨rfl,G⟩;have cD:=ai G;clear G);obtain⟨y0,y1,y2,yf,y3,y4,y5,y6⟩:=a0.o w1 cD.o;clear yf;go_region;go_upto_region 3 with fail;clear y0 y1 y2 y3 y4 y5 y6;have iJ:Hid (Below WA.heap.size WA w1.drew):=cD.o.drew;clear cD;obtain⟨w2,a9⟩:=ex w1.drew;rw[<- a9] at iJ ⊢;clear a9;have pK:Hid (aH (λb=>cA (.slice (some (Ad eb 0)) es.length ce) b) w2 w2.drew):=aH.drew _ _;have YQ:Hid (∀o,aH (λb=>cA (.slice (some (Ad eb 0)) es.length ce) b) w2 ((w2.alloc o).drew)):=λo=>(aH.alloc _ _ o).trans (aH.drew _ _) (λ_ _ g=>g)
 have E7:Hid (∀V,aH (λb=>cA (.slice (some (Ad eb 0)) es.length ce) b) w2 V->V.cell? (Ad pb (j*3+2))=some (.slice (some (Ad eb 0)) es.length ce)/\V.cell? (Ad w.heap.size 0)=some (I e.page)/\V.cell? (Ad w.heap.size 1)=some (I e.kind)/\V.cell? (Ad w.heap.size 2)=some (I e.loc)/\V.frozen? (Ad pb (j*3+2))=false):=λV hV=>by
  grind [OM,Hid.o,aH.cell]
 have ap:=ai (ad.o w2 (aH.bQ iJ.o) ((aH.bQ (D:=λ_=>False) iJ.o).row a4.o (λ_ _ g=>g)) iJ.o.size);refine zT (S:=λV=>aH (λb=>cA (.slice (some (Ad eb 0)) es.length ce) b) w2 V) (z:=11) ρ ?_;refine Dz 0 pK.o ?_ ?_ ?_;rotate_left 1
 . intro V h;rfl
 refine Dz 1 pK.o ?_ ?_ ?_;rotate_left 1
 . intro V h;rfl
 refine Dz 2 pK.o ?_ ?_ ?_;rotate_left 1
 . intro V h;rfl
 refine Dz 3 pK.o ?_ ?_ ?_;rotate_left 1
 . intro V h;obtain⟨k0,k1,k2,k3,k4⟩:=E7.o V h;go_simp;rfl
 refine Dz 4 pK.o ?_ ?_ ?_;rotate_left 1
 . intro V h;obtain⟨k0,k1,k2,k3,k4⟩:=E7.o V h;go_simp;rfl
 refine Dz 5 pK.o ?_ ?_ ?_;rotate_left 1
 . intro V h;rfl
 refine Dz 6 pK.o ?_ ?_ ?_;rotate_left 1
 . intro V h;obtain⟨k0,k1,k2,k3,k4⟩:=E7.o V h;go_simp;rfl
 refine oQ (rs:=[7]) κ ξ ?_;refine dW.cons rfl (λK hK=>?_) dW.nil;go_simp;refine hK.out _ _ (λ_=>?_) ?_
 . exact YQ.o _
 clear hK K
 try simp only[Act.put,uI,sK,q9]
 refine oQ (rs:=[8]) κ ξ ?_;refine dW.cons rfl (λK hK=>?_) dW.nil;rw[aC ρ];go_simp;go_at_call 299;refine ap.o.mono ?_;rintro r wG ⟨aG,nG,cG,rfl,L,a6,N⟩;have QR:Hid (aH (λb=>cA (.slice (some (Ad eb 0)) es.length ce) b) w2 wG):=a6;have aa:=ai L;have a8:=ai N;clear L a6 N;try go_simp;refine hK.out _ _ (λ_=>?_) ?_
 . exact QR.o
 clear hK K
 try simp only[Act.put,uI,sK,q9]
 refine oQ (rs:=[9]) κ ξ ?_;refine dW.cons rfl (λK hK=>?_) dW.nil;go_simp;refine hK.out _ _ (λ_=>?_) ?_
 . exact QR.o
 clear hK K
 try simp only[Act.put,uI,sK,q9]
 refine Dz 10 QR.o ?_ ?_ ?_;rotate_left 1
 . intro V h;rfl
 obtain⟨k0,k1,k2,k3,k4⟩:=E7.o wG QR.o;refine oQ (rs:=[11]) κ ξ ?_;refine dW.cons rfl (λK hK=>?_) dW.nil;go_simp;refine hK.out _ _ (λg=>absurd rfl g) ?_;refine Ho ρ ?_ _;go_wp2;refine yu (v:=.tuple #[]) (by simp[results]) rfl ?_;refine HE.o wG _ (es.take n++e::es.drop n) ((aH.bQ iJ.o).trans QR.o (λb _ hx=>a1.o b hx)) aa.o (λb hb=>?_) a3.o
 grind [Hid.o]
theorem Jg (x e:bJ):gK (dN k e) j x=dN (gK k j x) e:=by grind [dN,gK]
def KU (X:List Value) (hs:List bC):Prop:=∀n:Nat,n<256->X[n]?=some (.string (fG hs n))
theorem MR (h:bR lo mb tt X w S k) (hR:aW k) (hj:j<k.aj.length) :
  Calls prog 129 #[.pointer (some (Ad mb 0)),I (j:Int),I p] w λe w'=>e=.returned (.tuple #[um (jG (ak k.aj j).bh p).1,.bool (jG (ak k.aj j).bh p).2])/\Below w.heap.size w w':=by
 have y:=hR.c;have q:=qg hR hj;obtain⟨pb,cP,A⟩:=h.toKr.sp ω;obtain⟨ae,ce,XL,b⟩:=h.toKr.bh hj;have c3:=h.c3;rw[A.v] at c3;have a2:=A.x2 j hj;rw[XL] at a2;have e0:0+j*3+2=j*3+2:=by omega
 exact OU (ak k.aj j).bh p j k.aj.length mb pb 0 cP ae ce w c3 hj Γ b ω ω
theorem Ti (h:bR lo mb tt X w S k) (hR:aW k) (hj:j<k.aj.length) (he:bl (ak k.aj j).bh p=some e) (hk:e.kind=1) :
  Calls prog 290 #[.pointer (some (Ad mb 0)),I (j:Int),I p,.slice ah held.length ch] w (fZ lo mb tt X w S (I ((dI k j p held).1:Int)) (dI k j p held).2):=by
 have B6:=ai (MR k S w j p h hR hj);have e1:jG (ak k.aj j).bh p=(e,true):=by grind [jG]
 rw[e1] at B6;have hP:dI k j p held=(e.loc.toNat,k):=by
  grind [dI]
 have hb:=(jn hR hj (nM he)).resolve_right (λy=>ω);rw[hP];have fV:Hid (∀V,Below w.heap.size w V->fZ lo mb tt X w S (I ((e.loc.toNat:Nat):Int)) k (.returned (I e.loc)) V):=λV hV=>⟨Γ,S,h.below hV,cO.below hV⟩
 obtain⟨P,b⟩:=ex (fZ lo mb tt X w S (I ((e.loc.toNat:Nat):Int)) k);rw[<- b] at fV ⊢;obtain⟨pg,kd,lc⟩:=e;unfold um at B6;simp only at B6 fV hk;have kb:(kd==1)=true:=by grind
 clear hP b e1 he h hR hj hb hk;go_enter func290,ntmps290;go_wp2_with (go_at_call 129;refine B6.o.mono ?_;rintro r w1 ⟨rfl,q⟩;have cD:=ai q;have BX:=bH w1 #[I pg,I kd,I lc] 174;obtain⟨d0,d1,d2⟩:=zn BX;clear q BX);exact fV.o _ (cD.o.alloc cD.o.size _)
theorem MP (h:bR lo mb tt X w S k) (hR:aW k) (hj:j<k.aj.length) (he:bl (ak k.aj j).bh p=some e) (hk:e.kind≠1) (hl:held.length<=2) (hH:om w S ah held) :
  Calls prog 290 #[.pointer (some (Ad mb 0)),I (j:Int),I p,.slice ah held.length ch] w (fZ lo mb tt X w S (I ((dI k j p held).1:Int)) (dI k j p held).2):=by
 have B6:=ai (MR k S w j p h hR hj);have e1:jG (ak k.aj j).bh p=(e,true):=by grind [jG]
 rw[e1] at B6;have hP:dI k j p held=((bK k held).1,fe (bK k held).2 j p (bK k held).1 (bI (bK k held).2.slots e.loc.toNat).data true):=by
  grind [dI]
 have hb:=(jn hR hj (nM he)).resolve_left (λy=>hk y.1);have G:=vg hR hl;have a6:bl (ak (bK k held).2.aj j).bh p=some e:=by grind [wS.Qs]
 have a5:fe (bK k held).2 j p (bK k held).1 (bI (bK k held).2.slots e.loc.toNat).data true=gK (dN (jw (bK k held).2 (bK k held).1 (bI (bK k held).2.slots e.loc.toNat).data true) e) j ⟨p,1,(bK k held).1⟩:=by
  grind [Jg,fe]
 rw[hP,a5];have ac:=hR.c;have L:j<(bK k held).2.aj.length:=by rw[G.kept.np];exact hj
 have b:(bK k held).1<(bK k held).2.frames.length:=by rw[G.kept.nf];exact G.lt
 have q:e.loc.toNat<(bK k held).2.slots.length:=by rw[G.kept.ns];omega
 have O:=(AV G.right).2 e.loc.toNat q;have a4:=qg G.right L;have T:=G.kept.np;have Z:Hid (∀V,Below w.heap.size w V->Calls prog 292 #[.pointer (some (Ad mb 0)),.slice ah held.length ch] V (fZ lo mb tt X V S (I ((bK k held).1:Int)) (bK k held).2)):=λV hV=>MQ k S V held ah ch (h.below hV) hR hl (hH.ch (cO.below hV))
 obtain⟨k1,F⟩:=ex ((bK k held).2);obtain⟨i,hi⟩:=ex ((bK k held).1);rw[<- F,<- hi] at Z b;rw[<- F] at q O L a4 T;rw[<- F,<- hi];obtain⟨D,hD⟩:=ex ((bI k1.slots e.loc.toNat).data);rw[<- hD];have Qh:Hid (∀V S',bR lo mb tt X V S' k1->∃fb cF lb cL,V.cell? (Ad mb 1)=some (.slice (some (Ad fb 0)) k1.frames.length cF)/\V.cell? (Ad mb 2)=some (.slice (some (Ad lb 0)) k1.slots.length cL)/\V.cell? (Ad lb (e.loc.toNat*2))=some (.string D)/\V.cell? (Ad fb (i*4))=some (.string (aM k1.frames i).data)/\V.cell? (Ad fb (i*4+1))=some (I (aM k1.frames i).refs)/\V.cell? (Ad fb (i*4+2))=some (.bool (aM k1.frames i).kE)/\V.cell? (Ad fb (i*4+3))=some (.bool (aM k1.frames i).seen)/\V.frozen? (Ad fb (i*4))=false/\V.frozen? (Ad fb (i*4+1))=false/\V.frozen? (Ad fb (i*4+2))=false/\V.frozen? (Ad fb (i*4+3))=false /\
   (∀U,U=((((V.setCell (Ad fb (i*4)) (.string D)).setCell (Ad fb (i*4+1)) (I 1)).setCell (Ad fb (i*4+2)) (.bool true)).setCell (Ad fb (i*4+3)) (.bool false)).drew->bR lo mb tt X U S' (jw k1 i D true)/\cO S' V S' U)):=λV S' hV=>by
  obtain⟨fb,cF,A⟩:=hV.toKr.fr ω;obtain⟨lb,cL,AL⟩:=hV.toKr.sl ω;have c1:=hV.c1;have c2:=hV.c2;rw[A.v] at c1;rw[AL.v] at c2;refine⟨fb,cF,lb,cL,c1,c2,by rw[hD];exact AL.x0 _ q,A.x0 i b,A.x1 i b,A.x2 i b,A.x3 i b,A.fz _,A.fz _,A.fz _,A.fz _,λU hU=>?_⟩;have m:=hV.alR A.v b ⟨D,1,true,false⟩;subst hU;exact⟨m.1.below (aN _ _).drew,m.2.trans (cO.below (aN _ _).drew)⟩
 have Y6:Hid (∀V S',bR lo mb tt X V S' (jw k1 i D true)->Calls prog 270 #[.pointer (some (Ad mb 0)),.agg #[I e.page,I e.kind,I e.loc],I (-1)] V (nH lo mb tt X V S' (.tuple #[]) (dN (jw k1 i D true) e))):=λV S' hV=>by
  rw[<- JE];refine GV _ S' V e (-1) hV (λc=>absurd c hk) (λ_=>?_) (.inr rfl) ⟨λc=>absurd c hk,λ_=>?_⟩
  . show 0<=e.loc/\e.loc<(k1.slots.length:Int);omega
  show -1000000<=(bI k1.slots e.loc.toNat).refs/\(bI k1.slots e.loc.toNat).refs<=1000000;omega
 have N:Hid (∀V S',bR lo mb tt X V S' (dN (jw k1 i D true) e)->Calls prog 293 #[.pointer (some (Ad mb 0)),I (j:Int),.agg #[I p,I 1,I (i:Int)]] V (fZ lo mb tt X V S' (.tuple #[]) (gK (dN (jw k1 i D true) e) j ⟨p,1,i⟩))):=λV S' hV=>by
  have ao:(dN (jw k1 i D true) e).aj=k1.aj:=Ip _ _;exact GU _ S' V j ⟨p,1,i⟩ hV Γ Γ Γ
 have fV:Hid (∀V S',bR lo mb tt X V S' (gK (dN (jw k1 i D true) e) j ⟨p,1,i⟩)->cO S w S' V->fZ lo mb tt X w S (I (i:Int)) (gK (dN (jw k1 i D true) e) j ⟨p,1,i⟩) (.returned (I (i:Int))) V):=λV S' h1 h2=>⟨rfl,S',h1,h2⟩
 obtain⟨K3,aa⟩:=ex (gK (dN (jw k1 i D true) e) j ⟨p,1,i⟩);rw[<- aa] at N fV ⊢;obtain⟨K2,W⟩:=ex (dN (jw k1 i D true) e);rw[<- W] at Y6 N;obtain⟨K1,Q⟩:=ex (jw k1 i D true);rw[<- Q] at Qh Y6;obtain⟨P,a2⟩:=ex (fZ lo mb tt X w S (I (i:Int)) K3);rw[<- a2] at fV ⊢;have sk:Hid (∀V:World,w.heap.size<=V.heap.size->S.lab V.heap.size=.no):=λV hV=>h.toKr.new hV
 obtain⟨FR,Y⟩:=ex (aM k1.frames i);rw[<- Y] at Qh;obtain⟨nf,Qe⟩:=ex k1.frames.length;obtain⟨nl,a3⟩:=ex k1.slots.length;rw[<- Qe,<- a3] at Qh;obtain⟨m,hm⟩:∃m:Nat,e.loc=(m:Int):=⟨e.loc.toNat,ω⟩;rw[hm,jW] at Qh;have ap:(m:Int)<(nl:Int):=by omega
 have an:(i:Int)<(nf:Int):=by omega
 obtain⟨pg,kd,lc⟩:=e;unfold um at B6;simp only at B6 hk Y6 hm;subst hm;have kb:(kd==1)=false:=by simpa using hk
 clear hP a2 e1 he h hR hj hb hk G a6 a5 ac L b q O a4 T F hi hD aa W Q hH hl Y Qe a3;go_enter func290,ntmps290;go_upto_region 6 with(first
  | (go_at_call 129;refine B6.o.mono ?_;rintro r w1 ⟨rfl,K⟩;have cD:=ai K;have iQ:=ai (cD.o.alloc cD.o.size (.cells #[I pg,I kd,I (m:Int)] 174));have BX:=ai (bH w1 #[I pg,I kd,I (m:Int)] 174);obtain⟨d0,d1,d2⟩:=zn BX.o;have Tv:=ai (sk.o w1 K.size);clear K)
  | (go_at_call 292;refine(Z.o _ iQ.o).mono ?_;rintro r w2 ⟨rfl,S2,a0,B⟩;have uD:=ai a0;have uM:=ai ((cO.below iQ.o).trans B);have Qb:=ai (B.keep BX.o Tv.o);have af:=ai (B.no _ (aQ BX.o) Tv.o);clear a0 B d0 d1 d2))
 obtain⟨fb,cF,lb,cL,g1,g2,g3,g4,g5,g6,g7,g8,g9,ab,ad,J⟩:=Qh.o w2 S2 uD.o;obtain⟨d0,d1,d2⟩:=zn Qb.o;obtain⟨U,hU⟩:=ex (((((w2.setCell (Ad fb (i*4)) (.string D)).setCell (Ad fb (i*4+1)) (I 1)).setCell (Ad fb (i*4+2)) (.bool true)).setCell (Ad fb (i*4+3)) (.bool false)).drew);obtain⟨R,M⟩:=J U hU;have HU:=ai hU;have Ez:=ai R;have XI:=ai (uM.o.trans M);have ag:=ai (M.keep Qb.o af.o);clear J hU R M;go_region;rw[<- HU.o];clear g1 g2 g3 g4 g5 g6 g7 g8 g9 ab ad d0 d1 d2 HU;obtain⟨d0,d1,d2⟩:=zn ag.o;go_wp2_with (first
  | (go_at_call 270;refine(Y6.o _ _ Ez.o).mono ?_;rintro r w4 ⟨rfl,a7,a9⟩;have WG:=ai a7;have al:=ai (XI.o.trans a9);clear a7 a9)
  | (go_at_call 293;refine(N.o _ _ WG.o).mono ?_;rintro r w5 ⟨rfl,S5,a1,a8⟩;have ae:=ai a1;have am:=ai (al.o.trans a8);clear a1 a8))
 exact fV.o _ _ ae.o am.o
theorem akI {U:World} {S:gJ} {k:aT} (h:bR lo mb tt X U.drew S k):bR lo mb tt X U S k:=h.kp (E:=λ_=>False) ⟨rfl,rfl,rfl,aK _,λ_ _ _=>rfl⟩ (λ_ _ g=>g)
theorem abO {S S':gJ} {w U:World} (h:cO S w S' U.drew):cO S w S' U:=⟨⟨h.kp.os,h.kp.tape,h.kp.output,h.kp.size,h.kp.block⟩,h.no,h.eS,h.eF,h.eL,h.eP⟩
theorem Th (h:bR lo mb tt X w S k) (hR:aW k) (hj:j<k.aj.length) (he:bl (ak k.aj j).bh p=none) (hp:dM k j p) (hX:KU X k.aR) (hl:held.length<=2) (hH:om w S ah held) :
  Calls prog 290 #[.pointer (some (Ad mb 0)),I (j:Int),I p,.slice ah held.length ch] w (fZ lo mb tt X w S (I ((dI k j p held).1:Int)) (dI k j p held).2):=by
 have B6:=ai (MR k S w j p h hR hj);have e1:jG (ak k.aj j).bh p=(iD,false):=by grind [jG]
 rw[e1] at B6;have G:=vg hR hl;have hP:dI k j p held=((bK k held).1,fe (bK k held).2 j p (bK k held).1 (gz (bK k held).2.aR p (qo (bK k held).2 j p)) false):=by
  grind [dI]
 have az:bl (ak (bK k held).2.aj j).bh p=none:=by grind [wS.Qs]
 have aw:fe (bK k held).2 j p (bK k held).1 (gz (bK k held).2.aR p (qo (bK k held).2 j p)) false=gK (jw (bK k held).2 (bK k held).1 (gz (bK k held).2.aR p (qo (bK k held).2 j p)) false) j ⟨p,1,(bK k held).1⟩:=by
  grind [fe]
 rw[hP,aw];have Rj:=ll hp;have M:=G.kept.aR;have O:dQ (ak (bK k held).2.aj j).aJ:=by
  have:=(G.right.sp (by rw[G.kept.np];exact hj)).aJ;exact gy _ this
 have aG:=hR.c;have q:j<(bK k held).2.aj.length:=by rw[G.kept.np];exact hj
 have b:(bK k held).1<(bK k held).2.frames.length:=by rw[G.kept.nf];exact G.lt
 have av:=qg G.right q;have Z:=G.kept.np;have ad:Hid (∀V,Below w.heap.size w V->Calls prog 292 #[.pointer (some (Ad mb 0)),.slice ah held.length ch] V (fZ lo mb tt X V S (I ((bK k held).1:Int)) (bK k held).2)):=λV hV=>MQ k S V held ah ch (h.below hV) hR hl (hH.ch (cO.below hV))
 obtain⟨k1,B⟩:=ex ((bK k held).2);obtain⟨i,hi⟩:=ex ((bK k held).1);rw[<- B,<- hi] at ad b;rw[<- B] at q av Z M O;rw[<- B,<- hi];obtain⟨D,hD⟩:=ex (gz k1.aR p (qo k1 j p));rw[<- hD];have Qh:Hid (∀V S',bR lo mb tt X V S' k1->∃fb cF pb cP va,¬mb=fb/\V.cell? (Ad mb 1)=some (.slice (some (Ad fb 0)) k1.frames.length cF)/\V.cell? (Ad mb 3)=some (.slice (some (Ad pb 0)) k1.aj.length cP)/\V.cell? (Ad pb (j*3+1))=some va/\(∃ax nx cx,va=.slice ax nx cx)/\(∀V',Below V.heap.size V V'->Calls prog 77 #[va,I p] V' λe w'=>e=.returned (.tuple #[.agg (pI (aV (ak k1.aj j).aJ p).1),.bool (aV (ak k1.aj j).aJ p).2])/\Below V'.heap.size V' w')/\(∀V',Below V.heap.size V V'->Calls prog 130 #[.pointer (some (Ad mb 0)),I p,.bool (aV (ak k1.aj j).aJ p).1.zero] V' λe w'=>e=.returned (.string D)/\Below V'.heap.size V' w')/\V.cell? (Ad fb (i*4))=some (.string (aM k1.frames i).data)/\V.cell? (Ad fb (i*4+1))=some (I (aM k1.frames i).refs)/\V.cell? (Ad fb (i*4+2))=some (.bool (aM k1.frames i).kE)/\V.cell? (Ad fb (i*4+3))=some (.bool (aM k1.frames i).seen)/\V.frozen? (Ad fb (i*4))=false/\V.frozen? (Ad fb (i*4+1))=false/\V.frozen? (Ad fb (i*4+2))=false/\V.frozen? (Ad fb (i*4+3))=false /\
   (∀U,U=((((V.setCell (Ad fb (i*4)) (.string D)).setCell (Ad fb (i*4+1)) (I 1)).setCell (Ad fb (i*4+2)) (.bool false)).setCell (Ad fb (i*4+3)) (.bool false)).drew->bR lo mb tt X U S' (jw k1 i D false)/\cO S' V S' U)):=λV S' hV=>by
  obtain⟨fb,cF,A⟩:=hV.toKr.fr ω;obtain⟨pb,cP,AL⟩:=hV.toKr.sp ω;have c1:=hV.c1;have c2:=hV.c3;rw[A.v] at c1;rw[AL.v] at c2;refine⟨fb,cF,pb,cP,(gh S'.L j).va,λe=>by have:=A.lab;rw[<- e,hV.lH] at this;grind,c1,c2,AL.x1 j q,?_,λV' hb=>yq _ _ p V' (gD.below (hV.toKr.aJ q) hb) O,λV' hb=>?_,A.x0 i b,A.x1 i b,A.x2 i b,A.x3 i b,A.fz _,A.fz _,A.fz _,A.fz _,λU hU=>?_⟩
  . obtain⟨ax,cx,Ie,_,_⟩:=aZ (hV.each j q).aJ
    grind
  . rw[hD,M];have aK:=hV.below hb;exact Jk k.aR p _ mb V' (λn hn=>aK.cx n (hX n hn)) ω
  have m:=hV.alR A.v b ⟨D,1,false,false⟩;subst hU;exact⟨m.1.below (aN _ _).drew,m.2.trans (cO.below (aN _ _).drew)⟩
 have Q:Hid (∀V S',bR lo mb tt X V S' (jw k1 i D false)->Calls prog 293 #[.pointer (some (Ad mb 0)),I (j:Int),.agg #[I p,I 1,I (i:Int)]] V (fZ lo mb tt X V S' (.tuple #[]) (gK (jw k1 i D false) j ⟨p,1,i⟩))):=λV S' hV=>by
  have ba:(jw k1 i D false).aj=k1.aj:=rfl;exact GU _ S' V j ⟨p,1,i⟩ hV Γ Γ Γ
 have fV:Hid (∀V S',bR lo mb tt X V S' (gK (jw k1 i D false) j ⟨p,1,i⟩)->cO S w S' V->fZ lo mb tt X w S (I (i:Int)) (gK (jw k1 i D false) j ⟨p,1,i⟩) (.returned (I (i:Int))) V):=λV S' h1 h2=>⟨rfl,S',h1,h2⟩
 obtain⟨K3,aC⟩:=ex (gK (jw k1 i D false) j ⟨p,1,i⟩);rw[<- aC] at Q fV ⊢;obtain⟨K1,Y⟩:=ex (jw k1 i D false);rw[<- Y] at Qh Q;obtain⟨P,ap⟩:=ex (fZ lo mb tt X w S (I (i:Int)) K3);rw[<- ap] at fV ⊢;obtain⟨FR,ac⟩:=ex (aM k1.frames i);rw[<- ac] at Qh;obtain⟨nf,Qe⟩:=ex k1.frames.length;obtain⟨np,C0⟩:=ex k1.aj.length;rw[<- Qe,<- C0] at Qh;have b9:(j:Int)<(np:Int):=by omega
 have b8:(i:Int)<(nf:Int):=by omega
 obtain⟨AR,a0⟩:=ex (aV (ak k1.aj j).aJ p);rw[<- a0] at Qh;obtain⟨⟨q0,q1,q2,q3⟩,q4⟩:=AR;unfold um at B6;unfold pI at Qh;simp only[iD] at B6 Qh;clear hP ap e1 he h hR hj G az aw aG q b av Z B hi hD aC Y hH hl ac Qe C0 a0 hX M O;go_enter func290,ntmps290;go_upto_region 8 with(first
  | (go_at_call 129;refine B6.o.mono ?_;rintro r w1 ⟨rfl,aa⟩;have cD:=ai aa;have iQ:=ai (cD.o.alloc cD.o.size (.cells #[I 0,I 0,I 0] 174));have BX:=ai (bH w1 #[I 0,I 0,I 0] 174);obtain⟨d0,d1,d2⟩:=zn BX.o;clear aa)
  | (go_at_call 292;refine(ad.o _ iQ.o).mono ?_;rintro r w2 ⟨rfl,S2,am,an⟩;have uD:=ai am;have uM:=ai ((cO.below iQ.o).trans an);clear am an d0 d1 d2))
 obtain⟨fb,cF,pb,cP,va,y,g1,g2,g3,⟨ax,nx,cx,Ie⟩,aE,T,g4,g5,g6,g7,g8,g9,aF,aS,au⟩:=Qh.o w2 S2 uD.o;subst Ie;have WH:=ai (aE w2 (aN _ _));have ao:=ai T;have abR:=ai (λV (hb:Below w2.heap.size w2 V)=>Qh.o V S2 (uD.o.below hb));have af:=jL w2 _ g4;have Uk:=jL w2 _ g1;have af:fb<w2.heap.size:=af;have Uk:mb<w2.heap.size:=Uk;clear aE T g4 g5 g6 g7 g8 g9 aF aS au;have ag:Hid (∀V,Below w2.heap.size w2 V->V.cell? (Ad fb (i*4))=some (.string FR.data)/\V.cell? (Ad fb (i*4+1))=some (I FR.refs)/\V.cell? (Ad fb (i*4+2))=some (.bool FR.kE)/\V.cell? (Ad fb (i*4+3))=some (.bool FR.seen)/\V.frozen? (Ad fb (i*4))=false/\V.frozen? (Ad fb (i*4+1))=false/\V.frozen? (Ad fb (i*4+2))=false/\V.frozen? (Ad fb (i*4+3))=false/\(∀U,U=((((V.setCell (Ad fb (i*4)) (.string D)).setCell (Ad fb (i*4+1)) (I 1)).setCell (Ad fb (i*4+2)) (.bool false)).setCell (Ad fb (i*4+3)) (.bool false))->bR lo mb tt X U S2 K1/\cO S w S2 U)):=λV hb=>by
  obtain⟨aP,b4,b6,bb,b5,_,z1,_,_,_,_,_,z4,z5,z6,z7,z8,z9,J,K,b0⟩:=abR.o V hb;have e:aP=fb:=by
   rw[(hb.cell (p:=(Ad mb 1)) Uk).trans g1] at z1;injection z1 with z1;injection z1 with e1 _ _;injection e1 with e1;injection e1 with e1 _ _;omega
  subst e;refine⟨z4,z5,z6,z7,z8,z9,J,K,λU hU=>?_⟩;obtain⟨q1,q2⟩:=b0 U.drew (by rw[hU]);exact⟨akI q1,(uM.o.trans (cO.below hb)).trans (abO q2)⟩
 clear abR Qh;go_upto_region 9 with(go_at_call 77;refine WH.o.mono ?_;rintro r w3 ⟨rfl,a9⟩;have ou:=ai a9;clear a9);have EC:=ai (ou.o.alloc ou.o.size (.cells #[I q0,I q1,I q2,.bool q3] 139));have AX:=ai (bH w3 #[I q0,I q1,I q2,.bool q3] 139);have b3:=ou.o.size;obtain⟨W,hW⟩:=ex (w3.alloc (.cells #[I q0,I q1,I q2,.bool q3] 139));obtain⟨xb,UF⟩:=ex w3.heap.size;rw[<- hW] at EC AX ⊢;rw[<- UF] at AX ⊢;have F:¬xb=fb:=by omega
 clear hW UF;have HS:Hid (∀V,Below W.heap.size W V->V.cell? (Ad mb 1)=some (.slice (some (Ad fb 0)) nf cF)/\V.cell? (Ad xb 3)=some (.bool q3)):=λV hb=>⟨((EC.o.trans (hb.mono EC.o.size)).cell (p:=(Ad mb 1)) Uk).trans g1,aA (aU AX.o hb (aQ AX.o)) 3 rfl⟩
 have tV:=ai (aN W.heap.size W).drew;have pK:=ai (HS.o _ tV.o);have ae:Hid (∀V,Below W.heap.size W V->Calls prog 130 #[.pointer (some (Ad mb 0)),I p,.bool q3] V λe w'=>e=.returned (.string D)/\Below V.heap.size V w'):=λV hb=>ao.o V (EC.o.trans (hb.mono EC.o.size))
 have QQ:Hid (∀V:World,(V.cell? (Ad mb 1)=some (.slice (some (Ad fb 0)) nf cF)/\V.cell? (Ad xb 3)=some (.bool q3))->∀v0 v1 v2 v3,((((V.setCell (Ad fb (i*4)) v0).setCell (Ad fb (i*4+1)) v1).setCell (Ad fb (i*4+2)) v2).setCell (Ad fb (i*4+3)) v3).cell? (Ad mb 1)=some (.slice (some (Ad fb 0)) nf cF)/\((((V.setCell (Ad fb (i*4)) v0).setCell (Ad fb (i*4+1)) v1).setCell (Ad fb (i*4+2)) v2).setCell (Ad fb (i*4+3)) v3).cell? (Ad xb 3)=some (.bool q3)):=λV ⟨h0,h1⟩ v0 v1 v2 v3=>by
  rw[dH _ _ _ _ _ _ y,dH _ _ _ _ _ _ y,dH _ _ _ _ _ _ y,dH _ _ _ _ _ _ y,dH _ _ _ _ _ _ F,dH _ _ _ _ _ _ F,dH _ _ _ _ _ _ F,dH _ _ _ _ _ _ F];omega
 go_region_held3 (λV=>V.cell? (Ad mb 1)=some (.slice (some (Ad fb 0)) nf cF)/\V.cell? (Ad xb 3)=some (.bool q3)) (first | exact Gh.o | exact pK.o | exact IK.o _ _ _ _)
  ((go_at_call 130;refine(ae.o _ tV.o).mono ?_;rintro r w5 ⟨rfl,Fu⟩;have al:=ai (tV.o.trans (Fu.mono tV.o.size));have Gh:=ai (HS.o _ al.o);have IK:=ai (λv0 v1 v2 v3=>QQ.o w5 Gh.o v0 v1 v2 v3);have N:=ai (ag.o w5 (EC.o.trans (al.o.mono EC.o.size)));obtain⟨z4,z5,z6,z7,z8,z9,J,K⟩:w5.cell? (Ad fb (i*4))=some (.string FR.data)/\w5.cell? (Ad fb (i*4+1))=some (I FR.refs)/\w5.cell? (Ad fb (i*4+2))=some (.bool FR.kE)/\w5.cell? (Ad fb (i*4+3))=some (.bool FR.seen)/\w5.frozen? (Ad fb (i*4))=false/\w5.frozen? (Ad fb (i*4+1))=false/\w5.frozen? (Ad fb (i*4+2))=false/\w5.frozen? (Ad fb (i*4+3))=false:=(by obtain⟨a1,a2,a3,a4,a5,a6,a7,a8,_⟩:=N.o;exact⟨a1,a2,a3,a4,a5,a6,a7,a8⟩);clear Fu))
 all_goals clear IK QQ HS pK Gh ao ae
 obtain⟨U,hU⟩:=ex (((((w5.setCell (Ad fb (i*4)) (.string D)).setCell (Ad fb (i*4+1)) (I 1)).setCell (Ad fb (i*4+2)) (.bool false)).setCell (Ad fb (i*4+3)) (.bool false)));obtain⟨_,_,_,_,_,_,_,_,zf⟩:=N.o;obtain⟨ab,R⟩:=zf U hU;have aL:=ai ab;have b2:=ai R;rw[<- hU];clear hU ab R zf N z4 z5 z6 z7 z8 z9 J K ag;go_wp2_with (go_at_call 293;refine(Q.o _ _ aL.o).mono ?_;rintro r w7 ⟨rfl,S7,aB,ay⟩;have Y1:=ai aB;have b1:=ai (b2.o.trans ay);clear aB ay);exact fV.o _ _ Y1.o b1.o
end Go.Proofs.YtlgoihmkgaaemaaGreat
