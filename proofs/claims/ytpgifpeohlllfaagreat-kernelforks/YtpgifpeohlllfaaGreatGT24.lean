import Derived.Test.YtpgifpeohlllfaaGreatGT21
set_option maxHeartbeats 20000000
set_option linter.unusedVariables false
set_option maxRecDepth 100000
set_option linter.unusedSimpArgs false
namespace Go.Proofs.YtpgifpeohlllfaaGreat
namespace KX
open Go.RowKit GK KO
open FW (ai aD)
open KW (bJ bI aK aZ fh cK aI dA bU)
open KS (Lc bw kM cD blk cJ)
theorem EE:∀(es:List KM.En) (e:KM.En),(∀j,j<es.length->(KM.aM es j).page<e.page)->KM.m8 es e=es++[e]
 | [],e,_=>rfl
 | a::r,e,h=>by
  unfold KM.m8;rw[if_pos (show a.page<e.page from h 0 (Nat.zero_lt_succ _)),EE r e (fun j hj=>h (j+1) (Nat.succ_lt_succ hj))];rfl
theorem NZ:∀(es:List KM.En) (e:KM.En) (n:Nat),n<es.length->(∀j,j<n->(KM.aM es j).page<e.page)->¬(KM.aM es n).page<e.page->KM.m8 es e=if (KM.aM es n).page=e.page then es.set n e else es.take n++e::es.drop n
 | [],e,n,hn,_,_=>absurd hn (Nat.not_lt_zero _)
 | a::r,e,0,hn,h,Db=>by
  unfold KM.m8;have Db:¬a.page<e.page:=Db;rw[if_neg Db];rfl
 | a::r,e,n+1,hn,h,Db=>by
  unfold KM.m8;rw[if_pos (show a.page<e.page from h 0 (Nat.zero_lt_succ _)),NZ r e n (Nat.lt_of_succ_lt_succ hn) (fun j hj=>h (j+1) (Nat.succ_lt_succ hj)) Db];show a::(if (KM.aM r n).page=e.page then _ else _)=if (KM.aM r n).page=e.page then _ else _
  split <;> rfl
theorem Iw (e o:KM.En) (x:Nat) (w:World) (hx:w.cell? (Ad x 0)=some (I e.page)) :
  Calls Tryz.prog 191 #[.agg #[I o.page,I o.kind,I o.loc],.pointer (some (Ad x 0))] w fun r w'=>r=.returned (.bool (decide (e.page<=o.page)))/\Below w.heap.size w w':=by
 obtain⟨pg,kd,lc⟩:=o;obtain⟨epg,ekd,elc⟩:=e;simp only at hx ⊢;have hxl:x<w.heap.size:=World.block_lt_of_cell? w _ hx;have xA:(w.alloc (.cells #[I pg,I kd,I lc] 45)).cell? (Ad x 0)=some (I epg):=(Below.cell ((Below.refl w.heap.size w).alloc (Nat.le_refl _) _) (p:=(Ad x 0)) hxl).trans hx;have BN:=ai (B.new w #[I pg,I kd,I lc] 45);by_cases c:epg<=pg
 · rw[decide_eq_true c];go_enter Tryz.func191,Tryz.ntmps191;go_wp2
   try go_region
   try go_wp2
   go_ret;exact⟨by simp,by first | exact(Below.refl _ _).alloc (Nat.le_refl _) _ | exact((Below.refl _ _).alloc (Nat.le_refl _) _).drew⟩
 · rw[decide_eq_false c];go_enter Tryz.func191,Tryz.ntmps191;go_wp2
   try go_region
   try go_wp2
   go_ret;exact⟨by simp,by first | exact(Below.refl _ _).alloc (Nat.le_refl _) _ | exact((Below.refl _ _).alloc (Nat.le_refl _) _).drew⟩
theorem CV (V:World) (e:KM.En):(V.alloc (.cells #[I e.page,I e.kind,I e.loc] 45)).ownsRow V.heap.size 45 3 (.slice (some (Ad V.heap.size 0)) 1 1) 1 ([e].flatMap aK) :=
 ⟨rfl,.inr ⟨V.heap.size,1,_,rfl,Nat.le_refl _,B.new V _ _,Nat.le_refl _,by unfold maxLen;omega,rfl,rfl⟩⟩
theorem Km.adn {lo mb:Nat} {tt:TypeId} {X:List Value} {w:World} {S:St} {k:KM.Kn} (h:Km lo mb tt X w S k) {j:Nat} (hj:j<k.aj.length) {g n cap:Nat} (hv:(cD S.L j).vp=.slice (some (Ad g 0)) n cap) {i:Nat} (hi:i<(KM.au k.aj j).aA.length) (e:KM.En) :
  Km lo mb tt X (((w.setCell (Ad g (i*3)) (I e.page)).setCell (Ad g (i*3+1)) (I e.kind)).setCell (Ad g (i*3+2)) (I e.loc)) S { k with aj:=k.aj.set j (KM.dU (KM.au k.aj j) ((KM.au k.aj j).aA.set i e)) } /\
  Ch S w S (((w.setCell (Ad g (i*3)) (I e.page)).setCell (Ad g (i*3+1)) (I e.kind)).setCell (Ad g (i*3+2)) (I e.loc)):=by
 have YD:∀(ss:List KM.Sp) (es:List KM.En),j<ss.length->KM.au (ss.set j (KM.dU (KM.au k.aj j) es)) j=KM.dU (KM.au k.aj j) es:=fun ss es hl=>by rw[KM.fR _ _ _ _ hl,if_pos rfl]
 have m1:=h.kG hj hv hi (c:=0) (by omega) (e:=⟨e.page,(KM.aM (KM.au k.aj j).aA i).kind,(KM.aM (KM.au k.aj j).aA i).loc⟩) (u:=I e.page) rfl;have m2:=m1.1.kG (j:=j) (by show j<(List.set _ _ _).length;rw[List.length_set];exact hj) hv (i:=i) (by
  show i<(KM.au (List.set _ _ _) j).aA.length;rw[YD _ _ hj];show i<(List.set _ _ _).length;rw[List.length_set];exact hi) (c:=1) (by omega) (e:=⟨e.page,e.kind,(KM.aM (KM.au k.aj j).aA i).loc⟩) (u:=I e.kind) (by
  show _=(aK (KM.aM (KM.au (List.set _ _ _) j).aA i)).set 1 _;rw[YD _ _ hj];show _=(aK ((List.set _ _ _).getD i KM.js)).set 1 _;rw[KM.bC _ _ _ _ hi];rfl)
 simp only[List.set_set,YD _ _ hj] at m2;have m2a:Km lo mb tt X ((w.setCell (Ad g (i*3)) (I e.page)).setCell (Ad g (i*3+1)) (I e.kind)) S { k with aj:=k.aj.set j (KM.dU (KM.au k.aj j) ((KM.au k.aj j).aA.set i ⟨e.page,e.kind,(KM.aM (KM.au k.aj j).aA i).loc⟩)) }:=by
  have:=m2.1;unfold KM.dU at this ⊢;simp only[List.set_set] at this ⊢;exact this
 have m3:=m2a.kG (j:=j) (by show j<(List.set _ _ _).length;rw[List.length_set];exact hj) hv (i:=i) (by
  show i<(KM.au (List.set _ _ _) j).aA.length;rw[YD _ _ hj];show i<(List.set _ _ _).length;rw[List.length_set];exact hi) (c:=2) (by omega) (e:=e) (u:=I e.loc) (by
  show _=(aK (KM.aM (KM.au (List.set _ _ _) j).aA i)).set 2 _;rw[YD _ _ hj];show _=(aK ((List.set _ _ _).getD i KM.js)).set 2 _;rw[KM.bC _ _ _ _ hi];rfl)
 simp only[List.set_set,YD _ _ hj] at m3;have m3a:Km lo mb tt X (((w.setCell (Ad g (i*3)) (I e.page)).setCell (Ad g (i*3+1)) (I e.kind)).setCell (Ad g (i*3+2)) (I e.loc)) S { k with aj:=k.aj.set j (KM.dU (KM.au k.aj j) ((KM.au k.aj j).aA.set i e)) }:=by
  have:=m3.1;unfold KM.dU at this ⊢;simp only[List.set_set] at this ⊢;exact this
 exact⟨m3a,(m1.2.trans m2.2).trans m3.2⟩
theorem B0 {D:Nat->Prop} {N:Nat} {w0 w1 V:World} {b o:Nat} (hV:Kp D w1 V) (hb:Below N w0 w1) (hl:b<N) (hl0:b<w0.heap.size) (hn:¬D b) (h:w0.frozen? (Ad b o)=false):V.frozen? (Ad b o)=false:=by
 have e1:=hb.block b hl;have DI:b<w1.heap.size:=Nat.lt_of_lt_of_le hl0 hb.size;have e2:=hV.block b DI hn;unfold World.frozen? at h ⊢;simp only[e2,e1];exact h
theorem vq (w1:World) (o:Obj):Kp (fun _=>False) w1 ((w1.alloc o).drew):=(Kp.alloc _ _ o).trans (Kp.drew _ _) (fun _ _ g=>g)
theorem We (w1:World) (e:KM.En):∀i u,(aK e)[i]?=some u->((w1.alloc (.cells #[I e.page,I e.kind,I e.loc] 45)).drew).cell? (((Ad w1.heap.size 0):Addr).add i)=some u:=fun i u hu=>B.news (C:=#[I e.page,I e.kind,I e.loc]) (t:=45) (fr:=(0,0)) (B.new w1 _ _) i u hu
theorem u7 {lo mb:Nat} {tt:TypeId} {X:List Value} (k:KM.Kn) (S:St) (w:World) (j:Nat) (e:KM.En) (h:Km lo mb tt X w S k) (hj:j<k.aj.length) (hen:(KM.au k.aj j).aA.length<=1000) (rH:k.aj.length<=1000) :
  Calls Tryz.prog 166 #[.pointer (some (Ad mb 0)),I (j:Int),.agg #[I e.page,I e.kind,I e.loc]] w (gq lo mb tt X w S (.tuple #[]) (KM.dZ k j e)):=by
 have hlo:lo<=w.heap.size:=Nat.le_trans h.lo_le (Nat.le_of_lt h.lt);obtain⟨WA,di⟩:=ex (w.alloc (.cells #[I e.page,I e.kind,I e.loc] 45));have cQ:Hid (Below w.heap.size w WA):=by rw[di];exact(Below.refl w.heap.size w).alloc (Nat.le_refl _) _
 have EX:Hid (WA.heap[w.heap.size]?=some (.cells #[I e.page,I e.kind,I e.loc] 45 (0,0))):=by rw[di];exact B.new w _ _
 have n0:S.lab w.heap.size=.no:=h.toKr.new (Nat.le_refl _);have R7:=ai (h.below cQ.o);obtain⟨pb,cP,A⟩:=R7.o.toKr.sp (by omega);have hrow:=(R7.o.each j hj).aJ;obtain⟨ae,ce,wa,hcap,hge⟩:=aN hrow;obtain⟨es,hes⟩:=ex ((KM.au k.aj j).aA);rw[<- hes] at hrow wa hcap hge hen;rw[wa] at hrow;have hre:=KI.Vq hrow;have BI:∀b,blk (.slice ae es.length ce) b->S.lab b=.aA j:=fun b hb=>h.lE j hj b (by rw[wa];exact hb)
 have hpl:=A.lab;have c3:=R7.o.c3;rw[A.v] at c3;have a2:=A.x2 j hj;rw[wa] at a2;have DJ:(j:Int)<(k.aj.length:Int):=by omega
 have L5:=KW.C5 191 (.inr (.inl rfl)) (fun o=>decide (e.page<=o.page)) es ae ce w.heap.size WA hre (by omega) (fun V o hV=>Iw e o w.heap.size V (B.cell (B.below EX.o hV (B.isLt EX.o)) 0 rfl));have HE:Hid (∀V v' fs,Kp (fun b=>S.lab b=.aA j) WA V->V.ownsRow lo 45 3 v' fs.length (fs.flatMap aK)->(∀b,blk v' b->S.lab b=.aA j∨WA.heap.size<=b)->KM.m8 es e=fs->gq lo mb tt X w S (.tuple #[]) (KM.dZ k j e) (.returned (.tuple #[])) (V.setCell (Ad pb (j*3+2)) v')):=fun V v' fs h1 h2 h3 h4=>by
  have sw:=R7.o.gy hj A.v h1 h2 (fun b hb=>by
   rcases h3 b hb with g | g
   · exact .inl g
   · exact .inr (R7.o.toKr.new g))
  have hK:({ k with aj:=k.aj.set j (KM.dU (KM.au k.aj j) fs) }:KM.Kn)=KM.dZ k j e:=by
   unfold KM.dZ;rw[<- h4,hes]
  refine⟨rfl,_,hK ▸ sw.1,(Ch.below cQ.o).trans (sw.2 (fun b hb hx=>?_))⟩;rcases h3 b hx with g | g
  · exact g
  · omega
 have HES:Hid (∀V n g,Below WA.heap.size WA V->n<es.length->ae=some (Ad g 0)->KM.m8 es e=es.set n e->gq lo mb tt X w S (.tuple #[]) (KM.dZ k j e) (.returned (.tuple #[])) (((V.setCell (Ad g (n*3)) (I e.page)).setCell (Ad g (n*3+1)) (I e.kind)).setCell (Ad g (n*3+2)) (I e.loc)).drew.drew):=fun V n g hb hn hg hp=>by
  have m:=R7.o.below hb;have m1:=KX.Km.adn m hj (g:=g) (by rw[wa,hg]) (i:=n) (by rw[<- hes];exact hn) e;have hK:({ k with aj:=k.aj.set j (KM.dU (KM.au k.aj j) ((KM.au k.aj j).aA.set n e)) }:KM.Kn)=KM.dZ k j e:=by
   unfold KM.dZ;rw[<- hes,hp]
  have m1a:=hK ▸ m1.1;have dr:∀V:World,Below V.heap.size V V.drew:=fun V=>(Below.refl _ _).drew
  exact⟨rfl,S,(m1a.below (dr _)).below (dr _),((((Ch.below cQ.o).trans (Ch.below hb)).trans m1.2).trans (Ch.below (dr _))).trans (Ch.below (dr _))⟩
 obtain⟨P,hP⟩:=ex (gq lo mb tt X w S (.tuple #[]) (KM.dZ k j e));rw[<- hP] at HE HES ⊢;obtain⟨np,Tv⟩:=ex k.aj.length;rw[<- Tv] at c3 DJ;have Hz:=A.lt;have oJ:mb<WA.heap.size:=R7.o.lt;have hxl:=B.isLt EX.o;have Zz:=A.fz (j*3+2);have YJ:Hid (∀b,blk (.slice ae es.length ce) b->b≠pb/\b≠w.heap.size/\b<WA.heap.size):=fun b hb=>⟨fun z=>by have:=BI b hb;rw[z,hpl] at this;simp at this,fun z=>by have:=BI b hb;rw[z,n0] at this;simp at this,(hrow.lt b hb).2⟩
 have Gs:=ai BI;have Dw:=ai hrow;have HGE:=ai hge;have eZ:=ai di;have R8:=ai hre;obtain⟨i0,hin,hz0,hz1,hz2⟩:=info_parts y9;have ry:=ai hin;have vo:=ai hz0;have vk:=ai hz1;have uj:=ai hz2;have hlA:lo<=WA.heap.size:=Nat.le_trans hlo cQ.o.size;have akr:es.length<=1000:=by omega
 by_cases hall:∀i,i<es.length->(KM.aM es i).page<e.page
 · have HP0:=ai (EE es e hall);have Cw:Hid (Calls Tryz.prog 153 #[.slice ae es.length ce,.func (.func 191) #[] #[.pointer (some (Ad w.heap.size 0))]] WA fun r w'=>r=.returned (I (-1))/\Below WA.heap.size WA w'):=L5.mono fun r w' ⟨hb,hh⟩=>by
    rcases hh with⟨he,_⟩ | ⟨m,hm,_,hy,_⟩
    · exact⟨he,hb⟩
    · have:=of_decide_eq_true hy;have:=hall m hm;omega
   clear L5 di h hrow hge hre BI R7 A wa hes hP Tv hin hz0 hz1 hz2 hall rH hj hen hlo;go_enter Tryz.func166,Tryz.ntmps166;go_upto_region 1 with fail;rw[<- eZ.o];go_upto_region 5 with(go_at_call 153;refine Cw.o.mono ?_;rintro r w1 ⟨rfl,hb1⟩;have bE:=ai hb1;clear hb1)
   have gG:Hid (Kp (fun b=>blk (.slice ae es.length ce) b) w1 w1.drew):=Kp.drew _ _;have DW:Hid (∀o,Kp (fun b=>blk (.slice ae es.length ce) b) w1 ((w1.alloc o).drew)):=fun o=>(Kp.alloc _ _ o).trans (Kp.drew _ _) (fun _ _ g=>g)
   have eQ:Hid (∀V,Kp (fun b=>blk (.slice ae es.length ce) b) w1 V->V.cell? (Ad pb (j*3+2))=some (.slice ae es.length ce)/\V.cell? (Ad w.heap.size 0)=some (I e.page)/\V.cell? (Ad w.heap.size 1)=some (I e.kind)/\V.cell? (Ad w.heap.size 2)=some (I e.loc)/\V.frozen? (Ad pb (j*3+2))=false):=fun V hV=>by
    have b1:=B.below EX.o bE.o (B.isLt EX.o);have b2:=hV.keep b1 (fun g=>(YJ.o _ g).2.1 rfl);refine⟨hV.cell ((bE.o.cell (p:=(Ad pb (j*3+2))) Hz).trans a2) (fun g=>(YJ.o _ g).1 rfl),B.cell b2 0 rfl,B.cell b2 1 rfl,B.cell b2 2 rfl,?_⟩;exact B0 hV bE.o Hz Hz (fun g=>(YJ.o _ g).1 rfl) Zz
   have Al:Hid (∀o,((w1.alloc o).drew).ownsRow lo 45 3 (.slice ae es.length ce) es.length (es.flatMap aK)):=fun o=>((vq w1 o).row ((Kp.bc (D:=fun _=>False) bE.o).row Dw.o (fun _ _ g=>g)) (fun _ _ g=>g))
   have hsz:=bE.o.size;refine GZ.sW (S:=fun V=>Kp (fun b=>blk (.slice ae es.length ce) b) w1 V) (z:=10) (by kernel_rfl) ?_;refine GZ.tk 0 gG.o ?_ ?_ ?_;rotate_left 1
   · intro V h;obtain⟨k0,k1,k2,k3,k4⟩:=eQ.o V h;go_simp
     try with_reducible rfl
   refine GZ.tk 1 gG.o ?_ ?_ ?_;rotate_left 1
   · intro V h;obtain⟨k0,k1,k2,k3,k4⟩:=eQ.o V h;go_simp
     try with_reducible rfl
   refine GZ.tk 2 gG.o ?_ ?_ ?_;rotate_left 1
   · intro V h;obtain⟨k0,k1,k2,k3,k4⟩:=eQ.o V h;go_simp
     try with_reducible rfl
   refine GZ.tk 3 gG.o ?_ ?_ ?_;rotate_left 1
   · intro V h;obtain⟨k0,k1,k2,k3,k4⟩:=eQ.o V h;go_simp
     try with_reducible rfl
   refine GZ.tk 4 gG.o ?_ ?_ ?_;rotate_left 1
   · intro V h;obtain⟨k0,k1,k2,k3,k4⟩:=eQ.o V h;go_simp
     try with_reducible rfl
   refine GZ.tk 5 gG.o ?_ ?_ ?_;rotate_left 1
   · intro V h;obtain⟨k0,k1,k2,k3,k4⟩:=eQ.o V h;go_simp
     try with_reducible rfl
   refine GZ.all (rs:=[6]) (by kernel_rfl) (by simp) ?_;refine GZ.bl.cons rfl (fun K hK=>?_) GZ.bl.nil;go_simp;refine hK.out _ _ (fun _=>?_) ?_
   · exact DW.o _
   clear hK K
   try simp only[Act.put,List.setIfInBounds_toArray,List.set_cons_zero,List.set_cons_succ]
   refine GZ.all (rs:=[7]) (by kernel_rfl) (by simp) ?_;refine GZ.bl.cons rfl (fun K hK=>?_) GZ.bl.nil;rw[if_pos (by rfl)];refine df (P:=Tryz.prog) _ _ 41 rfl lo 45 i0 (.agg #[I 0,I 0,I 0]) 3 24 Tryz.underlying41 ry.o vo.o vk.o uj.o rfl (by decide) (.slice ae es.length ce) es.length (es.flatMap aK) rfl (Al.o _) (some (Ad w1.heap.size 0)) 1 1 (aK e) rfl rfl (fun _=>⟨_,rfl,We w1 e⟩) (by intro u hu;simp[aK] at hu;rcases hu with rfl | rfl | rfl <;> rfl) (by unfold maxLen;omega) (by omega) (by simp;omega) ?_;intro vG wG qR s6 ux;obtain⟨aG,cG,C9,_,_⟩:=aN qR;subst C9;have pP:Hid (Kp (fun b=>blk (.slice ae es.length ce) b) w1 wG):=(DW.o _).trans (Kp.grown (D:=fun b=>blk (.slice ae es.length ce) b) s6 (fun q hq=>hq)) (fun _ _ g=>g);have HOG:=ai qR;have HAG:=ai ux;clear qR s6 ux;refine hK.out _ _ (fun _=>?_) ?_
   · exact pP.o
   clear hK K
   try simp only[Act.put,List.setIfInBounds_toArray,List.set_cons_zero,List.set_cons_succ]
   refine GZ.all (rs:=[8]) (by kernel_rfl) (by simp) ?_;refine GZ.bl.cons rfl (fun K hK=>?_) GZ.bl.nil;go_simp;refine hK.out _ _ (fun _=>?_) ?_
   · exact pP.o
   clear hK K
   try simp only[Act.put,List.setIfInBounds_toArray,List.set_cons_zero,List.set_cons_succ]
   refine GZ.tk 9 pP.o ?_ ?_ ?_;rotate_left 1
   · intro V h;obtain⟨k0,k1,k2,k3,k4⟩:=eQ.o V h;go_simp
     try with_reducible rfl
   obtain⟨k0,k1,k2,k3,k4⟩:=eQ.o wG pP.o;refine GZ.all (rs:=[10]) (by kernel_rfl) (by simp) ?_;refine GZ.bl.cons rfl (fun K hK=>?_) GZ.bl.nil;go_simp;refine hK.out _ _ (fun g=>absurd rfl g) ?_;refine GZ.done (by kernel_rfl) ?_ _;go_wp2;refine bodyPost_end (v:=.tuple #[]) (by simp[results,Tryz.results166,go_sem]) rfl ?_;refine HE.o wG _ (es++[e]) ?_ (by rw[List.length_append,List.flatMap_append];simpa using HOG.o) (fun b hb=>?_) HP0.o
   · exact(Kp.bc bE.o).trans pP.o (fun b _ hx=>Gs.o b hx)
   · rcases HAG.o with g | g
     · exact .inl (Gs.o b (by show Value.ownBlock _=_;rw[<- g];exact hb))
     · right;have hb:Value.ownBlock _=some b:=hb;rw[g] at hb;injection hb with hb;have:((w1.alloc (.cells #[I e.page,I e.kind,I e.loc] 45)).drew).heap.size=w1.heap.size+1:=World.size_alloc _ _;omega
 · have hex:∃n,n<es.length/\(∀i,i<n->(KM.aM es i).page<e.page)/\¬(KM.aM es n).page<e.page:=by
    obtain⟨n,hn⟩:=Classical.not_forall.1 hall;rw[Classical.not_imp] at hn;obtain⟨Pj,rI⟩:=hn;induction n using Nat.strongRecOn with
    | _ n ih =>
     by_cases c:∃m,m<n/\¬(KM.aM es m).page<e.page
     · obtain⟨m,jP,hm2⟩:=c;exact ih m jP (by omega) hm2
     · exact⟨n,Pj,fun i hi=>Classical.not_not.1 fun z=>c ⟨i,hi,z⟩,rI⟩
   obtain⟨n,hn,tV,Db⟩:=hex;have hput:=NZ es e n hn tV Db;have Cw:Hid (Calls Tryz.prog 153 #[.slice ae es.length ce,.func (.func 191) #[] #[.pointer (some (Ad w.heap.size 0))]] WA fun r w'=>r=.returned (I (n:Int))/\Below WA.heap.size WA w'):=L5.mono fun r w' ⟨hb,hh⟩=>by
    rcases hh with⟨_,hno⟩ | ⟨m,hm,he,hy,hno⟩
    · have:=of_decide_eq_false (hno n hn);omega
    · have hy:=of_decide_eq_true hy;have:m=n:=by
       rcases Nat.lt_trichotomy m n with g | g | g
       · have:=tV m g;omega
       · exact g
       · have:=of_decide_eq_false (hno n g);omega
      subst this;exact⟨he,hb⟩
   obtain⟨eb,RO,_,TB⟩:=hge (by omega);subst RO;have hni:(n:Int)<(es.length:Int):=by omega
   have hn0:(0:Int)<=(n:Int):=by omega
   have HXE:Hid (∀V,Below WA.heap.size WA V->V.cell? (Ad eb (n*3))=some (I (KM.aM es n).page)/\V.cell? (Ad eb (n*3+1))=some (I (KM.aM es n).kind)/\V.cell? (Ad eb (n*3+2))=some (I (KM.aM es n).loc)/\(∀q,V.frozen? (Ad eb q)=false)/\V.cell? (Ad pb (j*3+2))=some (.slice (some (Ad eb 0)) es.length ce)/\V.cell? (Ad w.heap.size 0)=some (I e.page)/\V.cell? (Ad w.heap.size 1)=some (I e.kind)/\V.cell? (Ad w.heap.size 2)=some (I e.loc)):=fun V hV=>by
    have hr:=(Kp.bc (D:=fun _=>False) hV).row hrow (fun _ _ g=>g);have b1:=B.below EX.o hV (B.isLt EX.o);exact⟨iZ aK (fun _=>rfl) KM.js hr n 0 hn (by omega),iZ aK (fun _=>rfl) KM.js hr n 1 hn (by omega),iZ aK (fun _=>rfl) KM.js hr n 2 hn (by omega),dx hr,(hV.cell (p:=(Ad pb (j*3+2))) Hz).trans a2,B.cell b1 0 rfl,B.cell b1 1 rfl,B.cell b1 2 rfl⟩
   by_cases c:(KM.aM es n).page=e.page
   · rw[if_pos c] at hput;have Gr:=ai hput;have cb:((KM.aM es n).page==e.page)=true:=by simpa using c
     obtain⟨Z,hZ⟩:=ex (KM.aM es n);rw[<- hZ] at HXE cb;clear L5 di h hrow hge hre BI R7 A wa hes hP Tv hin hz0 hz1 hz2 hall rH hj hen hlo hput tV Db hZ c;go_enter Tryz.func166,Tryz.ntmps166;go_upto_region 1 with fail;rw[<- eZ.o];go_upto_region 6 with(go_at_call 153;refine Cw.o.mono ?_;rintro r w1 ⟨rfl,hb1⟩;have bE:=ai hb1;clear hb1)
     obtain⟨y0,y1,y2,yf,y3,y4,y5,y6⟩:=HXE.o w1 bE.o;have yf0:=yf (n*3);have yf1:=yf (n*3+1);have yf2:=yf (n*3+2);clear yf;go_region;go_upto_region 7 with fail;go_region;go_wp2;refine bodyPost_end (v:=.tuple #[]) (by simp[results,Tryz.results166,go_sem]) rfl ?_;exact HES.o w1 n eb bE.o hn rfl Gr.o
   · rw[if_neg c] at hput;have Gr:=ai hput;have cb:((KM.aM es n).page==e.page)=false:=by simpa using c
     have afI:Hid (∀V,Kp (fun b=>blk (.slice (some (Ad eb 0)) es.length ce) b) WA V->V.ownsRow lo 45 3 (.slice (some (Ad eb 0)) es.length ce) es.length (es.flatMap aK)->WA.heap.size<=V.heap.size->Calls Tryz.prog 192 #[.slice (some (Ad eb 0)) es.length ce,I (n:Int),.slice (some (Ad V.heap.size 0)) 1 1] ((V.alloc (.cells #[I e.page,I e.kind,I e.loc] 45)).drew) fun r w'=>∃av nv cv,r=.returned (.slice av nv cv)/\w'.ownsRow lo 45 3 (.slice av nv cv) (es.take n++e::es.drop n).length ((es.take n++e::es.drop n).flatMap aK)/\Kp (fun b=>blk (.slice (some (Ad eb 0)) es.length ce) b) V w'/\(∀b,blk (.slice av nv cv) b->blk (.slice (some (Ad eb 0)) es.length ce) b∨WA.heap.size<=b)):=fun V hV hr hsz=>by
      have k1:Kp (fun _=>False) V ((V.alloc (.cells #[I e.page,I e.kind,I e.loc] 45)).drew):=(Kp.alloc _ _ _).trans (Kp.drew _ _) (fun _ _ g=>g);have r1:=k1.row hr (fun _ _ g=>g);have r2:((V.alloc (.cells #[I e.page,I e.kind,I e.loc] 45)).drew).ownsRow V.heap.size 45 3 (.slice (some (Ad V.heap.size 0)) [e].length 1) [e].length ([e].flatMap aK):=(Kp.drew (fun _=>False) _).row (CV V e) (fun _ _ g=>g);have hs1:((V.alloc (.cells #[I e.page,I e.kind,I e.loc] 45)).drew).heap.size=V.heap.size+1:=World.size_alloc _ _;refine(KI.Hs lo es [e] (.slice (some (Ad eb 0)) es.length ce) (.slice (some (Ad V.heap.size 0)) 1 1) V.heap.size n _ r1 r2 (by omega) (fun b h1 h2=>?_) (by omega) (by simp) (by omega) (by simp)).mono fun r w' ⟨v',g1,g2,g3,g4⟩=>?_
      · have:V.heap.size=b:=by injection h1
        have:=(hr.lt b h2).2;omega
      · obtain⟨av,cv,rfl,_,_⟩:=aN g2;refine⟨av,_,cv,g1,g2,(k1.mono (fun _ _ z=>z.elim)).trans g3 (fun _ _ z=>z),fun b hb=>?_⟩;rcases g4 b hb with z | z
        · exact .inl z
        · exact .inr (by omega)
     obtain⟨Z,hZ⟩:=ex (KM.aM es n);rw[<- hZ] at HXE cb;clear L5 di h hrow hge hre BI R7 A wa hes hP Tv hin hz0 hz1 hz2 hall rH hj hen hlo hput tV Db hZ c;go_enter Tryz.func166,Tryz.ntmps166;go_upto_region 1 with fail;rw[<- eZ.o];go_upto_region 6 with(go_at_call 153;refine Cw.o.mono ?_;rintro r w1 ⟨rfl,hb1⟩;have bE:=ai hb1;clear hb1)
     obtain⟨y0,y1,y2,yf,y3,y4,y5,y6⟩:=HXE.o w1 bE.o;clear yf;go_region;go_upto_region 3 with fail;clear y0 y1 y2 y3 y4 y5 y6;have cM:Hid (Below WA.heap.size WA w1.drew):=bE.o.drew;clear bE;obtain⟨w2,hw2⟩:=ex w1.drew;rw[<- hw2] at cM ⊢;clear hw2;have gG:Hid (Kp (fun b=>blk (.slice (some (Ad eb 0)) es.length ce) b) w2 w2.drew):=Kp.drew _ _;have DW:Hid (∀o,Kp (fun b=>blk (.slice (some (Ad eb 0)) es.length ce) b) w2 ((w2.alloc o).drew)):=fun o=>(Kp.alloc _ _ o).trans (Kp.drew _ _) (fun _ _ g=>g)
     have eQ:Hid (∀V,Kp (fun b=>blk (.slice (some (Ad eb 0)) es.length ce) b) w2 V->V.cell? (Ad pb (j*3+2))=some (.slice (some (Ad eb 0)) es.length ce)/\V.cell? (Ad w.heap.size 0)=some (I e.page)/\V.cell? (Ad w.heap.size 1)=some (I e.kind)/\V.cell? (Ad w.heap.size 2)=some (I e.loc)/\V.frozen? (Ad pb (j*3+2))=false):=fun V hV=>by
      have b1:=B.below EX.o cM.o (B.isLt EX.o);have b2:=hV.keep b1 (fun g=>(YJ.o _ g).2.1 rfl);refine⟨hV.cell ((cM.o.cell (p:=(Ad pb (j*3+2))) Hz).trans a2) (fun g=>(YJ.o _ g).1 rfl),B.cell b2 0 rfl,B.cell b2 1 rfl,B.cell b2 2 rfl,?_⟩;exact B0 hV cM.o Hz Hz (fun g=>(YJ.o _ g).1 rfl) Zz
     have afJ:=ai (afI.o w2 (Kp.bc cM.o) ((Kp.bc (D:=fun _=>False) cM.o).row Dw.o (fun _ _ g=>g)) cM.o.size);have hsz:=cM.o.size;refine GZ.sW (S:=fun V=>Kp (fun b=>blk (.slice (some (Ad eb 0)) es.length ce) b) w2 V) (z:=11) (by kernel_rfl) ?_;refine GZ.tk 0 gG.o ?_ ?_ ?_;rotate_left 1
     · intro V h;obtain⟨k0,k1,k2,k3,k4⟩:=eQ.o V h;go_simp
       try with_reducible rfl
     refine GZ.tk 1 gG.o ?_ ?_ ?_;rotate_left 1
     · intro V h;obtain⟨k0,k1,k2,k3,k4⟩:=eQ.o V h;go_simp
       try with_reducible rfl
     refine GZ.tk 2 gG.o ?_ ?_ ?_;rotate_left 1
     · intro V h;obtain⟨k0,k1,k2,k3,k4⟩:=eQ.o V h;go_simp
       try with_reducible rfl
     refine GZ.tk 3 gG.o ?_ ?_ ?_;rotate_left 1
     · intro V h;obtain⟨k0,k1,k2,k3,k4⟩:=eQ.o V h;go_simp
       try with_reducible rfl
     refine GZ.tk 4 gG.o ?_ ?_ ?_;rotate_left 1
     · intro V h;obtain⟨k0,k1,k2,k3,k4⟩:=eQ.o V h;go_simp
       try with_reducible rfl
     refine GZ.tk 5 gG.o ?_ ?_ ?_;rotate_left 1
     · intro V h;obtain⟨k0,k1,k2,k3,k4⟩:=eQ.o V h;go_simp
       try with_reducible rfl
     refine GZ.tk 6 gG.o ?_ ?_ ?_;rotate_left 1
     · intro V h;obtain⟨k0,k1,k2,k3,k4⟩:=eQ.o V h;go_simp
       try with_reducible rfl
     refine GZ.all (rs:=[7]) (by kernel_rfl) (by simp) ?_;refine GZ.bl.cons rfl (fun K hK=>?_) GZ.bl.nil;go_simp;refine hK.out _ _ (fun _=>?_) ?_
     · exact DW.o _
     clear hK K
     try simp only[Act.put,List.setIfInBounds_toArray,List.set_cons_zero,List.set_cons_succ]
     refine GZ.all (rs:=[8]) (by kernel_rfl) (by simp) ?_;refine GZ.bl.cons rfl (fun K hK=>?_) GZ.bl.nil;rw[if_pos (by rfl)];go_simp;go_at_call 192;refine afJ.o.mono ?_;rintro r wG ⟨aG,nG,cG,rfl,qR,hkG,ux⟩;have pP:Hid (Kp (fun b=>blk (.slice (some (Ad eb 0)) es.length ce) b) w2 wG):=hkG;have HOG:=ai qR;have HAG:=ai ux;clear qR hkG ux;try go_simp;refine hK.out _ _ (fun _=>?_) ?_
     · exact pP.o
     clear hK K
     try simp only[Act.put,List.setIfInBounds_toArray,List.set_cons_zero,List.set_cons_succ]
     refine GZ.all (rs:=[9]) (by kernel_rfl) (by simp) ?_;refine GZ.bl.cons rfl (fun K hK=>?_) GZ.bl.nil;go_simp;refine hK.out _ _ (fun _=>?_) ?_
     · exact pP.o
     clear hK K
     try simp only[Act.put,List.setIfInBounds_toArray,List.set_cons_zero,List.set_cons_succ]
     refine GZ.tk 10 pP.o ?_ ?_ ?_;rotate_left 1
     · intro V h;obtain⟨k0,k1,k2,k3,k4⟩:=eQ.o V h;go_simp
       try with_reducible rfl
     obtain⟨k0,k1,k2,k3,k4⟩:=eQ.o wG pP.o;refine GZ.all (rs:=[11]) (by kernel_rfl) (by simp) ?_;refine GZ.bl.cons rfl (fun K hK=>?_) GZ.bl.nil;go_simp;refine hK.out _ _ (fun g=>absurd rfl g) ?_;refine GZ.done (by kernel_rfl) ?_ _;go_wp2;refine bodyPost_end (v:=.tuple #[]) (by simp[results,Tryz.results166,go_sem]) rfl ?_;refine HE.o wG _ (es.take n++e::es.drop n) ((Kp.bc cM.o).trans pP.o (fun b _ hx=>Gs.o b hx)) HOG.o (fun b hb=>?_) Gr.o;rcases HAG.o b hb with g | g
     · exact .inl (Gs.o b g)
     · exact .inr g
end KX
namespace KX
open Go.RowKit GK KO
open FW (ai aD)
open KW (bJ bI aK aZ fh cK aI dA bU dX)
open KS (Lc bw kM cD blk cJ)
theorem wQ (k:KM.Kn) (j:Nat) (x e:KM.En):KM.dZ (KM.b9 k e) j x=KM.b9 (KM.dZ k j x) e:=by unfold KM.b9 KM.dZ;split <;> rfl
def vB (X:List Value) (hs:List LM.Sh):Prop:=∀n:Nat,n<256->X[n]?=some (.string (KM.filled hs n))
theorem Dm {lo mb:Nat} {tt:TypeId} {X:List Value} (k:KM.Kn) (S:St) (w:World) (j:Nat) (p:Int) (h:Km lo mb tt X w S k) (hR:KM.aQ k) (hj:j<k.aj.length) :
  Calls Tryz.prog 118 #[.pointer (some (Ad mb 0)),I (j:Int),I p] w fun e w'=>e=.returned (.tuple #[dA (dX (KM.au k.aj j).aA p).1,.bool (dX (KM.au k.aj j).aA p).2])/\Below w.heap.size w w':=by
 have hcc:=hR.c;have hen:=jq hR hj;obtain⟨pb,cP,A⟩:=h.toKr.sp (by omega);obtain⟨ae,ce,wa,hre⟩:=h.toKr.aA hj;have c3:=h.c3;rw[A.v] at c3;have a2:=A.x2 j hj;rw[wa] at a2;have e0:0+j*3+2=j*3+2:=by omega
 exact KW.Cg (KM.au k.aj j).aA p j k.aj.length mb pb 0 cP ae ce w c3 hj (by rw[e0];exact a2) hre (by omega) (by omega)
theorem CQ {lo mb:Nat} {tt:TypeId} {X:List Value} (k:KM.Kn) (S:St) (w:World) (j:Nat) (p:Int) (held:List Int) (ah:Option Addr) (ch:Nat) (e:KM.En) (h:Km lo mb tt X w S k) (hR:KM.aQ k) (hj:j<k.aj.length) (he:KM.bf (KM.au k.aj j).aA p=some e) (hk:e.kind=1) :
  Calls Tryz.prog 141 #[.pointer (some (Ad mb 0)),I (j:Int),I p,.slice ah held.length ch] w (gq lo mb tt X w S (I ((KM.cm k j p held).1:Int)) (KM.cm k j p held).2):=by
 have iy:=ai (Dm k S w j p h hR hj);have e1:dX (KM.au k.aj j).aA p=(e,true):=by unfold KW.dX;rw[he]
 rw[e1] at iy;have hP:KM.cm k j p held=(e.loc.toNat,k):=by
  unfold KM.cm;rw[he];show(if e.kind=1 then _ else _)=_;rw[if_pos hk]
 have hb:=(KM.fN hR hj (KM.jB he)).resolve_right (fun y=>by omega);rw[hP];have bB:Hid (∀V,Below w.heap.size w V->gq lo mb tt X w S (I ((e.loc.toNat:Nat):Int)) k (.returned (I e.loc)) V):=fun V hV=>⟨by rw[hb.2.1],S,h.below hV,Ch.below hV⟩
 obtain⟨P,JU⟩:=ex (gq lo mb tt X w S (I ((e.loc.toNat:Nat):Int)) k);rw[<- JU] at bB ⊢;obtain⟨pg,kd,lc⟩:=e;unfold dA at iy;simp only at iy bB hk;have kb:(kd==1)=true:=by simpa using hk
 clear hP JU e1 he h hR hj hb hk;go_enter Tryz.func141,Tryz.ntmps141;go_wp2_with (go_at_call 118;refine iy.o.mono ?_;rintro r w1 ⟨rfl,hb1⟩;have bE:=ai hb1;have BX:=B.new w1 #[I pg,I kd,I lc] 45;obtain⟨d0,d1,d2⟩:=B.c3 BX;clear hb1 BX)
 exact bB.o _ (bE.o.alloc bE.o.size _)
theorem xo {lo mb:Nat} {tt:TypeId} {X:List Value} (k:KM.Kn) (S:St) (w:World) (j:Nat) (p:Int) (held:List Int) (ah:Option Addr) (ch:Nat) (e:KM.En) (h:Km lo mb tt X w S k) (hR:KM.aQ k) (hj:j<k.aj.length) (he:KM.bf (KM.au k.aj j).aA p=some e) (hk:e.kind≠1) (hl:held.length<=2) (hH:Held w S ah held) :
  Calls Tryz.prog 141 #[.pointer (some (Ad mb 0)),I (j:Int),I p,.slice ah held.length ch] w (gq lo mb tt X w S (I ((KM.cm k j p held).1:Int)) (KM.cm k j p held).2):=by
 have iy:=ai (Dm k S w j p h hR hj);have e1:dX (KM.au k.aj j).aA p=(e,true):=by unfold KW.dX;rw[he]
 rw[e1] at iy;have hP:KM.cm k j p held=((KM.bT k held).1,KM.cZ (KM.bT k held).2 j p (KM.bT k held).1 (KM.bj (KM.bT k held).2.slots e.loc.toNat).data true):=by
  unfold KM.cm;rw[he];show(if e.kind=1 then _ else _)=_;rw[if_neg hk]
 have hb:=(KM.fN hR hj (KM.jB he)).resolve_left (fun y=>hk y.1);have G:=KM.nK hR hl;have hent:KM.bf (KM.au (KM.bT k held).2.aj j).aA p=some e:=by rw[G.u9 j hj p (fun x hx=>by rw[he] at hx;injection hx with hx;subst hx;exact fun y=>hk y.1),he]
 have hmv:KM.cZ (KM.bT k held).2 j p (KM.bT k held).1 (KM.bj (KM.bT k held).2.slots e.loc.toNat).data true=KM.dZ (KM.b9 (KM.jm (KM.bT k held).2 (KM.bT k held).1 (KM.bj (KM.bT k held).2.slots e.loc.toNat).data true) e) j ⟨p,1,(KM.bT k held).1⟩:=by
  rw[wQ];unfold KM.cZ;rw[hent]
 rw[hP,hmv];have hcc:=hR.c;have BJ:j<(KM.bT k held).2.aj.length:=by rw[G.kept.np];exact hj
 have hi1:(KM.bT k held).1<(KM.bT k held).2.frames.length:=by rw[G.kept.nf];exact G.lt
 have hs1:e.loc.toNat<(KM.bT k held).2.slots.length:=by rw[G.kept.ns];exact hb.2.2
 have hrf:=(lJ G.right).2 e.loc.toNat hs1;have H8:=jq G.right BJ;have Pd:=G.kept.np;have Yd:Hid (∀V,Below w.heap.size w V->Calls Tryz.prog 165 #[.pointer (some (Ad mb 0)),.slice ah held.length ch] V (gq lo mb tt X V S (I ((KM.bT k held).1:Int)) (KM.bT k held).2)):=fun V hV=>Dh k S V held ah ch (h.below hV) hR hl (hH.ch (Ch.below hV))
 obtain⟨k1,hk1⟩:=ex ((KM.bT k held).2);obtain⟨i,hi⟩:=ex ((KM.bT k held).1);rw[<- hk1,<- hi] at Yd hi1;rw[<- hk1] at hs1 hrf BJ H8 Pd;rw[<- hk1,<- hi];obtain⟨D,hD⟩:=ex ((KM.bj k1.slots e.loc.toNat).data);rw[<- hD];have xG:Hid (∀V S',Km lo mb tt X V S' k1->∃fb cF lb cL,V.cell? (Ad mb 1)=some (.slice (some (Ad fb 0)) k1.frames.length cF)/\V.cell? (Ad mb 2)=some (.slice (some (Ad lb 0)) k1.slots.length cL)/\V.cell? (Ad lb (e.loc.toNat*2))=some (.string D)/\V.cell? (Ad fb (i*4))=some (.string (KM.aH k1.frames i).data)/\V.cell? (Ad fb (i*4+1))=some (I (KM.aH k1.frames i).refs)/\V.cell? (Ad fb (i*4+2))=some (.bool (KM.aH k1.frames i).cj)/\V.cell? (Ad fb (i*4+3))=some (.bool (KM.aH k1.frames i).seen)/\V.frozen? (Ad fb (i*4))=false/\V.frozen? (Ad fb (i*4+1))=false/\V.frozen? (Ad fb (i*4+2))=false/\V.frozen? (Ad fb (i*4+3))=false /\
   (∀U,U=((((V.setCell (Ad fb (i*4)) (.string D)).setCell (Ad fb (i*4+1)) (I 1)).setCell (Ad fb (i*4+2)) (.bool true)).setCell (Ad fb (i*4+3)) (.bool false)).drew->Km lo mb tt X U S' (KM.jm k1 i D true)/\Ch S' V S' U)):=fun V S' hV=>by
  obtain⟨fb,cF,A⟩:=hV.toKr.fr (by omega);obtain⟨lb,cL,AL⟩:=hV.toKr.sl (by omega);have c1:=hV.c1;have c2:=hV.c2;rw[A.v] at c1;rw[AL.v] at c2;refine⟨fb,cF,lb,cL,c1,c2,by rw[hD];exact AL.x0 _ hs1,A.x0 i hi1,A.x1 i hi1,A.x2 i hi1,A.x3 i hi1,A.fz _,A.fz _,A.fz _,A.fz _,fun U hU=>?_⟩;have m:=hV.Lv A.v hi1 ⟨D,1,true,false⟩;subst hU;exact⟨m.1.below (Below.refl _ _).drew,m.2.trans (Ch.below (Below.refl _ _).drew)⟩
 have Sd:Hid (∀V S',Km lo mb tt X V S' (KM.jm k1 i D true)->Calls Tryz.prog 85 #[.pointer (some (Ad mb 0)),.agg #[I e.page,I e.kind,I e.loc],I (-1)] V (mn lo mb tt X V S' (.tuple #[]) (KM.b9 (KM.jm k1 i D true) e))):=fun V S' hV=>by
  rw[<- KM.wS];refine vd _ S' V e (-1) hV (fun c=>absurd c hk) (fun _=>?_) (.inr rfl) ⟨fun c=>absurd c hk,fun _=>?_⟩
  · show 0<=e.loc/\e.loc<(k1.slots.length:Int);omega
  · show -1000000<=(KM.bj k1.slots e.loc.toNat).refs/\(KM.bj k1.slots e.loc.toNat).refs<=1000000;omega
 have Sc:Hid (∀V S',Km lo mb tt X V S' (KM.b9 (KM.jm k1 i D true) e)->Calls Tryz.prog 166 #[.pointer (some (Ad mb 0)),I (j:Int),.agg #[I p,I 1,I (i:Int)]] V (gq lo mb tt X V S' (.tuple #[]) (KM.dZ (KM.b9 (KM.jm k1 i D true) e) j ⟨p,1,i⟩))):=fun V S' hV=>by
  have hsp:(KM.b9 (KM.jm k1 i D true) e).aj=k1.aj:=KM.tQ _ _;exact u7 _ S' V j ⟨p,1,i⟩ hV (by rw[hsp];exact BJ) (by rw[hsp];omega) (by rw[hsp];omega)
 have bB:Hid (∀V S',Km lo mb tt X V S' (KM.dZ (KM.b9 (KM.jm k1 i D true) e) j ⟨p,1,i⟩)->Ch S w S' V->gq lo mb tt X w S (I (i:Int)) (KM.dZ (KM.b9 (KM.jm k1 i D true) e) j ⟨p,1,i⟩) (.returned (I (i:Int))) V):=fun V S' h1 h2=>⟨rfl,S',h1,h2⟩
 obtain⟨K3,hK3⟩:=ex (KM.dZ (KM.b9 (KM.jm k1 i D true) e) j ⟨p,1,i⟩);rw[<- hK3] at Sc bB ⊢;obtain⟨K2,hK2⟩:=ex (KM.b9 (KM.jm k1 i D true) e);rw[<- hK2] at Sd Sc;obtain⟨K1,Gl⟩:=ex (KM.jm k1 i D true);rw[<- Gl] at xG Sd;obtain⟨P,JU⟩:=ex (gq lo mb tt X w S (I (i:Int)) K3);rw[<- JU] at bB ⊢;have jc:Hid (∀V:World,w.heap.size<=V.heap.size->S.lab V.heap.size=.no):=fun V hV=>h.toKr.new hV
 obtain⟨FR,BW⟩:=ex (KM.aH k1.frames i);rw[<- BW] at xG;obtain⟨nf,lj⟩:=ex k1.frames.length;obtain⟨nl,hnl⟩:=ex k1.slots.length;rw[<- lj,<- hnl] at xG;obtain⟨m,hm⟩:∃m:Nat,e.loc=(m:Int):=⟨e.loc.toNat,by omega⟩;rw[hm,Int.toNat_natCast] at xG;have Yv:(m:Int)<(nl:Int):=by rw[hm,Int.toNat_natCast] at hs1;omega
 have H6:(i:Int)<(nf:Int):=by omega
 obtain⟨pg,kd,lc⟩:=e;unfold dA at iy;simp only at iy hk Sd hm;subst hm;have kb:(kd==1)=false:=by simpa using hk
 clear hP JU e1 he h hR hj hb hk G hent hmv hcc BJ hi1 hs1 hrf H8 Pd hk1 hi hD hK3 hK2 Gl hH hl BW lj hnl;go_enter Tryz.func141,Tryz.ntmps141;go_upto_region 6 with(first
  | (go_at_call 118;refine iy.o.mono ?_;rintro r w1 ⟨rfl,hb1⟩;have bE:=ai hb1;have cQ:=ai (bE.o.alloc bE.o.size (.cells #[I pg,I kd,I (m:Int)] 45));have BX:=ai (B.new w1 #[I pg,I kd,I (m:Int)] 45);obtain⟨d0,d1,d2⟩:=B.c3 BX.o;have xU:=ai (jc.o w1 hb1.size);clear hb1)
  | (go_at_call 165;refine(Yd.o _ cQ.o).mono ?_;rintro r w2 ⟨rfl,S2,hk2,hc2⟩;have jd:=ai hk2;have lR:=ai ((Ch.below cQ.o).trans hc2);have D7:=ai (hc2.keep BX.o xU.o);have Dy:=ai (hc2.no _ (B.isLt BX.o) xU.o);clear hk2 hc2 d0 d1 d2))
 obtain⟨fb,cF,lb,cL,g1,g2,g3,g4,g5,g6,g7,g8,g9,g10,g11,hfin⟩:=xG.o w2 S2 jd.o;obtain⟨d0,d1,d2⟩:=B.c3 D7.o;obtain⟨U,hU⟩:=ex (((((w2.setCell (Ad fb (i*4)) (.string D)).setCell (Ad fb (i*4+1)) (I 1)).setCell (Ad fb (i*4+2)) (.bool true)).setCell (Ad fb (i*4+3)) (.bool false)).drew);obtain⟨hk3,hc3⟩:=hfin U hU;have HU:=ai hU;have mC:=ai hk3;have oN:=ai (lR.o.trans hc3);have BX3:=ai (hc3.keep D7.o Dy.o);have HN3:=ai (hc3.no _ (B.isLt D7.o) Dy.o);clear hfin hU hk3 hc3;go_region;rw[<- HU.o];clear g1 g2 g3 g4 g5 g6 g7 g8 g9 g10 g11 d0 d1 d2 HU;obtain⟨d0,d1,d2⟩:=B.c3 BX3.o;go_wp2_with (first
  | (go_at_call 85;refine(Sd.o _ _ mC.o).mono ?_;rintro r w4 ⟨rfl,hk4,H9⟩;have HK4:=ai hk4;have HC4:=ai (oN.o.trans H9);clear hk4 H9)
  | (go_at_call 166;refine(Sc.o _ _ HK4.o).mono ?_;rintro r w5 ⟨rfl,S5,Wz,Z7⟩;have pQ:=ai Wz;have HC5:=ai (HC4.o.trans Z7);clear Wz Z7))
 exact bB.o _ _ pQ.o HC5.o
end KX
end Go.Proofs.YtpgifpeohlllfaaGreat
