import Derived.Test.YtpgifpeohlllfaaGreatGS00
import Derived.Test.YtpgifpeohlllfaaGreatGS21
import Derived.Test.YtpgifpeohlllfaaGreatGS18
set_option maxHeartbeats 20000000
set_option linter.unusedVariables false
set_option maxRecDepth 100000
set_option linter.unusedSimpArgs false
namespace Go.Proofs.YtpgifpeohlllfaaGreat
namespace KX
open Go.RowKit GK KO
open FW (ai aB)
open KW (bE bD aK aZ fu cI aJ dN bT)
open KS (Lc bJ oY dC blk cU)
theorem D4:∀(es:List KM.En) (e:KM.En),(∀j,j<es.length->(KM.aN es j).page<e.page)->KM.mK es e=es++[e]
 | [],e,_=>rfl
 | a::r,e,h=>by
  unfold KM.mK
  rw[if_pos (show a.page<e.page from h 0 (Nat.zero_lt_succ _)),D4 r e (fun j hj=>h (j+1) (Nat.succ_lt_succ hj))]
  rfl
theorem M0:∀(es:List KM.En) (e:KM.En) (n:Nat),n<es.length->(∀j,j<n->(KM.aN es j).page<e.page)->¬(KM.aN es n).page<e.page->KM.mK es e=if (KM.aN es n).page=e.page then es.set n e else es.take n++e::es.drop n
 | [],e,n,hn,_,_=>absurd hn (Nat.not_lt_zero _)
 | a::r,e,0,hn,h,CH=>by
  unfold KM.mK
  have CH:¬a.page<e.page:=CH
  rw[if_neg CH]
  rfl
 | a::r,e,n+1,hn,h,CH=>by
  unfold KM.mK
  rw[if_pos (show a.page<e.page from h 0 (Nat.zero_lt_succ _)),M0 r e n (Nat.lt_of_succ_lt_succ hn) (fun j hj=>h (j+1) (Nat.succ_lt_succ hj)) CH]
  show a::(if (KM.aN r n).page=e.page then _ else _)=if (KM.aN r n).page=e.page then _ else _
  split <;> rfl
theorem Ho (e o:KM.En) (x:Nat) (w:World) (hx:w.cell? (Ad x 0)=some (I e.page)) :
  Calls Tryz.prog 191 #[.agg #[I o.page,I o.kind,I o.loc],.pointer (some (Ad x 0))] w fun r w'=>r=.returned (.bool (decide (e.page<=o.page)))/\Below w.heap.size w w':=by
 obtain⟨pg,kd,lc⟩:=o
 obtain⟨epg,ekd,elc⟩:=e
 simp only at hx ⊢
 have hxl:x<w.heap.size:=World.block_lt_of_cell? w _ hx
 have xA:(w.alloc (.cells #[I pg,I kd,I lc] 45)).cell? (Ad x 0)=some (I epg):=(Below.cell ((Below.refl w.heap.size w).alloc (Nat.le_refl _) _) (p:=(Ad x 0)) hxl).trans hx
 have BN:=ai (B.new w #[I pg,I kd,I lc] 45)
 by_cases c:epg<=pg
 · rw[decide_eq_true c]
   go_enter Tryz.func191,Tryz.ntmps191
   go_wp2
   try go_region
   try go_wp2
   go_ret
   exact⟨by simp,by first | exact(Below.refl _ _).alloc (Nat.le_refl _) _ | exact((Below.refl _ _).alloc (Nat.le_refl _) _).drew⟩
 · rw[decide_eq_false c]
   go_enter Tryz.func191,Tryz.ntmps191
   go_wp2
   try go_region
   try go_wp2
   go_ret
   exact⟨by simp,by first | exact(Below.refl _ _).alloc (Nat.le_refl _) _ | exact((Below.refl _ _).alloc (Nat.le_refl _) _).drew⟩
theorem Cr (V:World) (e:KM.En):(V.alloc (.cells #[I e.page,I e.kind,I e.loc] 45)).ownsRow V.heap.size 45 3 (.slice (some (Ad V.heap.size 0)) 1 1) 1 ([e].flatMap aK) :=
 ⟨rfl,.inr ⟨V.heap.size,1,_,rfl,Nat.le_refl _,B.new V _ _,Nat.le_refl _,by unfold maxLen;omega,rfl,rfl⟩⟩
theorem Km.abI {lo mb:Nat} {tt:TypeId} {X:List Value} {w:World} {S:St} {k:KM.Kn} (h:Km lo mb tt X w S k) {j:Nat} (hj:j<k.aj.length) {g n cap:Nat} (hv:(dC S.L j).vp=.slice (some (Ad g 0)) n cap) {i:Nat} (hi:i<(KM.au k.aj j).aA.length) (e:KM.En) :
  Km lo mb tt X (((w.setCell (Ad g (i*3)) (I e.page)).setCell (Ad g (i*3+1)) (I e.kind)).setCell (Ad g (i*3+2)) (I e.loc)) S { k with aj:=k.aj.set j (KM.dV (KM.au k.aj j) ((KM.au k.aj j).aA.set i e)) } /\
  Ch S w S (((w.setCell (Ad g (i*3)) (I e.page)).setCell (Ad g (i*3+1)) (I e.kind)).setCell (Ad g (i*3+2)) (I e.loc)):=by
 have Xa:∀(ss:List KM.Sp) (es:List KM.En),j<ss.length->KM.au (ss.set j (KM.dV (KM.au k.aj j) es)) j=KM.dV (KM.au k.aj j) es:=fun ss es hl=>by rw[KM.gL _ _ _ _ hl,if_pos rfl]
 have m1:=h.kZ hj hv hi (c:=0) (by omega) (e:=⟨e.page,(KM.aN (KM.au k.aj j).aA i).kind,(KM.aN (KM.au k.aj j).aA i).loc⟩) (u:=I e.page) rfl
 have m2:=m1.1.kZ (j:=j) (by show j<(List.set _ _ _).length;rw[List.length_set];exact hj) hv (i:=i) (by
  show i<(KM.au (List.set _ _ _) j).aA.length
  rw[Xa _ _ hj]
  show i<(List.set _ _ _).length
  rw[List.length_set];exact hi) (c:=1) (by omega) (e:=⟨e.page,e.kind,(KM.aN (KM.au k.aj j).aA i).loc⟩) (u:=I e.kind) (by
  show _=(aK (KM.aN (KM.au (List.set _ _ _) j).aA i)).set 1 _
  rw[Xa _ _ hj]
  show _=(aK ((List.set _ _ _).getD i KM.jI)).set 1 _
  rw[KM.bK _ _ _ _ hi]
  rfl)
 simp only[List.set_set,Xa _ _ hj] at m2
 have m2a:Km lo mb tt X ((w.setCell (Ad g (i*3)) (I e.page)).setCell (Ad g (i*3+1)) (I e.kind)) S { k with aj:=k.aj.set j (KM.dV (KM.au k.aj j) ((KM.au k.aj j).aA.set i ⟨e.page,e.kind,(KM.aN (KM.au k.aj j).aA i).loc⟩)) }:=by
  have:=m2.1
  unfold KM.dV at this ⊢
  simp only[List.set_set] at this ⊢
  exact this
 have m3:=m2a.kZ (j:=j) (by show j<(List.set _ _ _).length;rw[List.length_set];exact hj) hv (i:=i) (by
  show i<(KM.au (List.set _ _ _) j).aA.length
  rw[Xa _ _ hj]
  show i<(List.set _ _ _).length
  rw[List.length_set];exact hi) (c:=2) (by omega) (e:=e) (u:=I e.loc) (by
  show _=(aK (KM.aN (KM.au (List.set _ _ _) j).aA i)).set 2 _
  rw[Xa _ _ hj]
  show _=(aK ((List.set _ _ _).getD i KM.jI)).set 2 _
  rw[KM.bK _ _ _ _ hi]
  rfl)
 simp only[List.set_set,Xa _ _ hj] at m3
 have m3a:Km lo mb tt X (((w.setCell (Ad g (i*3)) (I e.page)).setCell (Ad g (i*3+1)) (I e.kind)).setCell (Ad g (i*3+2)) (I e.loc)) S { k with aj:=k.aj.set j (KM.dV (KM.au k.aj j) ((KM.au k.aj j).aA.set i e)) }:=by
  have:=m3.1
  unfold KM.dV at this ⊢
  simp only[List.set_set] at this ⊢
  exact this
 exact⟨m3a,(m1.2.trans m2.2).trans m3.2⟩
theorem Bf {D:Nat->Prop} {N:Nat} {w0 w1 V:World} {b o:Nat} (hV:Kp D w1 V) (hb:Below N w0 w1) (hl:b<N) (hl0:b<w0.heap.size) (hn:¬D b) (h:w0.frozen? (Ad b o)=false):V.frozen? (Ad b o)=false:=by
 have e1:=hb.block b hl
 have Dh:b<w1.heap.size:=Nat.lt_of_lt_of_le hl0 hb.size
 have e2:=hV.block b Dh hn
 unfold World.frozen? at h ⊢
 simp only[e2,e1]
 exact h
theorem uP (w1:World) (o:Obj):Kp (fun _=>False) w1 ((w1.alloc o).drew):=(Kp.alloc _ _ o).trans (Kp.drew _ _) (fun _ _ g=>g)
theorem UF (w1:World) (e:KM.En):∀i u,(aK e)[i]?=some u->((w1.alloc (.cells #[I e.page,I e.kind,I e.loc] 45)).drew).cell? (((Ad w1.heap.size 0):Addr).add i)=some u:=fun i u hu=>B.news (C:=#[I e.page,I e.kind,I e.loc]) (t:=45) (fr:=(0,0)) (B.new w1 _ _) i u hu
theorem uK {lo mb:Nat} {tt:TypeId} {X:List Value} (k:KM.Kn) (S:St) (w:World) (j:Nat) (e:KM.En) (h:Km lo mb tt X w S k) (hj:j<k.aj.length) (hen:(KM.au k.aj j).aA.length<=1000) (rX:k.aj.length<=1000) :
  Calls Tryz.prog 166 #[.pointer (some (Ad mb 0)),I (j:Int),.agg #[I e.page,I e.kind,I e.loc]] w (gh lo mb tt X w S (.tuple #[]) (KM.dZ k j e)):=by
 have hlo:lo<=w.heap.size:=Nat.le_trans h.lo_le (Nat.le_of_lt h.lt)
 obtain⟨WA,dK⟩:=ex (w.alloc (.cells #[I e.page,I e.kind,I e.loc] 45))
 have cJ:Hid (Below w.heap.size w WA):=by rw[dK];exact(Below.refl w.heap.size w).alloc (Nat.le_refl _) _
 have EX:Hid (WA.heap[w.heap.size]?=some (.cells #[I e.page,I e.kind,I e.loc] 45 (0,0))):=by rw[dK];exact B.new w _ _
 have n0:S.lab w.heap.size=.no:=h.toKr.new (Nat.le_refl _)
 have Qh:=ai (h.below cJ.o)
 obtain⟨pb,cP,A⟩:=Qh.o.toKr.sp (by omega)
 have hrow:=(Qh.o.each j hj).aH
 obtain⟨ae,ce,vq,hcap,hge⟩:=aQ hrow
 obtain⟨es,hes⟩:=ex ((KM.au k.aj j).aA)
 rw[<- hes] at hrow vq hcap hge hen
 rw[vq] at hrow
 have hre:=KI.TP hrow
 have A9:∀b,blk (.slice ae es.length ce) b->S.lab b=.aA j:=fun b hb=>h.lE j hj b (by rw[vq];exact hb)
 have hpl:=A.lab
 have c3:=Qh.o.c3
 rw[A.v] at c3
 have a2:=A.x2 j hj
 rw[vq] at a2
 have La:(j:Int)<(k.aj.length:Int):=by omega
 have Ld:=KW.CB 191 (.inr (.inl rfl)) (fun o=>decide (e.page<=o.page)) es ae ce w.heap.size WA hre (by omega) (fun V o hV=>Ho e o w.heap.size V (B.cell (B.below EX.o hV (B.isLt EX.o)) 0 rfl))
 have HE:Hid (∀V v' fs,Kp (fun b=>S.lab b=.aA j) WA V->V.ownsRow lo 45 3 v' fs.length (fs.flatMap aK)->(∀b,blk v' b->S.lab b=.aA j∨WA.heap.size<=b)->KM.mK es e=fs->gh lo mb tt X w S (.tuple #[]) (KM.dZ k j e) (.returned (.tuple #[])) (V.setCell (Ad pb (j*3+2)) v')):=fun V v' fs h1 h2 h3 h4=>by
  have sw:=Qh.o.gw hj A.v h1 h2 (fun b hb=>by
   rcases h3 b hb with g | g
   · exact .inl g
   · exact .inr (Qh.o.toKr.new g))
  have hK:({ k with aj:=k.aj.set j (KM.dV (KM.au k.aj j) fs) }:KM.Kn)=KM.dZ k j e:=by
   unfold KM.dZ
   rw[<- h4,hes]
  refine⟨rfl,_,hK ▸ sw.1,(Ch.below cJ.o).trans (sw.2 (fun b hb hx=>?_))⟩
  rcases h3 b hx with g | g
  · exact g
  · omega
 have HES:Hid (∀V n g,Below WA.heap.size WA V->n<es.length->ae=some (Ad g 0)->KM.mK es e=es.set n e->gh lo mb tt X w S (.tuple #[]) (KM.dZ k j e) (.returned (.tuple #[])) (((V.setCell (Ad g (n*3)) (I e.page)).setCell (Ad g (n*3+1)) (I e.kind)).setCell (Ad g (n*3+2)) (I e.loc)).drew.drew):=fun V n g hb hn hg hp=>by
  have m:=Qh.o.below hb
  have m1:=KX.Km.abI m hj (g:=g) (by rw[vq,hg]) (i:=n) (by rw[<- hes];exact hn) e
  have hK:({ k with aj:=k.aj.set j (KM.dV (KM.au k.aj j) ((KM.au k.aj j).aA.set n e)) }:KM.Kn)=KM.dZ k j e:=by
   unfold KM.dZ
   rw[<- hes,hp]
  have m1a:=hK ▸ m1.1
  have dr:∀V:World,Below V.heap.size V V.drew:=fun V=>(Below.refl _ _).drew
  exact⟨rfl,S,(m1a.below (dr _)).below (dr _),((((Ch.below cJ.o).trans (Ch.below hb)).trans m1.2).trans (Ch.below (dr _))).trans (Ch.below (dr _))⟩
 obtain⟨P,hP⟩:=ex (gh lo mb tt X w S (.tuple #[]) (KM.dZ k j e))
 rw[<- hP] at HE HES ⊢
 obtain⟨np,Ra⟩:=ex k.aj.length
 rw[<- Ra] at c3 La
 have G6:=A.lt
 have oa:mb<WA.heap.size:=Qh.o.lt
 have hxl:=B.isLt EX.o
 have Yj:=A.fz (j*3+2)
 have Xf:Hid (∀b,blk (.slice ae es.length ce) b->b≠pb/\b≠w.heap.size/\b<WA.heap.size):=fun b hb=>⟨fun z=>by have:=A9 b hb;rw[z,hpl] at this;simp at this,fun z=>by have:=A9 b hb;rw[z,n0] at this;simp at this,(hrow.lt b hb).2⟩
 have Mk:=ai A9
 have C4:=ai hrow
 have HGE:=ai hge
 have gp:=ai dK
 have Qk:=ai hre
 obtain⟨i0,hin,hz0,hz1,hz2⟩:=info_parts yF
 have qI:=ai hin
 have wS:=ai hz0
 have wR:=ai hz1
 have uO:=ai hz2
 have hlA:lo<=WA.heap.size:=Nat.le_trans hlo cJ.o.size
 have aiE:es.length<=1000:=by omega
 by_cases hall:∀i,i<es.length->(KM.aN es i).page<e.page
 · have HP0:=ai (D4 es e hall)
   have BH:Hid (Calls Tryz.prog 153 #[.slice ae es.length ce,.func (.func 191) #[] #[.pointer (some (Ad w.heap.size 0))]] WA fun r w'=>r=.returned (I (-1))/\Below WA.heap.size WA w'):=Ld.mono fun r w' ⟨hb,hh⟩=>by
    rcases hh with⟨he,_⟩ | ⟨m,hm,_,hy,_⟩
    · exact⟨he,hb⟩
    · have:=of_decide_eq_true hy
      have:=hall m hm
      omega
   clear Ld dK h hrow hge hre A9 Qh A vq hes hP Ra hin hz0 hz1 hz2 hall rX hj hen hlo
   go_enter Tryz.func166,Tryz.ntmps166
   go_upto_region 1 with fail
   rw[<- gp.o]
   go_upto_region 5 with(go_at_call 153;refine BH.o.mono ?_;rintro r w1 ⟨rfl,hb1⟩;have bI:=ai hb1;clear hb1)
   have eX:Hid (Kp (fun b=>blk (.slice ae es.length ce) b) w1 w1.drew):=Kp.drew _ _
   have FJ:Hid (∀o,Kp (fun b=>blk (.slice ae es.length ce) b) w1 ((w1.alloc o).drew)):=fun o=>(Kp.alloc _ _ o).trans (Kp.drew _ _) (fun _ _ g=>g)
   have cA:Hid (∀V,Kp (fun b=>blk (.slice ae es.length ce) b) w1 V->V.cell? (Ad pb (j*3+2))=some (.slice ae es.length ce)/\V.cell? (Ad w.heap.size 0)=some (I e.page)/\V.cell? (Ad w.heap.size 1)=some (I e.kind)/\V.cell? (Ad w.heap.size 2)=some (I e.loc)/\V.frozen? (Ad pb (j*3+2))=false):=fun V hV=>by
    have b1:=B.below EX.o bI.o (B.isLt EX.o)
    have b2:=hV.keep b1 (fun g=>(Xf.o _ g).2.1 rfl)
    refine⟨hV.cell ((bI.o.cell (p:=(Ad pb (j*3+2))) G6).trans a2) (fun g=>(Xf.o _ g).1 rfl),B.cell b2 0 rfl,B.cell b2 1 rfl,B.cell b2 2 rfl,?_⟩
    exact Bf hV bI.o G6 G6 (fun g=>(Xf.o _ g).1 rfl) Yj
   have Ii:Hid (∀o,((w1.alloc o).drew).ownsRow lo 45 3 (.slice ae es.length ce) es.length (es.flatMap aK)):=fun o=>((uP w1 o).row ((Kp.aY (D:=fun _=>False) bI.o).row C4.o (fun _ _ g=>g)) (fun _ _ g=>g))
   have hsz:=bI.o.size
   refine GZ.p8 (S:=fun V=>Kp (fun b=>blk (.slice ae es.length ce) b) w1 V) (z:=10) (by kernel_rfl) ?_
   refine GZ.tk 0 eX.o ?_ ?_ ?_
   rotate_left 1
   · intro V h
     obtain⟨k0,k1,k2,k3,k4⟩:=cA.o V h
     go_simp
     try with_reducible rfl
   refine GZ.tk 1 eX.o ?_ ?_ ?_
   rotate_left 1
   · intro V h
     obtain⟨k0,k1,k2,k3,k4⟩:=cA.o V h
     go_simp
     try with_reducible rfl
   refine GZ.tk 2 eX.o ?_ ?_ ?_
   rotate_left 1
   · intro V h
     obtain⟨k0,k1,k2,k3,k4⟩:=cA.o V h
     go_simp
     try with_reducible rfl
   refine GZ.tk 3 eX.o ?_ ?_ ?_
   rotate_left 1
   · intro V h
     obtain⟨k0,k1,k2,k3,k4⟩:=cA.o V h
     go_simp
     try with_reducible rfl
   refine GZ.tk 4 eX.o ?_ ?_ ?_
   rotate_left 1
   · intro V h
     obtain⟨k0,k1,k2,k3,k4⟩:=cA.o V h
     go_simp
     try with_reducible rfl
   refine GZ.tk 5 eX.o ?_ ?_ ?_
   rotate_left 1
   · intro V h
     obtain⟨k0,k1,k2,k3,k4⟩:=cA.o V h
     go_simp
     try with_reducible rfl
   refine GZ.all (rs:=[6]) (by kernel_rfl) (by simp) ?_
   refine GZ.aV.cons rfl (fun K hK=>?_) GZ.aV.nil
   go_simp
   refine hK.out _ _ (fun _=>?_) ?_
   · exact FJ.o _
   clear hK K
   try simp only[Act.put,List.setIfInBounds_toArray,List.set_cons_zero,List.set_cons_succ]
   refine GZ.all (rs:=[7]) (by kernel_rfl) (by simp) ?_
   refine GZ.aV.cons rfl (fun K hK=>?_) GZ.aV.nil
   rw[if_pos (by rfl)];refine cY (P:=Tryz.prog) _ _ 41 rfl lo 45 i0 (.agg #[I 0,I 0,I 0]) 3 24 Tryz.underlying41 qI.o wS.o wR.o uO.o rfl (by decide) (.slice ae es.length ce) es.length (es.flatMap aK) rfl (Ii.o _) (some (Ad w1.heap.size 0)) 1 1 (aK e) rfl rfl (fun _=>⟨_,rfl,UF w1 e⟩) (by intro u hu;simp[aK] at hu;rcases hu with rfl | rfl | rfl <;> rfl) (by unfold maxLen;omega) (by omega) (by simp;omega) ?_;intro vG wG sJ uE wM;obtain⟨aG,cG,Er,_,_⟩:=aQ sJ;subst Er;have pE:Hid (Kp (fun b=>blk (.slice ae es.length ce) b) w1 wG):=(FJ.o _).trans (Kp.grown (D:=fun b=>blk (.slice ae es.length ce) b) uE (fun q hq=>hq)) (fun _ _ g=>g);have HOG:=ai sJ;have HAG:=ai wM;clear sJ uE wM
   refine hK.out _ _ (fun _=>?_) ?_
   · exact pE.o
   clear hK K
   try simp only[Act.put,List.setIfInBounds_toArray,List.set_cons_zero,List.set_cons_succ]
   refine GZ.all (rs:=[8]) (by kernel_rfl) (by simp) ?_
   refine GZ.aV.cons rfl (fun K hK=>?_) GZ.aV.nil
   go_simp
   refine hK.out _ _ (fun _=>?_) ?_
   · exact pE.o
   clear hK K
   try simp only[Act.put,List.setIfInBounds_toArray,List.set_cons_zero,List.set_cons_succ]
   refine GZ.tk 9 pE.o ?_ ?_ ?_
   rotate_left 1
   · intro V h
     obtain⟨k0,k1,k2,k3,k4⟩:=cA.o V h
     go_simp
     try with_reducible rfl
   obtain⟨k0,k1,k2,k3,k4⟩:=cA.o wG pE.o
   refine GZ.all (rs:=[10]) (by kernel_rfl) (by simp) ?_
   refine GZ.aV.cons rfl (fun K hK=>?_) GZ.aV.nil
   go_simp
   refine hK.out _ _ (fun g=>absurd rfl g) ?_
   refine GZ.done (by kernel_rfl) ?_ _
   go_wp2
   refine bodyPost_end (v:=.tuple #[]) (by simp[results,Tryz.results166,go_sem]) rfl ?_
   refine HE.o wG _ (es++[e]) ?_ (by rw[List.length_append,List.flatMap_append];simpa using HOG.o) (fun b hb=>?_) HP0.o
   · exact(Kp.aY bI.o).trans pE.o (fun b _ hx=>Mk.o b hx)
   · rcases HAG.o with g | g
     · exact .inl (Mk.o b (by show Value.ownBlock _=_;rw[<- g];exact hb))
     · right
       have hb:Value.ownBlock _=some b:=hb
       rw[g] at hb
       injection hb with hb
       have:((w1.alloc (.cells #[I e.page,I e.kind,I e.loc] 45)).drew).heap.size=w1.heap.size+1:=World.size_alloc _ _
       omega
 · have hex:∃n,n<es.length/\(∀i,i<n->(KM.aN es i).page<e.page)/\¬(KM.aN es n).page<e.page:=by
    obtain⟨n,hn⟩:=Classical.not_forall.1 hall
    rw[Classical.not_imp] at hn
    obtain⟨Oe,q9⟩:=hn
    induction n using Nat.strongRecOn with
    | _ n ih =>
     by_cases c:∃m,m<n/\¬(KM.aN es m).page<e.page
     · obtain⟨m,kj,hm2⟩:=c
       exact ih m kj (by omega) hm2
     · exact⟨n,Oe,fun i hi=>Classical.not_not.1 fun z=>c ⟨i,hi,z⟩,q9⟩
   obtain⟨n,hn,uD,CH⟩:=hex
   have hput:=M0 es e n hn uD CH
   have BH:Hid (Calls Tryz.prog 153 #[.slice ae es.length ce,.func (.func 191) #[] #[.pointer (some (Ad w.heap.size 0))]] WA fun r w'=>r=.returned (I (n:Int))/\Below WA.heap.size WA w'):=Ld.mono fun r w' ⟨hb,hh⟩=>by
    rcases hh with⟨_,hno⟩ | ⟨m,hm,he,hy,hno⟩
    · have:=of_decide_eq_false (hno n hn)
      omega
    · have hy:=of_decide_eq_true hy
      have:m=n:=by
       rcases Nat.lt_trichotomy m n with g | g | g
       · have:=uD m g;omega
       · exact g
       · have:=of_decide_eq_false (hno n g);omega
      subst this
      exact⟨he,hb⟩
   obtain⟨eb,P5,_,Rk⟩:=hge (by omega)
   subst P5
   have hni:(n:Int)<(es.length:Int):=by omega
   have hn0:(0:Int)<=(n:Int):=by omega
   have HXE:Hid (∀V,Below WA.heap.size WA V->V.cell? (Ad eb (n*3))=some (I (KM.aN es n).page)/\V.cell? (Ad eb (n*3+1))=some (I (KM.aN es n).kind)/\V.cell? (Ad eb (n*3+2))=some (I (KM.aN es n).loc)/\(∀q,V.frozen? (Ad eb q)=false)/\V.cell? (Ad pb (j*3+2))=some (.slice (some (Ad eb 0)) es.length ce)/\V.cell? (Ad w.heap.size 0)=some (I e.page)/\V.cell? (Ad w.heap.size 1)=some (I e.kind)/\V.cell? (Ad w.heap.size 2)=some (I e.loc)):=fun V hV=>by
    have hr:=(Kp.aY (D:=fun _=>False) hV).row hrow (fun _ _ g=>g)
    have b1:=B.below EX.o hV (B.isLt EX.o)
    exact⟨iQ aK (fun _=>rfl) KM.jI hr n 0 hn (by omega),iQ aK (fun _=>rfl) KM.jI hr n 1 hn (by omega),iQ aK (fun _=>rfl) KM.jI hr n 2 hn (by omega),dn hr,(hV.cell (p:=(Ad pb (j*3+2))) G6).trans a2,B.cell b1 0 rfl,B.cell b1 1 rfl,B.cell b1 2 rfl⟩
   by_cases c:(KM.aN es n).page=e.page
   · rw[if_pos c] at hput
     have LR:=ai hput
     have cb:((KM.aN es n).page==e.page)=true:=by simpa using c
     obtain⟨Z,hZ⟩:=ex (KM.aN es n)
     rw[<- hZ] at HXE cb
     clear Ld dK h hrow hge hre A9 Qh A vq hes hP Ra hin hz0 hz1 hz2 hall rX hj hen hlo hput uD CH hZ c
     go_enter Tryz.func166,Tryz.ntmps166
     go_upto_region 1 with fail
     rw[<- gp.o]
     go_upto_region 6 with(go_at_call 153;refine BH.o.mono ?_;rintro r w1 ⟨rfl,hb1⟩;have bI:=ai hb1;clear hb1)
     obtain⟨y0,y1,y2,yf,y3,y4,y5,y6⟩:=HXE.o w1 bI.o
     have yf0:=yf (n*3)
     have yf1:=yf (n*3+1)
     have yf2:=yf (n*3+2)
     clear yf
     go_region
     go_upto_region 7 with fail
     go_region
     go_wp2
     refine bodyPost_end (v:=.tuple #[]) (by simp[results,Tryz.results166,go_sem]) rfl ?_
     exact HES.o w1 n eb bI.o hn rfl LR.o
   · rw[if_neg c] at hput
     have LR:=ai hput
     have cb:((KM.aN es n).page==e.page)=false:=by simpa using c
     have adQ:Hid (∀V,Kp (fun b=>blk (.slice (some (Ad eb 0)) es.length ce) b) WA V->V.ownsRow lo 45 3 (.slice (some (Ad eb 0)) es.length ce) es.length (es.flatMap aK)->WA.heap.size<=V.heap.size->Calls Tryz.prog 192 #[.slice (some (Ad eb 0)) es.length ce,I (n:Int),.slice (some (Ad V.heap.size 0)) 1 1] ((V.alloc (.cells #[I e.page,I e.kind,I e.loc] 45)).drew) fun r w'=>∃av nv cv,r=.returned (.slice av nv cv)/\w'.ownsRow lo 45 3 (.slice av nv cv) (es.take n++e::es.drop n).length ((es.take n++e::es.drop n).flatMap aK)/\Kp (fun b=>blk (.slice (some (Ad eb 0)) es.length ce) b) V w'/\(∀b,blk (.slice av nv cv) b->blk (.slice (some (Ad eb 0)) es.length ce) b∨WA.heap.size<=b)):=fun V hV hr hsz=>by
      have k1:Kp (fun _=>False) V ((V.alloc (.cells #[I e.page,I e.kind,I e.loc] 45)).drew):=(Kp.alloc _ _ _).trans (Kp.drew _ _) (fun _ _ g=>g)
      have r1:=k1.row hr (fun _ _ g=>g)
      have r2:((V.alloc (.cells #[I e.page,I e.kind,I e.loc] 45)).drew).ownsRow V.heap.size 45 3 (.slice (some (Ad V.heap.size 0)) [e].length 1) [e].length ([e].flatMap aK):=(Kp.drew (fun _=>False) _).row (Cr V e) (fun _ _ g=>g)
      have hs1:((V.alloc (.cells #[I e.page,I e.kind,I e.loc] 45)).drew).heap.size=V.heap.size+1:=World.size_alloc _ _
      refine(KI.GX lo es [e] (.slice (some (Ad eb 0)) es.length ce) (.slice (some (Ad V.heap.size 0)) 1 1) V.heap.size n _ r1 r2 (by omega) (fun b h1 h2=>?_) (by omega) (by simp) (by omega) (by simp)).mono fun r w' ⟨v',g1,g2,g3,g4⟩=>?_
      · have:V.heap.size=b:=by injection h1
        have:=(hr.lt b h2).2
        omega
      · obtain⟨av,cv,rfl,_,_⟩:=aQ g2
        refine⟨av,_,cv,g1,g2,(k1.mono (fun _ _ z=>z.elim)).trans g3 (fun _ _ z=>z),fun b hb=>?_⟩
        rcases g4 b hb with z | z
        · exact .inl z
        · exact .inr (by omega)
     obtain⟨Z,hZ⟩:=ex (KM.aN es n)
     rw[<- hZ] at HXE cb
     clear Ld dK h hrow hge hre A9 Qh A vq hes hP Ra hin hz0 hz1 hz2 hall rX hj hen hlo hput uD CH hZ c
     go_enter Tryz.func166,Tryz.ntmps166
     go_upto_region 1 with fail
     rw[<- gp.o]
     go_upto_region 6 with(go_at_call 153;refine BH.o.mono ?_;rintro r w1 ⟨rfl,hb1⟩;have bI:=ai hb1;clear hb1)
     obtain⟨y0,y1,y2,yf,y3,y4,y5,y6⟩:=HXE.o w1 bI.o
     clear yf
     go_region
     go_upto_region 3 with fail
     clear y0 y1 y2 y3 y4 y5 y6
     have ck:Hid (Below WA.heap.size WA w1.drew):=bI.o.drew
     clear bI
     obtain⟨w2,hw2⟩:=ex w1.drew
     rw[<- hw2] at ck ⊢
     clear hw2
     have eX:Hid (Kp (fun b=>blk (.slice (some (Ad eb 0)) es.length ce) b) w2 w2.drew):=Kp.drew _ _
     have FJ:Hid (∀o,Kp (fun b=>blk (.slice (some (Ad eb 0)) es.length ce) b) w2 ((w2.alloc o).drew)):=fun o=>(Kp.alloc _ _ o).trans (Kp.drew _ _) (fun _ _ g=>g)
     have cA:Hid (∀V,Kp (fun b=>blk (.slice (some (Ad eb 0)) es.length ce) b) w2 V->V.cell? (Ad pb (j*3+2))=some (.slice (some (Ad eb 0)) es.length ce)/\V.cell? (Ad w.heap.size 0)=some (I e.page)/\V.cell? (Ad w.heap.size 1)=some (I e.kind)/\V.cell? (Ad w.heap.size 2)=some (I e.loc)/\V.frozen? (Ad pb (j*3+2))=false):=fun V hV=>by
      have b1:=B.below EX.o ck.o (B.isLt EX.o)
      have b2:=hV.keep b1 (fun g=>(Xf.o _ g).2.1 rfl)
      refine⟨hV.cell ((ck.o.cell (p:=(Ad pb (j*3+2))) G6).trans a2) (fun g=>(Xf.o _ g).1 rfl),B.cell b2 0 rfl,B.cell b2 1 rfl,B.cell b2 2 rfl,?_⟩
      exact Bf hV ck.o G6 G6 (fun g=>(Xf.o _ g).1 rfl) Yj
     have adR:=ai (adQ.o w2 (Kp.aY ck.o) ((Kp.aY (D:=fun _=>False) ck.o).row C4.o (fun _ _ g=>g)) ck.o.size)
     have hsz:=ck.o.size
     refine GZ.p8 (S:=fun V=>Kp (fun b=>blk (.slice (some (Ad eb 0)) es.length ce) b) w2 V) (z:=11) (by kernel_rfl) ?_
     refine GZ.tk 0 eX.o ?_ ?_ ?_
     rotate_left 1
     · intro V h
       obtain⟨k0,k1,k2,k3,k4⟩:=cA.o V h
       go_simp
       try with_reducible rfl
     refine GZ.tk 1 eX.o ?_ ?_ ?_
     rotate_left 1
     · intro V h
       obtain⟨k0,k1,k2,k3,k4⟩:=cA.o V h
       go_simp
       try with_reducible rfl
     refine GZ.tk 2 eX.o ?_ ?_ ?_
     rotate_left 1
     · intro V h
       obtain⟨k0,k1,k2,k3,k4⟩:=cA.o V h
       go_simp
       try with_reducible rfl
     refine GZ.tk 3 eX.o ?_ ?_ ?_
     rotate_left 1
     · intro V h
       obtain⟨k0,k1,k2,k3,k4⟩:=cA.o V h
       go_simp
       try with_reducible rfl
     refine GZ.tk 4 eX.o ?_ ?_ ?_
     rotate_left 1
     · intro V h
       obtain⟨k0,k1,k2,k3,k4⟩:=cA.o V h
       go_simp
       try with_reducible rfl
     refine GZ.tk 5 eX.o ?_ ?_ ?_
     rotate_left 1
     · intro V h
       obtain⟨k0,k1,k2,k3,k4⟩:=cA.o V h
       go_simp
       try with_reducible rfl
     refine GZ.tk 6 eX.o ?_ ?_ ?_
     rotate_left 1
     · intro V h
       obtain⟨k0,k1,k2,k3,k4⟩:=cA.o V h
       go_simp
       try with_reducible rfl
     refine GZ.all (rs:=[7]) (by kernel_rfl) (by simp) ?_
     refine GZ.aV.cons rfl (fun K hK=>?_) GZ.aV.nil
     go_simp
     refine hK.out _ _ (fun _=>?_) ?_
     · exact FJ.o _
     clear hK K
     try simp only[Act.put,List.setIfInBounds_toArray,List.set_cons_zero,List.set_cons_succ]
     refine GZ.all (rs:=[8]) (by kernel_rfl) (by simp) ?_
     refine GZ.aV.cons rfl (fun K hK=>?_) GZ.aV.nil
     rw[if_pos (by rfl)];go_simp;go_at_call 192;refine adR.o.mono ?_;rintro r wG ⟨aG,nG,cG,rfl,sJ,hkG,wM⟩;have pE:Hid (Kp (fun b=>blk (.slice (some (Ad eb 0)) es.length ce) b) w2 wG):=hkG;have HOG:=ai sJ;have HAG:=ai wM;clear sJ hkG wM;try go_simp
     refine hK.out _ _ (fun _=>?_) ?_
     · exact pE.o
     clear hK K
     try simp only[Act.put,List.setIfInBounds_toArray,List.set_cons_zero,List.set_cons_succ]
     refine GZ.all (rs:=[9]) (by kernel_rfl) (by simp) ?_
     refine GZ.aV.cons rfl (fun K hK=>?_) GZ.aV.nil
     go_simp
     refine hK.out _ _ (fun _=>?_) ?_
     · exact pE.o
     clear hK K
     try simp only[Act.put,List.setIfInBounds_toArray,List.set_cons_zero,List.set_cons_succ]
     refine GZ.tk 10 pE.o ?_ ?_ ?_
     rotate_left 1
     · intro V h
       obtain⟨k0,k1,k2,k3,k4⟩:=cA.o V h
       go_simp
       try with_reducible rfl
     obtain⟨k0,k1,k2,k3,k4⟩:=cA.o wG pE.o
     refine GZ.all (rs:=[11]) (by kernel_rfl) (by simp) ?_
     refine GZ.aV.cons rfl (fun K hK=>?_) GZ.aV.nil
     go_simp
     refine hK.out _ _ (fun g=>absurd rfl g) ?_
     refine GZ.done (by kernel_rfl) ?_ _
     go_wp2
     refine bodyPost_end (v:=.tuple #[]) (by simp[results,Tryz.results166,go_sem]) rfl ?_
     refine HE.o wG _ (es.take n++e::es.drop n) ((Kp.aY ck.o).trans pE.o (fun b _ hx=>Mk.o b hx)) HOG.o (fun b hb=>?_) LR.o
     rcases HAG.o b hb with g | g
     · exact .inl (Mk.o b g)
     · exact .inr g
end KX
namespace KX
open Go.RowKit GK KO
open FW (ai aB)
open KW (bE bD aK aZ fu cI aJ dN bT dU)
open KS (Lc bJ oY dC blk cU)
theorem vV (k:KM.Kn) (j:Nat) (x e:KM.En):KM.dZ (KM.cN k e) j x=KM.cN (KM.dZ k j x) e:=by unfold KM.cN KM.dZ;split <;> rfl
def uS (X:List Value) (hs:List LM.Sh):Prop:=∀n:Nat,n<256->X[n]?=some (.string (KM.filled hs n))
theorem CV {lo mb:Nat} {tt:TypeId} {X:List Value} (k:KM.Kn) (S:St) (w:World) (j:Nat) (p:Int) (h:Km lo mb tt X w S k) (hR:KM.aU k) (hj:j<k.aj.length) :
  Calls Tryz.prog 118 #[.pointer (some (Ad mb 0)),I (j:Int),I p] w fun e w'=>e=.returned (.tuple #[dN (dU (KM.au k.aj j).aA p).1,.bool (dU (KM.au k.aj j).aA p).2])/\Below w.heap.size w w':=by
 have hcc:=hR.c
 have hen:=je hR hj
 obtain⟨pb,cP,A⟩:=h.toKr.sp (by omega)
 obtain⟨ae,ce,vq,hre⟩:=h.toKr.aA hj
 have c3:=h.c3
 rw[A.v] at c3
 have a2:=A.x2 j hj
 rw[vq] at a2
 have e0:0+j*3+2=j*3+2:=by omega
 exact KW.Bn (KM.au k.aj j).aA p j k.aj.length mb pb 0 cP ae ce w c3 hj (by rw[e0];exact a2) hre (by omega) (by omega)
theorem Cl {lo mb:Nat} {tt:TypeId} {X:List Value} (k:KM.Kn) (S:St) (w:World) (j:Nat) (p:Int) (held:List Int) (ah:Option Addr) (ch:Nat) (e:KM.En) (h:Km lo mb tt X w S k) (hR:KM.aU k) (hj:j<k.aj.length) (he:KM.bc (KM.au k.aj j).aA p=some e) (hk:e.kind=1) :
  Calls Tryz.prog 141 #[.pointer (some (Ad mb 0)),I (j:Int),I p,.slice ah held.length ch] w (gh lo mb tt X w S (I ((KM.bY k j p held).1:Int)) (KM.bY k j p held).2):=by
 have iG:=ai (CV k S w j p h hR hj)
 have e1:dU (KM.au k.aj j).aA p=(e,true):=by unfold KW.dU;rw[he]
 rw[e1] at iG
 have hP:KM.bY k j p held=(e.loc.toNat,k):=by
  unfold KM.bY
  rw[he]
  show(if e.kind=1 then _ else _)=_
  rw[if_pos hk]
 have hb:=(KM.fV hR hj (KM.jo he)).resolve_right (fun y=>by omega)
 rw[hP]
 have bw:Hid (∀V,Below w.heap.size w V->gh lo mb tt X w S (I ((e.loc.toNat:Nat):Int)) k (.returned (I e.loc)) V):=fun V hV=>⟨by rw[hb.2.1],S,h.below hV,Ch.below hV⟩
 obtain⟨P,Jf⟩:=ex (gh lo mb tt X w S (I ((e.loc.toNat:Nat):Int)) k)
 rw[<- Jf] at bw ⊢
 obtain⟨pg,kd,lc⟩:=e
 unfold dN at iG
 simp only at iG bw hk
 have kb:(kd==1)=true:=by simpa using hk
 clear hP Jf e1 he h hR hj hb hk
 go_enter Tryz.func141,Tryz.ntmps141
 go_wp2_with (go_at_call 118;refine iG.o.mono ?_;rintro r w1 ⟨rfl,hb1⟩;have bI:=ai hb1;have BX:=B.new w1 #[I pg,I kd,I lc] 45;obtain⟨d0,d1,d2⟩:=B.c3 BX;clear hb1 BX)
 exact bw.o _ (bI.o.alloc bI.o.size _)
theorem wH {lo mb:Nat} {tt:TypeId} {X:List Value} (k:KM.Kn) (S:St) (w:World) (j:Nat) (p:Int) (held:List Int) (ah:Option Addr) (ch:Nat) (e:KM.En) (h:Km lo mb tt X w S k) (hR:KM.aU k) (hj:j<k.aj.length) (he:KM.bc (KM.au k.aj j).aA p=some e) (hk:e.kind≠1) (hl:held.length<=2) (hH:Held w S ah held) :
  Calls Tryz.prog 141 #[.pointer (some (Ad mb 0)),I (j:Int),I p,.slice ah held.length ch] w (gh lo mb tt X w S (I ((KM.bY k j p held).1:Int)) (KM.bY k j p held).2):=by
 have iG:=ai (CV k S w j p h hR hj)
 have e1:dU (KM.au k.aj j).aA p=(e,true):=by unfold KW.dU;rw[he]
 rw[e1] at iG
 have hP:KM.bY k j p held=((KM.bR k held).1,KM.cW (KM.bR k held).2 j p (KM.bR k held).1 (KM.bG (KM.bR k held).2.slots e.loc.toNat).data true):=by
  unfold KM.bY
  rw[he]
  show(if e.kind=1 then _ else _)=_
  rw[if_neg hk]
 have hb:=(KM.fV hR hj (KM.jo he)).resolve_left (fun y=>hk y.1)
 have G:=KM.m6 hR hl
 have hent:KM.bc (KM.au (KM.bR k held).2.aj j).aA p=some e:=by rw[G.vW j hj p (fun x hx=>by rw[he] at hx;injection hx with hx;subst hx;exact fun y=>hk y.1),he]
 have hmv:KM.cW (KM.bR k held).2 j p (KM.bR k held).1 (KM.bG (KM.bR k held).2.slots e.loc.toNat).data true=KM.dZ (KM.cN (KM.jb (KM.bR k held).2 (KM.bR k held).1 (KM.bG (KM.bR k held).2.slots e.loc.toNat).data true) e) j ⟨p,1,(KM.bR k held).1⟩:=by
  rw[vV]
  unfold KM.cW
  rw[hent]
 rw[hP,hmv]
 have hcc:=hR.c
 have Bb:j<(KM.bR k held).2.aj.length:=by rw[G.kept.np];exact hj
 have hi1:(KM.bR k held).1<(KM.bR k held).2.frames.length:=by rw[G.kept.nf];exact G.lt
 have hs1:e.loc.toNat<(KM.bR k held).2.slots.length:=by rw[G.kept.ns];exact hb.2.2
 have hrf:=(nR G.right).2 e.loc.toNat hs1
 have Hb:=je G.right Bb
 have Oa:=G.kept.np
 have Wt:Hid (∀V,Below w.heap.size w V->Calls Tryz.prog 165 #[.pointer (some (Ad mb 0)),.slice ah held.length ch] V (gh lo mb tt X V S (I ((KM.bR k held).1:Int)) (KM.bR k held).2)):=fun V hV=>CP k S V held ah ch (h.below hV) hR hl (hH.ch (Ch.below hV))
 obtain⟨k1,hk1⟩:=ex ((KM.bR k held).2)
 obtain⟨i,hi⟩:=ex ((KM.bR k held).1)
 rw[<- hk1,<- hi] at Wt hi1
 rw[<- hk1] at hs1 hrf Bb Hb Oa
 rw[<- hk1,<- hi]
 obtain⟨D,hD⟩:=ex ((KM.bG k1.slots e.loc.toNat).data)
 rw[<- hD]
 have wW:Hid (∀V S',Km lo mb tt X V S' k1->∃fb cF lb cL,V.cell? (Ad mb 1)=some (.slice (some (Ad fb 0)) k1.frames.length cF)/\V.cell? (Ad mb 2)=some (.slice (some (Ad lb 0)) k1.slots.length cL)/\V.cell? (Ad lb (e.loc.toNat*2))=some (.string D)/\V.cell? (Ad fb (i*4))=some (.string (KM.aI k1.frames i).data)/\V.cell? (Ad fb (i*4+1))=some (I (KM.aI k1.frames i).refs)/\V.cell? (Ad fb (i*4+2))=some (.bool (KM.aI k1.frames i).b9)/\V.cell? (Ad fb (i*4+3))=some (.bool (KM.aI k1.frames i).seen)/\V.frozen? (Ad fb (i*4))=false/\V.frozen? (Ad fb (i*4+1))=false/\V.frozen? (Ad fb (i*4+2))=false/\V.frozen? (Ad fb (i*4+3))=false /\
   (∀U,U=((((V.setCell (Ad fb (i*4)) (.string D)).setCell (Ad fb (i*4+1)) (I 1)).setCell (Ad fb (i*4+2)) (.bool true)).setCell (Ad fb (i*4+3)) (.bool false)).drew->Km lo mb tt X U S' (KM.jb k1 i D true)/\Ch S' V S' U)):=fun V S' hV=>by
  obtain⟨fb,cF,A⟩:=hV.toKr.fr (by omega)
  obtain⟨lb,cL,AL⟩:=hV.toKr.sl (by omega)
  have c1:=hV.c1
  have c2:=hV.c2
  rw[A.v] at c1
  rw[AL.v] at c2
  refine⟨fb,cF,lb,cL,c1,c2,by rw[hD];exact AL.x0 _ hs1,A.x0 i hi1,A.x1 i hi1,A.x2 i hi1,A.x3 i hi1,A.fz _,A.fz _,A.fz _,A.fz _,fun U hU=>?_⟩
  have m:=hV.NI A.v hi1 ⟨D,1,true,false⟩
  subst hU
  exact⟨m.1.below (Below.refl _ _).drew,m.2.trans (Ch.below (Below.refl _ _).drew)⟩
 have Qo:Hid (∀V S',Km lo mb tt X V S' (KM.jb k1 i D true)->Calls Tryz.prog 85 #[.pointer (some (Ad mb 0)),.agg #[I e.page,I e.kind,I e.loc],I (-1)] V (nD lo mb tt X V S' (.tuple #[]) (KM.cN (KM.jb k1 i D true) e))):=fun V S' hV=>by
  rw[<- KM.vY]
  refine uL _ S' V e (-1) hV (fun c=>absurd c hk) (fun _=>?_) (.inr rfl) ⟨fun c=>absurd c hk,fun _=>?_⟩
  · show 0<=e.loc/\e.loc<(k1.slots.length:Int)
    omega
  · show -1000000<=(KM.bG k1.slots e.loc.toNat).refs/\(KM.bG k1.slots e.loc.toNat).refs<=1000000
    omega
 have Qn:Hid (∀V S',Km lo mb tt X V S' (KM.cN (KM.jb k1 i D true) e)->Calls Tryz.prog 166 #[.pointer (some (Ad mb 0)),I (j:Int),.agg #[I p,I 1,I (i:Int)]] V (gh lo mb tt X V S' (.tuple #[]) (KM.dZ (KM.cN (KM.jb k1 i D true) e) j ⟨p,1,i⟩))):=fun V S' hV=>by
  have hsp:(KM.cN (KM.jb k1 i D true) e).aj=k1.aj:=KM.tv _ _
  exact uK _ S' V j ⟨p,1,i⟩ hV (by rw[hsp];exact Bb) (by rw[hsp];omega) (by rw[hsp];omega)
 have bw:Hid (∀V S',Km lo mb tt X V S' (KM.dZ (KM.cN (KM.jb k1 i D true) e) j ⟨p,1,i⟩)->Ch S w S' V->gh lo mb tt X w S (I (i:Int)) (KM.dZ (KM.cN (KM.jb k1 i D true) e) j ⟨p,1,i⟩) (.returned (I (i:Int))) V):=fun V S' h1 h2=>⟨rfl,S',h1,h2⟩
 obtain⟨K3,hK3⟩:=ex (KM.dZ (KM.cN (KM.jb k1 i D true) e) j ⟨p,1,i⟩)
 rw[<- hK3] at Qn bw ⊢
 obtain⟨K2,hK2⟩:=ex (KM.cN (KM.jb k1 i D true) e)
 rw[<- hK2] at Qo Qn
 obtain⟨K1,OL⟩:=ex (KM.jb k1 i D true)
 rw[<- OL] at wW Qo
 obtain⟨P,Jf⟩:=ex (gh lo mb tt X w S (I (i:Int)) K3)
 rw[<- Jf] at bw ⊢
 have iV:Hid (∀V:World,w.heap.size<=V.heap.size->S.lab V.heap.size=.no):=fun V hV=>h.toKr.new hV
 obtain⟨FR,Bd⟩:=ex (KM.aI k1.frames i)
 rw[<- Bd] at wW
 obtain⟨nf,l6⟩:=ex k1.frames.length
 obtain⟨nl,hnl⟩:=ex k1.slots.length
 rw[<- l6,<- hnl] at wW
 obtain⟨m,hm⟩:∃m:Nat,e.loc=(m:Int):=⟨e.loc.toNat,by omega⟩
 rw[hm,Int.toNat_natCast] at wW
 have WN:(m:Int)<(nl:Int):=by rw[hm,Int.toNat_natCast] at hs1;omega
 have G9:(i:Int)<(nf:Int):=by omega
 obtain⟨pg,kd,lc⟩:=e
 unfold dN at iG
 simp only at iG hk Qo hm
 subst hm
 have kb:(kd==1)=false:=by simpa using hk
 clear hP Jf e1 he h hR hj hb hk G hent hmv hcc Bb hi1 hs1 hrf Hb Oa hk1 hi hD hK3 hK2 OL hH hl Bd l6 hnl
 go_enter Tryz.func141,Tryz.ntmps141
 go_upto_region 6 with(first
  | (go_at_call 118;refine iG.o.mono ?_;rintro r w1 ⟨rfl,hb1⟩;have bI:=ai hb1;have cJ:=ai (bI.o.alloc bI.o.size (.cells #[I pg,I kd,I (m:Int)] 45));have BX:=ai (B.new w1 #[I pg,I kd,I (m:Int)] 45);obtain⟨d0,d1,d2⟩:=B.c3 BX.o;have zM:=ai (iV.o w1 hb1.size);clear hb1)
  | (go_at_call 165;refine(Wt.o _ cJ.o).mono ?_;rintro r w2 ⟨rfl,S2,hk2,hc2⟩;have jJ:=ai hk2;have j6:=ai ((Ch.below cJ.o).trans hc2);have Dt:=ai (hc2.keep BX.o zM.o);have Fk:=ai (hc2.no _ (B.isLt BX.o) zM.o);clear hk2 hc2 d0 d1 d2))
 obtain⟨fb,cF,lb,cL,g1,g2,g3,g4,g5,g6,g7,g8,g9,g10,g11,hfin⟩:=wW.o w2 S2 jJ.o
 obtain⟨d0,d1,d2⟩:=B.c3 Dt.o
 obtain⟨U,hU⟩:=ex (((((w2.setCell (Ad fb (i*4)) (.string D)).setCell (Ad fb (i*4+1)) (I 1)).setCell (Ad fb (i*4+2)) (.bool true)).setCell (Ad fb (i*4+3)) (.bool false)).drew)
 obtain⟨hk3,hc3⟩:=hfin U hU
 have HU:=ai hU
 have l8:=ai hk3
 have og:=ai (j6.o.trans hc3)
 have Mq:=ai (hc3.keep Dt.o Fk.o)
 have HN3:=ai (hc3.no _ (B.isLt Dt.o) Fk.o)
 clear hfin hU hk3 hc3
 go_region
 rw[<- HU.o]
 clear g1 g2 g3 g4 g5 g6 g7 g8 g9 g10 g11 d0 d1 d2 HU
 obtain⟨d0,d1,d2⟩:=B.c3 Mq.o
 go_wp2_with (first
  | (go_at_call 85;refine(Qo.o _ _ l8.o).mono ?_;rintro r w4 ⟨rfl,hk4,Hc⟩;have Ua:=ai hk4;have Z4:=ai (og.o.trans Hc);clear hk4 Hc)
  | (go_at_call 166;refine(Qn.o _ _ Ua.o).mono ?_;rintro r w5 ⟨rfl,S5,U6,YM⟩;have Jz:=ai U6;have HC5:=ai (Z4.o.trans YM);clear U6 YM))
 exact bw.o _ _ Jz.o HC5.o
end KX
end Go.Proofs.YtpgifpeohlllfaaGreat
