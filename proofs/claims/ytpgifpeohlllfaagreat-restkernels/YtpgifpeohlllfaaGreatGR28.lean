import Derived.Test.YtpgifpeohlllfaaGreatGR27
import Derived.Test.YtpgifpeohlllfaaGreatGR20
import Derived.Test.YtpgifpeohlllfaaGreatGR24
import Derived.StillTailTactics
set_option maxHeartbeats 20000000
set_option linter.unusedVariables false
set_option maxRecDepth 100000
set_option linter.unusedSimpArgs false
namespace Go.Proofs.YtpgifpeohlllfaaGreat
open Go.RowKit
theorem wP (es:List bG) (lv:Bool) (va:Value) (ap:Option Addr) (cp:Nat) (p:Int) (i:Nat) (w:World) (hE:cJ bj 3 dW w ap es) (hn:es.length<=140737488351232) (hno:∀j,j<i->(aH es j).page≠p) (hi:i=es.length∨(i<es.length/\(aH es i).page=p)) :
  Calls Tryz.prog 67 #[.agg #[.bool lv,va,.slice ap es.length cp],I p] w fun e w'=>e=.returned (I (if i<es.length then (i:Int) else -1))/\Below w.heap.size w w':=by
 obtain⟨WA,jG⟩:=ex (w.alloc (.cells #[.bool lv,va,.slice ap es.length cp] 43));have hb0:Below w.heap.size w WA:=by rw[jG];exact(aK _ _).alloc (aI _) _
 have sb:WA.heap[w.heap.size]?=some (.cells #[.bool lv,va,.slice ap es.length cp] 43 (0,0)):=by rw[jG];exact bO w _ _
 have x2:WA.cell? (Ad w.heap.size 2)=some (.slice ap es.length cp):=aB sb 2 rfl;have oD:Hid (∀m,m<es.length->∃eb eo,ap=some (Ad eb eo)/\WA.cell? (Ad eb (eo+m*3))=some (I (aH es m).page)):=fun m hm=>by
  obtain⟨eb,eo,g1,g2,g3⟩:=(hE.below hb0) (by omega);have z:=g3 m hm 0 (by omega);rw[fW] at z;exact⟨eb,eo,g1,z⟩
 have pK:=ai hno;have HI:=ai hi;have lI:=ai jG;have eU:=ai hb0;clear hE hno hi jG hb0 sb;go_enter Tryz.func67,Tryz.ntmps67;go_upto_region 1 with fail;rw[<- lI.o];go_wp2;go_loopw [5] (fun iv wq=>∃m:Nat,m<=i/\m<=es.length/\iv=I (m:Int)/\wq=WA) (fun iv _=>es.length-(intOf iv).toNat)
 case atStart=>exact⟨0,by omega,by omega,rfl,rfl⟩
 case round =>
  obtain⟨m,hm,yT,rfl,hwr⟩:=hrel;subst hwr;by_cases hlt:m<es.length
  · have hmi:(m:Int)<(es.length:Int):=by omega
    obtain⟨eb,eo,hap,z⟩:=oD.o m hlt;rw[hap] at x2;by_cases c:m=i
    · subst c;have hp:(aH es m).page=p:=by
       rcases HI.o with h | h
       · omega
       · exact h.2
      rw[hp] at z;have HIL:=ai hlt;clear pK HI oD hp hap;go_wp2;go_ret
      first | exact⟨rfl,eU.o⟩ | exact⟨by rw[aR HIL.o],eU.o⟩
    · have hp:(aH es m).page≠p:=pK.o m (by omega);obtain⟨q,hq⟩:=ex ((aH es m).page);rw[<- hq] at z hp;have b:(q==p)=false:=by simpa using hp
      clear pK HI oD hap hq hp;go_wp2;go_roundw
      case rel=>exact⟨m+1,by omega,by omega,by go_num,by first | rfl | trivial⟩
      case measure=>simp[intOf];omega
  · obtain rfl:es.length=m:=by omega
    have hil:¬i<es.length:=by
     rcases HI.o with h | h
     · omega
     · omega
    have HIL:=ai hil;clear pK HI oD hil;go_wp2;go_ret
    first | exact⟨rfl,eU.o⟩ | exact⟨by rw[bf HIL.o],eU.o⟩
theorem I4 {es:List bG} {p:Int} (h:bD es p=none):∀j,j<es.length->(aH es j).page≠p:=fun j hj e=>by
 have:=List.find?_eq_none.1 h (aH es j) (jc hj);simp[e] at this
theorem xV {p:Int}:∀{es:List bG} {e:bG},bD es p=some e->∃i,i<es.length/\aH es i=e/\(aH es i).page=p/\∀j,j<i->(aH es j).page≠p
 | [],e,h=>by cases h
 | x::r,e,h=>by
  unfold bD at h;rw[PO] at h;by_cases c:x.page=p
  · rw[dI c] at h;injection h with h;exact⟨0,by simp,h,c,fun j hj=>absurd hj (gN _)⟩
  · rw[dJ c] at h;obtain⟨i,h1,h2,h3,h4⟩:=xV (es:=r) h;refine⟨i+1,by simp;omega,h2,h3,fun j hj=>?_⟩;cases j with
    | zero=>exact c
    | succ j=>exact h4 j (by omega)
open Go.RowKit
open Go.RowKit
open Go.RowKit
open Go.RowKit
theorem H3 (l:List aZ) (hs:List bR) (en nf ns:Int) (va:Value) (ao:Option Addr) (cap:Nat) (w:World) (ha:fu w va l) (h:fX w ao hs) (hc:ld l hs en=0) (h3:3<=nf) (h64:nf<=64) (h0:0<=ns) (aih:ns<=512) :
  Calls Tryz.prog 22 #[.agg #[va,.slice ao hs.length cap,I en],I nf,I ns] w (oW w (rp l hs nf ns)):=by
 obtain⟨aa,ca,Av,_⟩:=id ha;subst Av;obtain⟨WA,jG⟩:=ex ((w.alloc (.cells #[.slice aa l.length ca,.slice ao hs.length cap,I en] 30)).alloc (.cells #[Nl,Nl,Nl,Nl,I 0] 27));have hb0:Below w.heap.size w WA:=by simp_all [aK,m9]
 have kb:WA.heap[w.heap.size]?=some (.cells #[.slice aa l.length ca,.slice ao hs.length cap,I en] 30 (0,0)):=by grind [bM,bO]
 have rb:WA.heap[w.heap.size+1]?=some (.cells #[Nl,Nl,Nl,Nl,I 0] 27 (0,0)):=by grind [kX]
 have RB:Hid (∀V,Below WA.heap.size WA V->V.heap[w.heap.size+1]?=some (.cells #[Nl,Nl,Nl,Nl,I 0] 27 (0,0))):=fun V hb=>aQ rb hb (aT rb)
 have KB:Hid (∀V,Below WA.heap.size WA V->V.heap[w.heap.size]?=some (.cells #[.slice aa l.length ca,.slice ao hs.length cap,I en] 30 (0,0))):=fun V hb=>aQ kb hb (aT kb)
 have lI:=ai jG;have hrl:=aT rb;have JZ:Hid (∀(W:World) fb sb pb,Below WA.heap.size WA W->W.heap[fb]?=some (.cells (jk nf.toNat) 40 (0,0))->W.heap[sb]?=some (.cells (ji ns.toNat) 86 (0,0))->W.heap[pb]?=some (.cells #[.bool true,.slice aa l.length ca,Nl] 43 (0,0))->Calls Tryz.prog 16 #[.agg #[.slice ao hs.length cap,.slice (some (Ad fb 0)) nf.toNat nf.toNat,.slice (some (Ad sb 0)) ns.toNat ns.toNat,.slice (some (Ad pb 0)) 1 1,I 0]] W fun e w'=>∃aS nS cS aF nF cF aL nL cL aP nP cP,e=.returned (.agg #[.slice aS nS cS,.slice aF nF cF,.slice aL nL cL,.slice aP nP cP,I 0])/\Below WA.heap.size WA w'/\w'.heap[w.heap.size+1]?=some (.cells #[Nl,Nl,Nl,Nl,I 0] 27 (0,0))/\∀U,aM (fun b=>b=w.heap.size+1) w' U->oW w (rp l hs nf ns) (.returned (.agg #[.slice aS nS cS,.slice aF nF cF,.slice aL nL cL,.slice aP nP cP,I 0])) U):=fun W fb sb pb hW g1 g2 g3=>by
  have jQ:Below w.heap.size w W:=hb0.trans (hW.mono hb0.size);have hk:=LA (cap:=cap) (ha.below jQ) (h.below jQ) g1 g2 g3;have hcl:=Ev _ _ W hk (Gd hc nf.toNat ns.toNat (by omega) (by omega));unfold bg at hcl;simp only[pG,vt] at hcl;refine hcl.mono fun e w' ⟨S,hs',hsame,e1,hr,hb⟩=>?_
  obtain⟨aS,nS,cS,eS⟩:∃b n d,S.vS=.slice b n d:=by obtain⟨b,d,e,_⟩:=aY hr.aD;grind
  obtain⟨aF,nF,cF,eF⟩:∃b n d,S.vF=.slice b n d:=by obtain⟨b,d,e,_⟩:=aY hr.frames;grind
  obtain⟨aL,nL,cL,eL⟩:∃b n d,S.vL=.slice b n d:=by obtain⟨b,d,e,_⟩:=aY hr.slots;exact⟨b,_,d,e⟩
  obtain⟨aP,nP,cP,eP⟩:∃b n d,S.vP=.slice b n d:=by obtain⟨b,d,e,_⟩:=aY hr.aj;exact⟨b,_,d,e⟩
  rw[eS,eF,eL,eP] at e1;have hbl:Below WA.heap.size WA w':=hW.trans (hb.mono hW.size);have aax:Below w.heap.size w w':=hb0.trans (hbl.mono hb0.size);have hWz:=hW.size;refine⟨aS,nS,cS,aF,nF,cF,aL,nL,cL,aP,nP,cP,e1,hbl,RB.o _ hbl,fun U hU=>⟨S,hs',hsame,by rw[eS,eF,eL,eP];rfl,(hr.kp hU (fun b hb e=>by have:=(hr.rV b hb).1;omega)).mono jQ.size,aM.below aax hU aax.size (fun b e=>by omega)⟩⟩
 have e2:=fun V:World=>aaT V nf (by omega) (by omega)
 have e3:=fun V:World=>aaS V ns (by omega) (by omega)
 obtain⟨P,hP⟩:=ex (oW w (rp l hs nf ns));rw[<- hP] at JZ ⊢;obtain⟨NF,hNF⟩:=ex nf.toNat
 obtain⟨NS,hNS⟩:=ex ns.toNat
 rw[<- hNF] at JZ;rw[<- hNS] at JZ;simp only[<- hNF] at e2;simp only[<- hNS] at e3;clear hP hNF hNS ha h hc kb rb jG hb0;go_enter Tryz.func22,Tryz.ntmps22;go_upto_region 1 with fail;rw[<- lI.o];have gq:Hid (∀V,Below WA.heap.size WA V->V.cell? (Ad w.heap.size 0)=some (.slice aa l.length ca)/\V.cell? (Ad w.heap.size 1)=some (.slice ao hs.length cap)):=fun V hV=>⟨aB (KB.o _ hV) 0 rfl,aB (KB.o _ hV) 1 rfl⟩
 refine m7 (S:=fun V=>V.cell? (Ad w.heap.size 0)=some (.slice aa l.length ca)/\V.cell? (Ad w.heap.size 1)=some (.slice ao hs.length cap)) (z:=12) (by rfl) ?_;have gu:=ai ((aK WA.heap.size WA).drew);obtain⟨V0,hV0⟩:=ex WA.drew;rw[<- hV0] at gu ⊢;clear hV0;refine cN 0 (gq.o _ gu.o) ?_ ?_ ?_;rotate_left 1
 · intro V h;rfl
 refine cN 1 (gq.o _ gu.o) ?_ ?_ ?_;rotate_left 1
 · intro V h;obtain⟨k0,k1⟩:=h;go_simp
   try with_reducible rfl
 refine cN 2 (gq.o _ gu.o) ?_ ?_ ?_;rotate_left 1
 · intro V h;rfl
 refine cN 4 (gq.o _ gu.o) ?_ ?_ ?_;rotate_left 1
 · intro V h;rfl
 refine cN 6 (gq.o _ gu.o) ?_ ?_ ?_;rotate_left 1
 · intro V h;obtain⟨k0,k1⟩:=h;go_simp
   try with_reducible rfl
 refine cN 7 (gq.o _ gu.o) ?_ ?_ ?_;rotate_left 1
 · intro V h;obtain⟨k0,k1⟩:=h;go_simp
   try with_reducible rfl
 refine cN 8 (gq.o _ gu.o) ?_ ?_ ?_;rotate_left 1
 · intro V h;obtain⟨k0,k1⟩:=h;go_simp
   try with_reducible rfl
 refine bW (rs:=[3,5,9]) (by kernel_rfl) (by simp) ?_;refine aJ.cons rfl (fun K hK=>?_) (aJ.cons rfl (fun K hK=>?_) (aJ.cons rfl (fun K hK=>?_) aJ.nil))
 · go_simp;refine hK.out _ _ (fun _=>?_) ?_
   · exact gq.o _ (gu.o.alloc gu.o.size _)
   clear hK K;have jP:=ai (gu.o.alloc gu.o.size (.cells (jk NF) 40));have BF:=ai (bO V0 (jk NF) 40);obtain⟨V1,hV1⟩:=ex (V0.alloc (.cells (jk NF) 40));obtain⟨bF,Fi⟩:=ex V0.heap.size;rw[<- hV1] at jP BF ⊢;rw[<- Fi] at BF ⊢;clear hV1 Fi
   try simp only[Act.put,bJ,bI,bH]
   refine bW (rs:=[5,9]) (by kernel_rfl) (by simp) ?_;refine aJ.cons rfl (fun K hK=>?_) (aJ.cons rfl (fun K hK=>?_) aJ.nil)
   · go_simp;refine hK.out _ _ (fun _=>?_) ?_
     · exact gq.o _ (jP.o.alloc jP.o.size _)
     clear hK K;have lR:=ai (jP.o.alloc jP.o.size (.cells (ji NS) 86));have BF:=ai (bM BF.o (.cells (ji NS) 86));have BL:=ai (bO V1 (ji NS) 86);obtain⟨V2,hV2⟩:=ex (V1.alloc (.cells (ji NS) 86));obtain⟨bL,hbL⟩:=ex V1.heap.size;rw[<- hV2] at lR BF BL ⊢;rw[<- hbL] at BL ⊢;clear hV2 hbL
     try simp only[Act.put,bJ,bI,bH]
     refine bW (rs:=[9]) (by kernel_rfl) (by simp) ?_;refine aJ.cons rfl (fun K hK=>?_) aJ.nil;go_simp;refine hK.out _ _ (fun _=>?_) ?_
     · exact gq.o _ (lR.o.alloc lR.o.size _)
     clear hK K;have oN:=ai (lR.o.alloc lR.o.size (.cells #[.bool true,.slice aa l.length ca,Nl] 43));have BF:=ai (bM BF.o (.cells #[.bool true,.slice aa l.length ca,Nl] 43));have BL:=ai (bM BL.o (.cells #[.bool true,.slice aa l.length ca,Nl] 43));have BP:=ai (bO V2 #[.bool true,.slice aa l.length ca,Nl] 43);obtain⟨V3,AE⟩:=ex (V2.alloc (.cells #[.bool true,.slice aa l.length ca,Nl] 43));obtain⟨bP,Fh⟩:=ex V2.heap.size;rw[<- AE] at oN BF BL BP ⊢;rw[<- Fh] at BP ⊢;clear AE Fh
     try simp only[Act.put,bJ,bI,bH]
     refine cN 10 (gq.o _ oN.o) ?_ ?_ ?_;rotate_left 1
     · intro V h;obtain⟨k0,k1⟩:=h;go_simp
       try with_reducible rfl
     refine bW (rs:=[11]) (by kernel_rfl) (by simp) ?_;refine aJ.cons rfl (fun K hK=>?_) aJ.nil;rw[aR (by rfl)];go_simp;go_at_call 16;refine(JZ.o _ _ _ _ oN.o BF.o BL.o BP.o).mono ?_;rintro e w6 ⟨aS,nS,cS,aF,nF,cF,aL,nL,cL,aP,nP,cP,rfl,AA,Aw,hfin⟩;have EG:=ai AA;have R6:=ai Aw;have qK:=ai hfin;clear AA Aw hfin;try go_simp;refine hK.out _ _ (fun _=>?_) ?_
     · exact gq.o _ EG.o
     clear hK K
     try simp only[Act.put,bJ,bI,bH]
     obtain⟨y0,y1,y2,y3,y4⟩:=fy R6.o;have f0:=aO R6.o 0;have f1:=aO R6.o 1;have f2:=aO R6.o 2;have f3:=aO R6.o 3;have f4:=aO R6.o 4;have h5:=ai (fun V=>kR R6.o (.slice aS nS cS) (.slice aF nF cF) (.slice aL nL cL) (.slice aP nP cP) (I 0) (V:=V));refine bW (rs:=[12]) (by kernel_rfl) (by simp) ?_;refine aJ.cons rfl (fun K hK=>?_) aJ.nil;go_simp;obtain⟨r1,r2⟩:=h5.out _ rfl;refine hK.out _ _ (fun g=>absurd rfl g) ?_;refine ij (by kernel_rfl) ?_ _;clear y0 y1 y2 y3 y4;go_wp2;obtain⟨y0,y1,y2,y3,y4⟩:=fy r1;refine cm (v:=.agg #[.slice aS nS cS,.slice aF nF cF,.slice aL nL cL,.slice aP nP cP,I 0]) (by simp[results,Tryz.results22,go_sem,y0,y1,y2,y3,y4]) rfl ?_;exact qK.o _ r2
   · go_simp;refine hK.out _ _ (fun _=>?_) ?_
     · exact gq.o _ (jP.o.alloc jP.o.size _)
     clear hK K;have lR:=ai (jP.o.alloc jP.o.size (.cells #[.bool true,.slice aa l.length ca,Nl] 43));have BF:=ai (bM BF.o (.cells #[.bool true,.slice aa l.length ca,Nl] 43));have BP:=ai (bO V1 #[.bool true,.slice aa l.length ca,Nl] 43);obtain⟨V2,hV2⟩:=ex (V1.alloc (.cells #[.bool true,.slice aa l.length ca,Nl] 43));obtain⟨bP,Fh⟩:=ex V1.heap.size;rw[<- hV2] at lR BF BP ⊢;rw[<- Fh] at BP ⊢;clear hV2 Fh
     try simp only[Act.put,bJ,bI,bH]
     refine bW (rs:=[5]) (by kernel_rfl) (by simp) ?_;refine aJ.cons rfl (fun K hK=>?_) aJ.nil;go_simp;refine hK.out _ _ (fun _=>?_) ?_
     · exact gq.o _ (lR.o.alloc lR.o.size _)
     clear hK K;have oN:=ai (lR.o.alloc lR.o.size (.cells (ji NS) 86));have BF:=ai (bM BF.o (.cells (ji NS) 86));have BP:=ai (bM BP.o (.cells (ji NS) 86));have BL:=ai (bO V2 (ji NS) 86);obtain⟨V3,AE⟩:=ex (V2.alloc (.cells (ji NS) 86));obtain⟨bL,hbL⟩:=ex V2.heap.size;rw[<- AE] at oN BF BP BL ⊢;rw[<- hbL] at BL ⊢;clear AE hbL
     try simp only[Act.put,bJ,bI,bH]
     refine cN 10 (gq.o _ oN.o) ?_ ?_ ?_;rotate_left 1
     · intro V h;obtain⟨k0,k1⟩:=h;go_simp
       try with_reducible rfl
     refine bW (rs:=[11]) (by kernel_rfl) (by simp) ?_;refine aJ.cons rfl (fun K hK=>?_) aJ.nil;rw[aR (by rfl)];go_simp;go_at_call 16;refine(JZ.o _ _ _ _ oN.o BF.o BL.o BP.o).mono ?_;rintro e w6 ⟨aS,nS,cS,aF,nF,cF,aL,nL,cL,aP,nP,cP,rfl,AA,Aw,hfin⟩;have EG:=ai AA;have R6:=ai Aw;have qK:=ai hfin;clear AA Aw hfin;try go_simp;refine hK.out _ _ (fun _=>?_) ?_
     · exact gq.o _ EG.o
     clear hK K
     try simp only[Act.put,bJ,bI,bH]
     obtain⟨y0,y1,y2,y3,y4⟩:=fy R6.o;have f0:=aO R6.o 0;have f1:=aO R6.o 1;have f2:=aO R6.o 2;have f3:=aO R6.o 3;have f4:=aO R6.o 4;have h5:=ai (fun V=>kR R6.o (.slice aS nS cS) (.slice aF nF cF) (.slice aL nL cL) (.slice aP nP cP) (I 0) (V:=V));refine bW (rs:=[12]) (by kernel_rfl) (by simp) ?_;refine aJ.cons rfl (fun K hK=>?_) aJ.nil;go_simp;obtain⟨r1,r2⟩:=h5.out _ rfl;refine hK.out _ _ (fun g=>absurd rfl g) ?_;refine ij (by kernel_rfl) ?_ _;clear y0 y1 y2 y3 y4;go_wp2;obtain⟨y0,y1,y2,y3,y4⟩:=fy r1;refine cm (v:=.agg #[.slice aS nS cS,.slice aF nF cF,.slice aL nL cL,.slice aP nP cP,I 0]) (by simp[results,Tryz.results22,go_sem,y0,y1,y2,y3,y4]) rfl ?_;exact qK.o _ r2
 · go_simp;refine hK.out _ _ (fun _=>?_) ?_
   · exact gq.o _ (gu.o.alloc gu.o.size _)
   clear hK K;have jP:=ai (gu.o.alloc gu.o.size (.cells (ji NS) 86));have BL:=ai (bO V0 (ji NS) 86);obtain⟨V1,hV1⟩:=ex (V0.alloc (.cells (ji NS) 86));obtain⟨bL,hbL⟩:=ex V0.heap.size;rw[<- hV1] at jP BL ⊢;rw[<- hbL] at BL ⊢;clear hV1 hbL
   try simp only[Act.put,bJ,bI,bH]
   refine bW (rs:=[3,9]) (by kernel_rfl) (by simp) ?_;refine aJ.cons rfl (fun K hK=>?_) (aJ.cons rfl (fun K hK=>?_) aJ.nil)
   · go_simp;refine hK.out _ _ (fun _=>?_) ?_
     · exact gq.o _ (jP.o.alloc jP.o.size _)
     clear hK K;have lR:=ai (jP.o.alloc jP.o.size (.cells (jk NF) 40));have BL:=ai (bM BL.o (.cells (jk NF) 40));have BF:=ai (bO V1 (jk NF) 40);obtain⟨V2,hV2⟩:=ex (V1.alloc (.cells (jk NF) 40));obtain⟨bF,Fi⟩:=ex V1.heap.size;rw[<- hV2] at lR BL BF ⊢;rw[<- Fi] at BF ⊢;clear hV2 Fi
     try simp only[Act.put,bJ,bI,bH]
     refine bW (rs:=[9]) (by kernel_rfl) (by simp) ?_;refine aJ.cons rfl (fun K hK=>?_) aJ.nil;go_simp;refine hK.out _ _ (fun _=>?_) ?_
     · exact gq.o _ (lR.o.alloc lR.o.size _)
     clear hK K;have oN:=ai (lR.o.alloc lR.o.size (.cells #[.bool true,.slice aa l.length ca,Nl] 43));have BL:=ai (bM BL.o (.cells #[.bool true,.slice aa l.length ca,Nl] 43));have BF:=ai (bM BF.o (.cells #[.bool true,.slice aa l.length ca,Nl] 43));have BP:=ai (bO V2 #[.bool true,.slice aa l.length ca,Nl] 43);obtain⟨V3,AE⟩:=ex (V2.alloc (.cells #[.bool true,.slice aa l.length ca,Nl] 43));obtain⟨bP,Fh⟩:=ex V2.heap.size;rw[<- AE] at oN BL BF BP ⊢;rw[<- Fh] at BP ⊢;clear AE Fh
     try simp only[Act.put,bJ,bI,bH]
     refine cN 10 (gq.o _ oN.o) ?_ ?_ ?_;rotate_left 1
     · intro V h;obtain⟨k0,k1⟩:=h;go_simp
       try with_reducible rfl
     refine bW (rs:=[11]) (by kernel_rfl) (by simp) ?_;refine aJ.cons rfl (fun K hK=>?_) aJ.nil;rw[aR (by rfl)];go_simp;go_at_call 16;refine(JZ.o _ _ _ _ oN.o BF.o BL.o BP.o).mono ?_;rintro e w6 ⟨aS,nS,cS,aF,nF,cF,aL,nL,cL,aP,nP,cP,rfl,AA,Aw,hfin⟩;have EG:=ai AA;have R6:=ai Aw;have qK:=ai hfin;clear AA Aw hfin;try go_simp;refine hK.out _ _ (fun _=>?_) ?_
     · exact gq.o _ EG.o
     clear hK K
     try simp only[Act.put,bJ,bI,bH]
     obtain⟨y0,y1,y2,y3,y4⟩:=fy R6.o;have f0:=aO R6.o 0;have f1:=aO R6.o 1;have f2:=aO R6.o 2;have f3:=aO R6.o 3;have f4:=aO R6.o 4;have h5:=ai (fun V=>kR R6.o (.slice aS nS cS) (.slice aF nF cF) (.slice aL nL cL) (.slice aP nP cP) (I 0) (V:=V));refine bW (rs:=[12]) (by kernel_rfl) (by simp) ?_;refine aJ.cons rfl (fun K hK=>?_) aJ.nil;go_simp;obtain⟨r1,r2⟩:=h5.out _ rfl;refine hK.out _ _ (fun g=>absurd rfl g) ?_;refine ij (by kernel_rfl) ?_ _;clear y0 y1 y2 y3 y4;go_wp2;obtain⟨y0,y1,y2,y3,y4⟩:=fy r1;refine cm (v:=.agg #[.slice aS nS cS,.slice aF nF cF,.slice aL nL cL,.slice aP nP cP,I 0]) (by simp[results,Tryz.results22,go_sem,y0,y1,y2,y3,y4]) rfl ?_;exact qK.o _ r2
   · go_simp;refine hK.out _ _ (fun _=>?_) ?_
     · exact gq.o _ (jP.o.alloc jP.o.size _)
     clear hK K;have lR:=ai (jP.o.alloc jP.o.size (.cells #[.bool true,.slice aa l.length ca,Nl] 43));have BL:=ai (bM BL.o (.cells #[.bool true,.slice aa l.length ca,Nl] 43));have BP:=ai (bO V1 #[.bool true,.slice aa l.length ca,Nl] 43);obtain⟨V2,hV2⟩:=ex (V1.alloc (.cells #[.bool true,.slice aa l.length ca,Nl] 43));obtain⟨bP,Fh⟩:=ex V1.heap.size;rw[<- hV2] at lR BL BP ⊢;rw[<- Fh] at BP ⊢;clear hV2 Fh
     try simp only[Act.put,bJ,bI,bH]
     refine bW (rs:=[3]) (by kernel_rfl) (by simp) ?_;refine aJ.cons rfl (fun K hK=>?_) aJ.nil;go_simp;refine hK.out _ _ (fun _=>?_) ?_
     · exact gq.o _ (lR.o.alloc lR.o.size _)
     clear hK K;have oN:=ai (lR.o.alloc lR.o.size (.cells (jk NF) 40));have BL:=ai (bM BL.o (.cells (jk NF) 40));have BP:=ai (bM BP.o (.cells (jk NF) 40));have BF:=ai (bO V2 (jk NF) 40);obtain⟨V3,AE⟩:=ex (V2.alloc (.cells (jk NF) 40));obtain⟨bF,Fi⟩:=ex V2.heap.size;rw[<- AE] at oN BL BP BF ⊢;rw[<- Fi] at BF ⊢;clear AE Fi
     try simp only[Act.put,bJ,bI,bH]
     refine cN 10 (gq.o _ oN.o) ?_ ?_ ?_;rotate_left 1
     · intro V h;obtain⟨k0,k1⟩:=h;go_simp
       try with_reducible rfl
     refine bW (rs:=[11]) (by kernel_rfl) (by simp) ?_;refine aJ.cons rfl (fun K hK=>?_) aJ.nil;rw[aR (by rfl)];go_simp;go_at_call 16;refine(JZ.o _ _ _ _ oN.o BF.o BL.o BP.o).mono ?_;rintro e w6 ⟨aS,nS,cS,aF,nF,cF,aL,nL,cL,aP,nP,cP,rfl,AA,Aw,hfin⟩;have EG:=ai AA;have R6:=ai Aw;have qK:=ai hfin;clear AA Aw hfin;try go_simp;refine hK.out _ _ (fun _=>?_) ?_
     · exact gq.o _ EG.o
     clear hK K
     try simp only[Act.put,bJ,bI,bH]
     obtain⟨y0,y1,y2,y3,y4⟩:=fy R6.o;have f0:=aO R6.o 0;have f1:=aO R6.o 1;have f2:=aO R6.o 2;have f3:=aO R6.o 3;have f4:=aO R6.o 4;have h5:=ai (fun V=>kR R6.o (.slice aS nS cS) (.slice aF nF cF) (.slice aL nL cL) (.slice aP nP cP) (I 0) (V:=V));refine bW (rs:=[12]) (by kernel_rfl) (by simp) ?_;refine aJ.cons rfl (fun K hK=>?_) aJ.nil;go_simp;obtain⟨r1,r2⟩:=h5.out _ rfl;refine hK.out _ _ (fun g=>absurd rfl g) ?_;refine ij (by kernel_rfl) ?_ _;clear y0 y1 y2 y3 y4;go_wp2;obtain⟨y0,y1,y2,y3,y4⟩:=fy r1;refine cm (v:=.agg #[.slice aS nS cS,.slice aF nF cF,.slice aL nL cL,.slice aP nP cP,I 0]) (by simp[results,Tryz.results22,go_sem,y0,y1,y2,y3,y4]) rfl ?_;exact qK.o _ r2
 · go_simp;refine hK.out _ _ (fun _=>?_) ?_
   · exact gq.o _ (gu.o.alloc gu.o.size _)
   clear hK K;have jP:=ai (gu.o.alloc gu.o.size (.cells #[.bool true,.slice aa l.length ca,Nl] 43));have BP:=ai (bO V0 #[.bool true,.slice aa l.length ca,Nl] 43);obtain⟨V1,hV1⟩:=ex (V0.alloc (.cells #[.bool true,.slice aa l.length ca,Nl] 43));obtain⟨bP,Fh⟩:=ex V0.heap.size;rw[<- hV1] at jP BP ⊢;rw[<- Fh] at BP ⊢;clear hV1 Fh
   try simp only[Act.put,bJ,bI,bH]
   refine bW (rs:=[3,5]) (by kernel_rfl) (by simp) ?_;refine aJ.cons rfl (fun K hK=>?_) (aJ.cons rfl (fun K hK=>?_) aJ.nil)
   · go_simp;refine hK.out _ _ (fun _=>?_) ?_
     · exact gq.o _ (jP.o.alloc jP.o.size _)
     clear hK K;have lR:=ai (jP.o.alloc jP.o.size (.cells (jk NF) 40));have BP:=ai (bM BP.o (.cells (jk NF) 40));have BF:=ai (bO V1 (jk NF) 40);obtain⟨V2,hV2⟩:=ex (V1.alloc (.cells (jk NF) 40));obtain⟨bF,Fi⟩:=ex V1.heap.size;rw[<- hV2] at lR BP BF ⊢;rw[<- Fi] at BF ⊢;clear hV2 Fi
     try simp only[Act.put,bJ,bI,bH]
     refine bW (rs:=[5]) (by kernel_rfl) (by simp) ?_;refine aJ.cons rfl (fun K hK=>?_) aJ.nil;go_simp;refine hK.out _ _ (fun _=>?_) ?_
     · exact gq.o _ (lR.o.alloc lR.o.size _)
     clear hK K;have oN:=ai (lR.o.alloc lR.o.size (.cells (ji NS) 86));have BP:=ai (bM BP.o (.cells (ji NS) 86));have BF:=ai (bM BF.o (.cells (ji NS) 86));have BL:=ai (bO V2 (ji NS) 86);obtain⟨V3,AE⟩:=ex (V2.alloc (.cells (ji NS) 86));obtain⟨bL,hbL⟩:=ex V2.heap.size;rw[<- AE] at oN BP BF BL ⊢;rw[<- hbL] at BL ⊢;clear AE hbL
     try simp only[Act.put,bJ,bI,bH]
     refine cN 10 (gq.o _ oN.o) ?_ ?_ ?_;rotate_left 1
     · intro V h;obtain⟨k0,k1⟩:=h;go_simp
       try with_reducible rfl
     refine bW (rs:=[11]) (by kernel_rfl) (by simp) ?_;refine aJ.cons rfl (fun K hK=>?_) aJ.nil;rw[aR (by rfl)];go_simp;go_at_call 16;refine(JZ.o _ _ _ _ oN.o BF.o BL.o BP.o).mono ?_;rintro e w6 ⟨aS,nS,cS,aF,nF,cF,aL,nL,cL,aP,nP,cP,rfl,AA,Aw,hfin⟩;have EG:=ai AA;have R6:=ai Aw;have qK:=ai hfin;clear AA Aw hfin;try go_simp;refine hK.out _ _ (fun _=>?_) ?_
     · exact gq.o _ EG.o
     clear hK K
     try simp only[Act.put,bJ,bI,bH]
     obtain⟨y0,y1,y2,y3,y4⟩:=fy R6.o;have f0:=aO R6.o 0;have f1:=aO R6.o 1;have f2:=aO R6.o 2;have f3:=aO R6.o 3;have f4:=aO R6.o 4;have h5:=ai (fun V=>kR R6.o (.slice aS nS cS) (.slice aF nF cF) (.slice aL nL cL) (.slice aP nP cP) (I 0) (V:=V));refine bW (rs:=[12]) (by kernel_rfl) (by simp) ?_;refine aJ.cons rfl (fun K hK=>?_) aJ.nil;go_simp;obtain⟨r1,r2⟩:=h5.out _ rfl;refine hK.out _ _ (fun g=>absurd rfl g) ?_;refine ij (by kernel_rfl) ?_ _;clear y0 y1 y2 y3 y4;go_wp2;obtain⟨y0,y1,y2,y3,y4⟩:=fy r1;refine cm (v:=.agg #[.slice aS nS cS,.slice aF nF cF,.slice aL nL cL,.slice aP nP cP,I 0]) (by simp[results,Tryz.results22,go_sem,y0,y1,y2,y3,y4]) rfl ?_;exact qK.o _ r2
   · go_simp;refine hK.out _ _ (fun _=>?_) ?_
     · exact gq.o _ (jP.o.alloc jP.o.size _)
     clear hK K;have lR:=ai (jP.o.alloc jP.o.size (.cells (ji NS) 86));have BP:=ai (bM BP.o (.cells (ji NS) 86));have BL:=ai (bO V1 (ji NS) 86);obtain⟨V2,hV2⟩:=ex (V1.alloc (.cells (ji NS) 86));obtain⟨bL,hbL⟩:=ex V1.heap.size;rw[<- hV2] at lR BP BL ⊢;rw[<- hbL] at BL ⊢;clear hV2 hbL
     try simp only[Act.put,bJ,bI,bH]
     refine bW (rs:=[3]) (by kernel_rfl) (by simp) ?_;refine aJ.cons rfl (fun K hK=>?_) aJ.nil;go_simp;refine hK.out _ _ (fun _=>?_) ?_
     · exact gq.o _ (lR.o.alloc lR.o.size _)
     clear hK K;have oN:=ai (lR.o.alloc lR.o.size (.cells (jk NF) 40));have BP:=ai (bM BP.o (.cells (jk NF) 40));have BL:=ai (bM BL.o (.cells (jk NF) 40));have BF:=ai (bO V2 (jk NF) 40);obtain⟨V3,AE⟩:=ex (V2.alloc (.cells (jk NF) 40));obtain⟨bF,Fi⟩:=ex V2.heap.size;rw[<- AE] at oN BP BL BF ⊢;rw[<- Fi] at BF ⊢;clear AE Fi
     try simp only[Act.put,bJ,bI,bH]
     refine cN 10 (gq.o _ oN.o) ?_ ?_ ?_;rotate_left 1
     · intro V h;obtain⟨k0,k1⟩:=h;go_simp
       try with_reducible rfl
     refine bW (rs:=[11]) (by kernel_rfl) (by simp) ?_;refine aJ.cons rfl (fun K hK=>?_) aJ.nil;rw[aR (by rfl)];go_simp;go_at_call 16;refine(JZ.o _ _ _ _ oN.o BF.o BL.o BP.o).mono ?_;rintro e w6 ⟨aS,nS,cS,aF,nF,cF,aL,nL,cL,aP,nP,cP,rfl,AA,Aw,hfin⟩;have EG:=ai AA;have R6:=ai Aw;have qK:=ai hfin;clear AA Aw hfin;try go_simp;refine hK.out _ _ (fun _=>?_) ?_
     · exact gq.o _ EG.o
     clear hK K
     try simp only[Act.put,bJ,bI,bH]
     obtain⟨y0,y1,y2,y3,y4⟩:=fy R6.o;have f0:=aO R6.o 0;have f1:=aO R6.o 1;have f2:=aO R6.o 2;have f3:=aO R6.o 3;have f4:=aO R6.o 4;have h5:=ai (fun V=>kR R6.o (.slice aS nS cS) (.slice aF nF cF) (.slice aL nL cL) (.slice aP nP cP) (I 0) (V:=V));refine bW (rs:=[12]) (by kernel_rfl) (by simp) ?_;refine aJ.cons rfl (fun K hK=>?_) aJ.nil;go_simp;obtain⟨r1,r2⟩:=h5.out _ rfl;refine hK.out _ _ (fun g=>absurd rfl g) ?_;refine ij (by kernel_rfl) ?_ _;clear y0 y1 y2 y3 y4;go_wp2;obtain⟨y0,y1,y2,y3,y4⟩:=fy r1;refine cm (v:=.agg #[.slice aS nS cS,.slice aF nF cF,.slice aL nL cL,.slice aP nP cP,I 0]) (by simp[results,Tryz.results22,go_sem,y0,y1,y2,y3,y4]) rfl ?_;exact qK.o _ r2
open Go.RowKit
structure Lh (l:List jt) (ao:Option Addr) (w:World):Prop where
 has:Gb w ao l
 few:l.length<=1000
 chk:∀k,k<l.length->kY (dA l k).i=0
 fit:∀k,k<l.length->Fs (dA l k).i
 base:∀k,k<l.length->1<=(dA l k).base/\(dA l k).base<=2000
theorem Lh.below {l:List jt} {ao:Option Addr} {w w':World} (h:Lh l ao w) (hb:Below w.heap.size w w'):Lh l ao w':=⟨h.has.below hb,h.few,h.chk,h.fit,h.base⟩
open Go.RowKit
open Go.RowKit
open Go.RowKit
structure Tw (xs ys:List bR):Prop where
 len:xs.length=ys.length
 page:∀k,k<xs.length->(aV ys k).page=(aV xs k).page
 data:∀k,k<xs.length->(aV ys k).data=(aV xs k).data
 cM:∀k,k<xs.length->(aV ys k).cM=(aV xs k).cM
theorem Fz (xs ys:List bR) (ax ay:Option Addr) (cx cy:Nat) (w:World) (hx:fX w ax xs) (hy:fX w ay ys) (hs:Tw xs ys) (hn:bT xs.length) (hfn:∀k,k<xs.length->bT (aV xs k).cM.length) :
  Calls Tryz.prog 57 #[.slice ax xs.length cx,.slice ay ys.length cy] w fun e w'=>e=.returned (.bool true)/\Below w.heap.size w w':=by
 have HX:=aA hx;have HYY:=aA hy;have HS:=aA hs;have KM:=aA hfn;rw[<- hs.len];unfold bT at hn;clear hx hy hs hfn;go_enter Tryz.func57,Tryz.ntmps57;go_wp2;go_loopw [5] (fun i wr=>∃k:Nat,k<=xs.length/\i=I k/\Below w.heap.size w wr) (fun i _=>xs.length-(intOf i).toNat)
 case atStart=>grind [Below.refl]
 case round =>
  obtain⟨i,hi,rfl,hb⟩:=hrel;have qL:=aA hb;by_cases hlt:i<xs.length
  · obtain⟨bx,ox,hax,C7,hlx⟩:=HX.o (by omega);obtain⟨bx2,oy,hay,hby,hly⟩:=HYY.o (by rw[<- HS.o.len];omega);subst hax hay;have HF:Hid (∀V,Below w.heap.size w V->(V.cell? (Ad bx (ox+i*3))=some (I (aV xs i).page)/\V.cell? (Ad bx (ox+i*3+1))=some (.string (aV xs i).data)/\V.cell? (Ad bx (ox+i*3+2))=some (.slice (aV xs i).ao (aV xs i).cM.length (aV xs i).cap)/\kQ V (aV xs i).ao (aV xs i).cM)/\(V.cell? (Ad bx2 (oy+i*3))=some (I (aV xs i).page)/\V.cell? (Ad bx2 (oy+i*3+1))=some (.string (aV xs i).data)/\V.cell? (Ad bx2 (oy+i*3+2))=some (.slice (aV ys i).ao (aV xs i).cM.length (aV ys i).cap)/\kQ V (aV ys i).ao (aV xs i).cM)):=fun V hV=>by
     obtain⟨a0,a1,a2,a3⟩:=KI hV C7 hlx i hlt;obtain⟨b0,b1,b2,b3⟩:=KI hV hby hly i (by rw[<- HS.o.len];exact hlt);rw[HS.o.page i hlt] at b0;rw[HS.o.data i hlt] at b1;rw[HS.o.cM i hlt] at b2 b3;exact⟨⟨a0,a1,a2,a3⟩,b0,b1,b2,b3⟩
    have hfi:=KM.o i hlt;obtain⟨⟨pg,dt,fs,af,cf⟩,hsx⟩:∃s,s=aV xs i:=⟨_,rfl⟩;obtain⟨ag,hag⟩:∃a,a=(aV ys i).ao:=⟨_,rfl⟩;obtain⟨cg,hcg⟩:∃a,a=(aV ys i).cap:=⟨_,rfl⟩;rw[<- hsx,<- hag,<- hcg] at HF;rw[<- hsx] at hfi;simp only at HF hfi;unfold bT at hfi;clear hsx hag hcg hlx hly;obtain⟨⟨a0,a1,a2,-⟩,b0,b1,b2,-⟩:=HF.o _ hb;have hi1:(i:Int)<(xs.length:Int):=by omega
    have hi0:(0:Int)<=(i:Int):=by omega
    clear hb;go_wp2
    go_quiet (fail)
    go_wp2;go_loopw [6] (fun i2 wr=>∃k:Nat,k<=fs.length/\i2=I k/\Below w.heap.size w wr) (fun i2 _=>fs.length-(intOf i2).toNat)
    case atStart=>exact⟨0,by omega,rfl,ko qL.o _⟩
    case round =>
     obtain⟨k,hk,rfl,hb⟩:=hrel;have HBk:=aA hb;obtain⟨⟨d0,d1,d2,d3⟩,e0,e1,e2,e3⟩:=HF.o _ hb;clear hb a0 a1 a2 b0 b1 b2;by_cases hlk:k<fs.length
     · obtain⟨fb,fo,haf,Ef,hlf⟩:=d3 (by omega);obtain⟨gb,go,hag,hgb,YT⟩:=e3 (by omega);subst haf hag;obtain⟨f0,f1⟩:=hlf k hlk;obtain⟨g0,g1⟩:=YT k hlk;obtain⟨⟨fo1,fb1⟩,Vv⟩:∃f,f=ki fs k:=⟨_,rfl⟩;rw[<- Vv] at f0 f1 g0 g1;simp only at f0 f1 g0 g1;clear Vv hlf YT d3 e3;have hk1:(k:Int)<(fs.length:Int):=by omega
       have YU:(0:Int)<=(k:Int):=by omega
       go_wp2
       go_quiet (fail)
       go_wp2;go_roundw
       case rel=>exact⟨k+1,by omega,by go_num,ko HBk.o _⟩
       case measure=>simp[intOf];omega
     · obtain rfl:k=fs.length:=by omega
       clear d3 e3;go_wp2;go_roundw
       case rel=>exact⟨i+1,by omega,by go_num,HBk.o⟩
       case measure=>simp[intOf];omega
  · obtain rfl:i=xs.length:=by omega
    go_wp2;go_ret;exact⟨rfl,qL.o⟩
open Go.RowKit
open Go.RowKit
theorem Sb {w:World} {v:Value} {l:List aZ} (h:fu w v l):∃ao n c,v=.slice ao n c:=by
 obtain⟨ao,cap,h,_⟩:=h
 grind
end Go.Proofs.YtpgifpeohlllfaaGreat
