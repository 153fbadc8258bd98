import Derived.Test.YtlgoihmkgaaemaaGreatGO26
set_option maxHeartbeats 20000000
set_option linter.unusedVariables false
set_option maxRecDepth 100000
set_option linter.unusedSimpArgs false
namespace Go.Proofs.YtlgoihmkgaaemaaGreat
open Go.RowKit
theorem wZ.at_ {lo cb:Nat} {w:World} {lab:Nat->o9} {aS:Option Addr} {m cS:Nat} {vF vL:Value} {k:aR} {hs:List bG} {n:Nat} (h:wZ lo cb w lab (.slice aS m cS) vF vL k hs n) (hn:n<k.aM.length) :
  ∃sb,aS=some (Ad sb 0)/\¬cb=sb/\sb<w.heap.size/\w.cell? (Ad cb 0)=some (.slice aS m cS)/\w.cell? (Ad sb (n*3))=some (I (bu k.aM n).page)/\w.cell? (Ad sb (n*3+1))=some (.string (bu k.aM n).data)/\w.cell? (Ad sb (n*3+2))=some (.slice (bu k.aM n).ao (bu k.aM n).eZ.length (bu k.aM n).cap)/\∀j,w.frozen? (Ad sb j)=false:=by
 have hl:=h.same.len;obtain⟨ao,cap,e,hc,hg⟩:=bg h.aM;injection e with e1 e2 e3;subst e1 e2 e3;obtain⟨g,rfl,hg1,hg2⟩:=hg (by omega);have at_:=fun j (hj:j<3)=>kq nt (fun _=>rfl) Ce h.aM n j (by omega) hj
 have er:hs.getD n Ce=bu k.aM n:=h.rest n (aD _);rw[er] at at_;exact⟨g,rfl,fun e=>by have:=h.lS g rfl;grind [lH],hg2,aq h.head 0 rfl,at_ 0 (by omega),at_ 1 (by omega),at_ 2 (by omega),iL h.aM⟩
theorem UA:(Tryz.prog.info? 99).map (fun i=>(i.zero,i.size,i.bytes))=some (some (.agg #[.bool false,Nl,Nl]),3,56):=by rfl
theorem Uz (w:World) (xs:List Value) (e:TypeId):∀j u,xs[j]?=some u->(w.alloc (.cells xs.toArray e)).cell? (((Ad w.heap.size 0):Addr).add j)=some u:=fun j u hu=>by
 grind [Addr.add_lit,aq,bB]
theorem abJ (l:List cZ) (m:Nat) (h:m<l.length):l.take (m+1)=l.take m++[ak l m]:=by
 grind [List.take_add_one,ak]
theorem QP (k:aR) (a:iH) (w:World) (hK:jg w a k) (hs:FI k) :
  Calls Tryz.prog 79 #[.agg (bc a k)] w (We w k):=by
 obtain⟨P,hP⟩:=ex (We w k);rw[<- hP];have HP:=ai hP;clear hP;have HKS:=ai hK.aj;have ZV:=ai (Bf (f:=nt) (n:=3) (fun _=>rfl) (ad6 hK.aM));have LG:=ai (Bf (f:=jd) (n:=4) (fun _=>rfl) hK.frames);have HRL:=ai (Bf (f:=jc) (n:=2) (fun _=>rfl) hK.slots);obtain⟨WA,lu⟩:=ex ((w.alloc (.cells (bc a k) 30)).alloc (.cells #[Nl,Nl,Nl,Nl,I 0] 30));have jk:Hid (Below w.heap.size w WA):=by rw[lu];exact((aK _ _).alloc (aD _) _).alloc (by simp) _
 have KB:Hid (WA.heap[w.heap.size]?=some (.cells (bc a k) 30 (0,0))):=by rw[lu];exact bk (bB w _ _) _
 have RB:Hid (WA.heap[w.heap.size+1]?=some (.cells #[Nl,Nl,Nl,Nl,I 0] 30 (0,0))):=by
  grind [World.alloc]
 have HS:Hid (∀V,Below WA.heap.size WA V->V.cell? (Ad w.heap.size 0)=some (.slice a.aS k.aM.length a.cS)/\V.cell? (Ad w.heap.size 1)=some (.slice a.aF k.frames.length a.cF)/\V.cell? (Ad w.heap.size 2)=some (.slice a.aL k.slots.length a.cL)/\V.cell? (Ad w.heap.size 4)=some (I k.hand)):=fun V hb=>by
  have h1:=aN KB.o hb (aJ KB.o);exact⟨aq h1 0 rfl,aq h1 1 rfl,aq h1 2 rfl,aq h1 4 rfl⟩
 have HCS:Hid (∀V,Below WA.heap.size WA V->Calls Tryz.prog 131 #[.slice a.aS k.aM.length a.cS] V fun e w'=>∃ad c,e=.returned (.slice ad k.aM.length c)/\w'.ownsRow V.heap.size 145 3 (.slice ad k.aM.length c) k.aM.length (k.aM.flatMap nt)/\Below V.heap.size V w'):=fun V hV=>(acx _ _ _ _ V (fw nt 3 (fun _=>rfl) k.aM) (ZV.o.below (jk.o.trans (hV.mono jk.o.size))) (ad7 _) hs.aM).mono fun e w' ⟨v,h1,h2,h3⟩=>by
  grind [bg]
 have Yo:Hid (∀V,Below WA.heap.size WA V->Calls Tryz.prog 132 #[.slice a.aF k.frames.length a.cF] V fun e w'=>∃ad c,e=.returned (.slice ad k.frames.length c)/\w'.ownsRow V.heap.size 169 4 (.slice ad k.frames.length c) k.frames.length (k.frames.flatMap jd)/\Below V.heap.size V w'):=fun V hV=>(acA _ _ _ _ V (fw jd 4 (fun _=>rfl) k.frames) (LG.o.below (jk.o.trans (hV.mono jk.o.size))) (aea _) hs.frames).mono fun e w' ⟨v,h1,h2,h3⟩=>by
  grind [bg]
 have I5:Hid (∀V,Below WA.heap.size WA V->Calls Tryz.prog 133 #[.slice a.aL k.slots.length a.cL] V fun e w'=>∃ad c,e=.returned (.slice ad k.slots.length c)/\w'.ownsRow V.heap.size 171 2 (.slice ad k.slots.length c) k.slots.length (k.slots.flatMap jc)/\Below V.heap.size V w'):=fun V hV=>(acw _ _ _ _ V (fw jc 2 (fun _=>rfl) k.slots) (HRL.o.below (jk.o.trans (hV.mono jk.o.size))) (ad5 _) hs.slots).mono fun e w' ⟨v,h1,h2,h3⟩=>by
  grind [bg]
 have HFX:Hid (∀V n,Below w.heap.size w V->n<k.aM.length->mR V (bu k.aM n).ao (bu k.aM n).eZ.length ((bu k.aM n).eZ.flatMap qD)/\(bu k.aM n).eZ.length<=1000000):=fun V n hb hn=>by
  obtain⟨b,off,_,_,hi⟩:=hK.aM (by omega);have h4:qZ w (bu k.aM n).ao (bu k.aM n).eZ:=(hi n hn).2.2.2;exact⟨Bf (f:=qD) (n:=2) (fun _=>rfl) (ad8 (h4.below hb)),hs.eZ n hn⟩
 have qc:Hid (∀V:World,(V.cell? (Ad w.heap.size 0)=some (.slice a.aS k.aM.length a.cS)/\V.cell? (Ad w.heap.size 1)=some (.slice a.aF k.frames.length a.cF)/\V.cell? (Ad w.heap.size 2)=some (.slice a.aL k.slots.length a.cL)/\V.cell? (Ad w.heap.size 4)=some (I k.hand))->V.cell? (Ad w.heap.size 0)=some (.slice a.aS k.aM.length a.cS)/\V.cell? (Ad w.heap.size 1)=some (.slice a.aF k.frames.length a.cF)/\V.cell? (Ad w.heap.size 2)=some (.slice a.aL k.slots.length a.cL)/\V.cell? (Ad w.heap.size 4)=some (I k.hand)):=fun V h=>h
 have sB:=ai lu;unfold bc at sB ⊢;clear lu hK;go_enter Tryz.func79,Tryz.ntmps79;go_upto_region 1 with fail;rw[<- sB.o];go_cut [3] (fun x3 wx=>∃cb aS cS aF cF aL cL,x3=.pointer (some (Ad cb 0))/\PU WA.heap.size WA wx cb (.slice aS k.aM.length cS) (.slice aF k.frames.length cF) (.slice aL k.slots.length cL) k.hand k)
 case first =>
  refine xz (S:=fun V=>V.cell? (Ad w.heap.size 0)=some (.slice a.aS k.aM.length a.cS)/\V.cell? (Ad w.heap.size 1)=some (.slice a.aF k.frames.length a.cF)/\V.cell? (Ad w.heap.size 2)=some (.slice a.aL k.slots.length a.cL)/\V.cell? (Ad w.heap.size 4)=some (I k.hand)) (z:=13) (by rfl) ?_;have ub:=ai (aK WA.heap.size WA).drew;obtain⟨WD,hWD⟩:=ex WA.drew;rw[<- hWD] at ub ⊢;clear hWD;have nU:=ai (HS.o _ ub.o);refine iK 0 nU.o ?_ ?_ ?_;rotate_left 1
  · intro V h;rfl
  refine iK 1 nU.o ?_ ?_ ?_;rotate_left 1
  · intro V h;obtain⟨k0,k1,k2,k3⟩:=qc.o V h;go_simp;rfl
  refine iK 3 nU.o ?_ ?_ ?_;rotate_left 1
  · intro V h;rfl
  refine iK 4 nU.o ?_ ?_ ?_;rotate_left 1
  · intro V h;obtain⟨k0,k1,k2,k3⟩:=qc.o V h;go_simp;rfl
  refine iK 6 nU.o ?_ ?_ ?_;rotate_left 1
  · intro V h;obtain⟨k0,k1,k2,k3⟩:=qc.o V h;go_simp;rfl
  refine iK 7 nU.o ?_ ?_ ?_;rotate_left 1
  · intro V h;obtain⟨k0,k1,k2,k3⟩:=qc.o V h;go_simp;rfl
  refine iK 9 nU.o ?_ ?_ ?_;rotate_left 1
  · intro V h;obtain⟨k0,k1,k2,k3⟩:=qc.o V h;go_simp;rfl
  refine iK 10 nU.o ?_ ?_ ?_;rotate_left 1
  · intro V h;obtain⟨k0,k1,k2,k3⟩:=qc.o V h;go_simp;rfl
  refine eH (rs:=[2,12]) (by kernel_rfl) (by simp) ?_;refine bo.cons rfl (fun K hK=>?_) (bo.cons rfl (fun K hK=>?_) bo.nil)
  · rw[aB (by rfl)];go_simp;go_at_call 131;refine(HCS.o _ ub.o).mono ?_;rintro e w1 ⟨a1,c1,rfl,hr1,hb1⟩;have HR1:=ai hr1;have cH:=ai hb1;have vI:=ai ((ub.o).trans (hb1.mono (ub.o).size));have yM:=ai (HS.o _ vI.o);clear hr1 hb1
    try go_simp
    refine hK.out _ _ (fun _=>?_) ?_
    · exact yM.o
    clear hK K
    try simp only[Act.put,dJ,dE,dz]
    refine eH (rs:=[5,12]) (by kernel_rfl) (by simp) ?_;refine bo.cons rfl (fun K hK=>?_) (bo.cons rfl (fun K hK=>?_) bo.nil)
    · rw[aB (by rfl)];go_simp;go_at_call 132;refine(Yo.o _ vI.o).mono ?_;rintro e w2 ⟨a2,c2,rfl,hr2,hb2⟩;have Fb:=ai hr2;have gK:=ai hb2;have pq:=ai ((vI.o).trans (hb2.mono (vI.o).size));have sk:=ai (HS.o _ pq.o);clear hr2 hb2
      try go_simp
      refine hK.out _ _ (fun _=>?_) ?_
      · exact sk.o
      clear hK K
      try simp only[Act.put,dJ,dE,dz]
      refine eH (rs:=[8,12]) (by kernel_rfl) (by simp) ?_;refine bo.cons rfl (fun K hK=>?_) (bo.cons rfl (fun K hK=>?_) bo.nil)
      · rw[aB (by rfl)];go_simp;go_at_call 133;refine(I5.o _ pq.o).mono ?_;rintro e w3 ⟨a3,c3,rfl,hr3,hb3⟩;have HR3:=ai hr3;have mQ:=ai hb3;have zG:=ai ((pq.o).trans (hb3.mono (pq.o).size));have sL:=ai (HS.o _ zG.o);clear hr3 hb3
        try go_simp
        refine hK.out _ _ (fun _=>?_) ?_
        · exact sL.o
        clear hK K
        try simp only[Act.put,dJ,dE,dz]
        refine iK 11 sL.o ?_ ?_ ?_;rotate_left 1
        · intro V h;obtain⟨k0,k1,k2,k3⟩:=qc.o V h;go_simp;rfl
        refine eH (rs:=[12]) (by kernel_rfl) (by simp) ?_;refine bo.cons rfl (fun K hK=>?_) bo.nil;go_simp;refine hK.out _ _ (fun _=>?_) ?_
        · exact HS.o _ (zG.o.alloc zG.o.size (.cells #[Nl,Nl,Nl,Nl,I 0] 30))
        clear hK K
        try simp only[Act.put,dJ,dE,dz]
        refine eH (rs:=[13]) (by kernel_rfl) (by simp) ?_;refine bo.cons rfl (fun K hK=>?_) bo.nil;go_simp;refine hK.out _ _ (fun g=>absurd rfl g) ?_;refine rB (by rfl) ?_ _;go_wp2_with fail
        go_meet
        case rel =>
         refine⟨_,a1,c1,a2,c2,a3,c3,rfl,?_⟩;exact Y9 (V1:=WD) (w1:=w1) (V2:=w1) (w2:=w2) (V3:=w2) (w3:=w3) ub.o HR1.o cH.o (aK _ _) Fb.o gK.o (aK _ _) HR3.o mQ.o
      · go_simp;refine hK.out _ _ (fun _=>?_) ?_
        · exact HS.o _ (pq.o.alloc pq.o.size (.cells #[Nl,Nl,Nl,Nl,I 0] 30))
        clear hK K
        try simp only[Act.put,dJ,dE,dz]
        refine eH (rs:=[8]) (by kernel_rfl) (by simp) ?_;refine bo.cons rfl (fun K hK=>?_) bo.nil;rw[aB (by rfl)];go_simp;go_at_call 133;refine(I5.o _ (pq.o.alloc pq.o.size (.cells #[Nl,Nl,Nl,Nl,I 0] 30))).mono ?_;rintro e w3 ⟨a3,c3,rfl,hr3,hb3⟩;have HR3:=ai hr3;have mQ:=ai hb3;have zG:=ai (((pq.o.alloc pq.o.size (.cells #[Nl,Nl,Nl,Nl,I 0] 30))).trans (hb3.mono ((pq.o.alloc pq.o.size (.cells #[Nl,Nl,Nl,Nl,I 0] 30))).size));have sL:=ai (HS.o _ zG.o);have Si:=ai (aN (bB w2 #[Nl,Nl,Nl,Nl,I 0] 30) hb3 (by simp));clear hr3 hb3
        try go_simp
        refine hK.out _ _ (fun _=>?_) ?_
        · exact sL.o
        clear hK K
        try simp only[Act.put,dJ,dE,dz]
        refine iK 11 sL.o ?_ ?_ ?_;rotate_left 1
        · intro V h;obtain⟨k0,k1,k2,k3⟩:=qc.o V h;go_simp;rfl
        obtain⟨z0,z1,z2,z3,z4⟩:=iT Si.o;have f0:=aO Si.o 0;have f1:=aO Si.o 1;have f2:=aO Si.o 2;have f3:=aO Si.o 3;have f4:=aO Si.o 4;refine eH (rs:=[13]) (by kernel_rfl) (by simp) ?_;refine bo.cons rfl (fun K hK=>?_) bo.nil;go_simp;refine hK.out _ _ (fun g=>absurd rfl g) ?_;refine rB (by rfl) ?_ _;go_wp2_with fail
        go_meet
        case rel =>
         refine⟨_,a1,c1,a2,c2,a3,c3,rfl,?_⟩;exact DU (V4:=w3) (cb:=w2.heap.size) (V1:=WD) (w1:=w1) (V2:=w1) (w2:=w2) (V3:=(w2.alloc (.cells #[Nl,Nl,Nl,Nl,I 0] 30))) (w3:=w3) ub.o HR1.o cH.o (aK _ _) Fb.o gK.o ((aK _ _).alloc (aD _) _) HR3.o mQ.o (aK _ _) Si.o (pq.o.size) (.inr (.inr (.inl ⟨aD _,by simp⟩)))
    · go_simp;refine hK.out _ _ (fun _=>?_) ?_
      · exact HS.o _ (vI.o.alloc vI.o.size (.cells #[Nl,Nl,Nl,Nl,I 0] 30))
      clear hK K
      try simp only[Act.put,dJ,dE,dz]
      refine eH (rs:=[5]) (by kernel_rfl) (by simp) ?_;refine bo.cons rfl (fun K hK=>?_) bo.nil;rw[aB (by rfl)];go_simp;go_at_call 132;refine(Yo.o _ (vI.o.alloc vI.o.size (.cells #[Nl,Nl,Nl,Nl,I 0] 30))).mono ?_;rintro e w2 ⟨a2,c2,rfl,hr2,hb2⟩;have Fb:=ai hr2;have gK:=ai hb2;have pq:=ai (((vI.o.alloc vI.o.size (.cells #[Nl,Nl,Nl,Nl,I 0] 30))).trans (hb2.mono ((vI.o.alloc vI.o.size (.cells #[Nl,Nl,Nl,Nl,I 0] 30))).size));have sk:=ai (HS.o _ pq.o);have BZ2:=ai (aN (bB w1 #[Nl,Nl,Nl,Nl,I 0] 30) hb2 (by simp));clear hr2 hb2
      try go_simp
      refine hK.out _ _ (fun _=>?_) ?_
      · exact sk.o
      clear hK K
      try simp only[Act.put,dJ,dE,dz]
      refine eH (rs:=[8]) (by kernel_rfl) (by simp) ?_;refine bo.cons rfl (fun K hK=>?_) bo.nil;rw[aB (by rfl)];go_simp;go_at_call 133;refine(I5.o _ pq.o).mono ?_;rintro e w3 ⟨a3,c3,rfl,hr3,hb3⟩;have HR3:=ai hr3;have mQ:=ai hb3;have zG:=ai ((pq.o).trans (hb3.mono (pq.o).size));have sL:=ai (HS.o _ zG.o);have Si:=ai (aN BZ2.o hb3 (aJ BZ2.o));clear hr3 hb3
      try go_simp
      refine hK.out _ _ (fun _=>?_) ?_
      · exact sL.o
      clear hK K
      try simp only[Act.put,dJ,dE,dz]
      refine iK 11 sL.o ?_ ?_ ?_;rotate_left 1
      · intro V h;obtain⟨k0,k1,k2,k3⟩:=qc.o V h;go_simp;rfl
      obtain⟨z0,z1,z2,z3,z4⟩:=iT Si.o;have f0:=aO Si.o 0;have f1:=aO Si.o 1;have f2:=aO Si.o 2;have f3:=aO Si.o 3;have f4:=aO Si.o 4;refine eH (rs:=[13]) (by kernel_rfl) (by simp) ?_;refine bo.cons rfl (fun K hK=>?_) bo.nil;go_simp;refine hK.out _ _ (fun g=>absurd rfl g) ?_;refine rB (by rfl) ?_ _;go_wp2_with fail
      go_meet
      case rel =>
       refine⟨_,a1,c1,a2,c2,a3,c3,rfl,?_⟩;exact DU (V4:=w3) (cb:=w1.heap.size) (V1:=WD) (w1:=w1) (V2:=(w1.alloc (.cells #[Nl,Nl,Nl,Nl,I 0] 30))) (w2:=w2) (V3:=w2) (w3:=w3) ub.o HR1.o cH.o ((aK _ _).alloc (aD _) _) Fb.o gK.o (aK _ _) HR3.o mQ.o (aK _ _) Si.o (vI.o.size) (.inr (.inl ⟨aD _,by simp⟩))
  · go_simp;refine hK.out _ _ (fun _=>?_) ?_
    · exact HS.o _ (ub.o.alloc ub.o.size (.cells #[Nl,Nl,Nl,Nl,I 0] 30))
    clear hK K
    try simp only[Act.put,dJ,dE,dz]
    refine eH (rs:=[2]) (by kernel_rfl) (by simp) ?_;refine bo.cons rfl (fun K hK=>?_) bo.nil;rw[aB (by rfl)];go_simp;go_at_call 131;refine(HCS.o _ (ub.o.alloc ub.o.size (.cells #[Nl,Nl,Nl,Nl,I 0] 30))).mono ?_;rintro e w1 ⟨a1,c1,rfl,hr1,hb1⟩;have HR1:=ai hr1;have cH:=ai hb1;have vI:=ai (((ub.o.alloc ub.o.size (.cells #[Nl,Nl,Nl,Nl,I 0] 30))).trans (hb1.mono ((ub.o.alloc ub.o.size (.cells #[Nl,Nl,Nl,Nl,I 0] 30))).size));have yM:=ai (HS.o _ vI.o);have BZ1:=ai (aN (bB WD #[Nl,Nl,Nl,Nl,I 0] 30) hb1 (by simp));clear hr1 hb1
    try go_simp
    refine hK.out _ _ (fun _=>?_) ?_
    · exact yM.o
    clear hK K
    try simp only[Act.put,dJ,dE,dz]
    refine eH (rs:=[5]) (by kernel_rfl) (by simp) ?_;refine bo.cons rfl (fun K hK=>?_) bo.nil;rw[aB (by rfl)];go_simp;go_at_call 132;refine(Yo.o _ vI.o).mono ?_;rintro e w2 ⟨a2,c2,rfl,hr2,hb2⟩;have Fb:=ai hr2;have gK:=ai hb2;have pq:=ai ((vI.o).trans (hb2.mono (vI.o).size));have sk:=ai (HS.o _ pq.o);have BZ2:=ai (aN BZ1.o hb2 (aJ BZ1.o));clear hr2 hb2
    try go_simp
    refine hK.out _ _ (fun _=>?_) ?_
    · exact sk.o
    clear hK K
    try simp only[Act.put,dJ,dE,dz]
    refine eH (rs:=[8]) (by kernel_rfl) (by simp) ?_;refine bo.cons rfl (fun K hK=>?_) bo.nil;rw[aB (by rfl)];go_simp;go_at_call 133;refine(I5.o _ pq.o).mono ?_;rintro e w3 ⟨a3,c3,rfl,hr3,hb3⟩;have HR3:=ai hr3;have mQ:=ai hb3;have zG:=ai ((pq.o).trans (hb3.mono (pq.o).size));have sL:=ai (HS.o _ zG.o);have Si:=ai (aN BZ2.o hb3 (aJ BZ2.o));clear hr3 hb3
    try go_simp
    refine hK.out _ _ (fun _=>?_) ?_
    · exact sL.o
    clear hK K
    try simp only[Act.put,dJ,dE,dz]
    refine iK 11 sL.o ?_ ?_ ?_;rotate_left 1
    · intro V h;obtain⟨k0,k1,k2,k3⟩:=qc.o V h;go_simp;rfl
    obtain⟨z0,z1,z2,z3,z4⟩:=iT Si.o;have f0:=aO Si.o 0;have f1:=aO Si.o 1;have f2:=aO Si.o 2;have f3:=aO Si.o 3;have f4:=aO Si.o 4;refine eH (rs:=[13]) (by kernel_rfl) (by simp) ?_;refine bo.cons rfl (fun K hK=>?_) bo.nil;go_simp;refine hK.out _ _ (fun g=>absurd rfl g) ?_;refine rB (by rfl) ?_ _;go_wp2_with fail
    go_meet
    case rel =>
     refine⟨_,a1,c1,a2,c2,a3,c3,rfl,?_⟩;exact DU (V4:=w3) (cb:=WD.heap.size) (V1:=(WD.alloc (.cells #[Nl,Nl,Nl,Nl,I 0] 30))) (w1:=w1) (V2:=w1) (w2:=w2) (V3:=w2) (w3:=w3) (ub.o.alloc ub.o.size (.cells #[Nl,Nl,Nl,Nl,I 0] 30)) HR1.o cH.o (aK _ _) Fb.o gK.o (aK _ _) HR3.o mQ.o (aK _ _) Si.o (ub.o.size) (.inl (by simp))
 case rest =>
  obtain⟨cb,aS,cS,aF,cF,aL,cL,rfl,ac9⟩:=hcut;have cH:=ai ac9.below;have HKH:Hid (∃lab,wZ WA.heap.size cb wc lab (.slice aS k.aM.length cS) (.slice aF k.frames.length cF) (.slice aL k.slots.length cL) k k.aM 0):=abK ac9;have c0:wc.cell? (Ad cb 0)=some (.slice aS k.aM.length cS):=aq ac9.head 0 rfl;clear ac9;have hks:=hs.aM;go_wp2;go_loopw [23] (fun iv wq=>∃n:Nat,∃lab hs',n<=k.aM.length/\iv=I (n:Int)/\wZ WA.heap.size cb wq lab (.slice aS k.aM.length cS) (.slice aF k.frames.length cF) (.slice aL k.slots.length cL) k hs' n/\Below WA.heap.size WA wq) (fun iv _=>k.aM.length-(intOf iv).toNat)
  case atStart =>
   grind [Hid.o]
  case round =>
   obtain⟨n,lab,hs',hn,rfl,hkh,xf⟩:=hrel;by_cases hlt:n<k.aM.length
   · have hni:(n:Int)<(k.aM.length:Int):=by omega
     obtain⟨sb,rfl,hne,hsl,d0,x0,x1,x2,fz⟩:=hkh.at_ hlt;have hlS:=hkh.same.len;have hlo:WA.heap.size<=wr.heap.size:=xf.size;have hsA:WA.heap.size<=sb:=(hkh.yL sb (by rw[hkh.lS sb rfl];simp)).1;have er:bu hs' n=bu k.aM n:=hkh.rest n (aD _);have hcl:cb<wr.heap.size:=aJ hkh.head;have hfx:=HFX.o wr n (jk.o.trans (xf.mono jk.o.size)) hlt;obtain⟨sh,hsh⟩:=ex (bu k.aM n);rw[<- hsh] at x0 x1 x2 hfx er;obtain⟨pg,dt,fx,ao,cp⟩:=sh;simp only at x0 x1 x2 hfx;obtain⟨Mg,hfl⟩:=hfx;obtain⟨WL,hWL⟩:=ex (wr.alloc (.cells #[I pg,.string dt,.slice ao fx.length cp] 145));have hbL:Below wr.heap.size wr WL:=by grind [Below.refl,Below.alloc]
     have BL:WL.heap[wr.heap.size]?=some (.cells #[I pg,.string dt,.slice ao fx.length cp] 145 (0,0)):=by grind [bB]
     have HCX:Hid (∀V,Below WL.heap.size WL V->Calls Tryz.prog 134 #[.slice ao fx.length cp] V fun e w'=>∃ax cx,e=.returned (.slice ax fx.length cx)/\(w'.cell? (Ad cb 0)=some (.slice (some (Ad sb 0)) k.aM.length cS)/\w'.cell? (Ad wr.heap.size 2)=some (.slice ao fx.length cp))/\((w'.setCell (Ad sb (n*3+2)) (.slice ax fx.length cx)).cell? (Ad cb 0)=some (.slice (some (Ad sb 0)) k.aM.length cS)/\(w'.setCell (Ad sb (n*3+2)) (.slice ax fx.length cx)).cell? (Ad wr.heap.size 2)=some (.slice ao fx.length cp))/\w'.cell? (Ad sb (n*3+2))=some (.slice ao fx.length cp)/\w'.frozen? (Ad sb (n*3+2))=false/\(∃lab' apf,wZ WA.heap.size cb (w'.setCell (Ad sb (n*3+2)) (.slice ax fx.length cx)) lab' (.slice (some (Ad sb 0)) k.aM.length cS) (.slice aF k.frames.length cF) (.slice aL k.slots.length cL) k apf (n+1))/\Below WA.heap.size WA (w'.setCell (Ad sb (n*3+2)) (.slice ax fx.length cx))):=fun V hV=>(acz ao fx.length cp (fx.flatMap qD) V (fw qD 2 (fun _=>rfl) fx) (Mg.below (hbL.trans (hV.mono hbL.size))) (ad9 _) hfl).mono fun e w' ⟨v,h1,h2,h3⟩=>by
      obtain⟨ax,cx,rfl,_⟩:=bg h2;have hb':Below WL.heap.size WL w':=hV.trans (h3.mono hV.size);have hkL:=hkh.below hbL;have hk':=hkL.below hb';have hr':=ou (base':=WL.heap.size) h2 (fun g hg=>gu hV.size (h2.lt g hg).1);obtain⟨sb2,e2,_,auC,d2,_,_,y2,fz2⟩:=hk'.at_ hlt;injection e2 with e2;injection e2 with e2 _ _;subst e2;rw[<- hsh] at y2;obtain⟨lab',hst,_⟩:=hkL.step (n:=n) (ax:=ax) (cx:=cx) (by omega) (gu hlo hbL.size) hb' (by grind);rw[er] at hst;have xl:w'.cell? (Ad wr.heap.size 2)=some (.slice ao fx.length cp):=aq (aN BL hb' (aJ BL)) 2 rfl;have hbA:=(xf.trans (hbL.mono hlo)).trans (hb'.mono (gu hlo hbL.size));have P9:¬wr.heap.size=sb:=fun e=>by omega
      exact⟨ax,cx,h1,⟨d2,xl⟩,⟨(cj _ _ _ _ _ _ hne).trans d2,(cj _ _ _ _ _ _ P9).trans xl⟩,y2,fz2 _,⟨lab',_,hst⟩,aC.below hbA (aC.set (fun b=>b=sb) w' (Ad sb (n*3+2)) _ rfl) hbA.size (fun b e=>by omega)⟩
     have HWL:=ai hWL;have HSL:Hid (WL.drew.cell? (Ad cb 0)=some (.slice (some (Ad sb 0)) k.aM.length cS)/\WL.drew.cell? (Ad wr.heap.size 2)=some (.slice ao fx.length cp)):=⟨(hbL.drew.cell (p:=(Ad cb 0)) hcl).trans d0,aq (aN BL (aK _ _).drew (aJ BL)) 2 rfl⟩;have HDR:=ai (aK WL.heap.size WL).drew;clear hkh xf Mg hfl er hsh hWL hbL BL hlS hlo hsA HKH cH fz hcl;go_upto_region 5 with fail;rw[<- HWL.o]
     go_region_held3 (fun V=>V.cell? (Ad cb 0)=some (.slice (some (Ad sb 0)) k.aM.length cS)/\V.cell? (Ad wr.heap.size 2)=some (.slice ao fx.length cp)) (first | exact sL.o | exact HSL.o | exact HS4.o)
      ((go_at_call 134;refine(HCX.o _ HDR.o).mono ?_;rintro e w5 ⟨ax,cx,rfl,s3,s4,y2,f2,hst,hbA⟩;have sL:=ai s3;have HS4:=ai s4;have HST:=ai hst;have awV:=ai hbA;clear s3 s4 hst hbA))
     all_goals clear HSL sL HS4 HCX
     all_goals go_wp2
     grind [intOf,Hid.o]
   · obtain rfl:n=k.aM.length:=by omega
     have am8:Hid (bJ WA.heap.size cb 30 [] wr ⟨lab,.slice aS k.aM.length cS,.slice aF k.frames.length cF,.slice aL k.slots.length cL,Nl,[]⟩ (aU ⟨k.aM,k.frames,k.slots,k.aj.take 0,k.hand⟩ hs')):=wZ.done (by rw[hkh.same.len];exact hkh);have HSM:=ai hkh.same;have gK:=ai xf;have q3:wr.cell? (Ad w.heap.size 3)=some (.slice a.aP k.aj.length a.cP):=aq (aN KB.o xf (aJ KB.o)) 3 rfl;have PM:=hs.aj;clear hkh xf HKH cH;go_wp2;go_loopw [40] (fun iv wq=>∃m:Nat,∃S hs2,m<=k.aj.length/\iv=I (m:Int)/\cA k.aM hs2/\bJ WA.heap.size cb 30 [] wq S (aU ⟨k.aM,k.frames,k.slots,k.aj.take m,k.hand⟩ hs2)/\Below WA.heap.size WA wq) (fun iv _=>k.aj.length-(intOf iv).toNat)
     case atStart=>grind [Hid.o]
     case round =>
      obtain⟨m,S,hs2,hm,rfl,hsame,rW,xf⟩:=hrel;by_cases J6:m<k.aj.length
      · have hmi:(m:Int)<(k.aj.length:Int):=by omega
        obtain⟨pb,po,hpo,hpl,Us⟩:=HKS.o (by omega);obtain⟨va,ap,cp,v0,v1,v2,hha,hhp,_⟩:=Us m J6;have E7:=hha;obtain⟨aa,ca,H8,_⟩:=hha;subst H8;have hbl:Below w.heap.size w wr:=jk.o.trans (xf.mono jk.o.size);have z0:=(hbl.cell (p:=(Ad pb (po+m*3))) hpl).trans v0;have z1:=(hbl.cell (p:=(Ad pb (po+m*3+1))) hpl).trans v1;have z2:=(hbl.cell (p:=(Ad pb (po+m*3+2))) hpl).trans v2;have har:=hs.aT m J6;have hen:=hs.bf m J6;have htk:=abJ k.aj m J6;obtain⟨sp,hsp⟩:=ex (ak k.aj m);rw[<- hsp] at z0 z1 z2 har hen htk E7 hhp;obtain⟨lv,wU,sF⟩:=sp;simp only at z0 z1 z2 har hen E7 hhp;obtain⟨bP,dP,eP,_⟩:=bg rW.aj;have hLl:S.L.length<=1000000:=by have:=rW.len;grind [aU]
        obtain⟨WL,hWL⟩:=ex (wr.alloc (.cells #[.bool lv,.slice aa wU.length ca,.slice ap sF.length cp] 99));have hbL:Below wr.heap.size wr WL:=by grind [Below.refl,Below.alloc]
        have BL:WL.heap[wr.heap.size]?=some (.cells #[.bool lv,.slice aa wU.length ca,.slice ap sF.length cp] 99 (0,0)):=by grind [bB]
        have Yi:Below wr.heap.size wr WL.drew:=hbL.drew;have BD:WL.drew.heap[wr.heap.size]?=some (.cells #[.bool lv,.slice aa wU.length ca,.slice ap sF.length cp] 99 (0,0)):=aN BL (aK _ _).drew (aJ BL);have HWL:=ai hWL;obtain⟨WD,hWD⟩:=ex WL.drew;rw[<- hWD] at Yi BD;have HWD:=ai hWD;have hkD:=rW.below Yi;have hlD:WA.heap.size<=WD.heap.size:=gu xf.size Yi.size;have HCP:Hid (Calls Tryz.prog 135 #[.agg #[.bool lv,.slice aa wU.length ca,.slice ap sF.length cp]] WD fun e w'=>∃xa nx cx ya ny cy,e=.returned (.agg #[.bool lv,.slice xa nx cx,.slice ya ny cy])/\mX WD.heap.size w' ⟨lv,.slice xa nx cx,.slice ya ny cy⟩ ⟨lv,wU,sF⟩/\(∀b,bX (.slice ya ny cy) b->¬bX (.slice xa nx cx) b)/\Below WD.heap.size WD w'):=(Iy ⟨lv,wU,sF⟩ aa ap wU.length ca cp WD (E7.below (hbl.trans (Yi.mono hbl.size))) (hhp.below (hbl.trans (Yi.mono hbl.size))) har hen).mono fun e w' ⟨va,vp,h1,h2,h3,h4⟩=>by
         obtain⟨xa,cx,ex,_⟩:=bg h2.aT;obtain⟨ya,cy,ey,_⟩:=bg h2.aQ
         grind
        have akJ:Hid (∀V,aC (fun b=>bX S.vP b) WD V->V.cell? (Ad cb 3)=some (.slice bP S.L.length dP)/\V.cell? (Ad wr.heap.size 0)=some (.bool lv)/\V.cell? (Ad wr.heap.size 1)=some (.slice aa wU.length ca)/\V.cell? (Ad wr.heap.size 2)=some (.slice ap sF.length cp)/\V.frozen? (Ad cb 3)=false):=fun V hV=>by
         have b1:=hV.keep hkD.head (fun g=>by have:=rW.lP _ g;grind [bJ.lH]);have b2:=hV.keep BD (fun g=>by have:=(rW.aj.lt _ g).2;omega);refine⟨?_,aq b2 0 rfl,aq b2 1 rfl,aq b2 2 rfl,aO b1 3⟩;rw[<- eP];exact aq b1 3 rfl
        have HRW:Hid (∀w2 o,Below WD.heap.size WD w2->(w2.alloc o).ownsRow WA.heap.size 99 3 (.slice bP S.L.length dP) S.L.length (S.L.flatMap gV)):=fun w2 o hb=>by
         have:=((aC.bZ (D:=fun _=>False) hb).trans (aC.alloc _ w2 o) (fun _ _ g=>g)).row hkD.aj (fun _ _ g=>g)
         grind
        have HPU:Hid (∀w2 w4 O v' l,Below WD.heap.size WD w2->mX WD.heap.size w2 l ⟨lv,wU,sF⟩->(∀b,bX l.vp b->¬bX l.va b)->(w2.alloc O).grownBy w4 S.vP.ownBlock->w4.ownsRow WA.heap.size 99 3 v' (S.L.length+1) (S.L.flatMap gV++gV l)->(v'.ownBlock=S.vP.ownBlock∨v'.ownBlock=some (w2.alloc O).heap.size)->∃S',bJ WA.heap.size cb 30 [] (w4.setCell (Ad cb 3) v') S' (aU ⟨k.aM,k.frames,k.slots,k.aj.take (m+1),k.hand⟩ hs2)/\Below WA.heap.size WA (w4.setCell (Ad cb 3) v')):=fun w2 w4 O v' l h1 h2 h3 h4 h5 h6=>by
         have m1:=hkD.push hlD h1 h2 h3 h4 h5 h6;have m2:=m1.1;rw[htk];have hbA:=xf.trans (Yi.mono xf.size);exact⟨_,m2,aC.below hbA m1.2.2 hbA.size (fun b hb=>(hkD.yL b hb).1)⟩
        have att:=ai hsame;have HSP:Hid (∀w2,Below WD.heap.size WD w2->aC (fun b=>bX S.vP b) WD w2):=fun w2 h=>aC.bZ h
        have HEP:=ai eP;obtain⟨i0,hin,hz0,hz1,hz2⟩:=jy UA;have Eu:=ai hin;have Ia:=ai hz0;have E9:=ai hz1;have yZ:=ai hz2;clear rW hkD xf hbl v0 v1 v2 E7 hhp har hen htk hsp hWL hWD hbL BL Yi BD Us am8 HSM gK hsame eP hin hz0 hz1 hz2;rw[hpo];go_upto_region 10 with fail;rw[<- HWL.o];refine xz (S:=fun V=>aC (fun b=>bX S.vP b) WD V) (z:=7) (by rfl) ?_;rw[<- HWD.o];have qc:=akJ;have nU:Hid (aC (fun b=>bX S.vP b) WD WD):=aC.refl _ _;refine iK 0 nU.o ?_ ?_ ?_;rotate_left 1
        · intro V h;rfl
        refine iK 1 nU.o ?_ ?_ ?_;rotate_left 1
        · intro V h;obtain⟨k0,k1,k2,k3,k4⟩:=qc.o V h;go_simp;rfl
        refine iK 2 nU.o ?_ ?_ ?_;rotate_left 1
        · intro V h;obtain⟨k0,k1,k2,k3,k4⟩:=qc.o V h;go_simp;rfl
        refine eH (rs:=[3]) (by kernel_rfl) (by simp) ?_;refine bo.cons rfl (fun K hK=>?_) bo.nil;rw[aB (by rfl)];go_simp;go_at_call 135;refine HCP.o.mono ?_;rintro e w2 ⟨xa,nx,cx,ya,ny,cy,rfl,hso,hap,hb2⟩;have HSO:=ai hso;have HAP:=ai hap;have gK:=ai hb2;have sk:=ai (HSP.o _ hb2);clear hso hap hb2;try go_simp;refine hK.out _ _ (fun _=>?_) ?_
        · exact sk.o
        clear hK K
        try simp only[Act.put,dJ,dE,dz]
        refine eH (rs:=[4]) (by kernel_rfl) (by simp) ?_;refine bo.cons rfl (fun K hK=>?_) bo.nil;go_simp;refine hK.out _ _ (fun _=>?_) ?_
        · exact sk.o.trans (aC.alloc _ _ _) (fun _ _ g=>g)
        clear hK K
        try simp only[Act.put,dJ,dE,dz]
        have ape:=gK.o.size;refine eH (rs:=[5]) (by kernel_rfl) (by simp) ?_;refine bo.cons rfl (fun K hK=>?_) bo.nil;rw[aB (by rfl)];refine qK (P:=Tryz.prog) _ _ 28 rfl WA.heap.size 99 i0 (.agg #[.bool false,Nl,Nl]) 3 56 Tryz.underlying28 Eu.o Ia.o E9.o yZ.o rfl (by decide) (.slice bP S.L.length dP) S.L.length (S.L.flatMap gV) rfl (HRW.o _ _ gK.o) (some (Ad w2.heap.size 0)) 1 1 (gV ⟨lv,.slice xa nx cx,.slice ya ny cy⟩) rfl rfl (fun _=>⟨_,rfl,Uz w2 _ _⟩) (by intro u hu;simp[gV] at hu;rcases hu with rfl | rfl | rfl <;> rfl) (by grind [maxLen]) (by omega) (by grind [World.size_alloc]) ?_;intro vG wG hoG hgG haG;obtain⟨aG,cG,hvG,_,_⟩:=bg hoG;subst hvG;rw[<- HEP.o] at hgG haG;have TM:Hid (aC (fun b=>bX S.vP b) WD wG):=(sk.o.trans (aC.alloc _ _ _) (fun _ _ g=>g)).trans (aC.grown hgG (fun q hq=>hq)) (fun _ _ g=>g);have HPF:=ai (HPU.o w2 wG _ _ ⟨lv,.slice xa nx cx,.slice ya ny cy⟩ gK.o HSO.o HAP.o hgG hoG haG);clear hoG hgG haG;refine hK.out _ _ (fun _=>?_) ?_
        · exact TM.o
        clear hK K
        try simp only[Act.put,dJ,dE,dz]
        refine iK 6 TM.o ?_ ?_ ?_;rotate_left 1
        · intro V h;rfl
        obtain⟨k0,k1,k2,k3,k4⟩:=qc.o _ TM.o;refine eH (rs:=[7]) (by kernel_rfl) (by simp) ?_;refine bo.cons rfl (fun K hK=>?_) bo.nil;go_simp;refine hK.out _ _ (fun g=>absurd rfl g) ?_;refine rB (by rfl) ?_ _;go_wp2;go_roundw
        case rel =>
         obtain⟨S',h1,h2⟩:=HPF.o
         grind [Hid.o]
        grind [intOf]
      · obtain rfl:m=k.aj.length:=by omega
        rw[vQ] at rW;obtain⟨bS,nS,dS,eS⟩:∃b n d,S.vS=.slice b n d:=by obtain⟨b,d,e,_⟩:=bg rW.aM;grind
        obtain⟨bF,nF,dF,eF⟩:∃b n d,S.vF=.slice b n d:=by obtain⟨b,d,e,_⟩:=bg rW.frames;grind
        obtain⟨bL,nL,dL,eL⟩:∃b n d,S.vL=.slice b n d:=by obtain⟨b,d,e,_⟩:=bg rW.slots;grind
        obtain⟨bP,nP,dP,eP⟩:∃b n d,S.vP=.slice b n d:=by obtain⟨b,d,e,_⟩:=bg rW.aj;grind
        have c0:=rW.c0;have c1:=rW.c1;have c2:=rW.c2;have c3:=rW.c3;have c4:wr.cell? (Ad cb 4)=some (I k.hand):=rW.c4;rw[eS] at c0;rw[eF] at c1;rw[eL] at c2;rw[eP] at c3;have R1:=aN RB.o xf (aJ RB.o);obtain⟨y0,y1,y2,y3,y4⟩:=iT R1;have f0:=aO R1 0;have f1:=aO R1 1;have f2:=aO R1 2;have f3:=aO R1 3;have f4:=aO R1 4;have hwl:w.heap.size+1<WA.heap.size:=aJ RB.o;have hbl:Below w.heap.size w wr:=jk.o.trans (xf.mono jk.o.size);have dB:Hid (∀V,aC (fun b=>b=w.heap.size+1) wr V->P (.returned (.agg #[.slice bS nS dS,.slice bF nF dF,.slice bL nL dL,.slice bP nP dP,I k.hand])) V):=fun V hV=>by
         rw[HP.o];refine⟨S,hs2,hsame,by grind,(rW.toKr.kp hV (fun b hb e=>by have:=(rW.yL b hb).1;omega)).mono (by omega),?_⟩
         grind [aC.below]
        have h5:Hid (∀s f l p h,(((((wr.setCell (Ad (w.heap.size+1) 0) s).setCell (Ad (w.heap.size+1) 1) f).setCell (Ad (w.heap.size+1) 2) l).setCell (Ad (w.heap.size+1) 3) p).setCell (Ad (w.heap.size+1) 4) h).heap[w.heap.size+1]?=some (.cells #[s,f,l,p,h] 30 (0,0))/\aC (fun b=>b=w.heap.size+1) wr (((((wr.setCell (Ad (w.heap.size+1) 0) s).setCell (Ad (w.heap.size+1) 1) f).setCell (Ad (w.heap.size+1) 2) l).setCell (Ad (w.heap.size+1) 3) p).setCell (Ad (w.heap.size+1) 4) h)):=fun s f l p h=>⟨fP (fP (fP (fP (fP R1 0 s) 1 f) 2 l) 3 p) 4 h,((((aC.set (fun b=>b=w.heap.size+1) wr (Ad (w.heap.size+1) 0) s rfl).trans (aC.set (fun b=>b=w.heap.size+1) _ (Ad (w.heap.size+1) 1) f rfl) (fun _ _ g=>g)).trans (aC.set (fun b=>b=w.heap.size+1) _ (Ad (w.heap.size+1) 2) l rfl) (fun _ _ g=>g)).trans (aC.set (fun b=>b=w.heap.size+1) _ (Ad (w.heap.size+1) 3) p rfl) (fun _ _ g=>g)).trans (aC.set (fun b=>b=w.heap.size+1) _ (Ad (w.heap.size+1) 4) h rfl) (fun _ _ g=>g)⟩
        clear rW xf hsame eS eF eL eP hwl hbl am8 HSM gK R1;go_wp2;obtain⟨q1,q2⟩:=h5.out (.slice bS nS dS) (.slice bF nF dF) (.slice bL nL dL) (.slice bP nP dP) (I k.hand);obtain⟨y0,y1,y2,y3,y4⟩:=iT q1;refine bI (v:=.agg #[.slice bS nS dS,.slice bF nF dF,.slice bL nL dL,.slice bP nP dP,I k.hand]) (by simp[results,Tryz.results79,go_sem,y0,y1,y2,y3,y4]) rfl ?_;exact dB.o _ q2
end Go.Proofs.YtlgoihmkgaaemaaGreat
