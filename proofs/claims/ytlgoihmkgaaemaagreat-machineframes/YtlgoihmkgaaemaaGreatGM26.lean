import Derived.Test.YtlgoihmkgaaemaaGreatGM25
set_option maxHeartbeats 20000000
set_option linter.unusedVariables false
set_option maxRecDepth 100000
set_option linter.unusedSimpArgs false
namespace Go.Proofs.YtlgoihmkgaaemaaGreat
open Go.RowKit
theorem wJ.at_ {lo cb:Nat} {w:World} {lab:Nat->oN} {aS:Option Addr} {m cS:Nat} {vF vL:Value} {k:aR} {hs:List bG} {n:Nat} (h:wJ lo cb w lab (.slice aS m cS) vF vL k hs n) (hn:n<k.aM.length) :
  ∃sb,aS=some (Ad sb 0)/\¬cb=sb/\sb<w.heap.size/\w.cell? (Ad cb 0)=some (.slice aS m cS)/\w.cell? (Ad sb (n*3))=some (I (bu k.aM n).page)/\w.cell? (Ad sb (n*3+1))=some (.string (bu k.aM n).data)/\w.cell? (Ad sb (n*3+2))=some (.slice (bu k.aM n).ao (bu k.aM n).eO.length (bu k.aM n).cap)/\∀j,w.frozen? (Ad sb j)=false:=by
 have hl:=h.same.len;obtain⟨ao,cap,e,hc,hg⟩:=bh h.aM;injection e with e1 e2 e3;subst e1 e2 e3;obtain⟨g,rfl,hg1,hg2⟩:=hg (by omega);have at_:=fun j (hj:j<3)=>jY ni (fun _=>rfl) Bv h.aM n j (by omega) hj
 have er:hs.getD n Bv=bu k.aM n:=h.rest n (aH _);rw[er] at at_;exact⟨g,rfl,fun e=>by have:=h.lS g rfl;grind [lH],hg2,aq h.head 0 rfl,at_ 0 (by omega),at_ 1 (by omega),at_ 2 (by omega),iF h.aM⟩
theorem TS:(Tryz.prog.info? 99).map (fun i=>(i.zero,i.size,i.bytes))=some (some (.agg #[.bool false,Nl,Nl]),3,56):=by rfl
theorem TR (w:World) (xs:List Value) (e:TypeId):∀j u,xs[j]?=some u->(w.alloc (.cells xs.toArray e)).cell? (((Ad w.heap.size 0):Addr).add j)=some u:=fun j u hu=>by
 grind [Addr.add_lit,aq,bD]
theorem aaW (l:List cV) (m:Nat) (h:m<l.length):l.take (m+1)=l.take m++[ak l m]:=by
 grind [List.take_add_one,ak]
theorem Qo (k:aR) (a:ja) (w:World) (hK:jo w a k) (hs:Fh k) :
  Calls Tryz.prog 79 #[.agg (bc a k)] w (Vp w k):=by
 obtain⟨P,hP⟩:=ex (Vp w k);rw[<- hP];have HP:=ai hP;clear hP;have HKS:=ai hK.aj;have Zf:=ai (AO (f:=ni) (n:=3) (fun _=>rfl) (ads hK.aM));have Lg:=ai (AO (f:=iT) (n:=4) (fun _=>rfl) hK.frames);have HRL:=ai (AO (f:=iQ) (n:=2) (fun _=>rfl) hK.slots);obtain⟨WA,mj⟩:=ex ((w.alloc (.cells (bc a k) 30)).alloc (.cells #[Nl,Nl,Nl,Nl,I 0] 30));have jQ:Hid (Below w.heap.size w WA):=by rw[mj];exact((aJ _ _).alloc (aH _) _).alloc (by simp) _
 have KB:Hid (WA.heap[w.heap.size]?=some (.cells (bc a k) 30 (0,0))):=by rw[mj];exact bl (bD w _ _) _
 have RB:Hid (WA.heap[w.heap.size+1]?=some (.cells #[Nl,Nl,Nl,Nl,I 0] 30 (0,0))):=by
  grind [World.alloc]
 have HS:Hid (∀V,Below WA.heap.size WA V->V.cell? (Ad w.heap.size 0)=some (.slice a.aS k.aM.length a.cS)/\V.cell? (Ad w.heap.size 1)=some (.slice a.aF k.frames.length a.cF)/\V.cell? (Ad w.heap.size 2)=some (.slice a.aL k.slots.length a.cL)/\V.cell? (Ad w.heap.size 4)=some (I k.hand)):=fun V hb=>by
  have h1:=aN KB.o hb (aI KB.o);exact⟨aq h1 0 rfl,aq h1 1 rfl,aq h1 2 rfl,aq h1 4 rfl⟩
 have HCS:Hid (∀V,Below WA.heap.size WA V->Calls Tryz.prog 131 #[.slice a.aS k.aM.length a.cS] V fun e w'=>∃ad c,e=.returned (.slice ad k.aM.length c)/\w'.ownsRow V.heap.size 145 3 (.slice ad k.aM.length c) k.aM.length (k.aM.flatMap ni)/\Below V.heap.size V w'):=fun V hV=>(abO _ _ _ _ V (fT ni 3 (fun _=>rfl) k.aM) (Zf.o.below (jQ.o.trans (hV.mono jQ.o.size))) (adt _) hs.aM).mono fun e w' ⟨v,h1,h2,h3⟩=>by
  grind [bh]
 have HCF:Hid (∀V,Below WA.heap.size WA V->Calls Tryz.prog 132 #[.slice a.aF k.frames.length a.cF] V fun e w'=>∃ad c,e=.returned (.slice ad k.frames.length c)/\w'.ownsRow V.heap.size 169 4 (.slice ad k.frames.length c) k.frames.length (k.frames.flatMap iT)/\Below V.heap.size V w'):=fun V hV=>(abS _ _ _ _ V (fT iT 4 (fun _=>rfl) k.frames) (Lg.o.below (jQ.o.trans (hV.mono jQ.o.size))) (adw _) hs.frames).mono fun e w' ⟨v,h1,h2,h3⟩=>by
  grind [bh]
 have Oj:Hid (∀V,Below WA.heap.size WA V->Calls Tryz.prog 133 #[.slice a.aL k.slots.length a.cL] V fun e w'=>∃ad c,e=.returned (.slice ad k.slots.length c)/\w'.ownsRow V.heap.size 171 2 (.slice ad k.slots.length c) k.slots.length (k.slots.flatMap iQ)/\Below V.heap.size V w'):=fun V hV=>(abN _ _ _ _ V (fT iQ 2 (fun _=>rfl) k.slots) (HRL.o.below (jQ.o.trans (hV.mono jQ.o.size))) (adr _) hs.slots).mono fun e w' ⟨v,h1,h2,h3⟩=>by
  grind [bh]
 have HFX:Hid (∀V n,Below w.heap.size w V->n<k.aM.length->mO V (bu k.aM n).ao (bu k.aM n).eO.length ((bu k.aM n).eO.flatMap qd)/\(bu k.aM n).eO.length<=1000000):=fun V n hb hn=>by
  obtain⟨b,off,_,_,hi⟩:=hK.aM (by omega);have h4:qG w (bu k.aM n).ao (bu k.aM n).eO:=(hi n hn).2.2.2;exact⟨AO (f:=qd) (n:=2) (fun _=>rfl) (adu (h4.below hb)),hs.eO n hn⟩
 have qu:Hid (∀V:World,(V.cell? (Ad w.heap.size 0)=some (.slice a.aS k.aM.length a.cS)/\V.cell? (Ad w.heap.size 1)=some (.slice a.aF k.frames.length a.cF)/\V.cell? (Ad w.heap.size 2)=some (.slice a.aL k.slots.length a.cL)/\V.cell? (Ad w.heap.size 4)=some (I k.hand))->V.cell? (Ad w.heap.size 0)=some (.slice a.aS k.aM.length a.cS)/\V.cell? (Ad w.heap.size 1)=some (.slice a.aF k.frames.length a.cF)/\V.cell? (Ad w.heap.size 2)=some (.slice a.aL k.slots.length a.cL)/\V.cell? (Ad w.heap.size 4)=some (I k.hand)):=fun V h=>h
 have se:=ai mj;unfold bc at se ⊢;clear mj hK;go_enter Tryz.func79,Tryz.ntmps79;go_upto_region 1 with fail;rw[<- se.o];go_cut [3] (fun x3 wx=>∃cb aS cS aF cF aL cL,x3=.pointer (some (Ad cb 0))/\Pm WA.heap.size WA wx cb (.slice aS k.aM.length cS) (.slice aF k.frames.length cF) (.slice aL k.slots.length cL) k.hand k)
 case first =>
  refine xe (S:=fun V=>V.cell? (Ad w.heap.size 0)=some (.slice a.aS k.aM.length a.cS)/\V.cell? (Ad w.heap.size 1)=some (.slice a.aF k.frames.length a.cF)/\V.cell? (Ad w.heap.size 2)=some (.slice a.aL k.slots.length a.cL)/\V.cell? (Ad w.heap.size 4)=some (I k.hand)) (z:=13) (by rfl) ?_;have tM:=ai (aJ WA.heap.size WA).drew;obtain⟨WD,hWD⟩:=ex WA.drew;rw[<- hWD] at tM ⊢;clear hWD;have oh:=ai (HS.o _ tM.o);refine iE 0 oh.o ?_ ?_ ?_;rotate_left 1
  · intro V h;rfl
  refine iE 1 oh.o ?_ ?_ ?_;rotate_left 1
  · intro V h;obtain⟨k0,k1,k2,k3⟩:=qu.o V h;go_simp;rfl
  refine iE 3 oh.o ?_ ?_ ?_;rotate_left 1
  · intro V h;rfl
  refine iE 4 oh.o ?_ ?_ ?_;rotate_left 1
  · intro V h;obtain⟨k0,k1,k2,k3⟩:=qu.o V h;go_simp;rfl
  refine iE 6 oh.o ?_ ?_ ?_;rotate_left 1
  · intro V h;obtain⟨k0,k1,k2,k3⟩:=qu.o V h;go_simp;rfl
  refine iE 7 oh.o ?_ ?_ ?_;rotate_left 1
  · intro V h;obtain⟨k0,k1,k2,k3⟩:=qu.o V h;go_simp;rfl
  refine iE 9 oh.o ?_ ?_ ?_;rotate_left 1
  · intro V h;obtain⟨k0,k1,k2,k3⟩:=qu.o V h;go_simp;rfl
  refine iE 10 oh.o ?_ ?_ ?_;rotate_left 1
  · intro V h;obtain⟨k0,k1,k2,k3⟩:=qu.o V h;go_simp;rfl
  refine eu (rs:=[2,12]) (by kernel_rfl) (by simp) ?_;refine bo.cons rfl (fun K hK=>?_) (bo.cons rfl (fun K hK=>?_) bo.nil)
  · rw[aB (by rfl)];go_simp;go_at_call 131;refine(HCS.o _ tM.o).mono ?_;rintro e w1 ⟨a1,c1,rfl,hr1,hb1⟩;have HR1:=ai hr1;have cM:=ai hb1;have uY:=ai ((tM.o).trans (hb1.mono (tM.o).size));have yr:=ai (HS.o _ uY.o);clear hr1 hb1
    try go_simp
    refine hK.out _ _ (fun _=>?_) ?_
    · exact yr.o
    clear hK K
    try simp only[Act.put,dC,dw,dh]
    refine eu (rs:=[5,12]) (by kernel_rfl) (by simp) ?_;refine bo.cons rfl (fun K hK=>?_) (bo.cons rfl (fun K hK=>?_) bo.nil)
    · rw[aB (by rfl)];go_simp;go_at_call 132;refine(HCF.o _ uY.o).mono ?_;rintro e w2 ⟨a2,c2,rfl,hr2,hb2⟩;have CK:=ai hr2;have gP:=ai hb2;have pM:=ai ((uY.o).trans (hb2.mono (uY.o).size));have rJ:=ai (HS.o _ pM.o);clear hr2 hb2
      try go_simp
      refine hK.out _ _ (fun _=>?_) ?_
      · exact rJ.o
      clear hK K
      try simp only[Act.put,dC,dw,dh]
      refine eu (rs:=[8,12]) (by kernel_rfl) (by simp) ?_;refine bo.cons rfl (fun K hK=>?_) (bo.cons rfl (fun K hK=>?_) bo.nil)
      · rw[aB (by rfl)];go_simp;go_at_call 133;refine(Oj.o _ pM.o).mono ?_;rintro e w3 ⟨a3,c3,rfl,hr3,hb3⟩;have Z8:=ai hr3;have m7:=ai hb3;have Bg:=ai ((pM.o).trans (hb3.mono (pM.o).size));have si:=ai (HS.o _ Bg.o);clear hr3 hb3
        try go_simp
        refine hK.out _ _ (fun _=>?_) ?_
        · exact si.o
        clear hK K
        try simp only[Act.put,dC,dw,dh]
        refine iE 11 si.o ?_ ?_ ?_;rotate_left 1
        · intro V h;obtain⟨k0,k1,k2,k3⟩:=qu.o V h;go_simp;rfl
        refine eu (rs:=[12]) (by kernel_rfl) (by simp) ?_;refine bo.cons rfl (fun K hK=>?_) bo.nil;go_simp;refine hK.out _ _ (fun _=>?_) ?_
        · exact HS.o _ (Bg.o.alloc Bg.o.size (.cells #[Nl,Nl,Nl,Nl,I 0] 30))
        clear hK K
        try simp only[Act.put,dC,dw,dh]
        refine eu (rs:=[13]) (by kernel_rfl) (by simp) ?_;refine bo.cons rfl (fun K hK=>?_) bo.nil;go_simp;refine hK.out _ _ (fun g=>absurd rfl g) ?_;refine qO (by rfl) ?_ _;go_wp2_with fail
        go_meet
        case rel =>
         refine⟨_,a1,c1,a2,c2,a3,c3,rfl,?_⟩;exact Yt (V1:=WD) (w1:=w1) (V2:=w1) (w2:=w2) (V3:=w2) (w3:=w3) tM.o HR1.o cM.o (aJ _ _) CK.o gP.o (aJ _ _) Z8.o m7.o
      · go_simp;refine hK.out _ _ (fun _=>?_) ?_
        · exact HS.o _ (pM.o.alloc pM.o.size (.cells #[Nl,Nl,Nl,Nl,I 0] 30))
        clear hK K
        try simp only[Act.put,dC,dw,dh]
        refine eu (rs:=[8]) (by kernel_rfl) (by simp) ?_;refine bo.cons rfl (fun K hK=>?_) bo.nil;rw[aB (by rfl)];go_simp;go_at_call 133;refine(Oj.o _ (pM.o.alloc pM.o.size (.cells #[Nl,Nl,Nl,Nl,I 0] 30))).mono ?_;rintro e w3 ⟨a3,c3,rfl,hr3,hb3⟩;have Z8:=ai hr3;have m7:=ai hb3;have Bg:=ai (((pM.o.alloc pM.o.size (.cells #[Nl,Nl,Nl,Nl,I 0] 30))).trans (hb3.mono ((pM.o.alloc pM.o.size (.cells #[Nl,Nl,Nl,Nl,I 0] 30))).size));have si:=ai (HS.o _ Bg.o);have Rp:=ai (aN (bD w2 #[Nl,Nl,Nl,Nl,I 0] 30) hb3 (by simp));clear hr3 hb3
        try go_simp
        refine hK.out _ _ (fun _=>?_) ?_
        · exact si.o
        clear hK K
        try simp only[Act.put,dC,dw,dh]
        refine iE 11 si.o ?_ ?_ ?_;rotate_left 1
        · intro V h;obtain⟨k0,k1,k2,k3⟩:=qu.o V h;go_simp;rfl
        obtain⟨z0,z1,z2,z3,z4⟩:=iI Rp.o;have f0:=aQ Rp.o 0;have f1:=aQ Rp.o 1;have f2:=aQ Rp.o 2;have f3:=aQ Rp.o 3;have f4:=aQ Rp.o 4;refine eu (rs:=[13]) (by kernel_rfl) (by simp) ?_;refine bo.cons rfl (fun K hK=>?_) bo.nil;go_simp;refine hK.out _ _ (fun g=>absurd rfl g) ?_;refine qO (by rfl) ?_ _;go_wp2_with fail
        go_meet
        case rel =>
         refine⟨_,a1,c1,a2,c2,a3,c3,rfl,?_⟩;exact Dz (V4:=w3) (cb:=w2.heap.size) (V1:=WD) (w1:=w1) (V2:=w1) (w2:=w2) (V3:=(w2.alloc (.cells #[Nl,Nl,Nl,Nl,I 0] 30))) (w3:=w3) tM.o HR1.o cM.o (aJ _ _) CK.o gP.o ((aJ _ _).alloc (aH _) _) Z8.o m7.o (aJ _ _) Rp.o (pM.o.size) (.inr (.inr (.inl ⟨aH _,by simp⟩)))
    · go_simp;refine hK.out _ _ (fun _=>?_) ?_
      · exact HS.o _ (uY.o.alloc uY.o.size (.cells #[Nl,Nl,Nl,Nl,I 0] 30))
      clear hK K
      try simp only[Act.put,dC,dw,dh]
      refine eu (rs:=[5]) (by kernel_rfl) (by simp) ?_;refine bo.cons rfl (fun K hK=>?_) bo.nil;rw[aB (by rfl)];go_simp;go_at_call 132;refine(HCF.o _ (uY.o.alloc uY.o.size (.cells #[Nl,Nl,Nl,Nl,I 0] 30))).mono ?_;rintro e w2 ⟨a2,c2,rfl,hr2,hb2⟩;have CK:=ai hr2;have gP:=ai hb2;have pM:=ai (((uY.o.alloc uY.o.size (.cells #[Nl,Nl,Nl,Nl,I 0] 30))).trans (hb2.mono ((uY.o.alloc uY.o.size (.cells #[Nl,Nl,Nl,Nl,I 0] 30))).size));have rJ:=ai (HS.o _ pM.o);have BZ2:=ai (aN (bD w1 #[Nl,Nl,Nl,Nl,I 0] 30) hb2 (by simp));clear hr2 hb2
      try go_simp
      refine hK.out _ _ (fun _=>?_) ?_
      · exact rJ.o
      clear hK K
      try simp only[Act.put,dC,dw,dh]
      refine eu (rs:=[8]) (by kernel_rfl) (by simp) ?_;refine bo.cons rfl (fun K hK=>?_) bo.nil;rw[aB (by rfl)];go_simp;go_at_call 133;refine(Oj.o _ pM.o).mono ?_;rintro e w3 ⟨a3,c3,rfl,hr3,hb3⟩;have Z8:=ai hr3;have m7:=ai hb3;have Bg:=ai ((pM.o).trans (hb3.mono (pM.o).size));have si:=ai (HS.o _ Bg.o);have Rp:=ai (aN BZ2.o hb3 (aI BZ2.o));clear hr3 hb3
      try go_simp
      refine hK.out _ _ (fun _=>?_) ?_
      · exact si.o
      clear hK K
      try simp only[Act.put,dC,dw,dh]
      refine iE 11 si.o ?_ ?_ ?_;rotate_left 1
      · intro V h;obtain⟨k0,k1,k2,k3⟩:=qu.o V h;go_simp;rfl
      obtain⟨z0,z1,z2,z3,z4⟩:=iI Rp.o;have f0:=aQ Rp.o 0;have f1:=aQ Rp.o 1;have f2:=aQ Rp.o 2;have f3:=aQ Rp.o 3;have f4:=aQ Rp.o 4;refine eu (rs:=[13]) (by kernel_rfl) (by simp) ?_;refine bo.cons rfl (fun K hK=>?_) bo.nil;go_simp;refine hK.out _ _ (fun g=>absurd rfl g) ?_;refine qO (by rfl) ?_ _;go_wp2_with fail
      go_meet
      case rel =>
       refine⟨_,a1,c1,a2,c2,a3,c3,rfl,?_⟩;exact Dz (V4:=w3) (cb:=w1.heap.size) (V1:=WD) (w1:=w1) (V2:=(w1.alloc (.cells #[Nl,Nl,Nl,Nl,I 0] 30))) (w2:=w2) (V3:=w2) (w3:=w3) tM.o HR1.o cM.o ((aJ _ _).alloc (aH _) _) CK.o gP.o (aJ _ _) Z8.o m7.o (aJ _ _) Rp.o (uY.o.size) (.inr (.inl ⟨aH _,by simp⟩))
  · go_simp;refine hK.out _ _ (fun _=>?_) ?_
    · exact HS.o _ (tM.o.alloc tM.o.size (.cells #[Nl,Nl,Nl,Nl,I 0] 30))
    clear hK K
    try simp only[Act.put,dC,dw,dh]
    refine eu (rs:=[2]) (by kernel_rfl) (by simp) ?_;refine bo.cons rfl (fun K hK=>?_) bo.nil;rw[aB (by rfl)];go_simp;go_at_call 131;refine(HCS.o _ (tM.o.alloc tM.o.size (.cells #[Nl,Nl,Nl,Nl,I 0] 30))).mono ?_;rintro e w1 ⟨a1,c1,rfl,hr1,hb1⟩;have HR1:=ai hr1;have cM:=ai hb1;have uY:=ai (((tM.o.alloc tM.o.size (.cells #[Nl,Nl,Nl,Nl,I 0] 30))).trans (hb1.mono ((tM.o.alloc tM.o.size (.cells #[Nl,Nl,Nl,Nl,I 0] 30))).size));have yr:=ai (HS.o _ uY.o);have BZ1:=ai (aN (bD WD #[Nl,Nl,Nl,Nl,I 0] 30) hb1 (by simp));clear hr1 hb1
    try go_simp
    refine hK.out _ _ (fun _=>?_) ?_
    · exact yr.o
    clear hK K
    try simp only[Act.put,dC,dw,dh]
    refine eu (rs:=[5]) (by kernel_rfl) (by simp) ?_;refine bo.cons rfl (fun K hK=>?_) bo.nil;rw[aB (by rfl)];go_simp;go_at_call 132;refine(HCF.o _ uY.o).mono ?_;rintro e w2 ⟨a2,c2,rfl,hr2,hb2⟩;have CK:=ai hr2;have gP:=ai hb2;have pM:=ai ((uY.o).trans (hb2.mono (uY.o).size));have rJ:=ai (HS.o _ pM.o);have BZ2:=ai (aN BZ1.o hb2 (aI BZ1.o));clear hr2 hb2
    try go_simp
    refine hK.out _ _ (fun _=>?_) ?_
    · exact rJ.o
    clear hK K
    try simp only[Act.put,dC,dw,dh]
    refine eu (rs:=[8]) (by kernel_rfl) (by simp) ?_;refine bo.cons rfl (fun K hK=>?_) bo.nil;rw[aB (by rfl)];go_simp;go_at_call 133;refine(Oj.o _ pM.o).mono ?_;rintro e w3 ⟨a3,c3,rfl,hr3,hb3⟩;have Z8:=ai hr3;have m7:=ai hb3;have Bg:=ai ((pM.o).trans (hb3.mono (pM.o).size));have si:=ai (HS.o _ Bg.o);have Rp:=ai (aN BZ2.o hb3 (aI BZ2.o));clear hr3 hb3
    try go_simp
    refine hK.out _ _ (fun _=>?_) ?_
    · exact si.o
    clear hK K
    try simp only[Act.put,dC,dw,dh]
    refine iE 11 si.o ?_ ?_ ?_;rotate_left 1
    · intro V h;obtain⟨k0,k1,k2,k3⟩:=qu.o V h;go_simp;rfl
    obtain⟨z0,z1,z2,z3,z4⟩:=iI Rp.o;have f0:=aQ Rp.o 0;have f1:=aQ Rp.o 1;have f2:=aQ Rp.o 2;have f3:=aQ Rp.o 3;have f4:=aQ Rp.o 4;refine eu (rs:=[13]) (by kernel_rfl) (by simp) ?_;refine bo.cons rfl (fun K hK=>?_) bo.nil;go_simp;refine hK.out _ _ (fun g=>absurd rfl g) ?_;refine qO (by rfl) ?_ _;go_wp2_with fail
    go_meet
    case rel =>
     refine⟨_,a1,c1,a2,c2,a3,c3,rfl,?_⟩;exact Dz (V4:=w3) (cb:=WD.heap.size) (V1:=(WD.alloc (.cells #[Nl,Nl,Nl,Nl,I 0] 30))) (w1:=w1) (V2:=w1) (w2:=w2) (V3:=w2) (w3:=w3) (tM.o.alloc tM.o.size (.cells #[Nl,Nl,Nl,Nl,I 0] 30)) HR1.o cM.o (aJ _ _) CK.o gP.o (aJ _ _) Z8.o m7.o (aJ _ _) Rp.o (tM.o.size) (.inl (by simp))
 case rest =>
  obtain⟨cb,aS,cS,aF,cF,aL,cL,rfl,acv⟩:=hcut;have cM:=ai acv.below;have HKH:Hid (∃lab,wJ WA.heap.size cb wc lab (.slice aS k.aM.length cS) (.slice aF k.frames.length cF) (.slice aL k.slots.length cL) k k.aM 0):=aaX acv;have c0:wc.cell? (Ad cb 0)=some (.slice aS k.aM.length cS):=aq acv.head 0 rfl;clear acv;have hks:=hs.aM;go_wp2;go_loopw [23] (fun iv wq=>∃n:Nat,∃lab hs',n<=k.aM.length/\iv=I (n:Int)/\wJ WA.heap.size cb wq lab (.slice aS k.aM.length cS) (.slice aF k.frames.length cF) (.slice aL k.slots.length cL) k hs' n/\Below WA.heap.size WA wq) (fun iv _=>k.aM.length-(intOf iv).toNat)
  case atStart =>
   grind [Hid.o]
  case round =>
   obtain⟨n,lab,hs',hn,rfl,hkh,wM⟩:=hrel;by_cases hlt:n<k.aM.length
   · have hni:(n:Int)<(k.aM.length:Int):=by omega
     obtain⟨sb,rfl,hne,hsl,d0,x0,x1,x2,fz⟩:=hkh.at_ hlt;have hlS:=hkh.same.len;have hlo:WA.heap.size<=wr.heap.size:=wM.size;have hsA:WA.heap.size<=sb:=(hkh.yq sb (by rw[hkh.lS sb rfl];simp)).1;have er:bu hs' n=bu k.aM n:=hkh.rest n (aH _);have hcl:cb<wr.heap.size:=aI hkh.head;have hfx:=HFX.o wr n (jQ.o.trans (wM.mono jQ.o.size)) hlt;obtain⟨sh,hsh⟩:=ex (bu k.aM n);rw[<- hsh] at x0 x1 x2 hfx er;obtain⟨pg,dt,fx,ao,cp⟩:=sh;simp only at x0 x1 x2 hfx;obtain⟨LN,hfl⟩:=hfx;obtain⟨WL,hWL⟩:=ex (wr.alloc (.cells #[I pg,.string dt,.slice ao fx.length cp] 145));have hbL:Below wr.heap.size wr WL:=by grind [Below.refl,Below.alloc]
     have BL:WL.heap[wr.heap.size]?=some (.cells #[I pg,.string dt,.slice ao fx.length cp] 145 (0,0)):=by grind [bD]
     have HCX:Hid (∀V,Below WL.heap.size WL V->Calls Tryz.prog 134 #[.slice ao fx.length cp] V fun e w'=>∃ax cx,e=.returned (.slice ax fx.length cx)/\(w'.cell? (Ad cb 0)=some (.slice (some (Ad sb 0)) k.aM.length cS)/\w'.cell? (Ad wr.heap.size 2)=some (.slice ao fx.length cp))/\((w'.setCell (Ad sb (n*3+2)) (.slice ax fx.length cx)).cell? (Ad cb 0)=some (.slice (some (Ad sb 0)) k.aM.length cS)/\(w'.setCell (Ad sb (n*3+2)) (.slice ax fx.length cx)).cell? (Ad wr.heap.size 2)=some (.slice ao fx.length cp))/\w'.cell? (Ad sb (n*3+2))=some (.slice ao fx.length cp)/\w'.frozen? (Ad sb (n*3+2))=false/\(∃lab' an6,wJ WA.heap.size cb (w'.setCell (Ad sb (n*3+2)) (.slice ax fx.length cx)) lab' (.slice (some (Ad sb 0)) k.aM.length cS) (.slice aF k.frames.length cF) (.slice aL k.slots.length cL) k an6 (n+1))/\Below WA.heap.size WA (w'.setCell (Ad sb (n*3+2)) (.slice ax fx.length cx))):=fun V hV=>(abR ao fx.length cp (fx.flatMap qd) V (fT qd 2 (fun _=>rfl) fx) (LN.below (hbL.trans (hV.mono hbL.size))) (adv _) hfl).mono fun e w' ⟨v,h1,h2,h3⟩=>by
      obtain⟨ax,cx,rfl,_⟩:=bh h2;have hb':Below WL.heap.size WL w':=hV.trans (h3.mono hV.size);have hkL:=hkh.below hbL;have hk':=hkL.below hb';have hr':=nX (base':=WL.heap.size) h2 (fun g hg=>gT hV.size (h2.lt g hg).1);obtain⟨sb2,e2,_,auf,d2,_,_,y2,fz2⟩:=hk'.at_ hlt;injection e2 with e2;injection e2 with e2 _ _;subst e2;rw[<- hsh] at y2;obtain⟨lab',hst,_⟩:=hkL.step (n:=n) (ax:=ax) (cx:=cx) (by omega) (gT hlo hbL.size) hb' (by grind);rw[er] at hst;have xl:w'.cell? (Ad wr.heap.size 2)=some (.slice ao fx.length cp):=aq (aN BL hb' (aI BL)) 2 rfl;have hbA:=(wM.trans (hbL.mono hlo)).trans (hb'.mono (gT hlo hbL.size));have Pz:¬wr.heap.size=sb:=fun e=>by omega
      exact⟨ax,cx,h1,⟨d2,xl⟩,⟨(b7 _ _ _ _ _ _ hne).trans d2,(b7 _ _ _ _ _ _ Pz).trans xl⟩,y2,fz2 _,⟨lab',_,hst⟩,aC.below hbA (aC.set (fun b=>b=sb) w' (Ad sb (n*3+2)) _ rfl) hbA.size (fun b e=>by omega)⟩
     have HWL:=ai hWL;have HSL:Hid (WL.drew.cell? (Ad cb 0)=some (.slice (some (Ad sb 0)) k.aM.length cS)/\WL.drew.cell? (Ad wr.heap.size 2)=some (.slice ao fx.length cp)):=⟨(hbL.drew.cell (p:=(Ad cb 0)) hcl).trans d0,aq (aN BL (aJ _ _).drew (aI BL)) 2 rfl⟩;have HDR:=ai (aJ WL.heap.size WL).drew;clear hkh wM LN hfl er hsh hWL hbL BL hlS hlo hsA HKH cM fz hcl;go_upto_region 5 with fail;rw[<- HWL.o]
     go_region_held3 (fun V=>V.cell? (Ad cb 0)=some (.slice (some (Ad sb 0)) k.aM.length cS)/\V.cell? (Ad wr.heap.size 2)=some (.slice ao fx.length cp)) (first | exact si.o | exact HSL.o | exact HS4.o)
      ((go_at_call 134;refine(HCX.o _ HDR.o).mono ?_;rintro e w5 ⟨ax,cx,rfl,s3,s4,y2,f2,hst,hbA⟩;have si:=ai s3;have HS4:=ai s4;have HST:=ai hst;have awC:=ai hbA;clear s3 s4 hst hbA))
     all_goals clear HSL si HS4 HCX
     all_goals go_wp2
     grind [intOf,Hid.o]
   · obtain rfl:n=k.aM.length:=by omega
     have al7:Hid (bH WA.heap.size cb 30 [] wr ⟨lab,.slice aS k.aM.length cS,.slice aF k.frames.length cF,.slice aL k.slots.length cL,Nl,[]⟩ (aU ⟨k.aM,k.frames,k.slots,k.aj.take 0,k.hand⟩ hs')):=wJ.done (by rw[hkh.same.len];exact hkh);have HSM:=ai hkh.same;have gP:=ai wM;have q3:wr.cell? (Ad w.heap.size 3)=some (.slice a.aP k.aj.length a.cP):=aq (aN KB.o wM (aI KB.o)) 3 rfl;have Pe:=hs.aj;clear hkh wM HKH cM;go_wp2;go_loopw [40] (fun iv wq=>∃m:Nat,∃S hs2,m<=k.aj.length/\iv=I (m:Int)/\cE k.aM hs2/\bH WA.heap.size cb 30 [] wq S (aU ⟨k.aM,k.frames,k.slots,k.aj.take m,k.hand⟩ hs2)/\Below WA.heap.size WA wq) (fun iv _=>k.aj.length-(intOf iv).toNat)
     case atStart=>grind [Hid.o]
     case round =>
      obtain⟨m,S,hs2,hm,rfl,hsame,rz,wM⟩:=hrel;by_cases JK:m<k.aj.length
      · have hmi:(m:Int)<(k.aj.length:Int):=by omega
        obtain⟨pb,po,hpo,hpl,TI⟩:=HKS.o (by omega);obtain⟨va,ap,cp,v0,v1,v2,hha,Z7,_⟩:=TI m JK;have EO:=hha;obtain⟨aa,ca,IP,_⟩:=hha;subst IP;have hbl:Below w.heap.size w wr:=jQ.o.trans (wM.mono jQ.o.size);have z0:=(hbl.cell (p:=(Ad pb (po+m*3))) hpl).trans v0;have z1:=(hbl.cell (p:=(Ad pb (po+m*3+1))) hpl).trans v1;have z2:=(hbl.cell (p:=(Ad pb (po+m*3+2))) hpl).trans v2;have har:=hs.aT m JK;have hen:=hs.bf m JK;have htk:=aaW k.aj m JK;obtain⟨sp,hsp⟩:=ex (ak k.aj m);rw[<- hsp] at z0 z1 z2 har hen htk EO Z7;obtain⟨lv,wC,rO⟩:=sp;simp only at z0 z1 z2 har hen EO Z7;obtain⟨bP,dP,eP,_⟩:=bh rz.aj;have hLl:S.L.length<=1000000:=by have:=rz.len;grind [aU]
        obtain⟨WL,hWL⟩:=ex (wr.alloc (.cells #[.bool lv,.slice aa wC.length ca,.slice ap rO.length cp] 99));have hbL:Below wr.heap.size wr WL:=by grind [Below.refl,Below.alloc]
        have BL:WL.heap[wr.heap.size]?=some (.cells #[.bool lv,.slice aa wC.length ca,.slice ap rO.length cp] 99 (0,0)):=by grind [bD]
        have Xk:Below wr.heap.size wr WL.drew:=hbL.drew;have BD:WL.drew.heap[wr.heap.size]?=some (.cells #[.bool lv,.slice aa wC.length ca,.slice ap rO.length cp] 99 (0,0)):=aN BL (aJ _ _).drew (aI BL);have HWL:=ai hWL;obtain⟨WD,hWD⟩:=ex WL.drew;rw[<- hWD] at Xk BD;have HWD:=ai hWD;have hkD:=rz.below Xk;have hlD:WA.heap.size<=WD.heap.size:=gT wM.size Xk.size;have HCP:Hid (Calls Tryz.prog 135 #[.agg #[.bool lv,.slice aa wC.length ca,.slice ap rO.length cp]] WD fun e w'=>∃xa nx cx ya ny cy,e=.returned (.agg #[.bool lv,.slice xa nx cx,.slice ya ny cy])/\mS WD.heap.size w' ⟨lv,.slice xa nx cx,.slice ya ny cy⟩ ⟨lv,wC,rO⟩/\(∀b,bW (.slice ya ny cy) b->¬bW (.slice xa nx cx) b)/\Below WD.heap.size WD w'):=(H4 ⟨lv,wC,rO⟩ aa ap wC.length ca cp WD (EO.below (hbl.trans (Xk.mono hbl.size))) (Z7.below (hbl.trans (Xk.mono hbl.size))) har hen).mono fun e w' ⟨va,vp,h1,h2,h3,h4⟩=>by
         obtain⟨xa,cx,ex,_⟩:=bh h2.aT;obtain⟨ya,cy,ey,_⟩:=bh h2.aO
         grind
        have ajT:Hid (∀V,aC (fun b=>bW S.vP b) WD V->V.cell? (Ad cb 3)=some (.slice bP S.L.length dP)/\V.cell? (Ad wr.heap.size 0)=some (.bool lv)/\V.cell? (Ad wr.heap.size 1)=some (.slice aa wC.length ca)/\V.cell? (Ad wr.heap.size 2)=some (.slice ap rO.length cp)/\V.frozen? (Ad cb 3)=false):=fun V hV=>by
         have b1:=hV.keep hkD.head (fun g=>by have:=rz.lP _ g;grind [bH.lH]);have b2:=hV.keep BD (fun g=>by have:=(rz.aj.lt _ g).2;omega);refine⟨?_,aq b2 0 rfl,aq b2 1 rfl,aq b2 2 rfl,aQ b1 3⟩;rw[<- eP];exact aq b1 3 rfl
        have HRW:Hid (∀w2 o,Below WD.heap.size WD w2->(w2.alloc o).ownsRow WA.heap.size 99 3 (.slice bP S.L.length dP) S.L.length (S.L.flatMap gK)):=fun w2 o hb=>by
         have:=((aC.bY (D:=fun _=>False) hb).trans (aC.alloc _ w2 o) (fun _ _ g=>g)).row hkD.aj (fun _ _ g=>g)
         grind
        have HPU:Hid (∀w2 w4 O v' l,Below WD.heap.size WD w2->mS WD.heap.size w2 l ⟨lv,wC,rO⟩->(∀b,bW l.vp b->¬bW l.va b)->(w2.alloc O).grownBy w4 S.vP.ownBlock->w4.ownsRow WA.heap.size 99 3 v' (S.L.length+1) (S.L.flatMap gK++gK l)->(v'.ownBlock=S.vP.ownBlock∨v'.ownBlock=some (w2.alloc O).heap.size)->∃S',bH WA.heap.size cb 30 [] (w4.setCell (Ad cb 3) v') S' (aU ⟨k.aM,k.frames,k.slots,k.aj.take (m+1),k.hand⟩ hs2)/\Below WA.heap.size WA (w4.setCell (Ad cb 3) v')):=fun w2 w4 O v' l h1 h2 h3 h4 h5 h6=>by
         have m1:=hkD.push hlD h1 h2 h3 h4 h5 h6;have m2:=m1.1;rw[htk];have hbA:=wM.trans (Xk.mono wM.size);exact⟨_,m2,aC.below hbA m1.2.2 hbA.size (fun b hb=>(hkD.yq b hb).1)⟩
        have ata:=ai hsame;have HSP:Hid (∀w2,Below WD.heap.size WD w2->aC (fun b=>bW S.vP b) WD w2):=fun w2 h=>aC.bY h
        have HEP:=ai eP;obtain⟨i0,hin,hz0,hz1,hz2⟩:=jm TS;have Ed:=ai hin;have Hh:=ai hz0;have FU:=ai hz1;have yH:=ai hz2;clear rz hkD wM hbl v0 v1 v2 EO Z7 har hen htk hsp hWL hWD hbL BL Xk BD TI al7 HSM gP hsame eP hin hz0 hz1 hz2;rw[hpo];go_upto_region 10 with fail;rw[<- HWL.o];refine xe (S:=fun V=>aC (fun b=>bW S.vP b) WD V) (z:=7) (by rfl) ?_;rw[<- HWD.o];have qu:=ajT;have oh:Hid (aC (fun b=>bW S.vP b) WD WD):=aC.refl _ _;refine iE 0 oh.o ?_ ?_ ?_;rotate_left 1
        · intro V h;rfl
        refine iE 1 oh.o ?_ ?_ ?_;rotate_left 1
        · intro V h;obtain⟨k0,k1,k2,k3,k4⟩:=qu.o V h;go_simp;rfl
        refine iE 2 oh.o ?_ ?_ ?_;rotate_left 1
        · intro V h;obtain⟨k0,k1,k2,k3,k4⟩:=qu.o V h;go_simp;rfl
        refine eu (rs:=[3]) (by kernel_rfl) (by simp) ?_;refine bo.cons rfl (fun K hK=>?_) bo.nil;rw[aB (by rfl)];go_simp;go_at_call 135;refine HCP.o.mono ?_;rintro e w2 ⟨xa,nx,cx,ya,ny,cy,rfl,hso,hap,hb2⟩;have HSO:=ai hso;have HAP:=ai hap;have gP:=ai hb2;have rJ:=ai (HSP.o _ hb2);clear hso hap hb2;try go_simp;refine hK.out _ _ (fun _=>?_) ?_
        · exact rJ.o
        clear hK K
        try simp only[Act.put,dC,dw,dh]
        refine eu (rs:=[4]) (by kernel_rfl) (by simp) ?_;refine bo.cons rfl (fun K hK=>?_) bo.nil;go_simp;refine hK.out _ _ (fun _=>?_) ?_
        · exact rJ.o.trans (aC.alloc _ _ _) (fun _ _ g=>g)
        clear hK K
        try simp only[Act.put,dC,dw,dh]
        have an5:=gP.o.size;refine eu (rs:=[5]) (by kernel_rfl) (by simp) ?_;refine bo.cons rfl (fun K hK=>?_) bo.nil;rw[aB (by rfl)];refine qo (P:=Tryz.prog) _ _ 28 rfl WA.heap.size 99 i0 (.agg #[.bool false,Nl,Nl]) 3 56 Tryz.underlying28 Ed.o Hh.o FU.o yH.o rfl (by decide) (.slice bP S.L.length dP) S.L.length (S.L.flatMap gK) rfl (HRW.o _ _ gP.o) (some (Ad w2.heap.size 0)) 1 1 (gK ⟨lv,.slice xa nx cx,.slice ya ny cy⟩) rfl rfl (fun _=>⟨_,rfl,TR w2 _ _⟩) (by intro u hu;simp[gK] at hu;rcases hu with rfl | rfl | rfl <;> rfl) (by grind [maxLen]) (by omega) (by grind [World.size_alloc]) ?_;intro vG wG hoG hgG haG;obtain⟨aG,cG,hvG,_,_⟩:=bh hoG;subst hvG;rw[<- HEP.o] at hgG haG;have S8:Hid (aC (fun b=>bW S.vP b) WD wG):=(rJ.o.trans (aC.alloc _ _ _) (fun _ _ g=>g)).trans (aC.grown hgG (fun q hq=>hq)) (fun _ _ g=>g);have HPF:=ai (HPU.o w2 wG _ _ ⟨lv,.slice xa nx cx,.slice ya ny cy⟩ gP.o HSO.o HAP.o hgG hoG haG);clear hoG hgG haG;refine hK.out _ _ (fun _=>?_) ?_
        · exact S8.o
        clear hK K
        try simp only[Act.put,dC,dw,dh]
        refine iE 6 S8.o ?_ ?_ ?_;rotate_left 1
        · intro V h;rfl
        obtain⟨k0,k1,k2,k3,k4⟩:=qu.o _ S8.o;refine eu (rs:=[7]) (by kernel_rfl) (by simp) ?_;refine bo.cons rfl (fun K hK=>?_) bo.nil;go_simp;refine hK.out _ _ (fun g=>absurd rfl g) ?_;refine qO (by rfl) ?_ _;go_wp2;go_roundw
        case rel =>
         obtain⟨S',h1,h2⟩:=HPF.o
         grind [Hid.o]
        grind [intOf]
      · obtain rfl:m=k.aj.length:=by omega
        rw[vh] at rz;obtain⟨bS,nS,dS,eS⟩:∃b n d,S.vS=.slice b n d:=by obtain⟨b,d,e,_⟩:=bh rz.aM;grind
        obtain⟨bF,nF,dF,eF⟩:∃b n d,S.vF=.slice b n d:=by obtain⟨b,d,e,_⟩:=bh rz.frames;grind
        obtain⟨bL,nL,dL,eL⟩:∃b n d,S.vL=.slice b n d:=by obtain⟨b,d,e,_⟩:=bh rz.slots;grind
        obtain⟨bP,nP,dP,eP⟩:∃b n d,S.vP=.slice b n d:=by obtain⟨b,d,e,_⟩:=bh rz.aj;grind
        have c0:=rz.c0;have c1:=rz.c1;have c2:=rz.c2;have c3:=rz.c3;have c4:wr.cell? (Ad cb 4)=some (I k.hand):=rz.c4;rw[eS] at c0;rw[eF] at c1;rw[eL] at c2;rw[eP] at c3;have R1:=aN RB.o wM (aI RB.o);obtain⟨y0,y1,y2,y3,y4⟩:=iI R1;have f0:=aQ R1 0;have f1:=aQ R1 1;have f2:=aQ R1 2;have f3:=aQ R1 3;have f4:=aQ R1 4;have hwl:w.heap.size+1<WA.heap.size:=aI RB.o;have hbl:Below w.heap.size w wr:=jQ.o.trans (wM.mono jQ.o.size);have dm:Hid (∀V,aC (fun b=>b=w.heap.size+1) wr V->P (.returned (.agg #[.slice bS nS dS,.slice bF nF dF,.slice bL nL dL,.slice bP nP dP,I k.hand])) V):=fun V hV=>by
         rw[HP.o];refine⟨S,hs2,hsame,by grind,(rz.toKr.kp hV (fun b hb e=>by have:=(rz.yq b hb).1;omega)).mono (by omega),?_⟩
         grind [aC.below]
        have h5:Hid (∀s f l p h,(((((wr.setCell (Ad (w.heap.size+1) 0) s).setCell (Ad (w.heap.size+1) 1) f).setCell (Ad (w.heap.size+1) 2) l).setCell (Ad (w.heap.size+1) 3) p).setCell (Ad (w.heap.size+1) 4) h).heap[w.heap.size+1]?=some (.cells #[s,f,l,p,h] 30 (0,0))/\aC (fun b=>b=w.heap.size+1) wr (((((wr.setCell (Ad (w.heap.size+1) 0) s).setCell (Ad (w.heap.size+1) 1) f).setCell (Ad (w.heap.size+1) 2) l).setCell (Ad (w.heap.size+1) 3) p).setCell (Ad (w.heap.size+1) 4) h)):=fun s f l p h=>⟨fF (fF (fF (fF (fF R1 0 s) 1 f) 2 l) 3 p) 4 h,((((aC.set (fun b=>b=w.heap.size+1) wr (Ad (w.heap.size+1) 0) s rfl).trans (aC.set (fun b=>b=w.heap.size+1) _ (Ad (w.heap.size+1) 1) f rfl) (fun _ _ g=>g)).trans (aC.set (fun b=>b=w.heap.size+1) _ (Ad (w.heap.size+1) 2) l rfl) (fun _ _ g=>g)).trans (aC.set (fun b=>b=w.heap.size+1) _ (Ad (w.heap.size+1) 3) p rfl) (fun _ _ g=>g)).trans (aC.set (fun b=>b=w.heap.size+1) _ (Ad (w.heap.size+1) 4) h rfl) (fun _ _ g=>g)⟩
        clear rz wM hsame eS eF eL eP hwl hbl al7 HSM gP R1;go_wp2;obtain⟨q1,q2⟩:=h5.out (.slice bS nS dS) (.slice bF nF dF) (.slice bL nL dL) (.slice bP nP dP) (I k.hand);obtain⟨y0,y1,y2,y3,y4⟩:=iI q1;refine bK (v:=.agg #[.slice bS nS dS,.slice bF nF dF,.slice bL nL dL,.slice bP nP dP,I k.hand]) (by simp[results,Tryz.results79,go_sem,y0,y1,y2,y3,y4]) rfl ?_;exact dm.o _ q2
end Go.Proofs.YtlgoihmkgaaemaaGreat
