import Derived.Test.YtlgoihmkgaaemaaGreatGN25
set_option maxHeartbeats 20000000
set_option linter.unusedVariables false
set_option maxRecDepth 100000
set_option linter.unusedSimpArgs false
namespace Go.Proofs.YtlgoihmkgaaemaaGreat
open Go.RowKit
theorem wW.at_ {lo cb:Nat} {w:World} {lab:Nat->oY} {aS:Option Addr} {m cS:Nat} {vF vL:Value} {k:aT} {hs:List bJ} {n:Nat} (h:wW lo cb w lab (.slice aS m cS) vF vL k hs n) (hn:n<k.aM.length) :
  ∃sb,aS=some (Ad sb 0)/\¬cb=sb/\sb<w.heap.size/\w.cell? (Ad cb 0)=some (.slice aS m cS)/\w.cell? (Ad sb (n*3))=some (I (bl k.aM n).page)/\w.cell? (Ad sb (n*3+1))=some (.string (bl k.aM n).data)/\w.cell? (Ad sb (n*3+2))=some (.slice (bl k.aM n).ao (bl k.aM n).dZ.length (bl k.aM n).cap)/\∀j,w.frozen? (Ad sb j)=false:=by
 have hl:=h.same.len;obtain⟨ao,cap,e,hc,hg⟩:=bj h.aM;injection e with e1 e2 e3;subst e1 e2 e3;obtain⟨g,rfl,hg1,hg2⟩:=hg (by omega);have at_:=fun j (hj:j<3)=>kj nz (fun _=>rfl) Cb h.aM n j (by omega) hj
 have er:hs.getD n Cb=bl k.aM n:=h.rest n (aI _);rw[er] at at_;exact⟨g,rfl,fun e=>by have:=h.lS g rfl;grind [lH],hg2,au h.head 0 rfl,at_ 0 (by omega),at_ 1 (by omega),at_ 2 (by omega),iL h.aM⟩
theorem Ud:(Tryz.prog.info? 99).map (fun i=>(i.zero,i.size,i.bytes))=some (some (.agg #[.bool false,Nl,Nl]),3,56):=by rfl
theorem Uc (w:World) (xs:List Value) (e:TypeId):∀j u,xs[j]?=some u->(w.alloc (.cells xs.toArray e)).cell? (((Ad w.heap.size 0):Addr).add j)=some u:=fun j u hu=>by
 grind [Addr.add_lit,au,bE]
theorem abz (l:List cY) (m:Nat) (h:m<l.length):l.take (m+1)=l.take m++[ak l m]:=by
 grind [List.take_add_one,ak]
theorem QD (k:aT) (a:jc) (w:World) (hK:jd w a k) (hs:Fx k) :
  Calls Tryz.prog 79 #[.agg (bg a k)] w (VK w k):=by
 obtain⟨P,hP⟩:=ex (VK w k);rw[<- hP];have HP:=ai hP;clear hP;have HKS:=ai hK.aj;have ZJ:=ai (A9 (f:=nz) (n:=3) (fun _=>rfl) (ad2 hK.aM));have Lu:=ai (A9 (f:=iO) (n:=4) (fun _=>rfl) hK.frames);have HRL:=ai (A9 (f:=iN) (n:=2) (fun _=>rfl) hK.slots);obtain⟨WA,lO⟩:=ex ((w.alloc (.cells (bg a k) 30)).alloc (.cells #[Nl,Nl,Nl,Nl,I 0] 30));have jV:Hid (Below w.heap.size w WA):=by rw[lO];exact((aK _ _).alloc (aI _) _).alloc (by simp) _
 have KB:Hid (WA.heap[w.heap.size]?=some (.cells (bg a k) 30 (0,0))):=by rw[lO];exact br (bE w _ _) _
 have RB:Hid (WA.heap[w.heap.size+1]?=some (.cells #[Nl,Nl,Nl,Nl,I 0] 30 (0,0))):=by
  grind [World.alloc]
 have HS:Hid (∀V,Below WA.heap.size WA V->V.cell? (Ad w.heap.size 0)=some (.slice a.aS k.aM.length a.cS)/\V.cell? (Ad w.heap.size 1)=some (.slice a.aF k.frames.length a.cF)/\V.cell? (Ad w.heap.size 2)=some (.slice a.aL k.slots.length a.cL)/\V.cell? (Ad w.heap.size 4)=some (I k.hand)):=fun V hb=>by
  have h1:=aO KB.o hb (aJ KB.o);exact⟨au h1 0 rfl,au h1 1 rfl,au h1 2 rfl,au h1 4 rfl⟩
 have HCS:Hid (∀V,Below WA.heap.size WA V->Calls Tryz.prog 131 #[.slice a.aS k.aM.length a.cS] V fun e w'=>∃ad c,e=.returned (.slice ad k.aM.length c)/\w'.ownsRow V.heap.size 145 3 (.slice ad k.aM.length c) k.aM.length (k.aM.flatMap nz)/\Below V.heap.size V w'):=fun V hV=>(acr _ _ _ _ V (fY nz 3 (fun _=>rfl) k.aM) (ZJ.o.below (jV.o.trans (hV.mono jV.o.size))) (ad3 _) hs.aM).mono fun e w' ⟨v,h1,h2,h3⟩=>by
  grind [bj]
 have HCF:Hid (∀V,Below WA.heap.size WA V->Calls Tryz.prog 132 #[.slice a.aF k.frames.length a.cF] V fun e w'=>∃ad c,e=.returned (.slice ad k.frames.length c)/\w'.ownsRow V.heap.size 169 4 (.slice ad k.frames.length c) k.frames.length (k.frames.flatMap iO)/\Below V.heap.size V w'):=fun V hV=>(acw _ _ _ _ V (fY iO 4 (fun _=>rfl) k.frames) (Lu.o.below (jV.o.trans (hV.mono jV.o.size))) (ad6 _) hs.frames).mono fun e w' ⟨v,h1,h2,h3⟩=>by
  grind [bj]
 have OH:Hid (∀V,Below WA.heap.size WA V->Calls Tryz.prog 133 #[.slice a.aL k.slots.length a.cL] V fun e w'=>∃ad c,e=.returned (.slice ad k.slots.length c)/\w'.ownsRow V.heap.size 171 2 (.slice ad k.slots.length c) k.slots.length (k.slots.flatMap iN)/\Below V.heap.size V w'):=fun V hV=>(acp _ _ _ _ V (fY iN 2 (fun _=>rfl) k.slots) (HRL.o.below (jV.o.trans (hV.mono jV.o.size))) (ad1 _) hs.slots).mono fun e w' ⟨v,h1,h2,h3⟩=>by
  grind [bj]
 have HFX:Hid (∀V n,Below w.heap.size w V->n<k.aM.length->mR V (bl k.aM n).ao (bl k.aM n).dZ.length ((bl k.aM n).dZ.flatMap qw)/\(bl k.aM n).dZ.length<=1000000):=fun V n hb hn=>by
  obtain⟨b,off,_,_,hi⟩:=hK.aM (by omega);have h4:pA w (bl k.aM n).ao (bl k.aM n).dZ:=(hi n hn).2.2.2;exact⟨A9 (f:=qw) (n:=2) (fun _=>rfl) (ad4 (h4.below hb)),hs.dZ n hn⟩
 have qG:Hid (∀V:World,(V.cell? (Ad w.heap.size 0)=some (.slice a.aS k.aM.length a.cS)/\V.cell? (Ad w.heap.size 1)=some (.slice a.aF k.frames.length a.cF)/\V.cell? (Ad w.heap.size 2)=some (.slice a.aL k.slots.length a.cL)/\V.cell? (Ad w.heap.size 4)=some (I k.hand))->V.cell? (Ad w.heap.size 0)=some (.slice a.aS k.aM.length a.cS)/\V.cell? (Ad w.heap.size 1)=some (.slice a.aF k.frames.length a.cF)/\V.cell? (Ad w.heap.size 2)=some (.slice a.aL k.slots.length a.cL)/\V.cell? (Ad w.heap.size 4)=some (I k.hand)):=fun V h=>h
 have se:=ai lO;unfold bg at se ⊢;clear lO hK;go_enter Tryz.func79,Tryz.ntmps79;go_upto_region 1 with fail;rw[<- se.o];go_cut [3] (fun x3 wx=>∃cb aS cS aF cF aL cL,x3=.pointer (some (Ad cb 0))/\PC WA.heap.size WA wx cb (.slice aS k.aM.length cS) (.slice aF k.frames.length cF) (.slice aL k.slots.length cL) k.hand k)
 case first =>
  refine xx (S:=fun V=>V.cell? (Ad w.heap.size 0)=some (.slice a.aS k.aM.length a.cS)/\V.cell? (Ad w.heap.size 1)=some (.slice a.aF k.frames.length a.cF)/\V.cell? (Ad w.heap.size 2)=some (.slice a.aL k.slots.length a.cL)/\V.cell? (Ad w.heap.size 4)=some (I k.hand)) (z:=13) (by rfl) ?_;have tV:=ai (aK WA.heap.size WA).drew;obtain⟨WD,hWD⟩:=ex WA.drew;rw[<- hWD] at tV ⊢;clear hWD;have ow:=ai (HS.o _ tV.o);refine iK 0 ow.o ?_ ?_ ?_;rotate_left 1
  · intro V h;rfl
  refine iK 1 ow.o ?_ ?_ ?_;rotate_left 1
  · intro V h;obtain⟨k0,k1,k2,k3⟩:=qG.o V h;go_simp;rfl
  refine iK 3 ow.o ?_ ?_ ?_;rotate_left 1
  · intro V h;rfl
  refine iK 4 ow.o ?_ ?_ ?_;rotate_left 1
  · intro V h;obtain⟨k0,k1,k2,k3⟩:=qG.o V h;go_simp;rfl
  refine iK 6 ow.o ?_ ?_ ?_;rotate_left 1
  · intro V h;obtain⟨k0,k1,k2,k3⟩:=qG.o V h;go_simp;rfl
  refine iK 7 ow.o ?_ ?_ ?_;rotate_left 1
  · intro V h;obtain⟨k0,k1,k2,k3⟩:=qG.o V h;go_simp;rfl
  refine iK 9 ow.o ?_ ?_ ?_;rotate_left 1
  · intro V h;obtain⟨k0,k1,k2,k3⟩:=qG.o V h;go_simp;rfl
  refine iK 10 ow.o ?_ ?_ ?_;rotate_left 1
  · intro V h;obtain⟨k0,k1,k2,k3⟩:=qG.o V h;go_simp;rfl
  refine eI (rs:=[2,12]) (by kernel_rfl) (by simp) ?_;refine bw.cons rfl (fun K hK=>?_) (bw.cons rfl (fun K hK=>?_) bw.nil)
  · rw[aC (by rfl)];go_simp;go_at_call 131;refine(HCS.o _ tV.o).mono ?_;rintro e w1 ⟨a1,c1,rfl,hr1,hb1⟩;have HR1:=ai hr1;have cN:=ai hb1;have vD:=ai ((tV.o).trans (hb1.mono (tV.o).size));have yK:=ai (HS.o _ vD.o);clear hr1 hb1
    try go_simp
    refine hK.out _ _ (fun _=>?_) ?_
    · exact yK.o
    clear hK K
    try simp only[Act.put,dJ,dB,dw]
    refine eI (rs:=[5,12]) (by kernel_rfl) (by simp) ?_;refine bw.cons rfl (fun K hK=>?_) (bw.cons rfl (fun K hK=>?_) bw.nil)
    · rw[aC (by rfl)];go_simp;go_at_call 132;refine(HCF.o _ vD.o).mono ?_;rintro e w2 ⟨a2,c2,rfl,hr2,hb2⟩;have Cr:=ai hr2;have gQ:=ai hb2;have pU:=ai ((vD.o).trans (hb2.mono (vD.o).size));have rX:=ai (HS.o _ pU.o);clear hr2 hb2
      try go_simp
      refine hK.out _ _ (fun _=>?_) ?_
      · exact rX.o
      clear hK K
      try simp only[Act.put,dJ,dB,dw]
      refine eI (rs:=[8,12]) (by kernel_rfl) (by simp) ?_;refine bw.cons rfl (fun K hK=>?_) (bw.cons rfl (fun K hK=>?_) bw.nil)
      · rw[aC (by rfl)];go_simp;go_at_call 133;refine(OH.o _ pU.o).mono ?_;rintro e w3 ⟨a3,c3,rfl,hr3,hb3⟩;have Uv:=ai hr3;have mO:=ai hb3;have Bw:=ai ((pU.o).trans (hb3.mono (pU.o).size));have sK:=ai (HS.o _ Bw.o);clear hr3 hb3
        try go_simp
        refine hK.out _ _ (fun _=>?_) ?_
        · exact sK.o
        clear hK K
        try simp only[Act.put,dJ,dB,dw]
        refine iK 11 sK.o ?_ ?_ ?_;rotate_left 1
        · intro V h;obtain⟨k0,k1,k2,k3⟩:=qG.o V h;go_simp;rfl
        refine eI (rs:=[12]) (by kernel_rfl) (by simp) ?_;refine bw.cons rfl (fun K hK=>?_) bw.nil;go_simp;refine hK.out _ _ (fun _=>?_) ?_
        · exact HS.o _ (Bw.o.alloc Bw.o.size (.cells #[Nl,Nl,Nl,Nl,I 0] 30))
        clear hK K
        try simp only[Act.put,dJ,dB,dw]
        refine eI (rs:=[13]) (by kernel_rfl) (by simp) ?_;refine bw.cons rfl (fun K hK=>?_) bw.nil;go_simp;refine hK.out _ _ (fun g=>absurd rfl g) ?_;refine q9 (by rfl) ?_ _;go_wp2_with fail
        go_meet
        case rel =>
         refine⟨_,a1,c1,a2,c2,a3,c3,rfl,?_⟩;exact YT (V1:=WD) (w1:=w1) (V2:=w1) (w2:=w2) (V3:=w2) (w3:=w3) tV.o HR1.o cN.o (aK _ _) Cr.o gQ.o (aK _ _) Uv.o mO.o
      · go_simp;refine hK.out _ _ (fun _=>?_) ?_
        · exact HS.o _ (pU.o.alloc pU.o.size (.cells #[Nl,Nl,Nl,Nl,I 0] 30))
        clear hK K
        try simp only[Act.put,dJ,dB,dw]
        refine eI (rs:=[8]) (by kernel_rfl) (by simp) ?_;refine bw.cons rfl (fun K hK=>?_) bw.nil;rw[aC (by rfl)];go_simp;go_at_call 133;refine(OH.o _ (pU.o.alloc pU.o.size (.cells #[Nl,Nl,Nl,Nl,I 0] 30))).mono ?_;rintro e w3 ⟨a3,c3,rfl,hr3,hb3⟩;have Uv:=ai hr3;have mO:=ai hb3;have Bw:=ai (((pU.o.alloc pU.o.size (.cells #[Nl,Nl,Nl,Nl,I 0] 30))).trans (hb3.mono ((pU.o.alloc pU.o.size (.cells #[Nl,Nl,Nl,Nl,I 0] 30))).size));have sK:=ai (HS.o _ Bw.o);have RP:=ai (aO (bE w2 #[Nl,Nl,Nl,Nl,I 0] 30) hb3 (by simp));clear hr3 hb3
        try go_simp
        refine hK.out _ _ (fun _=>?_) ?_
        · exact sK.o
        clear hK K
        try simp only[Act.put,dJ,dB,dw]
        refine iK 11 sK.o ?_ ?_ ?_;rotate_left 1
        · intro V h;obtain⟨k0,k1,k2,k3⟩:=qG.o V h;go_simp;rfl
        obtain⟨z0,z1,z2,z3,z4⟩:=iH RP.o;have f0:=aR RP.o 0;have f1:=aR RP.o 1;have f2:=aR RP.o 2;have f3:=aR RP.o 3;have f4:=aR RP.o 4;refine eI (rs:=[13]) (by kernel_rfl) (by simp) ?_;refine bw.cons rfl (fun K hK=>?_) bw.nil;go_simp;refine hK.out _ _ (fun g=>absurd rfl g) ?_;refine q9 (by rfl) ?_ _;go_wp2_with fail
        go_meet
        case rel =>
         refine⟨_,a1,c1,a2,c2,a3,c3,rfl,?_⟩;exact DL (V4:=w3) (cb:=w2.heap.size) (V1:=WD) (w1:=w1) (V2:=w1) (w2:=w2) (V3:=(w2.alloc (.cells #[Nl,Nl,Nl,Nl,I 0] 30))) (w3:=w3) tV.o HR1.o cN.o (aK _ _) Cr.o gQ.o ((aK _ _).alloc (aI _) _) Uv.o mO.o (aK _ _) RP.o (pU.o.size) (.inr (.inr (.inl ⟨aI _,by simp⟩)))
    · go_simp;refine hK.out _ _ (fun _=>?_) ?_
      · exact HS.o _ (vD.o.alloc vD.o.size (.cells #[Nl,Nl,Nl,Nl,I 0] 30))
      clear hK K
      try simp only[Act.put,dJ,dB,dw]
      refine eI (rs:=[5]) (by kernel_rfl) (by simp) ?_;refine bw.cons rfl (fun K hK=>?_) bw.nil;rw[aC (by rfl)];go_simp;go_at_call 132;refine(HCF.o _ (vD.o.alloc vD.o.size (.cells #[Nl,Nl,Nl,Nl,I 0] 30))).mono ?_;rintro e w2 ⟨a2,c2,rfl,hr2,hb2⟩;have Cr:=ai hr2;have gQ:=ai hb2;have pU:=ai (((vD.o.alloc vD.o.size (.cells #[Nl,Nl,Nl,Nl,I 0] 30))).trans (hb2.mono ((vD.o.alloc vD.o.size (.cells #[Nl,Nl,Nl,Nl,I 0] 30))).size));have rX:=ai (HS.o _ pU.o);have BZ2:=ai (aO (bE w1 #[Nl,Nl,Nl,Nl,I 0] 30) hb2 (by simp));clear hr2 hb2
      try go_simp
      refine hK.out _ _ (fun _=>?_) ?_
      · exact rX.o
      clear hK K
      try simp only[Act.put,dJ,dB,dw]
      refine eI (rs:=[8]) (by kernel_rfl) (by simp) ?_;refine bw.cons rfl (fun K hK=>?_) bw.nil;rw[aC (by rfl)];go_simp;go_at_call 133;refine(OH.o _ pU.o).mono ?_;rintro e w3 ⟨a3,c3,rfl,hr3,hb3⟩;have Uv:=ai hr3;have mO:=ai hb3;have Bw:=ai ((pU.o).trans (hb3.mono (pU.o).size));have sK:=ai (HS.o _ Bw.o);have RP:=ai (aO BZ2.o hb3 (aJ BZ2.o));clear hr3 hb3
      try go_simp
      refine hK.out _ _ (fun _=>?_) ?_
      · exact sK.o
      clear hK K
      try simp only[Act.put,dJ,dB,dw]
      refine iK 11 sK.o ?_ ?_ ?_;rotate_left 1
      · intro V h;obtain⟨k0,k1,k2,k3⟩:=qG.o V h;go_simp;rfl
      obtain⟨z0,z1,z2,z3,z4⟩:=iH RP.o;have f0:=aR RP.o 0;have f1:=aR RP.o 1;have f2:=aR RP.o 2;have f3:=aR RP.o 3;have f4:=aR RP.o 4;refine eI (rs:=[13]) (by kernel_rfl) (by simp) ?_;refine bw.cons rfl (fun K hK=>?_) bw.nil;go_simp;refine hK.out _ _ (fun g=>absurd rfl g) ?_;refine q9 (by rfl) ?_ _;go_wp2_with fail
      go_meet
      case rel =>
       refine⟨_,a1,c1,a2,c2,a3,c3,rfl,?_⟩;exact DL (V4:=w3) (cb:=w1.heap.size) (V1:=WD) (w1:=w1) (V2:=(w1.alloc (.cells #[Nl,Nl,Nl,Nl,I 0] 30))) (w2:=w2) (V3:=w2) (w3:=w3) tV.o HR1.o cN.o ((aK _ _).alloc (aI _) _) Cr.o gQ.o (aK _ _) Uv.o mO.o (aK _ _) RP.o (vD.o.size) (.inr (.inl ⟨aI _,by simp⟩))
  · go_simp;refine hK.out _ _ (fun _=>?_) ?_
    · exact HS.o _ (tV.o.alloc tV.o.size (.cells #[Nl,Nl,Nl,Nl,I 0] 30))
    clear hK K
    try simp only[Act.put,dJ,dB,dw]
    refine eI (rs:=[2]) (by kernel_rfl) (by simp) ?_;refine bw.cons rfl (fun K hK=>?_) bw.nil;rw[aC (by rfl)];go_simp;go_at_call 131;refine(HCS.o _ (tV.o.alloc tV.o.size (.cells #[Nl,Nl,Nl,Nl,I 0] 30))).mono ?_;rintro e w1 ⟨a1,c1,rfl,hr1,hb1⟩;have HR1:=ai hr1;have cN:=ai hb1;have vD:=ai (((tV.o.alloc tV.o.size (.cells #[Nl,Nl,Nl,Nl,I 0] 30))).trans (hb1.mono ((tV.o.alloc tV.o.size (.cells #[Nl,Nl,Nl,Nl,I 0] 30))).size));have yK:=ai (HS.o _ vD.o);have BZ1:=ai (aO (bE WD #[Nl,Nl,Nl,Nl,I 0] 30) hb1 (by simp));clear hr1 hb1
    try go_simp
    refine hK.out _ _ (fun _=>?_) ?_
    · exact yK.o
    clear hK K
    try simp only[Act.put,dJ,dB,dw]
    refine eI (rs:=[5]) (by kernel_rfl) (by simp) ?_;refine bw.cons rfl (fun K hK=>?_) bw.nil;rw[aC (by rfl)];go_simp;go_at_call 132;refine(HCF.o _ vD.o).mono ?_;rintro e w2 ⟨a2,c2,rfl,hr2,hb2⟩;have Cr:=ai hr2;have gQ:=ai hb2;have pU:=ai ((vD.o).trans (hb2.mono (vD.o).size));have rX:=ai (HS.o _ pU.o);have BZ2:=ai (aO BZ1.o hb2 (aJ BZ1.o));clear hr2 hb2
    try go_simp
    refine hK.out _ _ (fun _=>?_) ?_
    · exact rX.o
    clear hK K
    try simp only[Act.put,dJ,dB,dw]
    refine eI (rs:=[8]) (by kernel_rfl) (by simp) ?_;refine bw.cons rfl (fun K hK=>?_) bw.nil;rw[aC (by rfl)];go_simp;go_at_call 133;refine(OH.o _ pU.o).mono ?_;rintro e w3 ⟨a3,c3,rfl,hr3,hb3⟩;have Uv:=ai hr3;have mO:=ai hb3;have Bw:=ai ((pU.o).trans (hb3.mono (pU.o).size));have sK:=ai (HS.o _ Bw.o);have RP:=ai (aO BZ2.o hb3 (aJ BZ2.o));clear hr3 hb3
    try go_simp
    refine hK.out _ _ (fun _=>?_) ?_
    · exact sK.o
    clear hK K
    try simp only[Act.put,dJ,dB,dw]
    refine iK 11 sK.o ?_ ?_ ?_;rotate_left 1
    · intro V h;obtain⟨k0,k1,k2,k3⟩:=qG.o V h;go_simp;rfl
    obtain⟨z0,z1,z2,z3,z4⟩:=iH RP.o;have f0:=aR RP.o 0;have f1:=aR RP.o 1;have f2:=aR RP.o 2;have f3:=aR RP.o 3;have f4:=aR RP.o 4;refine eI (rs:=[13]) (by kernel_rfl) (by simp) ?_;refine bw.cons rfl (fun K hK=>?_) bw.nil;go_simp;refine hK.out _ _ (fun g=>absurd rfl g) ?_;refine q9 (by rfl) ?_ _;go_wp2_with fail
    go_meet
    case rel =>
     refine⟨_,a1,c1,a2,c2,a3,c3,rfl,?_⟩;exact DL (V4:=w3) (cb:=WD.heap.size) (V1:=(WD.alloc (.cells #[Nl,Nl,Nl,Nl,I 0] 30))) (w1:=w1) (V2:=w1) (w2:=w2) (V3:=w2) (w3:=w3) (tV.o.alloc tV.o.size (.cells #[Nl,Nl,Nl,Nl,I 0] 30)) HR1.o cN.o (aK _ _) Cr.o gQ.o (aK _ _) Uv.o mO.o (aK _ _) RP.o (tV.o.size) (.inl (by simp))
 case rest =>
  obtain⟨cb,aS,cS,aF,cF,aL,cL,rfl,ac4⟩:=hcut;have cN:=ai ac4.below;have HKH:Hid (∃lab,wW WA.heap.size cb wc lab (.slice aS k.aM.length cS) (.slice aF k.frames.length cF) (.slice aL k.slots.length cL) k k.aM 0):=abA ac4;have c0:wc.cell? (Ad cb 0)=some (.slice aS k.aM.length cS):=au ac4.head 0 rfl;clear ac4;have hks:=hs.aM;go_wp2;go_loopw [23] (fun iv wq=>∃n:Nat,∃lab hs',n<=k.aM.length/\iv=I (n:Int)/\wW WA.heap.size cb wq lab (.slice aS k.aM.length cS) (.slice aF k.frames.length cF) (.slice aL k.slots.length cL) k hs' n/\Below WA.heap.size WA wq) (fun iv _=>k.aM.length-(intOf iv).toNat)
  case atStart =>
   grind [Hid.o]
  case round =>
   obtain⟨n,lab,hs',hn,rfl,hkh,wY⟩:=hrel;by_cases hlt:n<k.aM.length
   · have hni:(n:Int)<(k.aM.length:Int):=by omega
     obtain⟨sb,rfl,hne,hsl,d0,x0,x1,x2,fz⟩:=hkh.at_ hlt;have hlS:=hkh.same.len;have hlo:WA.heap.size<=wr.heap.size:=wY.size;have hsA:WA.heap.size<=sb:=(hkh.yJ sb (by rw[hkh.lS sb rfl];simp)).1;have er:bl hs' n=bl k.aM n:=hkh.rest n (aI _);have hcl:cb<wr.heap.size:=aJ hkh.head;have hfx:=HFX.o wr n (jV.o.trans (wY.mono jV.o.size)) hlt;obtain⟨sh,hsh⟩:=ex (bl k.aM n);rw[<- hsh] at x0 x1 x2 hfx er;obtain⟨pg,dt,fx,ao,cp⟩:=sh;simp only at x0 x1 x2 hfx;obtain⟨L1,hfl⟩:=hfx;obtain⟨WL,hWL⟩:=ex (wr.alloc (.cells #[I pg,.string dt,.slice ao fx.length cp] 145));have hbL:Below wr.heap.size wr WL:=by grind [Below.refl,Below.alloc]
     have BL:WL.heap[wr.heap.size]?=some (.cells #[I pg,.string dt,.slice ao fx.length cp] 145 (0,0)):=by grind [bE]
     have HCX:Hid (∀V,Below WL.heap.size WL V->Calls Tryz.prog 134 #[.slice ao fx.length cp] V fun e w'=>∃ax cx,e=.returned (.slice ax fx.length cx)/\(w'.cell? (Ad cb 0)=some (.slice (some (Ad sb 0)) k.aM.length cS)/\w'.cell? (Ad wr.heap.size 2)=some (.slice ao fx.length cp))/\((w'.setCell (Ad sb (n*3+2)) (.slice ax fx.length cx)).cell? (Ad cb 0)=some (.slice (some (Ad sb 0)) k.aM.length cS)/\(w'.setCell (Ad sb (n*3+2)) (.slice ax fx.length cx)).cell? (Ad wr.heap.size 2)=some (.slice ao fx.length cp))/\w'.cell? (Ad sb (n*3+2))=some (.slice ao fx.length cp)/\w'.frozen? (Ad sb (n*3+2))=false/\(∃lab' ap0,wW WA.heap.size cb (w'.setCell (Ad sb (n*3+2)) (.slice ax fx.length cx)) lab' (.slice (some (Ad sb 0)) k.aM.length cS) (.slice aF k.frames.length cF) (.slice aL k.slots.length cL) k ap0 (n+1))/\Below WA.heap.size WA (w'.setCell (Ad sb (n*3+2)) (.slice ax fx.length cx))):=fun V hV=>(acv ao fx.length cp (fx.flatMap qw) V (fY qw 2 (fun _=>rfl) fx) (L1.below (hbL.trans (hV.mono hbL.size))) (ad5 _) hfl).mono fun e w' ⟨v,h1,h2,h3⟩=>by
      obtain⟨ax,cx,rfl,_⟩:=bj h2;have hb':Below WL.heap.size WL w':=hV.trans (h3.mono hV.size);have hkL:=hkh.below hbL;have hk':=hkL.below hb';have hr':=oh (base':=WL.heap.size) h2 (fun g hg=>gY hV.size (h2.lt g hg).1);obtain⟨sb2,e2,_,avk,d2,_,_,y2,fz2⟩:=hk'.at_ hlt;injection e2 with e2;injection e2 with e2 _ _;subst e2;rw[<- hsh] at y2;obtain⟨lab',hst,_⟩:=hkL.step (n:=n) (ax:=ax) (cx:=cx) (by omega) (gY hlo hbL.size) hb' (by grind);rw[er] at hst;have xl:w'.cell? (Ad wr.heap.size 2)=some (.slice ao fx.length cp):=au (aO BL hb' (aJ BL)) 2 rfl;have hbA:=(wY.trans (hbL.mono hlo)).trans (hb'.mono (gY hlo hbL.size));have PT:¬wr.heap.size=sb:=fun e=>by omega
      exact⟨ax,cx,h1,⟨d2,xl⟩,⟨(cu _ _ _ _ _ _ hne).trans d2,(cu _ _ _ _ _ _ PT).trans xl⟩,y2,fz2 _,⟨lab',_,hst⟩,aD.below hbA (aD.set (fun b=>b=sb) w' (Ad sb (n*3+2)) _ rfl) hbA.size (fun b e=>by omega)⟩
     have HWL:=ai hWL;have Uu:Hid (WL.drew.cell? (Ad cb 0)=some (.slice (some (Ad sb 0)) k.aM.length cS)/\WL.drew.cell? (Ad wr.heap.size 2)=some (.slice ao fx.length cp)):=⟨(hbL.drew.cell (p:=(Ad cb 0)) hcl).trans d0,au (aO BL (aK _ _).drew (aJ BL)) 2 rfl⟩;have HDR:=ai (aK WL.heap.size WL).drew;clear hkh wY L1 hfl er hsh hWL hbL BL hlS hlo hsA HKH cN fz hcl;go_upto_region 5 with fail;rw[<- HWL.o]
     go_region_held3 (fun V=>V.cell? (Ad cb 0)=some (.slice (some (Ad sb 0)) k.aM.length cS)/\V.cell? (Ad wr.heap.size 2)=some (.slice ao fx.length cp)) (first | exact sK.o | exact Uu.o | exact HS4.o)
      ((go_at_call 134;refine(HCX.o _ HDR.o).mono ?_;rintro e w5 ⟨ax,cx,rfl,s3,s4,y2,f2,hst,hbA⟩;have sK:=ai s3;have HS4:=ai s4;have HST:=ai hst;have axN:=ai hbA;clear s3 s4 hst hbA))
     all_goals clear Uu sK HS4 HCX
     all_goals go_wp2
     grind [intOf,Hid.o]
   · obtain rfl:n=k.aM.length:=by omega
     have anF:Hid (bK WA.heap.size cb 30 [] wr ⟨lab,.slice aS k.aM.length cS,.slice aF k.frames.length cF,.slice aL k.slots.length cL,Nl,[]⟩ (aV ⟨k.aM,k.frames,k.slots,k.aj.take 0,k.hand⟩ hs')):=wW.done (by rw[hkh.same.len];exact hkh);have HSM:=ai hkh.same;have gQ:=ai wY;have q3:wr.cell? (Ad w.heap.size 3)=some (.slice a.aP k.aj.length a.cP):=au (aO KB.o wY (aJ KB.o)) 3 rfl;have Px:=hs.aj;clear hkh wY HKH cN;go_wp2;go_loopw [40] (fun iv wq=>∃m:Nat,∃S hs2,m<=k.aj.length/\iv=I (m:Int)/\cC k.aM hs2/\bK WA.heap.size cb 30 [] wq S (aV ⟨k.aM,k.frames,k.slots,k.aj.take m,k.hand⟩ hs2)/\Below WA.heap.size WA wq) (fun iv _=>k.aj.length-(intOf iv).toNat)
     case atStart=>grind [Hid.o]
     case round =>
      obtain⟨m,S,hs2,hm,rfl,hsame,rN,wY⟩:=hrel;by_cases JV:m<k.aj.length
      · have hmi:(m:Int)<(k.aj.length:Int):=by omega
        obtain⟨pb,po,hpo,hpl,T5⟩:=HKS.o (by omega);obtain⟨va,ap,cp,v0,v1,v2,hha,hhp,_⟩:=T5 m JV;have E4:=hha;obtain⟨aa,ca,Ja,_⟩:=hha;subst Ja;have hbl:Below w.heap.size w wr:=jV.o.trans (wY.mono jV.o.size);have z0:=(hbl.cell (p:=(Ad pb (po+m*3))) hpl).trans v0;have z1:=(hbl.cell (p:=(Ad pb (po+m*3+1))) hpl).trans v1;have z2:=(hbl.cell (p:=(Ad pb (po+m*3+2))) hpl).trans v2;have har:=hs.aU m JV;have hen:=hs.bc m JV;have htk:=abz k.aj m JV;obtain⟨sp,hsp⟩:=ex (ak k.aj m);rw[<- hsp] at z0 z1 z2 har hen htk E4 hhp;obtain⟨lv,vC,sk⟩:=sp;simp only at z0 z1 z2 har hen E4 hhp;obtain⟨bP,dP,eP,_⟩:=bj rN.aj;have hLl:S.L.length<=1000000:=by have:=rN.len;grind [aV]
        obtain⟨WL,hWL⟩:=ex (wr.alloc (.cells #[.bool lv,.slice aa vC.length ca,.slice ap sk.length cp] 99));have hbL:Below wr.heap.size wr WL:=by grind [Below.refl,Below.alloc]
        have BL:WL.heap[wr.heap.size]?=some (.cells #[.bool lv,.slice aa vC.length ca,.slice ap sk.length cp] 99 (0,0)):=by grind [bE]
        have XN:Below wr.heap.size wr WL.drew:=hbL.drew;have BD:WL.drew.heap[wr.heap.size]?=some (.cells #[.bool lv,.slice aa vC.length ca,.slice ap sk.length cp] 99 (0,0)):=aO BL (aK _ _).drew (aJ BL);have HWL:=ai hWL;obtain⟨WD,hWD⟩:=ex WL.drew;rw[<- hWD] at XN BD;have HWD:=ai hWD;have hkD:=rN.below XN;have hlD:WA.heap.size<=WD.heap.size:=gY wY.size XN.size;have HCP:Hid (Calls Tryz.prog 135 #[.agg #[.bool lv,.slice aa vC.length ca,.slice ap sk.length cp]] WD fun e w'=>∃xa nx cx ya ny cy,e=.returned (.agg #[.bool lv,.slice xa nx cx,.slice ya ny cy])/\mX WD.heap.size w' ⟨lv,.slice xa nx cx,.slice ya ny cy⟩ ⟨lv,vC,sk⟩/\(∀b,bZ (.slice ya ny cy) b->¬bZ (.slice xa nx cx) b)/\Below WD.heap.size WD w'):=(Iq ⟨lv,vC,sk⟩ aa ap vC.length ca cp WD (E4.below (hbl.trans (XN.mono hbl.size))) (hhp.below (hbl.trans (XN.mono hbl.size))) har hen).mono fun e w' ⟨va,vp,h1,h2,h3,h4⟩=>by
         obtain⟨xa,cx,ex,_⟩:=bj h2.aU;obtain⟨ya,cy,ey,_⟩:=bj h2.aQ
         grind
        have alj:Hid (∀V,aD (fun b=>bZ S.vP b) WD V->V.cell? (Ad cb 3)=some (.slice bP S.L.length dP)/\V.cell? (Ad wr.heap.size 0)=some (.bool lv)/\V.cell? (Ad wr.heap.size 1)=some (.slice aa vC.length ca)/\V.cell? (Ad wr.heap.size 2)=some (.slice ap sk.length cp)/\V.frozen? (Ad cb 3)=false):=fun V hV=>by
         have b1:=hV.keep hkD.head (fun g=>by have:=rN.lP _ g;grind [bK.lH]);have b2:=hV.keep BD (fun g=>by have:=(rN.aj.lt _ g).2;omega);refine⟨?_,au b2 0 rfl,au b2 1 rfl,au b2 2 rfl,aR b1 3⟩;rw[<- eP];exact au b1 3 rfl
        have HRW:Hid (∀w2 o,Below WD.heap.size WD w2->(w2.alloc o).ownsRow WA.heap.size 99 3 (.slice bP S.L.length dP) S.L.length (S.L.flatMap gT)):=fun w2 o hb=>by
         have:=((aD.b9 (D:=fun _=>False) hb).trans (aD.alloc _ w2 o) (fun _ _ g=>g)).row hkD.aj (fun _ _ g=>g)
         grind
        have HPU:Hid (∀w2 w4 O v' l,Below WD.heap.size WD w2->mX WD.heap.size w2 l ⟨lv,vC,sk⟩->(∀b,bZ l.vp b->¬bZ l.va b)->(w2.alloc O).grownBy w4 S.vP.ownBlock->w4.ownsRow WA.heap.size 99 3 v' (S.L.length+1) (S.L.flatMap gT++gT l)->(v'.ownBlock=S.vP.ownBlock∨v'.ownBlock=some (w2.alloc O).heap.size)->∃S',bK WA.heap.size cb 30 [] (w4.setCell (Ad cb 3) v') S' (aV ⟨k.aM,k.frames,k.slots,k.aj.take (m+1),k.hand⟩ hs2)/\Below WA.heap.size WA (w4.setCell (Ad cb 3) v')):=fun w2 w4 O v' l h1 h2 h3 h4 h5 h6=>by
         have m1:=hkD.push hlD h1 h2 h3 h4 h5 h6;have m2:=m1.1;rw[htk];have hbA:=wY.trans (XN.mono wY.size);exact⟨_,m2,aD.below hbA m1.2.2 hbA.size (fun b hb=>(hkD.yJ b hb).1)⟩
        have auf:=ai hsame;have ZI:Hid (∀w2,Below WD.heap.size WD w2->aD (fun b=>bZ S.vP b) WD w2):=fun w2 h=>aD.b9 h
        have HEP:=ai eP;obtain⟨i0,hin,hz0,hz1,hz2⟩:=ju Ud;have Eo:=ai hin;have Hu:=ai hz0;have Gf:=ai hz1;have yV:=ai hz2;clear rN hkD wY hbl v0 v1 v2 E4 hhp har hen htk hsp hWL hWD hbL BL XN BD T5 anF HSM gQ hsame eP hin hz0 hz1 hz2;rw[hpo];go_upto_region 10 with fail;rw[<- HWL.o];refine xx (S:=fun V=>aD (fun b=>bZ S.vP b) WD V) (z:=7) (by rfl) ?_;rw[<- HWD.o];have qG:=alj;have ow:Hid (aD (fun b=>bZ S.vP b) WD WD):=aD.refl _ _;refine iK 0 ow.o ?_ ?_ ?_;rotate_left 1
        · intro V h;rfl
        refine iK 1 ow.o ?_ ?_ ?_;rotate_left 1
        · intro V h;obtain⟨k0,k1,k2,k3,k4⟩:=qG.o V h;go_simp;rfl
        refine iK 2 ow.o ?_ ?_ ?_;rotate_left 1
        · intro V h;obtain⟨k0,k1,k2,k3,k4⟩:=qG.o V h;go_simp;rfl
        refine eI (rs:=[3]) (by kernel_rfl) (by simp) ?_;refine bw.cons rfl (fun K hK=>?_) bw.nil;rw[aC (by rfl)];go_simp;go_at_call 135;refine HCP.o.mono ?_;rintro e w2 ⟨xa,nx,cx,ya,ny,cy,rfl,hso,hap,hb2⟩;have HSO:=ai hso;have HAP:=ai hap;have gQ:=ai hb2;have rX:=ai (ZI.o _ hb2);clear hso hap hb2;try go_simp;refine hK.out _ _ (fun _=>?_) ?_
        · exact rX.o
        clear hK K
        try simp only[Act.put,dJ,dB,dw]
        refine eI (rs:=[4]) (by kernel_rfl) (by simp) ?_;refine bw.cons rfl (fun K hK=>?_) bw.nil;go_simp;refine hK.out _ _ (fun _=>?_) ?_
        · exact rX.o.trans (aD.alloc _ _ _) (fun _ _ g=>g)
        clear hK K
        try simp only[Act.put,dJ,dB,dw]
        have apZ:=gQ.o.size;refine eI (rs:=[5]) (by kernel_rfl) (by simp) ?_;refine bw.cons rfl (fun K hK=>?_) bw.nil;rw[aC (by rfl)];refine qD (P:=Tryz.prog) _ _ 28 rfl WA.heap.size 99 i0 (.agg #[.bool false,Nl,Nl]) 3 56 Tryz.underlying28 Eo.o Hu.o Gf.o yV.o rfl (by decide) (.slice bP S.L.length dP) S.L.length (S.L.flatMap gT) rfl (HRW.o _ _ gQ.o) (some (Ad w2.heap.size 0)) 1 1 (gT ⟨lv,.slice xa nx cx,.slice ya ny cy⟩) rfl rfl (fun _=>⟨_,rfl,Uc w2 _ _⟩) (by intro u hu;simp[gT] at hu;rcases hu with rfl | rfl | rfl <;> rfl) (by grind [maxLen]) (by omega) (by grind [World.size_alloc]) ?_;intro vG wG hoG hgG haG;obtain⟨aG,cG,hvG,_,_⟩:=bj hoG;subst hvG;rw[<- HEP.o] at hgG haG;have Tu:Hid (aD (fun b=>bZ S.vP b) WD wG):=(rX.o.trans (aD.alloc _ _ _) (fun _ _ g=>g)).trans (aD.grown hgG (fun q hq=>hq)) (fun _ _ g=>g);have HPF:=ai (HPU.o w2 wG _ _ ⟨lv,.slice xa nx cx,.slice ya ny cy⟩ gQ.o HSO.o HAP.o hgG hoG haG);clear hoG hgG haG;refine hK.out _ _ (fun _=>?_) ?_
        · exact Tu.o
        clear hK K
        try simp only[Act.put,dJ,dB,dw]
        refine iK 6 Tu.o ?_ ?_ ?_;rotate_left 1
        · intro V h;rfl
        obtain⟨k0,k1,k2,k3,k4⟩:=qG.o _ Tu.o;refine eI (rs:=[7]) (by kernel_rfl) (by simp) ?_;refine bw.cons rfl (fun K hK=>?_) bw.nil;go_simp;refine hK.out _ _ (fun g=>absurd rfl g) ?_;refine q9 (by rfl) ?_ _;go_wp2;go_roundw
        case rel =>
         obtain⟨S',h1,h2⟩:=HPF.o
         grind [Hid.o]
        grind [intOf]
      · obtain rfl:m=k.aj.length:=by omega
        rw[vK] at rN;obtain⟨bS,nS,dS,eS⟩:∃b n d,S.vS=.slice b n d:=by obtain⟨b,d,e,_⟩:=bj rN.aM;grind
        obtain⟨bF,nF,dF,eF⟩:∃b n d,S.vF=.slice b n d:=by obtain⟨b,d,e,_⟩:=bj rN.frames;grind
        obtain⟨bL,nL,dL,eL⟩:∃b n d,S.vL=.slice b n d:=by obtain⟨b,d,e,_⟩:=bj rN.slots;grind
        obtain⟨bP,nP,dP,eP⟩:∃b n d,S.vP=.slice b n d:=by obtain⟨b,d,e,_⟩:=bj rN.aj;grind
        have c0:=rN.c0;have c1:=rN.c1;have c2:=rN.c2;have c3:=rN.c3;have c4:wr.cell? (Ad cb 4)=some (I k.hand):=rN.c4;rw[eS] at c0;rw[eF] at c1;rw[eL] at c2;rw[eP] at c3;have R1:=aO RB.o wY (aJ RB.o);obtain⟨y0,y1,y2,y3,y4⟩:=iH R1;have f0:=aR R1 0;have f1:=aR R1 1;have f2:=aR R1 2;have f3:=aR R1 3;have f4:=aR R1 4;have hwl:w.heap.size+1<WA.heap.size:=aJ RB.o;have hbl:Below w.heap.size w wr:=jV.o.trans (wY.mono jV.o.size);have dz:Hid (∀V,aD (fun b=>b=w.heap.size+1) wr V->P (.returned (.agg #[.slice bS nS dS,.slice bF nF dF,.slice bL nL dL,.slice bP nP dP,I k.hand])) V):=fun V hV=>by
         rw[HP.o];refine⟨S,hs2,hsame,by grind,(rN.toKr.kp hV (fun b hb e=>by have:=(rN.yJ b hb).1;omega)).mono (by omega),?_⟩
         grind [aD.below]
        have h5:Hid (∀s f l p h,(((((wr.setCell (Ad (w.heap.size+1) 0) s).setCell (Ad (w.heap.size+1) 1) f).setCell (Ad (w.heap.size+1) 2) l).setCell (Ad (w.heap.size+1) 3) p).setCell (Ad (w.heap.size+1) 4) h).heap[w.heap.size+1]?=some (.cells #[s,f,l,p,h] 30 (0,0))/\aD (fun b=>b=w.heap.size+1) wr (((((wr.setCell (Ad (w.heap.size+1) 0) s).setCell (Ad (w.heap.size+1) 1) f).setCell (Ad (w.heap.size+1) 2) l).setCell (Ad (w.heap.size+1) 3) p).setCell (Ad (w.heap.size+1) 4) h)):=fun s f l p h=>⟨fh (fh (fh (fh (fh R1 0 s) 1 f) 2 l) 3 p) 4 h,((((aD.set (fun b=>b=w.heap.size+1) wr (Ad (w.heap.size+1) 0) s rfl).trans (aD.set (fun b=>b=w.heap.size+1) _ (Ad (w.heap.size+1) 1) f rfl) (fun _ _ g=>g)).trans (aD.set (fun b=>b=w.heap.size+1) _ (Ad (w.heap.size+1) 2) l rfl) (fun _ _ g=>g)).trans (aD.set (fun b=>b=w.heap.size+1) _ (Ad (w.heap.size+1) 3) p rfl) (fun _ _ g=>g)).trans (aD.set (fun b=>b=w.heap.size+1) _ (Ad (w.heap.size+1) 4) h rfl) (fun _ _ g=>g)⟩
        clear rN wY hsame eS eF eL eP hwl hbl anF HSM gQ R1;go_wp2;obtain⟨q1,q2⟩:=h5.out (.slice bS nS dS) (.slice bF nF dF) (.slice bL nL dL) (.slice bP nP dP) (I k.hand);obtain⟨y0,y1,y2,y3,y4⟩:=iH q1;refine bO (v:=.agg #[.slice bS nS dS,.slice bF nF dF,.slice bL nL dL,.slice bP nP dP,I k.hand]) (by simp[results,Tryz.results79,go_sem,y0,y1,y2,y3,y4]) rfl ?_;exact dz.o _ q2
end Go.Proofs.YtlgoihmkgaaemaaGreat
