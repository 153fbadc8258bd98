import Derived.Test.YtpgifpeohlllfaaGreatGT21
set_option maxHeartbeats 20000000
set_option linter.unusedVariables false
set_option maxRecDepth 100000
set_option linter.unusedSimpArgs false
namespace Go.Proofs.YtpgifpeohlllfaaGreat
namespace KY
open Go.RowKit GK KO
open FW (ai aD)
open KW (bJ bI aK aZ fh cK aI dA bU)
open KS (Lc bw kM cD blk cJ)
theorem Kh.at_ {lo cb:Nat} {w:World} {lab:Nat->Lb} {aS:Option Addr} {m cS:Nat} {vF vL:Value} {k:KM.Kn} {hs:List LM.Sh} {n:Nat} (h:Kh lo cb w lab (.slice aS m cS) vF vL k hs n) (hn:n<k.ak.length) :
  ∃sb,aS=some (Ad sb 0)/\¬cb=sb/\sb<w.heap.size/\w.cell? (Ad cb 0)=some (.slice aS m cS)/\w.cell? (Ad sb (n*3))=some (I (LM.aY k.ak n).page)/\w.cell? (Ad sb (n*3+1))=some (.string (LM.aY k.ak n).data)/\w.cell? (Ad sb (n*3+2))=some (.slice (LM.aY k.ak n).ao (LM.aY k.ak n).bg.length (LM.aY k.ak n).cap)/\∀j,w.frozen? (Ad sb j)=false:=by
 have hl:=h.same.len;obtain⟨ao,cap,e,hc,hg⟩:=aN h.ak;injection e with e1 e2 e3;subst e1 e2 e3;obtain⟨g,rfl,hg1,hg2⟩:=hg (by omega);have at_:=fun j (hj:j<3)=>iZ eN (fun _=>rfl) LM.MP h.ak n j (by omega) hj
 have er:hs.getD n LM.MP=LM.aY k.ak n:=h.rest n (Nat.le_refl _);rw[er] at at_;exact⟨g,rfl,fun e=>by have:=h.lS g rfl;rw[<- e,h.lH] at this;simp at this,hg2,B.cell h.head 0 rfl,at_ 0 (by omega),at_ 1 (by omega),at_ 2 (by omega),dx h.ak⟩
theorem sH:(Tryz.prog.info? 43).map (fun i=>(i.zero,i.size,i.bytes))=some (some (.agg #[.bool false,Nl,Nl]),3,56):=by kernel_rfl
theorem uP (w:World) (xs:List Value) (e:TypeId):∀j u,xs[j]?=some u->(w.alloc (.cells xs.toArray e)).cell? (((Ad w.heap.size 0):Addr).add j)=some u:=fun j u hu=>by
 rw[Addr.add_lit,Nat.zero_add];exact B.cell (B.new w xs.toArray e) j (by simpa using hu)
theorem CF (l:List KM.Sp) (m:Nat) (h:m<l.length):l.take (m+1)=l.take m++[KM.au l m]:=by
 rw[List.take_add_one,List.getElem?_eq_getElem h];unfold KM.au;rw[List.getD_eq_getElem?_getD,List.getElem?_eq_getElem h];rfl
theorem EW (k:KM.Kn) (a:fh) (w:World) (hK:cK w a k) (hs:Small k) :
  Calls Tryz.prog 55 #[.agg (aI a k)] w (vh w k):=by
 obtain⟨P,hP⟩:=ex (vh w k);rw[<- hP];have HP:=ai hP;clear hP;have VH:=ai hK.aj;have xE:=ai (fF (f:=eN) (n:=3) (fun _=>rfl) (GM hK.ak));have ru:=ai (fF (f:=bJ) (n:=4) (fun _=>rfl) hK.frames);have DX:=ai (fF (f:=bI) (n:=2) (fun _=>rfl) hK.slots);obtain⟨WA,di⟩:=ex ((w.alloc (.cells (aI a k) 27)).alloc (.cells #[Nl,Nl,Nl,Nl,I 0] 27));have cQ:Hid (Below w.heap.size w WA):=by rw[di];exact((Below.refl _ _).alloc (Nat.le_refl _) _).alloc (by simp) _
 have KB:Hid (WA.heap[w.heap.size]?=some (.cells (aI a k) 27 (0,0))):=by rw[di];exact B.alloc (B.new w _ _) _
 have RB:Hid (WA.heap[w.heap.size+1]?=some (.cells #[Nl,Nl,Nl,Nl,I 0] 27 (0,0))):=by
  have:=B.new (w.alloc (.cells (aI a k) 27)) #[Nl,Nl,Nl,Nl,I 0] 27;rw[World.size_alloc] at this;rw[di];exact this
 have HS:Hid (∀V,Below WA.heap.size WA V->V.cell? (Ad w.heap.size 0)=some (.slice a.aS k.ak.length a.cS)/\V.cell? (Ad w.heap.size 1)=some (.slice a.aF k.frames.length a.cF)/\V.cell? (Ad w.heap.size 2)=some (.slice a.aL k.slots.length a.cL)/\V.cell? (Ad w.heap.size 4)=some (I k.hand)):=fun V hb=>by
  have h1:=B.below KB.o hb (B.isLt KB.o);exact⟨B.cell h1 0 rfl,B.cell h1 1 rfl,B.cell h1 2 rfl,B.cell h1 4 rfl⟩
 have HCS:Hid (∀V,Below WA.heap.size WA V->Calls Tryz.prog 103 #[.slice a.aS k.ak.length a.cS] V fun e w'=>∃ad c,e=.returned (.slice ad k.ak.length c)/\w'.ownsRow V.heap.size 50 3 (.slice ad k.ak.length c) k.ak.length (k.ak.flatMap eN)/\Below V.heap.size V w'):=fun V hV=>(TX _ _ _ _ V (bK eN 3 (fun _=>rfl) k.ak) (xE.o.below (cQ.o.trans (hV.mono cQ.o.size))) (NN _) hs.ak).mono fun e w' ⟨v,h1,h2,h3⟩=>by
  obtain⟨ad,c,rfl,_⟩:=aN h2;exact⟨ad,c,h1,h2,h3⟩
 have YQ:Hid (∀V,Below WA.heap.size WA V->Calls Tryz.prog 104 #[.slice a.aF k.frames.length a.cF] V fun e w'=>∃ad c,e=.returned (.slice ad k.frames.length c)/\w'.ownsRow V.heap.size 40 4 (.slice ad k.frames.length c) k.frames.length (k.frames.flatMap bJ)/\Below V.heap.size V w'):=fun V hV=>(T3 _ _ _ _ V (bK bJ 4 (fun _=>rfl) k.frames) (ru.o.below (cQ.o.trans (hV.mono cQ.o.size))) (Ii _) hs.frames).mono fun e w' ⟨v,h1,h2,h3⟩=>by
  obtain⟨ad,c,rfl,_⟩:=aN h2;exact⟨ad,c,h1,h2,h3⟩
 have A5:Hid (∀V,Below WA.heap.size WA V->Calls Tryz.prog 105 #[.slice a.aL k.slots.length a.cL] V fun e w'=>∃ad c,e=.returned (.slice ad k.slots.length c)/\w'.ownsRow V.heap.size 86 2 (.slice ad k.slots.length c) k.slots.length (k.slots.flatMap bI)/\Below V.heap.size V w'):=fun V hV=>(TW _ _ _ _ V (bK bI 2 (fun _=>rfl) k.slots) (DX.o.below (cQ.o.trans (hV.mono cQ.o.size))) (GJ _) hs.slots).mono fun e w' ⟨v,h1,h2,h3⟩=>by
  obtain⟨ad,c,rfl,_⟩:=aN h2;exact⟨ad,c,h1,h2,h3⟩
 have I9:Hid (∀V n,Below w.heap.size w V->n<k.ak.length->From V (LM.aY k.ak n).ao (LM.aY k.ak n).bg.length ((LM.aY k.ak n).bg.flatMap fP)/\(LM.aY k.ak n).bg.length<=1000000):=fun V n hb hn=>by
  obtain⟨b,off,_,_,hi⟩:=hK.ak (by omega);have h4:LM.oc w (LM.aY k.ak n).ao (LM.aY k.ak n).bg:=(hi n hn).2.2.2;exact⟨fF (f:=fP) (n:=2) (fun _=>rfl) (Ig (h4.below hb)),hs.bg n hn⟩
 have eQ:Hid (∀V:World,(V.cell? (Ad w.heap.size 0)=some (.slice a.aS k.ak.length a.cS)/\V.cell? (Ad w.heap.size 1)=some (.slice a.aF k.frames.length a.cF)/\V.cell? (Ad w.heap.size 2)=some (.slice a.aL k.slots.length a.cL)/\V.cell? (Ad w.heap.size 4)=some (I k.hand))->V.cell? (Ad w.heap.size 0)=some (.slice a.aS k.ak.length a.cS)/\V.cell? (Ad w.heap.size 1)=some (.slice a.aF k.frames.length a.cF)/\V.cell? (Ad w.heap.size 2)=some (.slice a.aL k.slots.length a.cL)/\V.cell? (Ad w.heap.size 4)=some (I k.hand)):=fun V h=>h
 have eZ:=ai di;unfold aI at eZ ⊢;clear di hK;go_enter Tryz.func55,Tryz.ntmps55;go_upto_region 1 with fail;rw[<- eZ.o];go_cut [3] (fun x3 wx=>∃cb aS cS aF cF aL cL,x3=.pointer (some (Ad cb 0))/\Four WA.heap.size WA wx cb (.slice aS k.ak.length cS) (.slice aF k.frames.length cF) (.slice aL k.slots.length cL) k.hand k)
 case first =>
  refine GZ.sW (S:=fun V=>V.cell? (Ad w.heap.size 0)=some (.slice a.aS k.ak.length a.cS)/\V.cell? (Ad w.heap.size 1)=some (.slice a.aF k.frames.length a.cF)/\V.cell? (Ad w.heap.size 2)=some (.slice a.aL k.slots.length a.cL)/\V.cell? (Ad w.heap.size 4)=some (I k.hand)) (z:=13) (by kernel_rfl) ?_;have je:=ai (Below.refl WA.heap.size WA).drew;obtain⟨WD,RQ⟩:=ex WA.drew;rw[<- RQ] at je ⊢;clear RQ;have gG:=ai (HS.o _ je.o);refine GZ.tk 0 gG.o ?_ ?_ ?_;rotate_left 1
  · intro V h;obtain⟨k0,k1,k2,k3⟩:=eQ.o V h;go_simp
    try with_reducible rfl
  refine GZ.tk 1 gG.o ?_ ?_ ?_;rotate_left 1
  · intro V h;obtain⟨k0,k1,k2,k3⟩:=eQ.o V h;go_simp
    try with_reducible rfl
  refine GZ.tk 3 gG.o ?_ ?_ ?_;rotate_left 1
  · intro V h;obtain⟨k0,k1,k2,k3⟩:=eQ.o V h;go_simp
    try with_reducible rfl
  refine GZ.tk 4 gG.o ?_ ?_ ?_;rotate_left 1
  · intro V h;obtain⟨k0,k1,k2,k3⟩:=eQ.o V h;go_simp
    try with_reducible rfl
  refine GZ.tk 6 gG.o ?_ ?_ ?_;rotate_left 1
  · intro V h;obtain⟨k0,k1,k2,k3⟩:=eQ.o V h;go_simp
    try with_reducible rfl
  refine GZ.tk 7 gG.o ?_ ?_ ?_;rotate_left 1
  · intro V h;obtain⟨k0,k1,k2,k3⟩:=eQ.o V h;go_simp
    try with_reducible rfl
  refine GZ.tk 9 gG.o ?_ ?_ ?_;rotate_left 1
  · intro V h;obtain⟨k0,k1,k2,k3⟩:=eQ.o V h;go_simp
    try with_reducible rfl
  refine GZ.tk 10 gG.o ?_ ?_ ?_;rotate_left 1
  · intro V h;obtain⟨k0,k1,k2,k3⟩:=eQ.o V h;go_simp
    try with_reducible rfl
  refine GZ.all (rs:=[2,12]) (by kernel_rfl) (by simp) ?_;refine GZ.bl.cons rfl (fun K hK=>?_) (GZ.bl.cons rfl (fun K hK=>?_) GZ.bl.nil)
  · have agv:=trivial;rw[if_pos (by rfl)];go_simp;go_at_call 103;refine(HCS.o _ je.o).mono ?_;rintro e w1 ⟨a1,c1,rfl,hr1,hb1⟩;have HR1:=ai hr1;have bE:=ai hb1;have pL:=ai ((je.o).trans (hb1.mono (je.o).size));have kr:=ai (HS.o _ pL.o);clear hr1 hb1
    try go_simp
    refine hK.out _ _ (fun _=>?_) ?_
    · exact kr.o
    clear hK K
    try simp only[Act.put,List.setIfInBounds_toArray,List.set_cons_zero,List.set_cons_succ]
    refine GZ.all (rs:=[5,12]) (by kernel_rfl) (by simp) ?_;refine GZ.bl.cons rfl (fun K hK=>?_) (GZ.bl.cons rfl (fun K hK=>?_) GZ.bl.nil)
    · have agu:=trivial;rw[if_pos (by rfl)];go_simp;go_at_call 104;refine(YQ.o _ pL.o).mono ?_;rintro e w2 ⟨a2,c2,rfl,hr2,hb2⟩;have Aa:=ai hr2;have cM:=ai hb2;have jd:=ai ((pL.o).trans (hb2.mono (pL.o).size));have iM:=ai (HS.o _ jd.o);clear hr2 hb2
      try go_simp
      refine hK.out _ _ (fun _=>?_) ?_
      · exact iM.o
      clear hK K
      try simp only[Act.put,List.setIfInBounds_toArray,List.set_cons_zero,List.set_cons_succ]
      refine GZ.all (rs:=[8,12]) (by kernel_rfl) (by simp) ?_;refine GZ.bl.cons rfl (fun K hK=>?_) (GZ.bl.cons rfl (fun K hK=>?_) GZ.bl.nil)
      · have agt:=trivial;rw[if_pos (by rfl)];go_simp;go_at_call 105;refine(A5.o _ jd.o).mono ?_;rintro e w3 ⟨a3,c3,rfl,hr3,hb3⟩;have Gq:=ai hr3;have ed:=ai hb3;have mC:=ai ((jd.o).trans (hb3.mono (jd.o).size));have ky:=ai (HS.o _ mC.o);clear hr3 hb3
        try go_simp
        refine hK.out _ _ (fun _=>?_) ?_
        · exact ky.o
        clear hK K
        try simp only[Act.put,List.setIfInBounds_toArray,List.set_cons_zero,List.set_cons_succ]
        refine GZ.tk 11 ky.o ?_ ?_ ?_;rotate_left 1
        · intro V h;obtain⟨k0,k1,k2,k3⟩:=eQ.o V h;go_simp
          try with_reducible rfl
        refine GZ.all (rs:=[12]) (by kernel_rfl) (by simp) ?_;refine GZ.bl.cons rfl (fun K hK=>?_) GZ.bl.nil;go_simp;refine hK.out _ _ (fun _=>?_) ?_
        · exact HS.o _ (mC.o.alloc mC.o.size (.cells #[Nl,Nl,Nl,Nl,I 0] 27))
        clear hK K
        try simp only[Act.put,List.setIfInBounds_toArray,List.set_cons_zero,List.set_cons_succ]
        refine GZ.all (rs:=[13]) (by kernel_rfl) (by simp) ?_;refine GZ.bl.cons rfl (fun K hK=>?_) GZ.bl.nil;go_simp;refine hK.out _ _ (fun g=>absurd rfl g) ?_;refine GZ.done (by kernel_rfl) ?_ _;go_wp2_with fail
        go_meet
        case rel =>
         refine⟨_,a1,c1,a2,c2,a3,c3,rfl,?_⟩;exact PU (V1:=WD) (w1:=w1) (V2:=w1) (w2:=w2) (V3:=w2) (w3:=w3) je.o HR1.o bE.o (Below.refl _ _) Aa.o cM.o (Below.refl _ _) Gq.o ed.o
      · have ack:=trivial;go_simp;refine hK.out _ _ (fun _=>?_) ?_
        · exact HS.o _ (jd.o.alloc jd.o.size (.cells #[Nl,Nl,Nl,Nl,I 0] 27))
        clear hK K
        try simp only[Act.put,List.setIfInBounds_toArray,List.set_cons_zero,List.set_cons_succ]
        refine GZ.all (rs:=[8]) (by kernel_rfl) (by simp) ?_;refine GZ.bl.cons rfl (fun K hK=>?_) GZ.bl.nil;rw[if_pos (by rfl)];go_simp;go_at_call 105;refine(A5.o _ (jd.o.alloc jd.o.size (.cells #[Nl,Nl,Nl,Nl,I 0] 27))).mono ?_;rintro e w3 ⟨a3,c3,rfl,hr3,hb3⟩;have Gq:=ai hr3;have ed:=ai hb3;have mC:=ai (((jd.o.alloc jd.o.size (.cells #[Nl,Nl,Nl,Nl,I 0] 27))).trans (hb3.mono ((jd.o.alloc jd.o.size (.cells #[Nl,Nl,Nl,Nl,I 0] 27))).size));have ky:=ai (HS.o _ mC.o);have Af:=ai (B.below (B.new w2 #[Nl,Nl,Nl,Nl,I 0] 27) hb3 (by simp));clear hr3 hb3
        try go_simp
        refine hK.out _ _ (fun _=>?_) ?_
        · exact ky.o
        clear hK K
        try simp only[Act.put,List.setIfInBounds_toArray,List.set_cons_zero,List.set_cons_succ]
        refine GZ.tk 11 ky.o ?_ ?_ ?_;rotate_left 1
        · intro V h;obtain⟨k0,k1,k2,k3⟩:=eQ.o V h;go_simp
          try with_reducible rfl
        obtain⟨z0,z1,z2,z3,z4⟩:=B.c5 Af.o;have f0:=B.free Af.o 0;have f1:=B.free Af.o 1;have f2:=B.free Af.o 2;have f3:=B.free Af.o 3;have f4:=B.free Af.o 4;refine GZ.all (rs:=[13]) (by kernel_rfl) (by simp) ?_;refine GZ.bl.cons rfl (fun K hK=>?_) GZ.bl.nil;go_simp;refine hK.out _ _ (fun g=>absurd rfl g) ?_;refine GZ.done (by kernel_rfl) ?_ _;go_wp2_with fail
        go_meet
        case rel =>
         refine⟨_,a1,c1,a2,c2,a3,c3,rfl,?_⟩;exact uZ (V4:=w3) (cb:=w2.heap.size) (V1:=WD) (w1:=w1) (V2:=w1) (w2:=w2) (V3:=(w2.alloc (.cells #[Nl,Nl,Nl,Nl,I 0] 27))) (w3:=w3) je.o HR1.o bE.o (Below.refl _ _) Aa.o cM.o ((Below.refl _ _).alloc (Nat.le_refl _) _) Gq.o ed.o (Below.refl _ _) Af.o (jd.o.size) (.inr (.inr (.inl ⟨Nat.le_refl _,by simp⟩)))
    · have acm:=trivial;go_simp;refine hK.out _ _ (fun _=>?_) ?_
      · exact HS.o _ (pL.o.alloc pL.o.size (.cells #[Nl,Nl,Nl,Nl,I 0] 27))
      clear hK K
      try simp only[Act.put,List.setIfInBounds_toArray,List.set_cons_zero,List.set_cons_succ]
      refine GZ.all (rs:=[5]) (by kernel_rfl) (by simp) ?_;refine GZ.bl.cons rfl (fun K hK=>?_) GZ.bl.nil;rw[if_pos (by rfl)];go_simp;go_at_call 104;refine(YQ.o _ (pL.o.alloc pL.o.size (.cells #[Nl,Nl,Nl,Nl,I 0] 27))).mono ?_;rintro e w2 ⟨a2,c2,rfl,hr2,hb2⟩;have Aa:=ai hr2;have cM:=ai hb2;have jd:=ai (((pL.o.alloc pL.o.size (.cells #[Nl,Nl,Nl,Nl,I 0] 27))).trans (hb2.mono ((pL.o.alloc pL.o.size (.cells #[Nl,Nl,Nl,Nl,I 0] 27))).size));have iM:=ai (HS.o _ jd.o);have BZ2:=ai (B.below (B.new w1 #[Nl,Nl,Nl,Nl,I 0] 27) hb2 (by simp));clear hr2 hb2
      try go_simp
      refine hK.out _ _ (fun _=>?_) ?_
      · exact iM.o
      clear hK K
      try simp only[Act.put,List.setIfInBounds_toArray,List.set_cons_zero,List.set_cons_succ]
      refine GZ.all (rs:=[8]) (by kernel_rfl) (by simp) ?_;refine GZ.bl.cons rfl (fun K hK=>?_) GZ.bl.nil;rw[if_pos (by rfl)];go_simp;go_at_call 105;refine(A5.o _ jd.o).mono ?_;rintro e w3 ⟨a3,c3,rfl,hr3,hb3⟩;have Gq:=ai hr3;have ed:=ai hb3;have mC:=ai ((jd.o).trans (hb3.mono (jd.o).size));have ky:=ai (HS.o _ mC.o);have Af:=ai (B.below BZ2.o hb3 (B.isLt BZ2.o));clear hr3 hb3
      try go_simp
      refine hK.out _ _ (fun _=>?_) ?_
      · exact ky.o
      clear hK K
      try simp only[Act.put,List.setIfInBounds_toArray,List.set_cons_zero,List.set_cons_succ]
      refine GZ.tk 11 ky.o ?_ ?_ ?_;rotate_left 1
      · intro V h;obtain⟨k0,k1,k2,k3⟩:=eQ.o V h;go_simp
        try with_reducible rfl
      obtain⟨z0,z1,z2,z3,z4⟩:=B.c5 Af.o;have f0:=B.free Af.o 0;have f1:=B.free Af.o 1;have f2:=B.free Af.o 2;have f3:=B.free Af.o 3;have f4:=B.free Af.o 4;refine GZ.all (rs:=[13]) (by kernel_rfl) (by simp) ?_;refine GZ.bl.cons rfl (fun K hK=>?_) GZ.bl.nil;go_simp;refine hK.out _ _ (fun g=>absurd rfl g) ?_;refine GZ.done (by kernel_rfl) ?_ _;go_wp2_with fail
      go_meet
      case rel =>
       refine⟨_,a1,c1,a2,c2,a3,c3,rfl,?_⟩;exact uZ (V4:=w3) (cb:=w1.heap.size) (V1:=WD) (w1:=w1) (V2:=(w1.alloc (.cells #[Nl,Nl,Nl,Nl,I 0] 27))) (w2:=w2) (V3:=w2) (w3:=w3) je.o HR1.o bE.o ((Below.refl _ _).alloc (Nat.le_refl _) _) Aa.o cM.o (Below.refl _ _) Gq.o ed.o (Below.refl _ _) Af.o (pL.o.size) (.inr (.inl ⟨Nat.le_refl _,by simp⟩))
  · have acn:=trivial;go_simp;refine hK.out _ _ (fun _=>?_) ?_
    · exact HS.o _ (je.o.alloc je.o.size (.cells #[Nl,Nl,Nl,Nl,I 0] 27))
    clear hK K
    try simp only[Act.put,List.setIfInBounds_toArray,List.set_cons_zero,List.set_cons_succ]
    refine GZ.all (rs:=[2]) (by kernel_rfl) (by simp) ?_;refine GZ.bl.cons rfl (fun K hK=>?_) GZ.bl.nil;rw[if_pos (by rfl)];go_simp;go_at_call 103;refine(HCS.o _ (je.o.alloc je.o.size (.cells #[Nl,Nl,Nl,Nl,I 0] 27))).mono ?_;rintro e w1 ⟨a1,c1,rfl,hr1,hb1⟩;have HR1:=ai hr1;have bE:=ai hb1;have pL:=ai (((je.o.alloc je.o.size (.cells #[Nl,Nl,Nl,Nl,I 0] 27))).trans (hb1.mono ((je.o.alloc je.o.size (.cells #[Nl,Nl,Nl,Nl,I 0] 27))).size));have kr:=ai (HS.o _ pL.o);have BZ1:=ai (B.below (B.new WD #[Nl,Nl,Nl,Nl,I 0] 27) hb1 (by simp));clear hr1 hb1
    try go_simp
    refine hK.out _ _ (fun _=>?_) ?_
    · exact kr.o
    clear hK K
    try simp only[Act.put,List.setIfInBounds_toArray,List.set_cons_zero,List.set_cons_succ]
    refine GZ.all (rs:=[5]) (by kernel_rfl) (by simp) ?_;refine GZ.bl.cons rfl (fun K hK=>?_) GZ.bl.nil;rw[if_pos (by rfl)];go_simp;go_at_call 104;refine(YQ.o _ pL.o).mono ?_;rintro e w2 ⟨a2,c2,rfl,hr2,hb2⟩;have Aa:=ai hr2;have cM:=ai hb2;have jd:=ai ((pL.o).trans (hb2.mono (pL.o).size));have iM:=ai (HS.o _ jd.o);have BZ2:=ai (B.below BZ1.o hb2 (B.isLt BZ1.o));clear hr2 hb2
    try go_simp
    refine hK.out _ _ (fun _=>?_) ?_
    · exact iM.o
    clear hK K
    try simp only[Act.put,List.setIfInBounds_toArray,List.set_cons_zero,List.set_cons_succ]
    refine GZ.all (rs:=[8]) (by kernel_rfl) (by simp) ?_;refine GZ.bl.cons rfl (fun K hK=>?_) GZ.bl.nil;rw[if_pos (by rfl)];go_simp;go_at_call 105;refine(A5.o _ jd.o).mono ?_;rintro e w3 ⟨a3,c3,rfl,hr3,hb3⟩;have Gq:=ai hr3;have ed:=ai hb3;have mC:=ai ((jd.o).trans (hb3.mono (jd.o).size));have ky:=ai (HS.o _ mC.o);have Af:=ai (B.below BZ2.o hb3 (B.isLt BZ2.o));clear hr3 hb3
    try go_simp
    refine hK.out _ _ (fun _=>?_) ?_
    · exact ky.o
    clear hK K
    try simp only[Act.put,List.setIfInBounds_toArray,List.set_cons_zero,List.set_cons_succ]
    refine GZ.tk 11 ky.o ?_ ?_ ?_;rotate_left 1
    · intro V h;obtain⟨k0,k1,k2,k3⟩:=eQ.o V h;go_simp
      try with_reducible rfl
    obtain⟨z0,z1,z2,z3,z4⟩:=B.c5 Af.o;have f0:=B.free Af.o 0;have f1:=B.free Af.o 1;have f2:=B.free Af.o 2;have f3:=B.free Af.o 3;have f4:=B.free Af.o 4;refine GZ.all (rs:=[13]) (by kernel_rfl) (by simp) ?_;refine GZ.bl.cons rfl (fun K hK=>?_) GZ.bl.nil;go_simp;refine hK.out _ _ (fun g=>absurd rfl g) ?_;refine GZ.done (by kernel_rfl) ?_ _;go_wp2_with fail
    go_meet
    case rel =>
     refine⟨_,a1,c1,a2,c2,a3,c3,rfl,?_⟩;exact uZ (V4:=w3) (cb:=WD.heap.size) (V1:=(WD.alloc (.cells #[Nl,Nl,Nl,Nl,I 0] 27))) (w1:=w1) (V2:=w1) (w2:=w2) (V3:=w2) (w3:=w3) (je.o.alloc je.o.size (.cells #[Nl,Nl,Nl,Nl,I 0] 27)) HR1.o bE.o (Below.refl _ _) Aa.o cM.o (Below.refl _ _) Gq.o ed.o (Below.refl _ _) Af.o (je.o.size) (.inl (by simp))
 case rest =>
  obtain⟨cb,aS,cS,aF,cF,aL,cL,rfl,JP⟩:=hcut;have bE:=ai JP.below;have HKH:Hid (∃lab,Kh WA.heap.size cb wc lab (.slice aS k.ak.length cS) (.slice aF k.frames.length cF) (.slice aL k.slots.length cL) k k.ak 0):=TM JP;have c0:wc.cell? (Ad cb 0)=some (.slice aS k.ak.length cS):=B.cell JP.head 0 rfl;clear JP;have hks:=hs.ak;go_wp2;go_loopw [23] (fun iv wq=>∃n:Nat,∃lab hs',n<=k.ak.length/\iv=I (n:Int)/\Kh WA.heap.size cb wq lab (.slice aS k.ak.length cS) (.slice aF k.frames.length cF) (.slice aL k.slots.length cL) k hs' n/\Below WA.heap.size WA wq) (fun iv _=>k.ak.length-(intOf iv).toNat)
  case atStart =>
   obtain⟨lab,h0⟩:=HKH.o;exact⟨0,lab,k.ak,by omega,rfl,h0,bE.o⟩
  case round =>
   obtain⟨n,lab,hs',hn,rfl,hkh,ek⟩:=hrel;by_cases hlt:n<k.ak.length
   · have hni:(n:Int)<(k.ak.length:Int):=by omega
     obtain⟨sb,rfl,hne,hsl,d0,x0,x1,x2,fz⟩:=hkh.at_ hlt;have hlS:=hkh.same.len;have hlo:WA.heap.size<=wr.heap.size:=ek.size;have hsA:WA.heap.size<=sb:=(hkh.iJ sb (by rw[hkh.lS sb rfl];simp)).1;have er:LM.aY hs' n=LM.aY k.ak n:=hkh.rest n (Nat.le_refl _);have hcl:cb<wr.heap.size:=B.isLt hkh.head;have H7:=I9.o wr n (cQ.o.trans (ek.mono cQ.o.size)) hlt;obtain⟨sh,hsh⟩:=ex (LM.aY k.ak n);rw[<- hsh] at x0 x1 x2 H7 er;obtain⟨pg,dt,fx,ao,cp⟩:=sh;simp only at x0 x1 x2 H7;obtain⟨MT,hfl⟩:=H7;obtain⟨WL,TH⟩:=ex (wr.alloc (.cells #[I pg,.string dt,.slice ao fx.length cp] 50));have hbL:Below wr.heap.size wr WL:=by rw[TH];exact(Below.refl _ _).alloc (Nat.le_refl _) _
     have BL:WL.heap[wr.heap.size]?=some (.cells #[I pg,.string dt,.slice ao fx.length cp] 50 (0,0)):=by rw[TH];exact B.new _ _ _
     have UO:Hid (∀V,Below WL.heap.size WL V->Calls Tryz.prog 106 #[.slice ao fx.length cp] V fun e w'=>∃ax cx,e=.returned (.slice ax fx.length cx)/\(w'.cell? (Ad cb 0)=some (.slice (some (Ad sb 0)) k.ak.length cS)/\w'.cell? (Ad wr.heap.size 2)=some (.slice ao fx.length cp))/\((w'.setCell (Ad sb (n*3+2)) (.slice ax fx.length cx)).cell? (Ad cb 0)=some (.slice (some (Ad sb 0)) k.ak.length cS)/\(w'.setCell (Ad sb (n*3+2)) (.slice ax fx.length cx)).cell? (Ad wr.heap.size 2)=some (.slice ao fx.length cp))/\w'.cell? (Ad sb (n*3+2))=some (.slice ao fx.length cp)/\w'.frozen? (Ad sb (n*3+2))=false/\(∃lab' Wo,Kh WA.heap.size cb (w'.setCell (Ad sb (n*3+2)) (.slice ax fx.length cx)) lab' (.slice (some (Ad sb 0)) k.ak.length cS) (.slice aF k.frames.length cF) (.slice aL k.slots.length cL) k Wo (n+1))/\Below WA.heap.size WA (w'.setCell (Ad sb (n*3+2)) (.slice ax fx.length cx))):=fun V hV=>(TZ ao fx.length cp (fx.flatMap fP) V (bK fP 2 (fun _=>rfl) fx) (MT.below (hbL.trans (hV.mono hbL.size))) (Ih _) hfl).mono fun e w' ⟨v,h1,h2,h3⟩=>by
      obtain⟨ax,cx,rfl,_⟩:=aN h2;have hb':Below WL.heap.size WL w':=hV.trans (h3.mono hV.size);have hkL:=hkh.below hbL;have hk':=hkL.below hb';have hr':=jU (base':=WL.heap.size) h2 (fun g hg=>Nat.le_trans hV.size (h2.lt g hg).1);obtain⟨sb2,e2,_,ajN,d2,_,_,y2,fz2⟩:=hk'.at_ hlt;injection e2 with e2;injection e2 with e2 _ _;subst e2;rw[<- hsh] at y2;obtain⟨lab',hst,_⟩:=hkL.step (n:=n) (ax:=ax) (cx:=cx) (by omega) (Nat.le_trans hlo hbL.size) hb' (by rw[er];exact hr');rw[er] at hst;have xl:w'.cell? (Ad wr.heap.size 2)=some (.slice ao fx.length cp):=B.cell (B.below BL hb' (B.isLt BL)) 2 rfl;have Aj:=(ek.trans (hbL.mono hlo)).trans (hb'.mono (Nat.le_trans hlo hbL.size));have Pe:¬wr.heap.size=sb:=fun e=>by omega
      exact⟨ax,cx,h1,⟨d2,xl⟩,⟨(cB _ _ _ _ _ _ hne).trans d2,(cB _ _ _ _ _ _ Pe).trans xl⟩,y2,fz2 _,⟨lab',_,hst⟩,Kp.below Aj (Kp.set (fun b=>b=sb) w' (Ad sb (n*3+2)) _ rfl) Aj.size (fun b e=>by rw[e];exact hsA)⟩
     have HWL:=ai TH;have Cu:Hid (WL.drew.cell? (Ad cb 0)=some (.slice (some (Ad sb 0)) k.ak.length cS)/\WL.drew.cell? (Ad wr.heap.size 2)=some (.slice ao fx.length cp)):=⟨(hbL.drew.cell (p:=(Ad cb 0)) hcl).trans d0,B.cell (B.below BL (Below.refl _ _).drew (B.isLt BL)) 2 rfl⟩;have HDR:=ai (Below.refl WL.heap.size WL).drew;clear hkh ek MT hfl er hsh TH hbL BL hlS hlo hsA HKH bE fz hcl;go_upto_region 5 with fail;rw[<- HWL.o]
     go_region_held3 (fun V=>V.cell? (Ad cb 0)=some (.slice (some (Ad sb 0)) k.ak.length cS)/\V.cell? (Ad wr.heap.size 2)=some (.slice ao fx.length cp)) (first | exact ky.o | exact Cu.o | exact HS4.o)
      ((go_at_call 106;refine(UO.o _ HDR.o).mono ?_;rintro e w5 ⟨ax,cx,rfl,s3,s4,y2,f2,hst,Aj⟩;have ky:=ai s3;have HS4:=ai s4;have HST:=ai hst;have agk:=ai Aj;clear s3 s4 hst Aj))
     all_goals clear Cu ky HS4 UO
     all_goals go_wp2
     go_roundw
     case rel =>
      obtain⟨lab',Wo,hst⟩:=HST.o;exact⟨n+1,lab',Wo,by omega,by go_num,hst,agk.o⟩
     case measure=>simp[intOf];omega
   · obtain rfl:n=k.ak.length:=by omega
     have XL:Hid (Km WA.heap.size cb 27 [] wr ⟨lab,.slice aS k.ak.length cS,.slice aF k.frames.length cF,.slice aL k.slots.length cL,Nl,[]⟩ (KM.aT ⟨k.ak,k.frames,k.slots,k.aj.take 0,k.hand⟩ hs')):=Kh.done (by rw[hkh.same.len];exact hkh);have RX:=ai hkh.same;have cM:=ai ek;have q3:wr.cell? (Ad w.heap.size 3)=some (.slice a.aP k.aj.length a.cP):=B.cell (B.below KB.o ek (B.isLt KB.o)) 3 rfl;have xL:=hs.aj;clear hkh ek HKH bE;go_wp2;go_loopw [40] (fun iv wq=>∃m:Nat,∃S hs2,m<=k.aj.length/\iv=I (m:Int)/\KM.Same k.ak hs2/\Km WA.heap.size cb 27 [] wq S (KM.aT ⟨k.ak,k.frames,k.slots,k.aj.take m,k.hand⟩ hs2)/\Below WA.heap.size WA wq) (fun iv _=>k.aj.length-(intOf iv).toNat)
     case atStart=>exact⟨0,_,hs',by omega,rfl,RX.o,XL.o,cM.o⟩
     case round =>
      obtain⟨m,S,hs2,hm,rfl,hsame,dG,ek⟩:=hrel;by_cases o6:m<k.aj.length
      · have Yv:(m:Int)<(k.aj.length:Int):=by omega
        obtain⟨pb,po,hpo,hpl,Ah⟩:=VH.o (by omega);obtain⟨va,ap,cp,v0,v1,v2,Po,BQ,_⟩:=Ah m o6;have ng:=Po;obtain⟨aa,ca,sI,_⟩:=Po;subst sI;have hbl:Below w.heap.size w wr:=cQ.o.trans (ek.mono cQ.o.size);have z0:=(hbl.cell (p:=(Ad pb (po+m*3))) hpl).trans v0;have z1:=(hbl.cell (p:=(Ad pb (po+m*3+1))) hpl).trans v1;have z2:=(hbl.cell (p:=(Ad pb (po+m*3+2))) hpl).trans v2;have har:=hs.aB m o6;have hen:=hs.aA m o6;have htk:=CF k.aj m o6;obtain⟨sp,hsp⟩:=ex (KM.au k.aj m);rw[<- hsp] at z0 z1 z2 har hen htk ng BQ;obtain⟨lv,iu,gj⟩:=sp;simp only at z0 z1 z2 har hen ng BQ;obtain⟨bP,dP,eP,_⟩:=aN dG.aj;have hLl:S.L.length<=1000000:=by have:=dG.len;have e:(KM.aT ⟨k.ak,k.frames,k.slots,k.aj.take m,k.hand⟩ hs2).aj.length=(k.aj.take m).length:=rfl;rw[e,List.length_take] at this;omega
        obtain⟨WL,TH⟩:=ex (wr.alloc (.cells #[.bool lv,.slice aa iu.length ca,.slice ap gj.length cp] 43));have hbL:Below wr.heap.size wr WL:=by rw[TH];exact(Below.refl _ _).alloc (Nat.le_refl _) _
        have BL:WL.heap[wr.heap.size]?=some (.cells #[.bool lv,.slice aa iu.length ca,.slice ap gj.length cp] 43 (0,0)):=by rw[TH];exact B.new _ _ _
        have DL:Below wr.heap.size wr WL.drew:=hbL.drew;have BD:WL.drew.heap[wr.heap.size]?=some (.cells #[.bool lv,.slice aa iu.length ca,.slice ap gj.length cp] 43 (0,0)):=B.below BL (Below.refl _ _).drew (B.isLt BL);have HWL:=ai TH;obtain⟨WD,RQ⟩:=ex WL.drew;rw[<- RQ] at DL BD;have HWD:=ai RQ;have Pk:=dG.below DL;have ZL:WA.heap.size<=WD.heap.size:=Nat.le_trans ek.size DL.size;have Ni:Hid (Calls Tryz.prog 86 #[.agg #[.bool lv,.slice aa iu.length ca,.slice ap gj.length cp]] WD fun e w'=>∃xa nx cx ya ny cy,e=.returned (.agg #[.bool lv,.slice xa nx cx,.slice ya ny cy])/\cJ WD.heap.size w' ⟨lv,.slice xa nx cx,.slice ya ny cy⟩ ⟨lv,iu,gj⟩/\(∀b,blk (.slice ya ny cy) b->¬blk (.slice xa nx cx) b)/\Below WD.heap.size WD w'):=(KS.zM ⟨lv,iu,gj⟩ aa ap iu.length ca cp WD (ng.below (hbl.trans (DL.mono hbl.size))) (BQ.below (hbl.trans (DL.mono hbl.size))) har hen).mono fun e w' ⟨va,vp,h1,h2,h3,h4⟩=>by
         obtain⟨xa,cx,ex,_⟩:=aN h2.aB;obtain⟨ya,cy,ey,_⟩:=aN h2.aJ;have ex:va=_:=ex;have ey:vp=_:=ey;subst ex ey;exact⟨xa,_,cx,ya,_,cy,h1,h2,h3,h4⟩
        have Yg:Hid (∀V,Kp (fun b=>blk S.vP b) WD V->V.cell? (Ad cb 3)=some (.slice bP S.L.length dP)/\V.cell? (Ad wr.heap.size 0)=some (.bool lv)/\V.cell? (Ad wr.heap.size 1)=some (.slice aa iu.length ca)/\V.cell? (Ad wr.heap.size 2)=some (.slice ap gj.length cp)/\V.frozen? (Ad cb 3)=false):=fun V hV=>by
         have b1:=hV.keep Pk.head (fun g=>by have:=dG.lP _ g;rw[dG.lH] at this;simp at this);have b2:=hV.keep BD (fun g=>by have:=(dG.aj.lt _ g).2;omega);refine⟨?_,B.cell b2 0 rfl,B.cell b2 1 rfl,B.cell b2 2 rfl,B.free b1 3⟩;rw[<- eP];exact B.cell b1 3 rfl
        have Al:Hid (∀w2 o,Below WD.heap.size WD w2->(w2.alloc o).ownsRow WA.heap.size 43 3 (.slice bP S.L.length dP) S.L.length (S.L.flatMap bw)):=fun w2 o hb=>by
         have:=((Kp.bc (D:=fun _=>False) hb).trans (Kp.alloc _ w2 o) (fun _ _ g=>g)).row Pk.aj (fun _ _ g=>g);rw[eP] at this;exact this
        have Gr:Hid (∀w2 w4 O v' l,Below WD.heap.size WD w2->cJ WD.heap.size w2 l ⟨lv,iu,gj⟩->(∀b,blk l.vp b->¬blk l.va b)->(w2.alloc O).grownBy w4 S.vP.ownBlock->w4.ownsRow WA.heap.size 43 3 v' (S.L.length+1) (S.L.flatMap bw++bw l)->(v'.ownBlock=S.vP.ownBlock∨v'.ownBlock=some (w2.alloc O).heap.size)->∃S',Km WA.heap.size cb 27 [] (w4.setCell (Ad cb 3) v') S' (KM.aT ⟨k.ak,k.frames,k.slots,k.aj.take (m+1),k.hand⟩ hs2)/\Below WA.heap.size WA (w4.setCell (Ad cb 3) v')):=fun w2 w4 O v' l h1 h2 h3 h4 h5 h6=>by
         have m1:=Pk.push ZL h1 h2 h3 h4 h5 h6;have m2:=m1.1;rw[htk];have Aj:=ek.trans (DL.mono ek.size);exact⟨_,m2,Kp.below Aj m1.2.2 Aj.size (fun b hb=>(Pk.iJ b hb).1)⟩
        have aaY:=ai hsame;have wW:Hid (∀w2,Below WD.heap.size WD w2->Kp (fun b=>blk S.vP b) WD w2):=fun w2 h=>Kp.bc h
        have HEP:=ai eP;obtain⟨i0,hin,hz0,hz1,hz2⟩:=info_parts sH;have ry:=ai hin;have vo:=ai hz0;have vk:=ai hz1;have uj:=ai hz2;have hlw:WA.heap.size<=WD.heap.size:=ZL;clear dG Pk ek hbl v0 v1 v2 ng BQ har hen htk hsp TH RQ hbL BL DL BD Ah XL RX cM hsame eP hin hz0 hz1 hz2;rw[hpo];go_upto_region 10 with fail;rw[<- HWL.o];refine GZ.sW (S:=fun V=>Kp (fun b=>blk S.vP b) WD V) (z:=7) (by kernel_rfl) ?_;rw[<- HWD.o];have eQ:=Yg;have gG:Hid (Kp (fun b=>blk S.vP b) WD WD):=Kp.refl _ _;refine GZ.tk 0 gG.o ?_ ?_ ?_;rotate_left 1
        · intro V h;obtain⟨k0,k1,k2,k3,k4⟩:=eQ.o V h;go_simp
          try with_reducible rfl
        refine GZ.tk 1 gG.o ?_ ?_ ?_;rotate_left 1
        · intro V h;obtain⟨k0,k1,k2,k3,k4⟩:=eQ.o V h;go_simp
          try with_reducible rfl
        refine GZ.tk 2 gG.o ?_ ?_ ?_;rotate_left 1
        · intro V h;obtain⟨k0,k1,k2,k3,k4⟩:=eQ.o V h;go_simp
          try with_reducible rfl
        refine GZ.all (rs:=[3]) (by kernel_rfl) (by simp) ?_;refine GZ.bl.cons rfl (fun K hK=>?_) GZ.bl.nil;rw[if_pos (by rfl)];go_simp;go_at_call 86;refine Ni.o.mono ?_;rintro e w2 ⟨xa,nx,cx,ya,ny,cy,rfl,BC,hap,hb2⟩;have DU:=ai BC;have Kj:=ai hap;have cM:=ai hb2;have iM:=ai (wW.o _ hb2);clear BC hap hb2;try go_simp;refine hK.out _ _ (fun _=>?_) ?_
        · exact iM.o
        clear hK K
        try simp only[Act.put,List.setIfInBounds_toArray,List.set_cons_zero,List.set_cons_succ]
        refine GZ.all (rs:=[4]) (by kernel_rfl) (by simp) ?_;refine GZ.bl.cons rfl (fun K hK=>?_) GZ.bl.nil;go_simp;refine hK.out _ _ (fun _=>?_) ?_
        · exact iM.o.trans (Kp.alloc _ _ _) (fun _ _ g=>g)
        clear hK K
        try simp only[Act.put,List.setIfInBounds_toArray,List.set_cons_zero,List.set_cons_succ]
        have adG:=cM.o.size;refine GZ.all (rs:=[5]) (by kernel_rfl) (by simp) ?_;refine GZ.bl.cons rfl (fun K hK=>?_) GZ.bl.nil;rw[if_pos (by rfl)];refine df (P:=Tryz.prog) _ _ 25 rfl WA.heap.size 43 i0 (.agg #[.bool false,Nl,Nl]) 3 56 Tryz.underlying25 ry.o vo.o vk.o uj.o rfl (by decide) (.slice bP S.L.length dP) S.L.length (S.L.flatMap bw) rfl (Al.o _ _ cM.o) (some (Ad w2.heap.size 0)) 1 1 (bw ⟨lv,.slice xa nx cx,.slice ya ny cy⟩) rfl rfl (fun _=>⟨_,rfl,uP w2 _ _⟩) (by intro u hu;simp[bw] at hu;rcases hu with rfl | rfl | rfl <;> rfl) (by unfold maxLen;omega) (by omega) (by rw[World.size_alloc];omega) ?_;intro vG wG qR s6 ux;obtain⟨aG,cG,C9,_,_⟩:=aN qR;subst C9;rw[<- HEP.o] at s6 ux;have pP:Hid (Kp (fun b=>blk S.vP b) WD wG):=(iM.o.trans (Kp.alloc _ _ _) (fun _ _ g=>g)).trans (Kp.grown s6 (fun q hq=>hq)) (fun _ _ g=>g);have UB:=ai (Gr.o w2 wG _ _ ⟨lv,.slice xa nx cx,.slice ya ny cy⟩ cM.o DU.o Kj.o s6 qR ux);clear qR s6 ux;refine hK.out _ _ (fun _=>?_) ?_
        · exact pP.o
        clear hK K
        try simp only[Act.put,List.setIfInBounds_toArray,List.set_cons_zero,List.set_cons_succ]
        refine GZ.tk 6 pP.o ?_ ?_ ?_;rotate_left 1
        · intro V h;obtain⟨k0,k1,k2,k3,k4⟩:=eQ.o V h;go_simp
          try with_reducible rfl
        obtain⟨k0,k1,k2,k3,k4⟩:=eQ.o _ pP.o;refine GZ.all (rs:=[7]) (by kernel_rfl) (by simp) ?_;refine GZ.bl.cons rfl (fun K hK=>?_) GZ.bl.nil;go_simp;refine hK.out _ _ (fun g=>absurd rfl g) ?_;refine GZ.done (by kernel_rfl) ?_ _;go_wp2;go_roundw
        case rel =>
         obtain⟨S',h1,h2⟩:=UB.o;exact⟨m+1,S',hs2,by omega,by go_num,aaY.o,h1,h2⟩
        case measure=>simp[intOf];omega
      · obtain rfl:m=k.aj.length:=by omega
        rw[List.take_length] at dG;obtain⟨bS,nS,dS,eS⟩:∃b n d,S.vS=.slice b n d:=by obtain⟨b,d,e,_⟩:=aN dG.ak;exact⟨b,_,d,e⟩
        obtain⟨bF,nF,dF,eF⟩:∃b n d,S.vF=.slice b n d:=by obtain⟨b,d,e,_⟩:=aN dG.frames;exact⟨b,_,d,e⟩
        obtain⟨bL,nL,dL,eL⟩:∃b n d,S.vL=.slice b n d:=by obtain⟨b,d,e,_⟩:=aN dG.slots;exact⟨b,_,d,e⟩
        obtain⟨bP,nP,dP,eP⟩:∃b n d,S.vP=.slice b n d:=by obtain⟨b,d,e,_⟩:=aN dG.aj;exact⟨b,_,d,e⟩
        have c0:=dG.c0;have c1:=dG.c1;have c2:=dG.c2;have c3:=dG.c3;have c4:wr.cell? (Ad cb 4)=some (I k.hand):=dG.c4;rw[eS] at c0;rw[eF] at c1;rw[eL] at c2;rw[eP] at c3;have hcl:=dG.lt;have R1:=B.below RB.o ek (B.isLt RB.o);obtain⟨y0,y1,y2,y3,y4⟩:=B.c5 R1;have f0:=B.free R1 0;have f1:=B.free R1 1;have f2:=B.free R1 2;have f3:=B.free R1 3;have f4:=B.free R1 4;have pN:w.heap.size+1<WA.heap.size:=B.isLt RB.o;have hbl:Below w.heap.size w wr:=cQ.o.trans (ek.mono cQ.o.size);have bB:Hid (∀V,Kp (fun b=>b=w.heap.size+1) wr V->P (.returned (.agg #[.slice bS nS dS,.slice bF nF dF,.slice bL nL dL,.slice bP nP dP,I k.hand])) V):=fun V hV=>by
         rw[HP.o];refine⟨S,hs2,hsame,by rw[eS,eF,eL,eP],(dG.toKr.kp hV (fun b hb e=>by have:=(dG.iJ b hb).1;omega)).mono (by omega),?_⟩;exact Kp.below hbl hV hbl.size (fun b e=>by omega)
        have h5:Hid (∀s f l p h,(((((wr.setCell (Ad (w.heap.size+1) 0) s).setCell (Ad (w.heap.size+1) 1) f).setCell (Ad (w.heap.size+1) 2) l).setCell (Ad (w.heap.size+1) 3) p).setCell (Ad (w.heap.size+1) 4) h).heap[w.heap.size+1]?=some (.cells #[s,f,l,p,h] 27 (0,0))/\Kp (fun b=>b=w.heap.size+1) wr (((((wr.setCell (Ad (w.heap.size+1) 0) s).setCell (Ad (w.heap.size+1) 1) f).setCell (Ad (w.heap.size+1) 2) l).setCell (Ad (w.heap.size+1) 3) p).setCell (Ad (w.heap.size+1) 4) h)):=fun s f l p h=>⟨B.set (B.set (B.set (B.set (B.set R1 0 s) 1 f) 2 l) 3 p) 4 h,((((Kp.set (fun b=>b=w.heap.size+1) wr (Ad (w.heap.size+1) 0) s rfl).trans (Kp.set (fun b=>b=w.heap.size+1) _ (Ad (w.heap.size+1) 1) f rfl) (fun _ _ g=>g)).trans (Kp.set (fun b=>b=w.heap.size+1) _ (Ad (w.heap.size+1) 2) l rfl) (fun _ _ g=>g)).trans (Kp.set (fun b=>b=w.heap.size+1) _ (Ad (w.heap.size+1) 3) p rfl) (fun _ _ g=>g)).trans (Kp.set (fun b=>b=w.heap.size+1) _ (Ad (w.heap.size+1) 4) h rfl) (fun _ _ g=>g)⟩
        clear dG ek hsame eS eF eL eP pN hbl XL RX cM R1;go_wp2;obtain⟨q1,q2⟩:=h5.out (.slice bS nS dS) (.slice bF nF dF) (.slice bL nL dL) (.slice bP nP dP) (I k.hand);obtain⟨y0,y1,y2,y3,y4⟩:=B.c5 q1;refine bodyPost_ret (v:=.agg #[.slice bS nS dS,.slice bF nF dF,.slice bL nL dL,.slice bP nP dP,I k.hand]) (by simp[results,Tryz.results55,go_sem,y0,y1,y2,y3,y4]) rfl ?_;exact bB.o _ q2
end KY
end Go.Proofs.YtpgifpeohlllfaaGreat
