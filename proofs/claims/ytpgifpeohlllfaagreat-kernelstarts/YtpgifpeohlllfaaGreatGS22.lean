import Derived.Test.YtpgifpeohlllfaaGreatGS00
import Derived.Test.YtpgifpeohlllfaaGreatGS18
import Derived.Test.YtpgifpeohlllfaaGreatGS21
set_option maxHeartbeats 20000000
set_option linter.unusedVariables false
set_option maxRecDepth 100000
set_option linter.unusedSimpArgs false
namespace Go.Proofs.YtpgifpeohlllfaaGreat
namespace KY
open Go.RowKit GK KO
open FW (ai aB)
open KW (bE bD aK aZ fu cI aJ dN bT)
open KS (Lc bJ oY dC blk cU)
theorem Kh.at_ {lo cb:Nat} {w:World} {lab:Nat->Lb} {aS:Option Addr} {m cS:Nat} {vF vL:Value} {k:KM.Kn} {hs:List LM.Sh} {n:Nat} (h:Kh lo cb w lab (.slice aS m cS) vF vL k hs n) (hn:n<k.ak.length) :
  ∃sb,aS=some (Ad sb 0)/\¬cb=sb/\sb<w.heap.size/\w.cell? (Ad cb 0)=some (.slice aS m cS)/\w.cell? (Ad sb (n*3))=some (I (LM.aW k.ak n).page)/\w.cell? (Ad sb (n*3+1))=some (.string (LM.aW k.ak n).data)/\w.cell? (Ad sb (n*3+2))=some (.slice (LM.aW k.ak n).ao (LM.aW k.ak n).bh.length (LM.aW k.ak n).cap)/\∀j,w.frozen? (Ad sb j)=false:=by
 have hl:=h.same.len
 obtain⟨ao,cap,e,hc,hg⟩:=aQ h.ak
 injection e with e1 e2 e3
 subst e1 e2 e3
 obtain⟨g,rfl,hg1,hg2⟩:=hg (by omega)
 have at_:=fun j (hj:j<3)=>iQ eI (fun _=>rfl) LM.L5 h.ak n j (by omega) hj
 have er:hs.getD n LM.L5=LM.aW k.ak n:=h.rest n (Nat.le_refl _)
 rw[er] at at_
 exact⟨g,rfl,fun e=>by have:=h.lS g rfl;rw[<- e,h.lH] at this;simp at this,hg2,B.cell h.head 0 rfl,at_ 0 (by omega),at_ 1 (by omega),at_ 2 (by omega),dn h.ak⟩
theorem yD:(Tryz.prog.info? 43).map (fun i=>(i.zero,i.size,i.bytes))=some (some (.agg #[.bool false,Nl,Nl]),3,56):=by kernel_rfl
theorem Cv (w:World) (xs:List Value) (e:TypeId):∀j u,xs[j]?=some u->(w.alloc (.cells xs.toArray e)).cell? (((Ad w.heap.size 0):Addr).add j)=some u:=fun j u hu=>by
 rw[Addr.add_lit,Nat.zero_add]
 exact B.cell (B.new w xs.toArray e) j (by simpa using hu)
theorem Ca (l:List KM.Sp) (m:Nat) (h:m<l.length):l.take (m+1)=l.take m++[KM.au l m]:=by
 rw[List.take_add_one,List.getElem?_eq_getElem h]
 unfold KM.au
 rw[List.getD_eq_getElem?_getD,List.getElem?_eq_getElem h]
 rfl
theorem Ek (k:KM.Kn) (a:fu) (w:World) (hK:cI w a k) (hs:Small k) :
  Calls Tryz.prog 55 #[.agg (aJ a k)] w (sF w k):=by
 obtain⟨P,hP⟩:=ex (sF w k)
 rw[<- hP]
 have HP:=ai hP
 clear hP
 have T9:=ai hK.aj
 have wU:=ai (fA (f:=eI) (n:=3) (fun _=>rfl) (Gj hK.ak))
 have sH:=ai (fA (f:=bE) (n:=4) (fun _=>rfl) hK.frames)
 have FL:=ai (fA (f:=bD) (n:=2) (fun _=>rfl) hK.slots)
 obtain⟨WA,dK⟩:=ex ((w.alloc (.cells (aJ a k) 27)).alloc (.cells #[Nl,Nl,Nl,Nl,I 0] 27))
 have cJ:Hid (Below w.heap.size w WA):=by rw[dK];exact((Below.refl _ _).alloc (Nat.le_refl _) _).alloc (by simp) _
 have KB:Hid (WA.heap[w.heap.size]?=some (.cells (aJ a k) 27 (0,0))):=by rw[dK];exact B.alloc (B.new w _ _) _
 have RB:Hid (WA.heap[w.heap.size+1]?=some (.cells #[Nl,Nl,Nl,Nl,I 0] 27 (0,0))):=by
  have:=B.new (w.alloc (.cells (aJ a k) 27)) #[Nl,Nl,Nl,Nl,I 0] 27
  rw[World.size_alloc] at this
  rw[dK];exact this
 have HS:Hid (∀V,Below WA.heap.size WA V->V.cell? (Ad w.heap.size 0)=some (.slice a.aS k.ak.length a.cS)/\V.cell? (Ad w.heap.size 1)=some (.slice a.aF k.frames.length a.cF)/\V.cell? (Ad w.heap.size 2)=some (.slice a.aL k.slots.length a.cL)/\V.cell? (Ad w.heap.size 4)=some (I k.hand)):=fun V hb=>by
  have h1:=B.below KB.o hb (B.isLt KB.o)
  exact⟨B.cell h1 0 rfl,B.cell h1 1 rfl,B.cell h1 2 rfl,B.cell h1 4 rfl⟩
 have Z0:Hid (∀V,Below WA.heap.size WA V->Calls Tryz.prog 103 #[.slice a.aS k.ak.length a.cS] V fun e w'=>∃ad c,e=.returned (.slice ad k.ak.length c)/\w'.ownsRow V.heap.size 50 3 (.slice ad k.ak.length c) k.ak.length (k.ak.flatMap eI)/\Below V.heap.size V w'):=fun V hV=>(RT _ _ _ _ V (bH eI 3 (fun _=>rfl) k.ak) (wU.o.below (cJ.o.trans (hV.mono cJ.o.size))) (MQ _) hs.ak).mono fun e w' ⟨v,h1,h2,h3⟩=>by
  obtain⟨ad,c,rfl,_⟩:=aQ h2
  exact⟨ad,c,h1,h2,h3⟩
 have Xn:Hid (∀V,Below WA.heap.size WA V->Calls Tryz.prog 104 #[.slice a.aF k.frames.length a.cF] V fun e w'=>∃ad c,e=.returned (.slice ad k.frames.length c)/\w'.ownsRow V.heap.size 40 4 (.slice ad k.frames.length c) k.frames.length (k.frames.flatMap bE)/\Below V.heap.size V w'):=fun V hV=>(RX _ _ _ _ V (bH bE 4 (fun _=>rfl) k.frames) (sH.o.below (cJ.o.trans (hV.mono cJ.o.size))) (Hj _) hs.frames).mono fun e w' ⟨v,h1,h2,h3⟩=>by
  obtain⟨ad,c,rfl,_⟩:=aQ h2
  exact⟨ad,c,h1,h2,h3⟩
 have Am:Hid (∀V,Below WA.heap.size WA V->Calls Tryz.prog 105 #[.slice a.aL k.slots.length a.cL] V fun e w'=>∃ad c,e=.returned (.slice ad k.slots.length c)/\w'.ownsRow V.heap.size 86 2 (.slice ad k.slots.length c) k.slots.length (k.slots.flatMap bD)/\Below V.heap.size V w'):=fun V hV=>(RR _ _ _ _ V (bH bD 2 (fun _=>rfl) k.slots) (FL.o.below (cJ.o.trans (hV.mono cJ.o.size))) (Gg _) hs.slots).mono fun e w' ⟨v,h1,h2,h3⟩=>by
  obtain⟨ad,c,rfl,_⟩:=aQ h2
  exact⟨ad,c,h1,h2,h3⟩
 have Ik:Hid (∀V n,Below w.heap.size w V->n<k.ak.length->From V (LM.aW k.ak n).ao (LM.aW k.ak n).bh.length ((LM.aW k.ak n).bh.flatMap fI)/\(LM.aW k.ak n).bh.length<=1000000):=fun V n hb hn=>by
  obtain⟨b,off,_,_,hi⟩:=hK.ak (by omega)
  have h4:LM.nE w (LM.aW k.ak n).ao (LM.aW k.ak n).bh:=(hi n hn).2.2.2
  exact⟨fA (f:=fI) (n:=2) (fun _=>rfl) (Hh (h4.below hb)),hs.bh n hn⟩
 have cA:Hid (∀V:World,(V.cell? (Ad w.heap.size 0)=some (.slice a.aS k.ak.length a.cS)/\V.cell? (Ad w.heap.size 1)=some (.slice a.aF k.frames.length a.cF)/\V.cell? (Ad w.heap.size 2)=some (.slice a.aL k.slots.length a.cL)/\V.cell? (Ad w.heap.size 4)=some (I k.hand))->V.cell? (Ad w.heap.size 0)=some (.slice a.aS k.ak.length a.cS)/\V.cell? (Ad w.heap.size 1)=some (.slice a.aF k.frames.length a.cF)/\V.cell? (Ad w.heap.size 2)=some (.slice a.aL k.slots.length a.cL)/\V.cell? (Ad w.heap.size 4)=some (I k.hand)):=fun V h=>h
 have gp:=ai dK
 unfold aJ at gp ⊢
 clear dK hK
 go_enter Tryz.func55,Tryz.ntmps55
 go_upto_region 1 with fail
 rw[<- gp.o]
 go_cut [3] (fun x3 wx=>∃cb aS cS aF cF aL cL,x3=.pointer (some (Ad cb 0))/\Four WA.heap.size WA wx cb (.slice aS k.ak.length cS) (.slice aF k.frames.length cF) (.slice aL k.slots.length cL) k.hand k)
 case first =>
  refine GZ.p8 (S:=fun V=>V.cell? (Ad w.heap.size 0)=some (.slice a.aS k.ak.length a.cS)/\V.cell? (Ad w.heap.size 1)=some (.slice a.aF k.frames.length a.cF)/\V.cell? (Ad w.heap.size 2)=some (.slice a.aL k.slots.length a.cL)/\V.cell? (Ad w.heap.size 4)=some (I k.hand)) (z:=13) (by kernel_rfl) ?_
  have iW:=ai (Below.refl WA.heap.size WA).drew
  obtain⟨WD,P7⟩:=ex WA.drew
  rw[<- P7] at iW ⊢
  clear P7
  have eX:=ai (HS.o _ iW.o)
  refine GZ.tk 0 eX.o ?_ ?_ ?_
  rotate_left 1
  · intro V h
    obtain⟨k0,k1,k2,k3⟩:=cA.o V h
    go_simp
    try with_reducible rfl
  refine GZ.tk 1 eX.o ?_ ?_ ?_
  rotate_left 1
  · intro V h
    obtain⟨k0,k1,k2,k3⟩:=cA.o V h
    go_simp
    try with_reducible rfl
  refine GZ.tk 3 eX.o ?_ ?_ ?_
  rotate_left 1
  · intro V h
    obtain⟨k0,k1,k2,k3⟩:=cA.o V h
    go_simp
    try with_reducible rfl
  refine GZ.tk 4 eX.o ?_ ?_ ?_
  rotate_left 1
  · intro V h
    obtain⟨k0,k1,k2,k3⟩:=cA.o V h
    go_simp
    try with_reducible rfl
  refine GZ.tk 6 eX.o ?_ ?_ ?_
  rotate_left 1
  · intro V h
    obtain⟨k0,k1,k2,k3⟩:=cA.o V h
    go_simp
    try with_reducible rfl
  refine GZ.tk 7 eX.o ?_ ?_ ?_
  rotate_left 1
  · intro V h
    obtain⟨k0,k1,k2,k3⟩:=cA.o V h
    go_simp
    try with_reducible rfl
  refine GZ.tk 9 eX.o ?_ ?_ ?_
  rotate_left 1
  · intro V h
    obtain⟨k0,k1,k2,k3⟩:=cA.o V h
    go_simp
    try with_reducible rfl
  refine GZ.tk 10 eX.o ?_ ?_ ?_
  rotate_left 1
  · intro V h
    obtain⟨k0,k1,k2,k3⟩:=cA.o V h
    go_simp
    try with_reducible rfl
  refine GZ.all (rs:=[2,12]) (by kernel_rfl) (by simp) ?_
  refine GZ.aV.cons rfl (fun K hK=>?_) (GZ.aV.cons rfl (fun K hK=>?_) GZ.aV.nil)
  · have aeE:=trivial
    rw[if_pos (by rfl)];go_simp;go_at_call 103
    refine(Z0.o _ iW.o).mono ?_
    rintro e w1 ⟨a1,c1,rfl,hr1,hb1⟩
    have zE:=ai hr1
    have bI:=ai hb1
    have pC:=ai ((iW.o).trans (hb1.mono (iW.o).size))
    have gm:=ai (HS.o _ pC.o)
    clear hr1 hb1
    try go_simp
    refine hK.out _ _ (fun _=>?_) ?_
    · exact gm.o
    clear hK K
    try simp only[Act.put,List.setIfInBounds_toArray,List.set_cons_zero,List.set_cons_succ]
    refine GZ.all (rs:=[5,12]) (by kernel_rfl) (by simp) ?_
    refine GZ.aV.cons rfl (fun K hK=>?_) (GZ.aV.cons rfl (fun K hK=>?_) GZ.aV.nil)
    · have aeD:=trivial
      rw[if_pos (by rfl)];go_simp;go_at_call 104
      refine(Xn.o _ pC.o).mono ?_
      rintro e w2 ⟨a2,c2,rfl,hr2,hb2⟩
      have zC:=ai hr2
      have ck:=ai hb2
      have jJ:=ai ((pC.o).trans (hb2.mono (pC.o).size))
      have eD:=ai (HS.o _ jJ.o)
      clear hr2 hb2
      try go_simp
      refine hK.out _ _ (fun _=>?_) ?_
      · exact eD.o
      clear hK K
      try simp only[Act.put,List.setIfInBounds_toArray,List.set_cons_zero,List.set_cons_succ]
      refine GZ.all (rs:=[8,12]) (by kernel_rfl) (by simp) ?_
      refine GZ.aV.cons rfl (fun K hK=>?_) (GZ.aV.cons rfl (fun K hK=>?_) GZ.aV.nil)
      · have aeC:=trivial
        rw[if_pos (by rfl)];go_simp;go_at_call 105
        refine(Am.o _ jJ.o).mono ?_
        rintro e w3 ⟨a3,c3,rfl,hr3,hb3⟩
        have FN:=ai hr3
        have cZ:=ai hb3
        have l8:=ai ((jJ.o).trans (hb3.mono (jJ.o).size))
        have gH:=ai (HS.o _ l8.o)
        clear hr3 hb3
        try go_simp
        refine hK.out _ _ (fun _=>?_) ?_
        · exact gH.o
        clear hK K
        try simp only[Act.put,List.setIfInBounds_toArray,List.set_cons_zero,List.set_cons_succ]
        refine GZ.tk 11 gH.o ?_ ?_ ?_
        rotate_left 1
        · intro V h
          obtain⟨k0,k1,k2,k3⟩:=cA.o V h
          go_simp
          try with_reducible rfl
        refine GZ.all (rs:=[12]) (by kernel_rfl) (by simp) ?_
        refine GZ.aV.cons rfl (fun K hK=>?_) GZ.aV.nil
        go_simp
        refine hK.out _ _ (fun _=>?_) ?_
        · exact HS.o _ (l8.o.alloc l8.o.size (.cells #[Nl,Nl,Nl,Nl,I 0] 27))
        clear hK K
        try simp only[Act.put,List.setIfInBounds_toArray,List.set_cons_zero,List.set_cons_succ]
        refine GZ.all (rs:=[13]) (by kernel_rfl) (by simp) ?_
        refine GZ.aV.cons rfl (fun K hK=>?_) GZ.aV.nil
        go_simp
        refine hK.out _ _ (fun g=>absurd rfl g) ?_
        refine GZ.done (by kernel_rfl) ?_ _
        go_wp2_with fail
        go_meet
        case rel =>
         refine⟨_,a1,c1,a2,c2,a3,c3,rfl,?_⟩
         exact OT (V1:=WD) (w1:=w1) (V2:=w1) (w2:=w2) (V3:=w2) (w3:=w3) iW.o zE.o bI.o (Below.refl _ _) zC.o ck.o (Below.refl _ _) FN.o cZ.o
      · have aaO:=trivial
        go_simp
        refine hK.out _ _ (fun _=>?_) ?_
        · exact HS.o _ (jJ.o.alloc jJ.o.size (.cells #[Nl,Nl,Nl,Nl,I 0] 27))
        clear hK K
        try simp only[Act.put,List.setIfInBounds_toArray,List.set_cons_zero,List.set_cons_succ]
        refine GZ.all (rs:=[8]) (by kernel_rfl) (by simp) ?_
        refine GZ.aV.cons rfl (fun K hK=>?_) GZ.aV.nil
        rw[if_pos (by rfl)];go_simp;go_at_call 105
        refine(Am.o _ (jJ.o.alloc jJ.o.size (.cells #[Nl,Nl,Nl,Nl,I 0] 27))).mono ?_
        rintro e w3 ⟨a3,c3,rfl,hr3,hb3⟩
        have FN:=ai hr3
        have cZ:=ai hb3
        have l8:=ai (((jJ.o.alloc jJ.o.size (.cells #[Nl,Nl,Nl,Nl,I 0] 27))).trans (hb3.mono ((jJ.o.alloc jJ.o.size (.cells #[Nl,Nl,Nl,Nl,I 0] 27))).size))
        have gH:=ai (HS.o _ l8.o)
        have oh:=ai (B.below (B.new w2 #[Nl,Nl,Nl,Nl,I 0] 27) hb3 (by simp))
        clear hr3 hb3
        try go_simp
        refine hK.out _ _ (fun _=>?_) ?_
        · exact gH.o
        clear hK K
        try simp only[Act.put,List.setIfInBounds_toArray,List.set_cons_zero,List.set_cons_succ]
        refine GZ.tk 11 gH.o ?_ ?_ ?_
        rotate_left 1
        · intro V h
          obtain⟨k0,k1,k2,k3⟩:=cA.o V h
          go_simp
          try with_reducible rfl
        obtain⟨z0,z1,z2,z3,z4⟩:=B.c5 oh.o
        have f0:=B.free oh.o 0
        have f1:=B.free oh.o 1
        have f2:=B.free oh.o 2
        have f3:=B.free oh.o 3
        have f4:=B.free oh.o 4
        refine GZ.all (rs:=[13]) (by kernel_rfl) (by simp) ?_
        refine GZ.aV.cons rfl (fun K hK=>?_) GZ.aV.nil
        go_simp
        refine hK.out _ _ (fun g=>absurd rfl g) ?_
        refine GZ.done (by kernel_rfl) ?_ _
        go_wp2_with fail
        go_meet
        case rel =>
         refine⟨_,a1,c1,a2,c2,a3,c3,rfl,?_⟩
         exact uH (V4:=w3) (cb:=w2.heap.size) (V1:=WD) (w1:=w1) (V2:=w1) (w2:=w2) (V3:=(w2.alloc (.cells #[Nl,Nl,Nl,Nl,I 0] 27))) (w3:=w3) iW.o zE.o bI.o (Below.refl _ _) zC.o ck.o ((Below.refl _ _).alloc (Nat.le_refl _) _) FN.o cZ.o (Below.refl _ _) oh.o (jJ.o.size) (.inr (.inr (.inl ⟨Nat.le_refl _,by simp⟩)))
    · have aaP:=trivial
      go_simp
      refine hK.out _ _ (fun _=>?_) ?_
      · exact HS.o _ (pC.o.alloc pC.o.size (.cells #[Nl,Nl,Nl,Nl,I 0] 27))
      clear hK K
      try simp only[Act.put,List.setIfInBounds_toArray,List.set_cons_zero,List.set_cons_succ]
      refine GZ.all (rs:=[5]) (by kernel_rfl) (by simp) ?_
      refine GZ.aV.cons rfl (fun K hK=>?_) GZ.aV.nil
      rw[if_pos (by rfl)];go_simp;go_at_call 104
      refine(Xn.o _ (pC.o.alloc pC.o.size (.cells #[Nl,Nl,Nl,Nl,I 0] 27))).mono ?_
      rintro e w2 ⟨a2,c2,rfl,hr2,hb2⟩
      have zC:=ai hr2
      have ck:=ai hb2
      have jJ:=ai (((pC.o.alloc pC.o.size (.cells #[Nl,Nl,Nl,Nl,I 0] 27))).trans (hb2.mono ((pC.o.alloc pC.o.size (.cells #[Nl,Nl,Nl,Nl,I 0] 27))).size))
      have eD:=ai (HS.o _ jJ.o)
      have BZ2:=ai (B.below (B.new w1 #[Nl,Nl,Nl,Nl,I 0] 27) hb2 (by simp))
      clear hr2 hb2
      try go_simp
      refine hK.out _ _ (fun _=>?_) ?_
      · exact eD.o
      clear hK K
      try simp only[Act.put,List.setIfInBounds_toArray,List.set_cons_zero,List.set_cons_succ]
      refine GZ.all (rs:=[8]) (by kernel_rfl) (by simp) ?_
      refine GZ.aV.cons rfl (fun K hK=>?_) GZ.aV.nil
      rw[if_pos (by rfl)];go_simp;go_at_call 105
      refine(Am.o _ jJ.o).mono ?_
      rintro e w3 ⟨a3,c3,rfl,hr3,hb3⟩
      have FN:=ai hr3
      have cZ:=ai hb3
      have l8:=ai ((jJ.o).trans (hb3.mono (jJ.o).size))
      have gH:=ai (HS.o _ l8.o)
      have oh:=ai (B.below BZ2.o hb3 (B.isLt BZ2.o))
      clear hr3 hb3
      try go_simp
      refine hK.out _ _ (fun _=>?_) ?_
      · exact gH.o
      clear hK K
      try simp only[Act.put,List.setIfInBounds_toArray,List.set_cons_zero,List.set_cons_succ]
      refine GZ.tk 11 gH.o ?_ ?_ ?_
      rotate_left 1
      · intro V h
        obtain⟨k0,k1,k2,k3⟩:=cA.o V h
        go_simp
        try with_reducible rfl
      obtain⟨z0,z1,z2,z3,z4⟩:=B.c5 oh.o
      have f0:=B.free oh.o 0
      have f1:=B.free oh.o 1
      have f2:=B.free oh.o 2
      have f3:=B.free oh.o 3
      have f4:=B.free oh.o 4
      refine GZ.all (rs:=[13]) (by kernel_rfl) (by simp) ?_
      refine GZ.aV.cons rfl (fun K hK=>?_) GZ.aV.nil
      go_simp
      refine hK.out _ _ (fun g=>absurd rfl g) ?_
      refine GZ.done (by kernel_rfl) ?_ _
      go_wp2_with fail
      go_meet
      case rel =>
       refine⟨_,a1,c1,a2,c2,a3,c3,rfl,?_⟩
       exact uH (V4:=w3) (cb:=w1.heap.size) (V1:=WD) (w1:=w1) (V2:=(w1.alloc (.cells #[Nl,Nl,Nl,Nl,I 0] 27))) (w2:=w2) (V3:=w2) (w3:=w3) iW.o zE.o bI.o ((Below.refl _ _).alloc (Nat.le_refl _) _) zC.o ck.o (Below.refl _ _) FN.o cZ.o (Below.refl _ _) oh.o (pC.o.size) (.inr (.inl ⟨Nat.le_refl _,by simp⟩))
  · have aaQ:=trivial
    go_simp
    refine hK.out _ _ (fun _=>?_) ?_
    · exact HS.o _ (iW.o.alloc iW.o.size (.cells #[Nl,Nl,Nl,Nl,I 0] 27))
    clear hK K
    try simp only[Act.put,List.setIfInBounds_toArray,List.set_cons_zero,List.set_cons_succ]
    refine GZ.all (rs:=[2]) (by kernel_rfl) (by simp) ?_
    refine GZ.aV.cons rfl (fun K hK=>?_) GZ.aV.nil
    rw[if_pos (by rfl)];go_simp;go_at_call 103
    refine(Z0.o _ (iW.o.alloc iW.o.size (.cells #[Nl,Nl,Nl,Nl,I 0] 27))).mono ?_
    rintro e w1 ⟨a1,c1,rfl,hr1,hb1⟩
    have zE:=ai hr1
    have bI:=ai hb1
    have pC:=ai (((iW.o.alloc iW.o.size (.cells #[Nl,Nl,Nl,Nl,I 0] 27))).trans (hb1.mono ((iW.o.alloc iW.o.size (.cells #[Nl,Nl,Nl,Nl,I 0] 27))).size))
    have gm:=ai (HS.o _ pC.o)
    have BZ1:=ai (B.below (B.new WD #[Nl,Nl,Nl,Nl,I 0] 27) hb1 (by simp))
    clear hr1 hb1
    try go_simp
    refine hK.out _ _ (fun _=>?_) ?_
    · exact gm.o
    clear hK K
    try simp only[Act.put,List.setIfInBounds_toArray,List.set_cons_zero,List.set_cons_succ]
    refine GZ.all (rs:=[5]) (by kernel_rfl) (by simp) ?_
    refine GZ.aV.cons rfl (fun K hK=>?_) GZ.aV.nil
    rw[if_pos (by rfl)];go_simp;go_at_call 104
    refine(Xn.o _ pC.o).mono ?_
    rintro e w2 ⟨a2,c2,rfl,hr2,hb2⟩
    have zC:=ai hr2
    have ck:=ai hb2
    have jJ:=ai ((pC.o).trans (hb2.mono (pC.o).size))
    have eD:=ai (HS.o _ jJ.o)
    have BZ2:=ai (B.below BZ1.o hb2 (B.isLt BZ1.o))
    clear hr2 hb2
    try go_simp
    refine hK.out _ _ (fun _=>?_) ?_
    · exact eD.o
    clear hK K
    try simp only[Act.put,List.setIfInBounds_toArray,List.set_cons_zero,List.set_cons_succ]
    refine GZ.all (rs:=[8]) (by kernel_rfl) (by simp) ?_
    refine GZ.aV.cons rfl (fun K hK=>?_) GZ.aV.nil
    rw[if_pos (by rfl)];go_simp;go_at_call 105
    refine(Am.o _ jJ.o).mono ?_
    rintro e w3 ⟨a3,c3,rfl,hr3,hb3⟩
    have FN:=ai hr3
    have cZ:=ai hb3
    have l8:=ai ((jJ.o).trans (hb3.mono (jJ.o).size))
    have gH:=ai (HS.o _ l8.o)
    have oh:=ai (B.below BZ2.o hb3 (B.isLt BZ2.o))
    clear hr3 hb3
    try go_simp
    refine hK.out _ _ (fun _=>?_) ?_
    · exact gH.o
    clear hK K
    try simp only[Act.put,List.setIfInBounds_toArray,List.set_cons_zero,List.set_cons_succ]
    refine GZ.tk 11 gH.o ?_ ?_ ?_
    rotate_left 1
    · intro V h
      obtain⟨k0,k1,k2,k3⟩:=cA.o V h
      go_simp
      try with_reducible rfl
    obtain⟨z0,z1,z2,z3,z4⟩:=B.c5 oh.o
    have f0:=B.free oh.o 0
    have f1:=B.free oh.o 1
    have f2:=B.free oh.o 2
    have f3:=B.free oh.o 3
    have f4:=B.free oh.o 4
    refine GZ.all (rs:=[13]) (by kernel_rfl) (by simp) ?_
    refine GZ.aV.cons rfl (fun K hK=>?_) GZ.aV.nil
    go_simp
    refine hK.out _ _ (fun g=>absurd rfl g) ?_
    refine GZ.done (by kernel_rfl) ?_ _
    go_wp2_with fail
    go_meet
    case rel =>
     refine⟨_,a1,c1,a2,c2,a3,c3,rfl,?_⟩
     exact uH (V4:=w3) (cb:=WD.heap.size) (V1:=(WD.alloc (.cells #[Nl,Nl,Nl,Nl,I 0] 27))) (w1:=w1) (V2:=w1) (w2:=w2) (V3:=w2) (w3:=w3) (iW.o.alloc iW.o.size (.cells #[Nl,Nl,Nl,Nl,I 0] 27)) zE.o bI.o (Below.refl _ _) zC.o ck.o (Below.refl _ _) FN.o cZ.o (Below.refl _ _) oh.o (iW.o.size) (.inl (by simp))
 case rest =>
  obtain⟨cb,aS,cS,aF,cF,aL,cL,rfl,Jd⟩:=hcut
  have bI:=ai Jd.below
  have HKH:Hid (∃lab,Kh WA.heap.size cb wc lab (.slice aS k.ak.length cS) (.slice aF k.frames.length cF) (.slice aL k.slots.length cL) k k.ak 0):=Ry Jd
  have c0:wc.cell? (Ad cb 0)=some (.slice aS k.ak.length cS):=B.cell Jd.head 0 rfl
  clear Jd
  have hks:=hs.ak
  go_wp2
  go_loopw [23] (fun iv wq=>∃n:Nat,∃lab hs',n<=k.ak.length/\iv=I (n:Int)/\Kh WA.heap.size cb wq lab (.slice aS k.ak.length cS) (.slice aF k.frames.length cF) (.slice aL k.slots.length cL) k hs' n/\Below WA.heap.size WA wq) (fun iv _=>k.ak.length-(intOf iv).toNat)
  case atStart =>
   obtain⟨lab,h0⟩:=HKH.o
   exact⟨0,lab,k.ak,by omega,rfl,h0,bI.o⟩
  case round =>
   obtain⟨n,lab,hs',hn,rfl,hkh,eK⟩:=hrel
   by_cases hlt:n<k.ak.length
   · have hni:(n:Int)<(k.ak.length:Int):=by omega
     obtain⟨sb,rfl,hne,hsl,d0,x0,x1,x2,fz⟩:=hkh.at_ hlt
     have hlS:=hkh.same.len
     have hlo:WA.heap.size<=wr.heap.size:=eK.size
     have hsA:WA.heap.size<=sb:=(hkh.kP sb (by rw[hkh.lS sb rfl];simp)).1
     have er:LM.aW hs' n=LM.aW k.ak n:=hkh.rest n (Nat.le_refl _)
     have hcl:cb<wr.heap.size:=B.isLt hkh.head
     have Ha:=Ik.o wr n (cJ.o.trans (eK.mono cJ.o.size)) hlt
     obtain⟨sh,hsh⟩:=ex (LM.aW k.ak n)
     rw[<- hsh] at x0 x1 x2 Ha er
     obtain⟨pg,dt,fx,ao,cp⟩:=sh
     simp only at x0 x1 x2 Ha
     obtain⟨L9,hfl⟩:=Ha
     obtain⟨WL,Rt⟩:=ex (wr.alloc (.cells #[I pg,.string dt,.slice ao fx.length cp] 50))
     have hbL:Below wr.heap.size wr WL:=by rw[Rt];exact(Below.refl _ _).alloc (Nat.le_refl _) _
     have BL:WL.heap[wr.heap.size]?=some (.cells #[I pg,.string dt,.slice ao fx.length cp] 50 (0,0)):=by rw[Rt];exact B.new _ _ _
     have Te:Hid (∀V,Below WL.heap.size WL V->Calls Tryz.prog 106 #[.slice ao fx.length cp] V fun e w'=>∃ax cx,e=.returned (.slice ax fx.length cx)/\(w'.cell? (Ad cb 0)=some (.slice (some (Ad sb 0)) k.ak.length cS)/\w'.cell? (Ad wr.heap.size 2)=some (.slice ao fx.length cp))/\((w'.setCell (Ad sb (n*3+2)) (.slice ax fx.length cx)).cell? (Ad cb 0)=some (.slice (some (Ad sb 0)) k.ak.length cS)/\(w'.setCell (Ad sb (n*3+2)) (.slice ax fx.length cx)).cell? (Ad wr.heap.size 2)=some (.slice ao fx.length cp))/\w'.cell? (Ad sb (n*3+2))=some (.slice ao fx.length cp)/\w'.frozen? (Ad sb (n*3+2))=false/\(∃lab' UQ,Kh WA.heap.size cb (w'.setCell (Ad sb (n*3+2)) (.slice ax fx.length cx)) lab' (.slice (some (Ad sb 0)) k.ak.length cS) (.slice aF k.frames.length cF) (.slice aL k.slots.length cL) k UQ (n+1))/\Below WA.heap.size WA (w'.setCell (Ad sb (n*3+2)) (.slice ax fx.length cx))):=fun V hV=>(RV ao fx.length cp (fx.flatMap fI) V (bH fI 2 (fun _=>rfl) fx) (L9.below (hbL.trans (hV.mono hbL.size))) (Hi _) hfl).mono fun e w' ⟨v,h1,h2,h3⟩=>by
      obtain⟨ax,cx,rfl,_⟩:=aQ h2
      have hb':Below WL.heap.size WL w':=hV.trans (h3.mono hV.size)
      have hkL:=hkh.below hbL
      have hk':=hkL.below hb'
      have hr':=jO (base':=WL.heap.size) h2 (fun g hg=>Nat.le_trans hV.size (h2.lt g hg).1)
      obtain⟨sb2,e2,_,ah1,d2,_,_,y2,fz2⟩:=hk'.at_ hlt
      injection e2 with e2
      injection e2 with e2 _ _
      subst e2
      rw[<- hsh] at y2
      obtain⟨lab',hst,_⟩:=hkL.step (n:=n) (ax:=ax) (cx:=cx) (by omega) (Nat.le_trans hlo hbL.size) hb' (by rw[er];exact hr')
      rw[er] at hst
      have xl:w'.cell? (Ad wr.heap.size 2)=some (.slice ao fx.length cp):=B.cell (B.below BL hb' (B.isLt BL)) 2 rfl
      have zL:=(eK.trans (hbL.mono hlo)).trans (hb'.mono (Nat.le_trans hlo hbL.size))
      have Rc:¬wr.heap.size=sb:=fun e=>by omega
      exact⟨ax,cx,h1,⟨d2,xl⟩,⟨(cu _ _ _ _ _ _ hne).trans d2,(cu _ _ _ _ _ _ Rc).trans xl⟩,y2,fz2 _,⟨lab',_,hst⟩,Kp.below zL (Kp.set (fun b=>b=sb) w' (Ad sb (n*3+2)) _ rfl) zL.size (fun b e=>by rw[e];exact hsA)⟩
     have HWL:=ai Rt
     have BB:Hid (WL.drew.cell? (Ad cb 0)=some (.slice (some (Ad sb 0)) k.ak.length cS)/\WL.drew.cell? (Ad wr.heap.size 2)=some (.slice ao fx.length cp)):=⟨(hbL.drew.cell (p:=(Ad cb 0)) hcl).trans d0,B.cell (B.below BL (Below.refl _ _).drew (B.isLt BL)) 2 rfl⟩
     have HDR:=ai (Below.refl WL.heap.size WL).drew
     clear hkh eK L9 hfl er hsh Rt hbL BL hlS hlo hsA HKH bI fz hcl
     go_upto_region 5 with fail
     rw[<- HWL.o]
     go_region_held3 (fun V=>V.cell? (Ad cb 0)=some (.slice (some (Ad sb 0)) k.ak.length cS)/\V.cell? (Ad wr.heap.size 2)=some (.slice ao fx.length cp)) (first | exact gH.o | exact BB.o | exact Zx.o)
      ((go_at_call 106;refine(Te.o _ HDR.o).mono ?_;rintro e w5 ⟨ax,cx,rfl,s3,s4,y2,f2,hst,zL⟩;have gH:=ai s3;have Zx:=ai s4;have HST:=ai hst;have aer:=ai zL;clear s3 s4 hst zL))
     all_goals clear BB gH Zx Te
     all_goals go_wp2
     go_roundw
     case rel =>
      obtain⟨lab',UQ,hst⟩:=HST.o
      exact⟨n+1,lab',UQ,by omega,by go_num,hst,aer.o⟩
     case measure=>simp[intOf];omega
   · obtain rfl:n=k.ak.length:=by omega
     have Wc:Hid (Km WA.heap.size cb 27 [] wr ⟨lab,.slice aS k.ak.length cS,.slice aF k.frames.length cF,.slice aL k.slots.length cL,Nl,[]⟩ (KM.bu ⟨k.ak,k.frames,k.slots,k.aj.take 0,k.hand⟩ hs')):=Kh.done (by rw[hkh.same.len];exact hkh)
     have Mg:=ai hkh.same
     have ck:=ai eK
     have q3:wr.cell? (Ad w.heap.size 3)=some (.slice a.aP k.aj.length a.cP):=B.cell (B.below KB.o eK (B.isLt KB.o)) 3 rfl
     have xg:=hs.aj
     clear hkh eK HKH bI
     go_wp2
     go_loopw [40] (fun iv wq=>∃m:Nat,∃S hs2,m<=k.aj.length/\iv=I (m:Int)/\KM.Same k.ak hs2/\Km WA.heap.size cb 27 [] wq S (KM.bu ⟨k.ak,k.frames,k.slots,k.aj.take m,k.hand⟩ hs2)/\Below WA.heap.size WA wq) (fun iv _=>k.aj.length-(intOf iv).toNat)
     case atStart=>exact⟨0,_,hs',by omega,rfl,Mg.o,Wc.o,ck.o⟩
     case round =>
      obtain⟨m,S,hs2,hm,rfl,hsame,dM,eK⟩:=hrel
      by_cases oI:m<k.aj.length
      · have WN:(m:Int)<(k.aj.length:Int):=by omega
        obtain⟨pb,po,hpo,hpl,Dg⟩:=T9.o (by omega)
        obtain⟨va,ap,cp,v0,v1,v2,TH,EC,_⟩:=Dg m oI
        have px:=TH
        obtain⟨aa,ca,qP,_⟩:=TH
        subst qP
        have hbl:Below w.heap.size w wr:=cJ.o.trans (eK.mono cJ.o.size)
        have z0:=(hbl.cell (p:=(Ad pb (po+m*3))) hpl).trans v0
        have z1:=(hbl.cell (p:=(Ad pb (po+m*3+1))) hpl).trans v1
        have z2:=(hbl.cell (p:=(Ad pb (po+m*3+2))) hpl).trans v2
        have har:=hs.aD m oI
        have hen:=hs.aA m oI
        have htk:=Ca k.aj m oI
        obtain⟨sp,hsp⟩:=ex (KM.au k.aj m)
        rw[<- hsp] at z0 z1 z2 har hen htk px EC
        obtain⟨lv,iq,fY⟩:=sp
        simp only at z0 z1 z2 har hen px EC
        obtain⟨bP,dP,eP,_⟩:=aQ dM.aj
        have Y7:S.L.length<=1000000:=by have:=dM.len;have e:(KM.bu ⟨k.ak,k.frames,k.slots,k.aj.take m,k.hand⟩ hs2).aj.length=(k.aj.take m).length:=rfl;rw[e,List.length_take] at this;omega
        obtain⟨WL,Rt⟩:=ex (wr.alloc (.cells #[.bool lv,.slice aa iq.length ca,.slice ap fY.length cp] 43))
        have hbL:Below wr.heap.size wr WL:=by rw[Rt];exact(Below.refl _ _).alloc (Nat.le_refl _) _
        have BL:WL.heap[wr.heap.size]?=some (.cells #[.bool lv,.slice aa iq.length ca,.slice ap fY.length cp] 43 (0,0)):=by rw[Rt];exact B.new _ _ _
        have Dj:Below wr.heap.size wr WL.drew:=hbL.drew
        have BD:WL.drew.heap[wr.heap.size]?=some (.cells #[.bool lv,.slice aa iq.length ca,.slice ap fY.length cp] 43 (0,0)):=B.below BL (Below.refl _ _).drew (B.isLt BL)
        have HWL:=ai Rt
        obtain⟨WD,P7⟩:=ex WL.drew
        rw[<- P7] at Dj BD
        have HWD:=ai P7
        have Og:=dM.below Dj
        have Yv:WA.heap.size<=WD.heap.size:=Nat.le_trans eK.size Dj.size
        have Mm:Hid (Calls Tryz.prog 86 #[.agg #[.bool lv,.slice aa iq.length ca,.slice ap fY.length cp]] WD fun e w'=>∃xa nx cx ya ny cy,e=.returned (.agg #[.bool lv,.slice xa nx cx,.slice ya ny cy])/\cU WD.heap.size w' ⟨lv,.slice xa nx cx,.slice ya ny cy⟩ ⟨lv,iq,fY⟩/\(∀b,blk (.slice ya ny cy) b->¬blk (.slice xa nx cx) b)/\Below WD.heap.size WD w'):=(KS.ze ⟨lv,iq,fY⟩ aa ap iq.length ca cp WD (px.below (hbl.trans (Dj.mono hbl.size))) (EC.below (hbl.trans (Dj.mono hbl.size))) har hen).mono fun e w' ⟨va,vp,h1,h2,h3,h4⟩=>by
         obtain⟨xa,cx,ex,_⟩:=aQ h2.aD
         obtain⟨ya,cy,ey,_⟩:=aQ h2.aH
         have ex:va=_:=ex
         have ey:vp=_:=ey
         subst ex ey
         exact⟨xa,_,cx,ya,_,cy,h1,h2,h3,h4⟩
        have Wx:Hid (∀V,Kp (fun b=>blk S.vP b) WD V->V.cell? (Ad cb 3)=some (.slice bP S.L.length dP)/\V.cell? (Ad wr.heap.size 0)=some (.bool lv)/\V.cell? (Ad wr.heap.size 1)=some (.slice aa iq.length ca)/\V.cell? (Ad wr.heap.size 2)=some (.slice ap fY.length cp)/\V.frozen? (Ad cb 3)=false):=fun V hV=>by
         have b1:=hV.keep Og.head (fun g=>by have:=dM.lP _ g;rw[dM.lH] at this;simp at this)
         have b2:=hV.keep BD (fun g=>by have:=(dM.aj.lt _ g).2;omega)
         refine⟨?_,B.cell b2 0 rfl,B.cell b2 1 rfl,B.cell b2 2 rfl,B.free b1 3⟩
         rw[<- eP]
         exact B.cell b1 3 rfl
        have Ii:Hid (∀w2 o,Below WD.heap.size WD w2->(w2.alloc o).ownsRow WA.heap.size 43 3 (.slice bP S.L.length dP) S.L.length (S.L.flatMap bJ)):=fun w2 o hb=>by
         have:=((Kp.aY (D:=fun _=>False) hb).trans (Kp.alloc _ w2 o) (fun _ _ g=>g)).row Og.aj (fun _ _ g=>g)
         rw[eP] at this
         exact this
        have LR:Hid (∀w2 w4 O v' l,Below WD.heap.size WD w2->cU WD.heap.size w2 l ⟨lv,iq,fY⟩->(∀b,blk l.vp b->¬blk l.va b)->(w2.alloc O).grownBy w4 S.vP.ownBlock->w4.ownsRow WA.heap.size 43 3 v' (S.L.length+1) (S.L.flatMap bJ++bJ l)->(v'.ownBlock=S.vP.ownBlock∨v'.ownBlock=some (w2.alloc O).heap.size)->∃S',Km WA.heap.size cb 27 [] (w4.setCell (Ad cb 3) v') S' (KM.bu ⟨k.ak,k.frames,k.slots,k.aj.take (m+1),k.hand⟩ hs2)/\Below WA.heap.size WA (w4.setCell (Ad cb 3) v')):=fun w2 w4 O v' l h1 h2 h3 h4 h5 h6=>by
         have m1:=Og.push Yv h1 h2 h3 h4 h5 h6
         have m2:=m1.1
         rw[htk]
         have zL:=eK.trans (Dj.mono eK.size)
         exact⟨_,m2,Kp.below zL m1.2.2 zL.size (fun b hb=>(Og.kP b hb).1)⟩
        have Zw:=ai hsame
        have Ai:Hid (∀w2,Below WD.heap.size WD w2->Kp (fun b=>blk S.vP b) WD w2):=fun w2 h=>Kp.aY h
        have HEP:=ai eP
        obtain⟨i0,hin,hz0,hz1,hz2⟩:=info_parts yD
        have qI:=ai hin
        have wS:=ai hz0
        have wR:=ai hz1
        have uO:=ai hz2
        have hlw:WA.heap.size<=WD.heap.size:=Yv
        clear dM Og eK hbl v0 v1 v2 px EC har hen htk hsp Rt P7 hbL BL Dj BD Dg Wc Mg ck hsame eP hin hz0 hz1 hz2
        rw[hpo]
        go_upto_region 10 with fail
        rw[<- HWL.o]
        refine GZ.p8 (S:=fun V=>Kp (fun b=>blk S.vP b) WD V) (z:=7) (by kernel_rfl) ?_
        rw[<- HWD.o]
        have cA:=Wx
        have eX:Hid (Kp (fun b=>blk S.vP b) WD WD):=Kp.refl _ _
        refine GZ.tk 0 eX.o ?_ ?_ ?_
        rotate_left 1
        · intro V h
          obtain⟨k0,k1,k2,k3,k4⟩:=cA.o V h
          go_simp
          try with_reducible rfl
        refine GZ.tk 1 eX.o ?_ ?_ ?_
        rotate_left 1
        · intro V h
          obtain⟨k0,k1,k2,k3,k4⟩:=cA.o V h
          go_simp
          try with_reducible rfl
        refine GZ.tk 2 eX.o ?_ ?_ ?_
        rotate_left 1
        · intro V h
          obtain⟨k0,k1,k2,k3,k4⟩:=cA.o V h
          go_simp
          try with_reducible rfl
        refine GZ.all (rs:=[3]) (by kernel_rfl) (by simp) ?_
        refine GZ.aV.cons rfl (fun K hK=>?_) GZ.aV.nil
        rw[if_pos (by rfl)];go_simp;go_at_call 86;refine Mm.o.mono ?_;rintro e w2 ⟨xa,nx,cx,ya,ny,cy,rfl,Q8,hap,hb2⟩;have Ih:=ai Q8;have Mo:=ai hap;have ck:=ai hb2;have eD:=ai (Ai.o _ hb2);clear Q8 hap hb2;try go_simp
        refine hK.out _ _ (fun _=>?_) ?_
        · exact eD.o
        clear hK K
        try simp only[Act.put,List.setIfInBounds_toArray,List.set_cons_zero,List.set_cons_succ]
        refine GZ.all (rs:=[4]) (by kernel_rfl) (by simp) ?_
        refine GZ.aV.cons rfl (fun K hK=>?_) GZ.aV.nil
        go_simp
        refine hK.out _ _ (fun _=>?_) ?_
        · exact eD.o.trans (Kp.alloc _ _ _) (fun _ _ g=>g)
        clear hK K
        try simp only[Act.put,List.setIfInBounds_toArray,List.set_cons_zero,List.set_cons_succ]
        have ab0:=ck.o.size
        refine GZ.all (rs:=[5]) (by kernel_rfl) (by simp) ?_
        refine GZ.aV.cons rfl (fun K hK=>?_) GZ.aV.nil
        rw[if_pos (by rfl)];refine cY (P:=Tryz.prog) _ _ 25 rfl WA.heap.size 43 i0 (.agg #[.bool false,Nl,Nl]) 3 56 Tryz.underlying25 qI.o wS.o wR.o uO.o rfl (by decide) (.slice bP S.L.length dP) S.L.length (S.L.flatMap bJ) rfl (Ii.o _ _ ck.o) (some (Ad w2.heap.size 0)) 1 1 (bJ ⟨lv,.slice xa nx cx,.slice ya ny cy⟩) rfl rfl (fun _=>⟨_,rfl,Cv w2 _ _⟩) (by intro u hu;simp[bJ] at hu;rcases hu with rfl | rfl | rfl <;> rfl) (by unfold maxLen;omega) (by omega) (by rw[World.size_alloc];omega) ?_;intro vG wG sJ uE wM;obtain⟨aG,cG,Er,_,_⟩:=aQ sJ;subst Er;rw[<- HEP.o] at uE wM;have pE:Hid (Kp (fun b=>blk S.vP b) WD wG):=(eD.o.trans (Kp.alloc _ _ _) (fun _ _ g=>g)).trans (Kp.grown uE (fun q hq=>hq)) (fun _ _ g=>g);have SQ:=ai (LR.o w2 wG _ _ ⟨lv,.slice xa nx cx,.slice ya ny cy⟩ ck.o Ih.o Mo.o uE sJ wM);clear sJ uE wM
        refine hK.out _ _ (fun _=>?_) ?_
        · exact pE.o
        clear hK K
        try simp only[Act.put,List.setIfInBounds_toArray,List.set_cons_zero,List.set_cons_succ]
        refine GZ.tk 6 pE.o ?_ ?_ ?_
        rotate_left 1
        · intro V h
          obtain⟨k0,k1,k2,k3,k4⟩:=cA.o V h
          go_simp
          try with_reducible rfl
        obtain⟨k0,k1,k2,k3,k4⟩:=cA.o _ pE.o
        refine GZ.all (rs:=[7]) (by kernel_rfl) (by simp) ?_
        refine GZ.aV.cons rfl (fun K hK=>?_) GZ.aV.nil
        go_simp
        refine hK.out _ _ (fun g=>absurd rfl g) ?_
        refine GZ.done (by kernel_rfl) ?_ _
        go_wp2
        go_roundw
        case rel =>
         obtain⟨S',h1,h2⟩:=SQ.o
         exact⟨m+1,S',hs2,by omega,by go_num,Zw.o,h1,h2⟩
        case measure=>simp[intOf];omega
      · obtain rfl:m=k.aj.length:=by omega
        rw[List.take_length] at dM
        obtain⟨bS,nS,dS,eS⟩:∃b n d,S.vS=.slice b n d:=by obtain⟨b,d,e,_⟩:=aQ dM.ak;exact⟨b,_,d,e⟩
        obtain⟨bF,nF,dF,eF⟩:∃b n d,S.vF=.slice b n d:=by obtain⟨b,d,e,_⟩:=aQ dM.frames;exact⟨b,_,d,e⟩
        obtain⟨bL,nL,dL,eL⟩:∃b n d,S.vL=.slice b n d:=by obtain⟨b,d,e,_⟩:=aQ dM.slots;exact⟨b,_,d,e⟩
        obtain⟨bP,nP,dP,eP⟩:∃b n d,S.vP=.slice b n d:=by obtain⟨b,d,e,_⟩:=aQ dM.aj;exact⟨b,_,d,e⟩
        have c0:=dM.c0
        have c1:=dM.c1
        have c2:=dM.c2
        have c3:=dM.c3
        have c4:wr.cell? (Ad cb 4)=some (I k.hand):=dM.c4
        rw[eS] at c0
        rw[eF] at c1
        rw[eL] at c2
        rw[eP] at c3
        have hcl:=dM.lt
        have R1:=B.below RB.o eK (B.isLt RB.o)
        obtain⟨y0,y1,y2,y3,y4⟩:=B.c5 R1
        have f0:=B.free R1 0
        have f1:=B.free R1 1
        have f2:=B.free R1 2
        have f3:=B.free R1 3
        have f4:=B.free R1 4
        have pD:w.heap.size+1<WA.heap.size:=B.isLt RB.o
        have hbl:Below w.heap.size w wr:=cJ.o.trans (eK.mono cJ.o.size)
        have bw:Hid (∀V,Kp (fun b=>b=w.heap.size+1) wr V->P (.returned (.agg #[.slice bS nS dS,.slice bF nF dF,.slice bL nL dL,.slice bP nP dP,I k.hand])) V):=fun V hV=>by
         rw[HP.o]
         refine⟨S,hs2,hsame,by rw[eS,eF,eL,eP],(dM.toKr.kp hV (fun b hb e=>by have:=(dM.kP b hb).1;omega)).mono (by omega),?_⟩
         exact Kp.below hbl hV hbl.size (fun b e=>by omega)
        have h5:Hid (∀s f l p h,(((((wr.setCell (Ad (w.heap.size+1) 0) s).setCell (Ad (w.heap.size+1) 1) f).setCell (Ad (w.heap.size+1) 2) l).setCell (Ad (w.heap.size+1) 3) p).setCell (Ad (w.heap.size+1) 4) h).heap[w.heap.size+1]?=some (.cells #[s,f,l,p,h] 27 (0,0))/\Kp (fun b=>b=w.heap.size+1) wr (((((wr.setCell (Ad (w.heap.size+1) 0) s).setCell (Ad (w.heap.size+1) 1) f).setCell (Ad (w.heap.size+1) 2) l).setCell (Ad (w.heap.size+1) 3) p).setCell (Ad (w.heap.size+1) 4) h)):=fun s f l p h=>⟨B.set (B.set (B.set (B.set (B.set R1 0 s) 1 f) 2 l) 3 p) 4 h,((((Kp.set (fun b=>b=w.heap.size+1) wr (Ad (w.heap.size+1) 0) s rfl).trans (Kp.set (fun b=>b=w.heap.size+1) _ (Ad (w.heap.size+1) 1) f rfl) (fun _ _ g=>g)).trans (Kp.set (fun b=>b=w.heap.size+1) _ (Ad (w.heap.size+1) 2) l rfl) (fun _ _ g=>g)).trans (Kp.set (fun b=>b=w.heap.size+1) _ (Ad (w.heap.size+1) 3) p rfl) (fun _ _ g=>g)).trans (Kp.set (fun b=>b=w.heap.size+1) _ (Ad (w.heap.size+1) 4) h rfl) (fun _ _ g=>g)⟩
        clear dM eK hsame eS eF eL eP pD hbl Wc Mg ck R1
        go_wp2
        obtain⟨q1,q2⟩:=h5.out (.slice bS nS dS) (.slice bF nF dF) (.slice bL nL dL) (.slice bP nP dP) (I k.hand)
        obtain⟨y0,y1,y2,y3,y4⟩:=B.c5 q1
        refine bodyPost_ret (v:=.agg #[.slice bS nS dS,.slice bF nF dF,.slice bL nL dL,.slice bP nP dP,I k.hand]) (by simp[results,Tryz.results55,go_sem,y0,y1,y2,y3,y4]) rfl ?_
        exact bw.o _ q2
end KY
end Go.Proofs.YtpgifpeohlllfaaGreat
