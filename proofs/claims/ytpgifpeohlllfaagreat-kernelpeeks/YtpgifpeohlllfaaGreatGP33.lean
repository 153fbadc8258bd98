import Derived.Test.YtpgifpeohlllfaaGreatGP00
import Derived.Test.YtpgifpeohlllfaaGreatGP32
import Derived.Test.YtpgifpeohlllfaaGreatGP22
set_option maxHeartbeats 20000000
set_option linter.unusedVariables false
set_option maxRecDepth 100000
set_option linter.unusedSimpArgs false
namespace Go.Proofs.YtpgifpeohlllfaaGreat
namespace KY
open Go.RowKit GK KO
open FW (ai aC)
open KW (bE bD aI aU fe cO aH dH bQ)
open KS (Lc bO oD dm blk cT)
theorem Kh.at_ {lo cb:Nat} {w:World} {lab:Nat->Lb} {aS:Option Addr} {m cS:Nat} {vF vL:Value} {k:KM.Kn} {hs:List LM.Sh} {n:Nat} (h:Kh lo cb w lab (.slice aS m cS) vF vL k hs n) (hn:n<k.ak.length) :
  ∃sb,aS=some (Ad sb 0)/\¬cb=sb/\sb<w.heap.size/\w.cell? (Ad cb 0)=some (.slice aS m cS)/\w.cell? (Ad sb (n*3))=some (I (LM.aY k.ak n).page)/\w.cell? (Ad sb (n*3+1))=some (.string (LM.aY k.ak n).data)/\w.cell? (Ad sb (n*3+2))=some (.slice (LM.aY k.ak n).ao (LM.aY k.ak n).bq.length (LM.aY k.ak n).cap)/\∀j,w.frozen? (Ad sb j)=false:=by
 have hl:=h.same.len
 obtain⟨ao,cap,e,hc,hg⟩:=aR h.ak
 injection e with e1 e2 e3
 subst e1 e2 e3
 obtain⟨g,rfl,hg1,hg2⟩:=hg (by omega)
 have at_:=fun j (hj:j<3)=>iu jx (fun _=>rfl) LM.JV h.ak n j (by omega) hj
 have er:hs.getD n LM.JV=LM.aY k.ak n:=h.rest n (Nat.le_refl _)
 rw[er] at at_
 exact⟨g,rfl,fun e=>by have:=h.lS g rfl;rw[<- e,h.lH] at this;simp at this,hg2,B.cell h.head 0 rfl,at_ 0 (by omega),at_ 1 (by omega),at_ 2 (by omega),cV h.ak⟩
theorem EW:(Tryz.prog.info? 43).map (fun i=>(i.zero,i.size,i.bytes))=some (some (.agg #[.bool false,Nl,Nl]),3,56):=by kernel_rfl
theorem EE (w:World) (xs:List Value) (e:TypeId):∀j u,xs[j]?=some u->(w.alloc (.cells xs.toArray e)).cell? (((Ad w.heap.size 0):Addr).add j)=some u:=fun j u hu=>by
 rw[Addr.add_lit,Nat.zero_add]
 exact B.cell (B.new w xs.toArray e) j (by simpa using hu)
theorem Ow (l:List KM.Sp) (m:Nat) (h:m<l.length):l.take (m+1)=l.take m++[KM.aq l m]:=by
 rw[List.take_add_one,List.getElem?_eq_getElem h]
 unfold KM.aq
 rw[List.getD_eq_getElem?_getD,List.getElem?_eq_getElem h]
 rfl
theorem CN (k:KM.Kn) (a:fe) (w:World) (hK:cO w a k) (hs:Small k) :
  Calls Tryz.prog 55 #[.agg (aH a k)] w (Ql w k):=by
 obtain⟨P,hP⟩:=ex (Ql w k)
 rw[<- hP]
 have HP:=ai hP
 clear hP
 have Um:=ai hK.aj
 have vo:=ai (iC (f:=jx) (n:=3) (fun _=>rfl) (R4 hK.ak))
 have sk:=ai (iC (f:=bE) (n:=4) (fun _=>rfl) hK.frames)
 have Hk:=ai (iC (f:=bD) (n:=2) (fun _=>rfl) hK.slots)
 obtain⟨WA,dx⟩:=ex ((w.alloc (.cells (aH a k) 27)).alloc (.cells #[Nl,Nl,Nl,Nl,I 0] 27))
 have cj:Hid (Below w.heap.size w WA):=by rw[dx];exact((Below.refl _ _).alloc (Nat.le_refl _) _).alloc (by simp) _
 have KB:Hid (WA.heap[w.heap.size]?=some (.cells (aH a k) 27 (0,0))):=by rw[dx];exact B.alloc (B.new w _ _) _
 have RB:Hid (WA.heap[w.heap.size+1]?=some (.cells #[Nl,Nl,Nl,Nl,I 0] 27 (0,0))):=by
  have:=B.new (w.alloc (.cells (aH a k) 27)) #[Nl,Nl,Nl,Nl,I 0] 27
  rw[World.size_alloc] at this
  rw[dx];exact this
 have HS:Hid (∀V,Below WA.heap.size WA V->V.cell? (Ad w.heap.size 0)=some (.slice a.aS k.ak.length a.cS)/\V.cell? (Ad w.heap.size 1)=some (.slice a.aF k.frames.length a.cF)/\V.cell? (Ad w.heap.size 2)=some (.slice a.aL k.slots.length a.cL)/\V.cell? (Ad w.heap.size 4)=some (I k.hand)):=fun V hb=>by
  have h1:=B.below KB.o hb (B.isLt KB.o)
  exact⟨B.cell h1 0 rfl,B.cell h1 1 rfl,B.cell h1 2 rfl,B.cell h1 4 rfl⟩
 have Xg:Hid (∀V,Below WA.heap.size WA V->Calls Tryz.prog 103 #[.slice a.aS k.ak.length a.cS] V fun e w'=>∃ad c,e=.returned (.slice ad k.ak.length c)/\w'.ownsRow V.heap.size 50 3 (.slice ad k.ak.length c) k.ak.length (k.ak.flatMap jx)/\Below V.heap.size V w'):=fun V hV=>(PQ _ _ _ _ V (bG jx 3 (fun _=>rfl) k.ak) (vo.o.below (cj.o.trans (hV.mono cj.o.size))) (R7 _) hs.ak).mono fun e w' ⟨v,h1,h2,h3⟩=>by
  obtain⟨ad,c,rfl,_⟩:=aR h2
  exact⟨ad,c,h1,h2,h3⟩
 have Uw:Hid (∀V,Below WA.heap.size WA V->Calls Tryz.prog 104 #[.slice a.aF k.frames.length a.cF] V fun e w'=>∃ad c,e=.returned (.slice ad k.frames.length c)/\w'.ownsRow V.heap.size 40 4 (.slice ad k.frames.length c) k.frames.length (k.frames.flatMap bE)/\Below V.heap.size V w'):=fun V hV=>(PU _ _ _ _ V (bG bE 4 (fun _=>rfl) k.frames) (sk.o.below (cj.o.trans (hV.mono cj.o.size))) (Ti _) hs.frames).mono fun e w' ⟨v,h1,h2,h3⟩=>by
  obtain⟨ad,c,rfl,_⟩:=aR h2
  exact⟨ad,c,h1,h2,h3⟩
 have yI:Hid (∀V,Below WA.heap.size WA V->Calls Tryz.prog 105 #[.slice a.aL k.slots.length a.cL] V fun e w'=>∃ad c,e=.returned (.slice ad k.slots.length c)/\w'.ownsRow V.heap.size 86 2 (.slice ad k.slots.length c) k.slots.length (k.slots.flatMap bD)/\Below V.heap.size V w'):=fun V hV=>(PO _ _ _ _ V (bG bD 2 (fun _=>rfl) k.slots) (Hk.o.below (cj.o.trans (hV.mono cj.o.size))) (RZ _) hs.slots).mono fun e w' ⟨v,h1,h2,h3⟩=>by
  obtain⟨ad,c,rfl,_⟩:=aR h2
  exact⟨ad,c,h1,h2,h3⟩
 have Ke:Hid (∀V n,Below w.heap.size w V->n<k.ak.length->From V (LM.aY k.ak n).ao (LM.aY k.ak n).bq.length ((LM.aY k.ak n).bq.flatMap lT)/\(LM.aY k.ak n).bq.length<=1000000):=fun V n hb hn=>by
  obtain⟨b,off,_,_,hi⟩:=hK.ak (by omega)
  have h4:LM.ou w (LM.aY k.ak n).ao (LM.aY k.ak n).bq:=(hi n hn).2.2.2
  exact⟨iC (f:=lT) (n:=2) (fun _=>rfl) (Tf (h4.below hb)),hs.bq n hn⟩
 have fh:Hid (∀V:World,(V.cell? (Ad w.heap.size 0)=some (.slice a.aS k.ak.length a.cS)/\V.cell? (Ad w.heap.size 1)=some (.slice a.aF k.frames.length a.cF)/\V.cell? (Ad w.heap.size 2)=some (.slice a.aL k.slots.length a.cL)/\V.cell? (Ad w.heap.size 4)=some (I k.hand))->V.cell? (Ad w.heap.size 0)=some (.slice a.aS k.ak.length a.cS)/\V.cell? (Ad w.heap.size 1)=some (.slice a.aF k.frames.length a.cF)/\V.cell? (Ad w.heap.size 2)=some (.slice a.aL k.slots.length a.cL)/\V.cell? (Ad w.heap.size 4)=some (I k.hand)):=fun V h=>h
 have eV:=ai dx
 unfold aH at eV ⊢
 clear dx hK
 go_enter Tryz.func55,Tryz.ntmps55
 go_upto_region 1 with fail
 rw[<- eV.o]
 go_cut [3] (fun x3 wx=>∃cb aS cS aF cF aL cL,x3=.pointer (some (Ad cb 0))/\Four WA.heap.size WA wx cb (.slice aS k.ak.length cS) (.slice aF k.frames.length cF) (.slice aL k.slots.length cL) k.hand k)
 case first =>
  refine GZ.tK (S:=fun V=>V.cell? (Ad w.heap.size 0)=some (.slice a.aS k.ak.length a.cS)/\V.cell? (Ad w.heap.size 1)=some (.slice a.aF k.frames.length a.cF)/\V.cell? (Ad w.heap.size 2)=some (.slice a.aL k.slots.length a.cL)/\V.cell? (Ad w.heap.size 4)=some (I k.hand)) (z:=13) (by kernel_rfl) ?_
  have iz:=ai (Below.refl WA.heap.size WA).drew
  obtain⟨WD,NT⟩:=ex WA.drew
  rw[<- NT] at iz ⊢
  clear NT
  have gL:=ai (HS.o _ iz.o)
  refine GZ.tk 0 gL.o ?_ ?_ ?_
  rotate_left 1
  · intro V h
    obtain⟨k0,k1,k2,k3⟩:=fh.o V h
    go_simp
    try with_reducible rfl
  refine GZ.tk 1 gL.o ?_ ?_ ?_
  rotate_left 1
  · intro V h
    obtain⟨k0,k1,k2,k3⟩:=fh.o V h
    go_simp
    try with_reducible rfl
  refine GZ.tk 3 gL.o ?_ ?_ ?_
  rotate_left 1
  · intro V h
    obtain⟨k0,k1,k2,k3⟩:=fh.o V h
    go_simp
    try with_reducible rfl
  refine GZ.tk 4 gL.o ?_ ?_ ?_
  rotate_left 1
  · intro V h
    obtain⟨k0,k1,k2,k3⟩:=fh.o V h
    go_simp
    try with_reducible rfl
  refine GZ.tk 6 gL.o ?_ ?_ ?_
  rotate_left 1
  · intro V h
    obtain⟨k0,k1,k2,k3⟩:=fh.o V h
    go_simp
    try with_reducible rfl
  refine GZ.tk 7 gL.o ?_ ?_ ?_
  rotate_left 1
  · intro V h
    obtain⟨k0,k1,k2,k3⟩:=fh.o V h
    go_simp
    try with_reducible rfl
  refine GZ.tk 9 gL.o ?_ ?_ ?_
  rotate_left 1
  · intro V h
    obtain⟨k0,k1,k2,k3⟩:=fh.o V h
    go_simp
    try with_reducible rfl
  refine GZ.tk 10 gL.o ?_ ?_ ?_
  rotate_left 1
  · intro V h
    obtain⟨k0,k1,k2,k3⟩:=fh.o V h
    go_simp
    try with_reducible rfl
  refine GZ.all (rs:=[2,12]) (by kernel_rfl) (by simp) ?_
  refine GZ.bu.cons rfl (fun K hK=>?_) (GZ.bu.cons rfl (fun K hK=>?_) GZ.bu.nil)
  · have aby:=trivial
    rw[if_pos (by rfl)];go_simp;go_at_call 103
    refine(Xg.o _ iz.o).mono ?_
    rintro e w1 ⟨a1,c1,rfl,hr1,hb1⟩
    have WK:=ai hr1
    have aZ:=ai hb1
    have oC:=ai ((iz.o).trans (hb1.mono (iz.o).size))
    have jC:=ai (HS.o _ oC.o)
    clear hr1 hb1
    try go_simp
    refine hK.out _ _ (fun _=>?_) ?_
    · exact jC.o
    clear hK K
    try simp only[Act.put,List.setIfInBounds_toArray,List.set_cons_zero,List.set_cons_succ]
    refine GZ.all (rs:=[5,12]) (by kernel_rfl) (by simp) ?_
    refine GZ.bu.cons rfl (fun K hK=>?_) (GZ.bu.cons rfl (fun K hK=>?_) GZ.bu.nil)
    · have abx:=trivial
      rw[if_pos (by rfl)];go_simp;go_at_call 104
      refine(Uw.o _ oC.o).mono ?_
      rintro e w2 ⟨a2,c2,rfl,hr2,hb2⟩
      have xU:=ai hr2
      have bY:=ai hb2
      have jh:=ai ((oC.o).trans (hb2.mono (oC.o).size))
      have iy:=ai (HS.o _ jh.o)
      clear hr2 hb2
      try go_simp
      refine hK.out _ _ (fun _=>?_) ?_
      · exact iy.o
      clear hK K
      try simp only[Act.put,List.setIfInBounds_toArray,List.set_cons_zero,List.set_cons_succ]
      refine GZ.all (rs:=[8,12]) (by kernel_rfl) (by simp) ?_
      refine GZ.bu.cons rfl (fun K hK=>?_) (GZ.bu.cons rfl (fun K hK=>?_) GZ.bu.nil)
      · have abw:=trivial
        rw[if_pos (by rfl)];go_simp;go_at_call 105
        refine(yI.o _ jh.o).mono ?_
        rintro e w3 ⟨a3,c3,rfl,hr3,hb3⟩
        have DZ:=ai hr3
        have dC:=ai hb3
        have ld:=ai ((jh.o).trans (hb3.mono (jh.o).size))
        have jF:=ai (HS.o _ ld.o)
        clear hr3 hb3
        try go_simp
        refine hK.out _ _ (fun _=>?_) ?_
        · exact jF.o
        clear hK K
        try simp only[Act.put,List.setIfInBounds_toArray,List.set_cons_zero,List.set_cons_succ]
        refine GZ.tk 11 jF.o ?_ ?_ ?_
        rotate_left 1
        · intro V h
          obtain⟨k0,k1,k2,k3⟩:=fh.o V h
          go_simp
          try with_reducible rfl
        refine GZ.all (rs:=[12]) (by kernel_rfl) (by simp) ?_
        refine GZ.bu.cons rfl (fun K hK=>?_) GZ.bu.nil
        go_simp
        refine hK.out _ _ (fun _=>?_) ?_
        · exact HS.o _ (ld.o.alloc ld.o.size (.cells #[Nl,Nl,Nl,Nl,I 0] 27))
        clear hK K
        try simp only[Act.put,List.setIfInBounds_toArray,List.set_cons_zero,List.set_cons_succ]
        refine GZ.all (rs:=[13]) (by kernel_rfl) (by simp) ?_
        refine GZ.bu.cons rfl (fun K hK=>?_) GZ.bu.nil
        go_simp
        refine hK.out _ _ (fun g=>absurd rfl g) ?_
        refine GZ.done (by kernel_rfl) ?_ _
        go_wp2_with fail
        go_meet
        case rel =>
         refine⟨_,a1,c1,a2,c2,a3,c3,rfl,?_⟩
         exact ME (V1:=WD) (w1:=w1) (V2:=w1) (w2:=w2) (V3:=w2) (w3:=w3) iz.o WK.o aZ.o (Below.refl _ _) xU.o bY.o (Below.refl _ _) DZ.o dC.o
      · have Yg:=trivial
        go_simp
        refine hK.out _ _ (fun _=>?_) ?_
        · exact HS.o _ (jh.o.alloc jh.o.size (.cells #[Nl,Nl,Nl,Nl,I 0] 27))
        clear hK K
        try simp only[Act.put,List.setIfInBounds_toArray,List.set_cons_zero,List.set_cons_succ]
        refine GZ.all (rs:=[8]) (by kernel_rfl) (by simp) ?_
        refine GZ.bu.cons rfl (fun K hK=>?_) GZ.bu.nil
        rw[if_pos (by rfl)];go_simp;go_at_call 105
        refine(yI.o _ (jh.o.alloc jh.o.size (.cells #[Nl,Nl,Nl,Nl,I 0] 27))).mono ?_
        rintro e w3 ⟨a3,c3,rfl,hr3,hb3⟩
        have DZ:=ai hr3
        have dC:=ai hb3
        have ld:=ai (((jh.o.alloc jh.o.size (.cells #[Nl,Nl,Nl,Nl,I 0] 27))).trans (hb3.mono ((jh.o.alloc jh.o.size (.cells #[Nl,Nl,Nl,Nl,I 0] 27))).size))
        have jF:=ai (HS.o _ ld.o)
        have xX:=ai (B.below (B.new w2 #[Nl,Nl,Nl,Nl,I 0] 27) hb3 (by simp))
        clear hr3 hb3
        try go_simp
        refine hK.out _ _ (fun _=>?_) ?_
        · exact jF.o
        clear hK K
        try simp only[Act.put,List.setIfInBounds_toArray,List.set_cons_zero,List.set_cons_succ]
        refine GZ.tk 11 jF.o ?_ ?_ ?_
        rotate_left 1
        · intro V h
          obtain⟨k0,k1,k2,k3⟩:=fh.o V h
          go_simp
          try with_reducible rfl
        obtain⟨z0,z1,z2,z3,z4⟩:=B.c5 xX.o
        have f0:=B.free xX.o 0
        have f1:=B.free xX.o 1
        have f2:=B.free xX.o 2
        have f3:=B.free xX.o 3
        have f4:=B.free xX.o 4
        refine GZ.all (rs:=[13]) (by kernel_rfl) (by simp) ?_
        refine GZ.bu.cons rfl (fun K hK=>?_) GZ.bu.nil
        go_simp
        refine hK.out _ _ (fun g=>absurd rfl g) ?_
        refine GZ.done (by kernel_rfl) ?_ _
        go_wp2_with fail
        go_meet
        case rel =>
         refine⟨_,a1,c1,a2,c2,a3,c3,rfl,?_⟩
         exact tD (V4:=w3) (cb:=w2.heap.size) (V1:=WD) (w1:=w1) (V2:=w1) (w2:=w2) (V3:=(w2.alloc (.cells #[Nl,Nl,Nl,Nl,I 0] 27))) (w3:=w3) iz.o WK.o aZ.o (Below.refl _ _) xU.o bY.o ((Below.refl _ _).alloc (Nat.le_refl _) _) DZ.o dC.o (Below.refl _ _) xX.o (jh.o.size) (.inr (.inr (.inl ⟨Nat.le_refl _,by simp⟩)))
    · have Yh:=trivial
      go_simp
      refine hK.out _ _ (fun _=>?_) ?_
      · exact HS.o _ (oC.o.alloc oC.o.size (.cells #[Nl,Nl,Nl,Nl,I 0] 27))
      clear hK K
      try simp only[Act.put,List.setIfInBounds_toArray,List.set_cons_zero,List.set_cons_succ]
      refine GZ.all (rs:=[5]) (by kernel_rfl) (by simp) ?_
      refine GZ.bu.cons rfl (fun K hK=>?_) GZ.bu.nil
      rw[if_pos (by rfl)];go_simp;go_at_call 104
      refine(Uw.o _ (oC.o.alloc oC.o.size (.cells #[Nl,Nl,Nl,Nl,I 0] 27))).mono ?_
      rintro e w2 ⟨a2,c2,rfl,hr2,hb2⟩
      have xU:=ai hr2
      have bY:=ai hb2
      have jh:=ai (((oC.o.alloc oC.o.size (.cells #[Nl,Nl,Nl,Nl,I 0] 27))).trans (hb2.mono ((oC.o.alloc oC.o.size (.cells #[Nl,Nl,Nl,Nl,I 0] 27))).size))
      have iy:=ai (HS.o _ jh.o)
      have Xv:=ai (B.below (B.new w1 #[Nl,Nl,Nl,Nl,I 0] 27) hb2 (by simp))
      clear hr2 hb2
      try go_simp
      refine hK.out _ _ (fun _=>?_) ?_
      · exact iy.o
      clear hK K
      try simp only[Act.put,List.setIfInBounds_toArray,List.set_cons_zero,List.set_cons_succ]
      refine GZ.all (rs:=[8]) (by kernel_rfl) (by simp) ?_
      refine GZ.bu.cons rfl (fun K hK=>?_) GZ.bu.nil
      rw[if_pos (by rfl)];go_simp;go_at_call 105
      refine(yI.o _ jh.o).mono ?_
      rintro e w3 ⟨a3,c3,rfl,hr3,hb3⟩
      have DZ:=ai hr3
      have dC:=ai hb3
      have ld:=ai ((jh.o).trans (hb3.mono (jh.o).size))
      have jF:=ai (HS.o _ ld.o)
      have xX:=ai (B.below Xv.o hb3 (B.isLt Xv.o))
      clear hr3 hb3
      try go_simp
      refine hK.out _ _ (fun _=>?_) ?_
      · exact jF.o
      clear hK K
      try simp only[Act.put,List.setIfInBounds_toArray,List.set_cons_zero,List.set_cons_succ]
      refine GZ.tk 11 jF.o ?_ ?_ ?_
      rotate_left 1
      · intro V h
        obtain⟨k0,k1,k2,k3⟩:=fh.o V h
        go_simp
        try with_reducible rfl
      obtain⟨z0,z1,z2,z3,z4⟩:=B.c5 xX.o
      have f0:=B.free xX.o 0
      have f1:=B.free xX.o 1
      have f2:=B.free xX.o 2
      have f3:=B.free xX.o 3
      have f4:=B.free xX.o 4
      refine GZ.all (rs:=[13]) (by kernel_rfl) (by simp) ?_
      refine GZ.bu.cons rfl (fun K hK=>?_) GZ.bu.nil
      go_simp
      refine hK.out _ _ (fun g=>absurd rfl g) ?_
      refine GZ.done (by kernel_rfl) ?_ _
      go_wp2_with fail
      go_meet
      case rel =>
       refine⟨_,a1,c1,a2,c2,a3,c3,rfl,?_⟩
       exact tD (V4:=w3) (cb:=w1.heap.size) (V1:=WD) (w1:=w1) (V2:=(w1.alloc (.cells #[Nl,Nl,Nl,Nl,I 0] 27))) (w2:=w2) (V3:=w2) (w3:=w3) iz.o WK.o aZ.o ((Below.refl _ _).alloc (Nat.le_refl _) _) xU.o bY.o (Below.refl _ _) DZ.o dC.o (Below.refl _ _) xX.o (oC.o.size) (.inr (.inl ⟨Nat.le_refl _,by simp⟩))
  · have Yi:=trivial
    go_simp
    refine hK.out _ _ (fun _=>?_) ?_
    · exact HS.o _ (iz.o.alloc iz.o.size (.cells #[Nl,Nl,Nl,Nl,I 0] 27))
    clear hK K
    try simp only[Act.put,List.setIfInBounds_toArray,List.set_cons_zero,List.set_cons_succ]
    refine GZ.all (rs:=[2]) (by kernel_rfl) (by simp) ?_
    refine GZ.bu.cons rfl (fun K hK=>?_) GZ.bu.nil
    rw[if_pos (by rfl)];go_simp;go_at_call 103
    refine(Xg.o _ (iz.o.alloc iz.o.size (.cells #[Nl,Nl,Nl,Nl,I 0] 27))).mono ?_
    rintro e w1 ⟨a1,c1,rfl,hr1,hb1⟩
    have WK:=ai hr1
    have aZ:=ai hb1
    have oC:=ai (((iz.o.alloc iz.o.size (.cells #[Nl,Nl,Nl,Nl,I 0] 27))).trans (hb1.mono ((iz.o.alloc iz.o.size (.cells #[Nl,Nl,Nl,Nl,I 0] 27))).size))
    have jC:=ai (HS.o _ oC.o)
    have BZ1:=ai (B.below (B.new WD #[Nl,Nl,Nl,Nl,I 0] 27) hb1 (by simp))
    clear hr1 hb1
    try go_simp
    refine hK.out _ _ (fun _=>?_) ?_
    · exact jC.o
    clear hK K
    try simp only[Act.put,List.setIfInBounds_toArray,List.set_cons_zero,List.set_cons_succ]
    refine GZ.all (rs:=[5]) (by kernel_rfl) (by simp) ?_
    refine GZ.bu.cons rfl (fun K hK=>?_) GZ.bu.nil
    rw[if_pos (by rfl)];go_simp;go_at_call 104
    refine(Uw.o _ oC.o).mono ?_
    rintro e w2 ⟨a2,c2,rfl,hr2,hb2⟩
    have xU:=ai hr2
    have bY:=ai hb2
    have jh:=ai ((oC.o).trans (hb2.mono (oC.o).size))
    have iy:=ai (HS.o _ jh.o)
    have Xv:=ai (B.below BZ1.o hb2 (B.isLt BZ1.o))
    clear hr2 hb2
    try go_simp
    refine hK.out _ _ (fun _=>?_) ?_
    · exact iy.o
    clear hK K
    try simp only[Act.put,List.setIfInBounds_toArray,List.set_cons_zero,List.set_cons_succ]
    refine GZ.all (rs:=[8]) (by kernel_rfl) (by simp) ?_
    refine GZ.bu.cons rfl (fun K hK=>?_) GZ.bu.nil
    rw[if_pos (by rfl)];go_simp;go_at_call 105
    refine(yI.o _ jh.o).mono ?_
    rintro e w3 ⟨a3,c3,rfl,hr3,hb3⟩
    have DZ:=ai hr3
    have dC:=ai hb3
    have ld:=ai ((jh.o).trans (hb3.mono (jh.o).size))
    have jF:=ai (HS.o _ ld.o)
    have xX:=ai (B.below Xv.o hb3 (B.isLt Xv.o))
    clear hr3 hb3
    try go_simp
    refine hK.out _ _ (fun _=>?_) ?_
    · exact jF.o
    clear hK K
    try simp only[Act.put,List.setIfInBounds_toArray,List.set_cons_zero,List.set_cons_succ]
    refine GZ.tk 11 jF.o ?_ ?_ ?_
    rotate_left 1
    · intro V h
      obtain⟨k0,k1,k2,k3⟩:=fh.o V h
      go_simp
      try with_reducible rfl
    obtain⟨z0,z1,z2,z3,z4⟩:=B.c5 xX.o
    have f0:=B.free xX.o 0
    have f1:=B.free xX.o 1
    have f2:=B.free xX.o 2
    have f3:=B.free xX.o 3
    have f4:=B.free xX.o 4
    refine GZ.all (rs:=[13]) (by kernel_rfl) (by simp) ?_
    refine GZ.bu.cons rfl (fun K hK=>?_) GZ.bu.nil
    go_simp
    refine hK.out _ _ (fun g=>absurd rfl g) ?_
    refine GZ.done (by kernel_rfl) ?_ _
    go_wp2_with fail
    go_meet
    case rel =>
     refine⟨_,a1,c1,a2,c2,a3,c3,rfl,?_⟩
     exact tD (V4:=w3) (cb:=WD.heap.size) (V1:=(WD.alloc (.cells #[Nl,Nl,Nl,Nl,I 0] 27))) (w1:=w1) (V2:=w1) (w2:=w2) (V3:=w2) (w3:=w3) (iz.o.alloc iz.o.size (.cells #[Nl,Nl,Nl,Nl,I 0] 27)) WK.o aZ.o (Below.refl _ _) xU.o bY.o (Below.refl _ _) DZ.o dC.o (Below.refl _ _) xX.o (iz.o.size) (.inl (by simp))
 case rest =>
  obtain⟨cb,aS,cS,aF,cF,aL,cL,rfl,GV⟩:=hcut
  have aZ:=ai GV.below
  have HKH:Hid (∃lab,Kh WA.heap.size cb wc lab (.slice aS k.ak.length cS) (.slice aF k.frames.length cF) (.slice aL k.slots.length cL) k k.ak 0):=PB GV
  have c0:wc.cell? (Ad cb 0)=some (.slice aS k.ak.length cS):=B.cell GV.head 0 rfl
  clear GV
  have hks:=hs.ak
  go_wp2
  go_loopw [23] (fun iv wq=>∃n:Nat,∃lab hs',n<=k.ak.length/\iv=I (n:Int)/\Kh WA.heap.size cb wq lab (.slice aS k.ak.length cS) (.slice aF k.frames.length cF) (.slice aL k.slots.length cL) k hs' n/\Below WA.heap.size WA wq) (fun iv _=>k.ak.length-(intOf iv).toNat)
  case atStart =>
   obtain⟨lab,h0⟩:=HKH.o
   exact⟨0,lab,k.ak,by omega,rfl,h0,aZ.o⟩
  case round =>
   obtain⟨n,lab,hs',hn,rfl,hkh,eW⟩:=hrel
   by_cases hlt:n<k.ak.length
   · have hni:(n:Int)<(k.ak.length:Int):=by omega
     obtain⟨sb,rfl,hne,hsl,d0,x0,x1,x2,fz⟩:=hkh.at_ hlt
     have hlS:=hkh.same.len
     have hlo:WA.heap.size<=wr.heap.size:=eW.size
     have hsA:WA.heap.size<=sb:=(hkh.mW sb (by rw[hkh.lS sb rfl];simp)).1
     have er:LM.aY hs' n=LM.aY k.ak n:=hkh.rest n (Nat.le_refl _)
     have hcl:cb<wr.heap.size:=B.isLt hkh.head
     have Pk:=Ke.o wr n (cj.o.trans (eW.mono cj.o.size)) hlt
     obtain⟨sh,hsh⟩:=ex (LM.aY k.ak n)
     rw[<- hsh] at x0 x1 x2 Pk er
     obtain⟨pg,dt,fx,ao,cp⟩:=sh
     simp only at x0 x1 x2 Pk
     obtain⟨J2,hfl⟩:=Pk
     obtain⟨WL,Px⟩:=ex (wr.alloc (.cells #[I pg,.string dt,.slice ao fx.length cp] 50))
     have hbL:Below wr.heap.size wr WL:=by rw[Px];exact(Below.refl _ _).alloc (Nat.le_refl _) _
     have BL:WL.heap[wr.heap.size]?=some (.cells #[I pg,.string dt,.slice ao fx.length cp] 50 (0,0)):=by rw[Px];exact B.new _ _ _
     have HCX:Hid (∀V,Below WL.heap.size WL V->Calls Tryz.prog 106 #[.slice ao fx.length cp] V fun e w'=>∃ax cx,e=.returned (.slice ax fx.length cx)/\(w'.cell? (Ad cb 0)=some (.slice (some (Ad sb 0)) k.ak.length cS)/\w'.cell? (Ad wr.heap.size 2)=some (.slice ao fx.length cp))/\((w'.setCell (Ad sb (n*3+2)) (.slice ax fx.length cx)).cell? (Ad cb 0)=some (.slice (some (Ad sb 0)) k.ak.length cS)/\(w'.setCell (Ad sb (n*3+2)) (.slice ax fx.length cx)).cell? (Ad wr.heap.size 2)=some (.slice ao fx.length cp))/\w'.cell? (Ad sb (n*3+2))=some (.slice ao fx.length cp)/\w'.frozen? (Ad sb (n*3+2))=false/\(∃lab' SD,Kh WA.heap.size cb (w'.setCell (Ad sb (n*3+2)) (.slice ax fx.length cx)) lab' (.slice (some (Ad sb 0)) k.ak.length cS) (.slice aF k.frames.length cF) (.slice aL k.slots.length cL) k SD (n+1))/\Below WA.heap.size WA (w'.setCell (Ad sb (n*3+2)) (.slice ax fx.length cx))):=fun V hV=>(PT ao fx.length cp (fx.flatMap lT) V (bG lT 2 (fun _=>rfl) fx) (J2.below (hbL.trans (hV.mono hbL.size))) (Tg _) hfl).mono fun e w' ⟨v,h1,h2,h3⟩=>by
      obtain⟨ax,cx,rfl,_⟩:=aR h2
      have hb':Below WL.heap.size WL w':=hV.trans (h3.mono hV.size)
      have hkL:=hkh.below hbL
      have hk':=hkL.below hb'
      have hr':=km (base':=WL.heap.size) h2 (fun g hg=>Nat.le_trans hV.size (h2.lt g hg).1)
      obtain⟨sb2,e2,_,aem,d2,_,_,y2,fz2⟩:=hk'.at_ hlt
      injection e2 with e2
      injection e2 with e2 _ _
      subst e2
      rw[<- hsh] at y2
      obtain⟨lab',hst,_⟩:=hkL.step (n:=n) (ax:=ax) (cx:=cx) (by omega) (Nat.le_trans hlo hbL.size) hb' (by rw[er];exact hr')
      rw[er] at hst
      have xl:w'.cell? (Ad wr.heap.size 2)=some (.slice ao fx.length cp):=B.cell (B.below BL hb' (B.isLt BL)) 2 rfl
      have tA:=(eW.trans (hbL.mono hlo)).trans (hb'.mono (Nat.le_trans hlo hbL.size))
      have Pe:¬wr.heap.size=sb:=fun e=>by omega
      exact⟨ax,cx,h1,⟨d2,xl⟩,⟨(bZ _ _ _ _ _ _ hne).trans d2,(bZ _ _ _ _ _ _ Pe).trans xl⟩,y2,fz2 _,⟨lab',_,hst⟩,Kp.below tA (Kp.set (fun b=>b=sb) w' (Ad sb (n*3+2)) _ rfl) tA.size (fun b e=>by rw[e];exact hsA)⟩
     have HWL:=ai Px
     have FV:Hid (WL.drew.cell? (Ad cb 0)=some (.slice (some (Ad sb 0)) k.ak.length cS)/\WL.drew.cell? (Ad wr.heap.size 2)=some (.slice ao fx.length cp)):=⟨(hbL.drew.cell (p:=(Ad cb 0)) hcl).trans d0,B.cell (B.below BL (Below.refl _ _).drew (B.isLt BL)) 2 rfl⟩
     have HDR:=ai (Below.refl WL.heap.size WL).drew
     clear hkh eW J2 hfl er hsh Px hbL BL hlS hlo hsA HKH aZ fz hcl
     go_upto_region 5 with fail
     rw[<- HWL.o]
     go_region_held3 (fun V=>V.cell? (Ad cb 0)=some (.slice (some (Ad sb 0)) k.ak.length cS)/\V.cell? (Ad wr.heap.size 2)=some (.slice ao fx.length cp)) (first | exact jF.o | exact FV.o | exact WG.o)
      ((go_at_call 106;refine(HCX.o _ HDR.o).mono ?_;rintro e w5 ⟨ax,cx,rfl,s3,s4,y2,f2,hst,tA⟩;have jF:=ai s3;have WG:=ai s4;have HST:=ai hst;have abl:=ai tA;clear s3 s4 hst tA))
     all_goals clear FV jF WG HCX
     all_goals go_wp2
     go_roundw
     case rel =>
      obtain⟨lab',SD,hst⟩:=HST.o
      exact⟨n+1,lab',SD,by omega,by go_num,hst,abl.o⟩
     case measure=>simp[intOf];omega
   · obtain rfl:n=k.ak.length:=by omega
     have TY:Hid (Km WA.heap.size cb 27 [] wr ⟨lab,.slice aS k.ak.length cS,.slice aF k.frames.length cF,.slice aL k.slots.length cL,Nl,[]⟩ (KM.bl ⟨k.ak,k.frames,k.slots,k.aj.take 0,k.hand⟩ hs')):=Kh.done (by rw[hkh.same.len];exact hkh)
     have WC:=ai hkh.same
     have bY:=ai eW
     have q3:wr.cell? (Ad w.heap.size 3)=some (.slice a.aP k.aj.length a.cP):=B.cell (B.below KB.o eW (B.isLt KB.o)) 3 rfl
     have vA:=hs.aj
     clear hkh eW HKH aZ
     go_wp2
     go_loopw [40] (fun iv wq=>∃m:Nat,∃S hs2,m<=k.aj.length/\iv=I (m:Int)/\KM.Same k.ak hs2/\Km WA.heap.size cb 27 [] wq S (KM.bl ⟨k.ak,k.frames,k.slots,k.aj.take m,k.hand⟩ hs2)/\Below WA.heap.size WA wq) (fun iv _=>k.aj.length-(intOf iv).toNat)
     case atStart=>exact⟨0,_,hs',by omega,rfl,WC.o,TY.o,bY.o⟩
     case round =>
      obtain⟨m,S,hs2,hm,rfl,hsame,fQ,eW⟩:=hrel
      by_cases tu:m<k.aj.length
      · have SK:(m:Int)<(k.aj.length:Int):=by omega
        obtain⟨pb,po,hpo,hpl,zj⟩:=Um.o (by omega)
        obtain⟨va,ap,cp,v0,v1,v2,Q5,yu,_⟩:=zj m tu
        have nO:=Q5
        obtain⟨aa,ca,rU,_⟩:=Q5
        subst rU
        have hbl:Below w.heap.size w wr:=cj.o.trans (eW.mono cj.o.size)
        have z0:=(hbl.cell (p:=(Ad pb (po+m*3))) hpl).trans v0
        have z1:=(hbl.cell (p:=(Ad pb (po+m*3+1))) hpl).trans v1
        have z2:=(hbl.cell (p:=(Ad pb (po+m*3+2))) hpl).trans v2
        have har:=hs.aA m tu
        have hen:=hs.au m tu
        have htk:=Ow k.aj m tu
        obtain⟨sp,hsp⟩:=ex (KM.aq k.aj m)
        rw[<- hsp] at z0 z1 z2 har hen htk nO yu
        obtain⟨lv,fT,gK⟩:=sp
        simp only at z0 z1 z2 har hen nO yu
        obtain⟨bP,dP,eP,_⟩:=aR fQ.aj
        have XY:S.L.length<=1000000:=by have:=fQ.len;have e:(KM.bl ⟨k.ak,k.frames,k.slots,k.aj.take m,k.hand⟩ hs2).aj.length=(k.aj.take m).length:=rfl;rw[e,List.length_take] at this;omega
        obtain⟨WL,Px⟩:=ex (wr.alloc (.cells #[.bool lv,.slice aa fT.length ca,.slice ap gK.length cp] 43))
        have hbL:Below wr.heap.size wr WL:=by rw[Px];exact(Below.refl _ _).alloc (Nat.le_refl _) _
        have BL:WL.heap[wr.heap.size]?=some (.cells #[.bool lv,.slice aa fT.length ca,.slice ap gK.length cp] 43 (0,0)):=by rw[Px];exact B.new _ _ _
        have Bv:Below wr.heap.size wr WL.drew:=hbL.drew
        have BD:WL.drew.heap[wr.heap.size]?=some (.cells #[.bool lv,.slice aa fT.length ca,.slice ap gK.length cp] 43 (0,0)):=B.below BL (Below.refl _ _).drew (B.isLt BL)
        have HWL:=ai Px
        obtain⟨WD,NT⟩:=ex WL.drew
        rw[<- NT] at Bv BD
        have HWD:=ai NT
        have Mf:=fQ.below Bv
        have Vu:WA.heap.size<=WD.heap.size:=Nat.le_trans eW.size Bv.size
        have Kg:Hid (Calls Tryz.prog 86 #[.agg #[.bool lv,.slice aa fT.length ca,.slice ap gK.length cp]] WD fun e w'=>∃xa nx cx ya ny cy,e=.returned (.agg #[.bool lv,.slice xa nx cx,.slice ya ny cy])/\cT WD.heap.size w' ⟨lv,.slice xa nx cx,.slice ya ny cy⟩ ⟨lv,fT,gK⟩/\(∀b,blk (.slice ya ny cy) b->¬blk (.slice xa nx cx) b)/\Below WD.heap.size WD w'):=(KS.xG ⟨lv,fT,gK⟩ aa ap fT.length ca cp WD (nO.below (hbl.trans (Bv.mono hbl.size))) (yu.below (hbl.trans (Bv.mono hbl.size))) har hen).mono fun e w' ⟨va,vp,h1,h2,h3,h4⟩=>by
         obtain⟨xa,cx,ex,_⟩:=aR h2.aA
         obtain⟨ya,cy,ey,_⟩:=aR h2.aB
         have ex:va=_:=ex
         have ey:vp=_:=ey
         subst ex ey
         exact⟨xa,_,cx,ya,_,cy,h1,h2,h3,h4⟩
        have T5:Hid (∀V,Kp (fun b=>blk S.vP b) WD V->V.cell? (Ad cb 3)=some (.slice bP S.L.length dP)/\V.cell? (Ad wr.heap.size 0)=some (.bool lv)/\V.cell? (Ad wr.heap.size 1)=some (.slice aa fT.length ca)/\V.cell? (Ad wr.heap.size 2)=some (.slice ap gK.length cp)/\V.frozen? (Ad cb 3)=false):=fun V hV=>by
         have b1:=hV.keep Mf.head (fun g=>by have:=fQ.lP _ g;rw[fQ.lH] at this;simp at this)
         have b2:=hV.keep BD (fun g=>by have:=(fQ.aj.lt _ g).2;omega)
         refine⟨?_,B.cell b2 0 rfl,B.cell b2 1 rfl,B.cell b2 2 rfl,B.free b1 3⟩
         rw[<- eP]
         exact B.cell b1 3 rfl
        have Qs:Hid (∀w2 o,Below WD.heap.size WD w2->(w2.alloc o).ownsRow WA.heap.size 43 3 (.slice bP S.L.length dP) S.L.length (S.L.flatMap bO)):=fun w2 o hb=>by
         have:=((Kp.aW (D:=fun _=>False) hb).trans (Kp.alloc _ w2 o) (fun _ _ g=>g)).row Mf.aj (fun _ _ g=>g)
         rw[eP] at this
         exact this
        have TL:Hid (∀w2 w4 O v' l,Below WD.heap.size WD w2->cT WD.heap.size w2 l ⟨lv,fT,gK⟩->(∀b,blk l.vp b->¬blk l.va b)->(w2.alloc O).grownBy w4 S.vP.ownBlock->w4.ownsRow WA.heap.size 43 3 v' (S.L.length+1) (S.L.flatMap bO++bO l)->(v'.ownBlock=S.vP.ownBlock∨v'.ownBlock=some (w2.alloc O).heap.size)->∃S',Km WA.heap.size cb 27 [] (w4.setCell (Ad cb 3) v') S' (KM.bl ⟨k.ak,k.frames,k.slots,k.aj.take (m+1),k.hand⟩ hs2)/\Below WA.heap.size WA (w4.setCell (Ad cb 3) v')):=fun w2 w4 O v' l h1 h2 h3 h4 h5 h6=>by
         have m1:=Mf.push Vu h1 h2 h3 h4 h5 h6
         have m2:=m1.1
         rw[htk]
         have tA:=eW.trans (Bv.mono eW.size)
         exact⟨_,m2,Kp.below tA m1.2.2 tA.size (fun b hb=>(Mf.mW b hb).1)⟩
        have WE:=ai hsame
        have uO:Hid (∀w2,Below WD.heap.size WD w2->Kp (fun b=>blk S.vP b) WD w2):=fun w2 h=>Kp.aW h
        have HEP:=ai eP
        obtain⟨i0,hin,hz0,hz1,hz2⟩:=info_parts EW
        have qX:=ai hin
        have vh:=ai hz0
        have vg:=ai hz1
        have tM:=ai hz2
        have hlw:WA.heap.size<=WD.heap.size:=Vu
        clear fQ Mf eW hbl v0 v1 v2 nO yu har hen htk hsp Px NT hbL BL Bv BD zj TY WC bY hsame eP hin hz0 hz1 hz2
        rw[hpo]
        go_upto_region 10 with fail
        rw[<- HWL.o]
        refine GZ.tK (S:=fun V=>Kp (fun b=>blk S.vP b) WD V) (z:=7) (by kernel_rfl) ?_
        rw[<- HWD.o]
        have fh:=T5
        have gL:Hid (Kp (fun b=>blk S.vP b) WD WD):=Kp.refl _ _
        refine GZ.tk 0 gL.o ?_ ?_ ?_
        rotate_left 1
        · intro V h
          obtain⟨k0,k1,k2,k3,k4⟩:=fh.o V h
          go_simp
          try with_reducible rfl
        refine GZ.tk 1 gL.o ?_ ?_ ?_
        rotate_left 1
        · intro V h
          obtain⟨k0,k1,k2,k3,k4⟩:=fh.o V h
          go_simp
          try with_reducible rfl
        refine GZ.tk 2 gL.o ?_ ?_ ?_
        rotate_left 1
        · intro V h
          obtain⟨k0,k1,k2,k3,k4⟩:=fh.o V h
          go_simp
          try with_reducible rfl
        refine GZ.all (rs:=[3]) (by kernel_rfl) (by simp) ?_
        refine GZ.bu.cons rfl (fun K hK=>?_) GZ.bu.nil
        rw[if_pos (by rfl)];go_simp;go_at_call 86;refine Kg.o.mono ?_;rintro e w2 ⟨xa,nx,cx,ya,ny,cy,rfl,O9,hap,hb2⟩;have FU:=ai O9;have Ki:=ai hap;have bY:=ai hb2;have iy:=ai (uO.o _ hb2);clear O9 hap hb2;try go_simp
        refine hK.out _ _ (fun _=>?_) ?_
        · exact iy.o
        clear hK K
        try simp only[Act.put,List.setIfInBounds_toArray,List.set_cons_zero,List.set_cons_succ]
        refine GZ.all (rs:=[4]) (by kernel_rfl) (by simp) ?_
        refine GZ.bu.cons rfl (fun K hK=>?_) GZ.bu.nil
        go_simp
        refine hK.out _ _ (fun _=>?_) ?_
        · exact iy.o.trans (Kp.alloc _ _ _) (fun _ _ g=>g)
        clear hK K
        try simp only[Act.put,List.setIfInBounds_toArray,List.set_cons_zero,List.set_cons_succ]
        have Zk:=bY.o.size
        refine GZ.all (rs:=[5]) (by kernel_rfl) (by simp) ?_
        refine GZ.bu.cons rfl (fun K hK=>?_) GZ.bu.nil
        rw[if_pos (by rfl)];refine jW (P:=Tryz.prog) _ _ 25 rfl WA.heap.size 43 i0 (.agg #[.bool false,Nl,Nl]) 3 56 Tryz.underlying25 qX.o vh.o vg.o tM.o rfl (by decide) (.slice bP S.L.length dP) S.L.length (S.L.flatMap bO) rfl (Qs.o _ _ bY.o) (some (Ad w2.heap.size 0)) 1 1 (bO ⟨lv,.slice xa nx cx,.slice ya ny cy⟩) rfl rfl (fun _=>⟨_,rfl,EE w2 _ _⟩) (by intro u hu;simp[bO] at hu;rcases hu with rfl | rfl | rfl <;> rfl) (by unfold maxLen;omega) (by omega) (by rw[World.size_alloc];omega) ?_;intro vG wG GU J1 Jl;obtain⟨aG,cG,O8,_,_⟩:=aR GU;subst O8;rw[<- HEP.o] at J1 Jl;have yE:Hid (Kp (fun b=>blk S.vP b) WD wG):=(iy.o.trans (Kp.alloc _ _ _) (fun _ _ g=>g)).trans (Kp.grown J1 (fun q hq=>hq)) (fun _ _ g=>g);have HPF:=ai (TL.o w2 wG _ _ ⟨lv,.slice xa nx cx,.slice ya ny cy⟩ bY.o FU.o Ki.o J1 GU Jl);clear GU J1 Jl
        refine hK.out _ _ (fun _=>?_) ?_
        · exact yE.o
        clear hK K
        try simp only[Act.put,List.setIfInBounds_toArray,List.set_cons_zero,List.set_cons_succ]
        refine GZ.tk 6 yE.o ?_ ?_ ?_
        rotate_left 1
        · intro V h
          obtain⟨k0,k1,k2,k3,k4⟩:=fh.o V h
          go_simp
          try with_reducible rfl
        obtain⟨k0,k1,k2,k3,k4⟩:=fh.o _ yE.o
        refine GZ.all (rs:=[7]) (by kernel_rfl) (by simp) ?_
        refine GZ.bu.cons rfl (fun K hK=>?_) GZ.bu.nil
        go_simp
        refine hK.out _ _ (fun g=>absurd rfl g) ?_
        refine GZ.done (by kernel_rfl) ?_ _
        go_wp2
        go_roundw
        case rel =>
         obtain⟨S',h1,h2⟩:=HPF.o
         exact⟨m+1,S',hs2,by omega,by go_num,WE.o,h1,h2⟩
        case measure=>simp[intOf];omega
      · obtain rfl:m=k.aj.length:=by omega
        rw[List.take_length] at fQ
        obtain⟨bS,nS,dS,eS⟩:∃b n d,S.vS=.slice b n d:=by obtain⟨b,d,e,_⟩:=aR fQ.ak;exact⟨b,_,d,e⟩
        obtain⟨bF,nF,dF,eF⟩:∃b n d,S.vF=.slice b n d:=by obtain⟨b,d,e,_⟩:=aR fQ.frames;exact⟨b,_,d,e⟩
        obtain⟨bL,nL,dL,eL⟩:∃b n d,S.vL=.slice b n d:=by obtain⟨b,d,e,_⟩:=aR fQ.slots;exact⟨b,_,d,e⟩
        obtain⟨bP,nP,dP,eP⟩:∃b n d,S.vP=.slice b n d:=by obtain⟨b,d,e,_⟩:=aR fQ.aj;exact⟨b,_,d,e⟩
        have c0:=fQ.c0
        have c1:=fQ.c1
        have c2:=fQ.c2
        have c3:=fQ.c3
        have c4:wr.cell? (Ad cb 4)=some (I k.hand):=fQ.c4
        rw[eS] at c0
        rw[eF] at c1
        rw[eL] at c2
        rw[eP] at c3
        have hcl:=fQ.lt
        have R1:=B.below RB.o eW (B.isLt RB.o)
        obtain⟨y0,y1,y2,y3,y4⟩:=B.c5 R1
        have f0:=B.free R1 0
        have f1:=B.free R1 1
        have f2:=B.free R1 2
        have f3:=B.free R1 3
        have f4:=B.free R1 4
        have GQ:w.heap.size+1<WA.heap.size:=B.isLt RB.o
        have hbl:Below w.heap.size w wr:=cj.o.trans (eW.mono cj.o.size)
        have bh:Hid (∀V,Kp (fun b=>b=w.heap.size+1) wr V->P (.returned (.agg #[.slice bS nS dS,.slice bF nF dF,.slice bL nL dL,.slice bP nP dP,I k.hand])) V):=fun V hV=>by
         rw[HP.o]
         refine⟨S,hs2,hsame,by rw[eS,eF,eL,eP],(fQ.toKr.kp hV (fun b hb e=>by have:=(fQ.mW b hb).1;omega)).mono (by omega),?_⟩
         exact Kp.below hbl hV hbl.size (fun b e=>by omega)
        have h5:Hid (∀s f l p h,(((((wr.setCell (Ad (w.heap.size+1) 0) s).setCell (Ad (w.heap.size+1) 1) f).setCell (Ad (w.heap.size+1) 2) l).setCell (Ad (w.heap.size+1) 3) p).setCell (Ad (w.heap.size+1) 4) h).heap[w.heap.size+1]?=some (.cells #[s,f,l,p,h] 27 (0,0))/\Kp (fun b=>b=w.heap.size+1) wr (((((wr.setCell (Ad (w.heap.size+1) 0) s).setCell (Ad (w.heap.size+1) 1) f).setCell (Ad (w.heap.size+1) 2) l).setCell (Ad (w.heap.size+1) 3) p).setCell (Ad (w.heap.size+1) 4) h)):=fun s f l p h=>⟨B.set (B.set (B.set (B.set (B.set R1 0 s) 1 f) 2 l) 3 p) 4 h,((((Kp.set (fun b=>b=w.heap.size+1) wr (Ad (w.heap.size+1) 0) s rfl).trans (Kp.set (fun b=>b=w.heap.size+1) _ (Ad (w.heap.size+1) 1) f rfl) (fun _ _ g=>g)).trans (Kp.set (fun b=>b=w.heap.size+1) _ (Ad (w.heap.size+1) 2) l rfl) (fun _ _ g=>g)).trans (Kp.set (fun b=>b=w.heap.size+1) _ (Ad (w.heap.size+1) 3) p rfl) (fun _ _ g=>g)).trans (Kp.set (fun b=>b=w.heap.size+1) _ (Ad (w.heap.size+1) 4) h rfl) (fun _ _ g=>g)⟩
        clear fQ eW hsame eS eF eL eP GQ hbl TY WC bY R1
        go_wp2
        obtain⟨q1,q2⟩:=h5.out (.slice bS nS dS) (.slice bF nF dF) (.slice bL nL dL) (.slice bP nP dP) (I k.hand)
        obtain⟨y0,y1,y2,y3,y4⟩:=B.c5 q1
        refine bodyPost_ret (v:=.agg #[.slice bS nS dS,.slice bF nF dF,.slice bL nL dL,.slice bP nP dP,I k.hand]) (by simp[results,Tryz.results55,go_sem,y0,y1,y2,y3,y4]) rfl ?_
        exact bh.o _ q2
end KY
end Go.Proofs.YtpgifpeohlllfaaGreat
