import Derived.Test.YtpgifpeohlllfaaGreatGR18
set_option maxHeartbeats 20000000
set_option linter.unusedVariables false
set_option maxRecDepth 100000
set_option linter.unusedSimpArgs false
namespace Go.Proofs.YtpgifpeohlllfaaGreat
open Go.RowKit
theorem tB.at_ {lo cb:Nat} {w:World} {lab:Nat->jO} {aS:Option Addr} {m cS:Nat} {vF vL:Value} {k:aN} {hs:List bR} {n:Nat} (h:tB lo cb w lab (.slice aS m cS) vF vL k hs n) (hn:n<k.aD.length) :
  ∃sb,aS=some (Ad sb 0)/\¬cb=sb/\sb<w.heap.size/\w.cell? (Ad cb 0)=some (.slice aS m cS)/\w.cell? (Ad sb (n*3))=some (I (aV k.aD n).page)/\w.cell? (Ad sb (n*3+1))=some (.string (aV k.aD n).data)/\w.cell? (Ad sb (n*3+2))=some (.slice (aV k.aD n).ao (aV k.aD n).cM.length (aV k.aD n).cap)/\∀j,w.frozen? (Ad sb j)=false:=by
 have hl:=h.same.len;obtain⟨ao,cap,e,hc,hg⟩:=aY h.aD;injection e with e1 e2 e3;subst e1 e2 e3;obtain⟨g,rfl,hg1,hg2⟩:=hg (by omega);have at_:=fun j (hj:j<3)=>jJ fN (fun _=>rfl) tE h.aD n j (by omega) hj
 have er:hs.getD n tE=aV k.aD n:=h.rest n (aI _);rw[er] at at_;exact⟨g,rfl,fun e=>by have:=h.lS g rfl;grind [lH],hg2,aB h.head 0 rfl,at_ 0 (by omega),at_ 1 (by omega),at_ 2 (by omega),gp h.aD⟩
theorem Hx:(Tryz.prog.info? 43).map (fun i=>(i.zero,i.size,i.bytes))=some (some (.agg #[.bool false,Nl,Nl]),3,56):=by rfl
theorem OW (w:World) (xs:List Value) (e:TypeId):∀j u,xs[j]?=some u->(w.alloc (.cells xs.toArray e)).cell? (((Ad w.heap.size 0):Addr).add j)=some u:=fun j u hu=>by
 grind [Addr.add_lit,aB,bO]
theorem LC (l:List cO) (m:Nat) (h:m<l.length):l.take (m+1)=l.take m++[ak l m]:=by
 grind [List.take_add_one,ak]
theorem LH (k:aN) (a:fR) (w:World) (hK:gD w a k) (hs:zg k) :
  Calls Tryz.prog 55 #[.agg (bg a k)] w (oW w k):=by
 obtain⟨P,hP⟩:=ex (oW w k);rw[<- hP];have HP:=ai hP;clear hP;have HKS:=ai hK.aj;have JW:=ai (oK (f:=fN) (n:=3) (fun _=>rfl) (OV hK.aD));have EH:=ai (oK (f:=fB) (n:=4) (fun _=>rfl) hK.frames);have Vn:=ai (oK (f:=fA) (n:=2) (fun _=>rfl) hK.slots);obtain⟨WA,jG⟩:=ex ((w.alloc (.cells (bg a k) 27)).alloc (.cells #[Nl,Nl,Nl,Nl,I 0] 27));have fV:Hid (Below w.heap.size w WA):=by rw[jG];exact((aK _ _).alloc (aI _) _).alloc (by simp) _
 have KB:Hid (WA.heap[w.heap.size]?=some (.cells (bg a k) 27 (0,0))):=by rw[jG];exact bM (bO w _ _) _
 have RB:Hid (WA.heap[w.heap.size+1]?=some (.cells #[Nl,Nl,Nl,Nl,I 0] 27 (0,0))):=by
  grind [World.alloc]
 have HS:Hid (∀V,Below WA.heap.size WA V->V.cell? (Ad w.heap.size 0)=some (.slice a.aS k.aD.length a.cS)/\V.cell? (Ad w.heap.size 1)=some (.slice a.aF k.frames.length a.cF)/\V.cell? (Ad w.heap.size 2)=some (.slice a.aL k.slots.length a.cL)/\V.cell? (Ad w.heap.size 4)=some (I k.hand)):=fun V hb=>by
  have h1:=aQ KB.o hb (aT KB.o);exact⟨aB h1 0 rfl,aB h1 1 rfl,aB h1 2 rfl,aB h1 4 rfl⟩
 have HCS:Hid (∀V,Below WA.heap.size WA V->Calls Tryz.prog 103 #[.slice a.aS k.aD.length a.cS] V fun e w'=>∃ad c,e=.returned (.slice ad k.aD.length c)/\w'.ownsRow V.heap.size 50 3 (.slice ad k.aD.length c) k.aD.length (k.aD.flatMap fN)/\Below V.heap.size V w'):=fun V hV=>(XC _ _ _ _ V (eG fN 3 (fun _=>rfl) k.aD) (JW.o.below (fV.o.trans (hV.mono fV.o.size))) (Zb _) hs.aD).mono fun e w' ⟨v,h1,h2,h3⟩=>by
  grind [aY]
 have HCF:Hid (∀V,Below WA.heap.size WA V->Calls Tryz.prog 104 #[.slice a.aF k.frames.length a.cF] V fun e w'=>∃ad c,e=.returned (.slice ad k.frames.length c)/\w'.ownsRow V.heap.size 40 4 (.slice ad k.frames.length c) k.frames.length (k.frames.flatMap fB)/\Below V.heap.size V w'):=fun V hV=>(XF _ _ _ _ V (eG fB 4 (fun _=>rfl) k.frames) (EH.o.below (fV.o.trans (hV.mono fV.o.size))) (OZ _) hs.frames).mono fun e w' ⟨v,h1,h2,h3⟩=>by
  grind [aY]
 have Jj:Hid (∀V,Below WA.heap.size WA V->Calls Tryz.prog 105 #[.slice a.aL k.slots.length a.cL] V fun e w'=>∃ad c,e=.returned (.slice ad k.slots.length c)/\w'.ownsRow V.heap.size 86 2 (.slice ad k.slots.length c) k.slots.length (k.slots.flatMap fA)/\Below V.heap.size V w'):=fun V hV=>(XB _ _ _ _ V (eG fA 2 (fun _=>rfl) k.slots) (Vn.o.below (fV.o.trans (hV.mono fV.o.size))) (OU _) hs.slots).mono fun e w' ⟨v,h1,h2,h3⟩=>by
  grind [aY]
 have Xt:Hid (∀V n,Below w.heap.size w V->n<k.aD.length->kj V (aV k.aD n).ao (aV k.aD n).cM.length ((aV k.aD n).cM.flatMap gZ)/\(aV k.aD n).cM.length<=1000000):=fun V n hb hn=>by
  obtain⟨b,off,_,_,hi⟩:=hK.aD (by omega);have h4:kQ w (aV k.aD n).ao (aV k.aD n).cM:=(hi n hn).2.2.2;exact⟨oK (f:=gZ) (n:=2) (fun _=>rfl) (OX (h4.below hb)),hs.cM n hn⟩
 have gq:Hid (∀V:World,(V.cell? (Ad w.heap.size 0)=some (.slice a.aS k.aD.length a.cS)/\V.cell? (Ad w.heap.size 1)=some (.slice a.aF k.frames.length a.cF)/\V.cell? (Ad w.heap.size 2)=some (.slice a.aL k.slots.length a.cL)/\V.cell? (Ad w.heap.size 4)=some (I k.hand))->V.cell? (Ad w.heap.size 0)=some (.slice a.aS k.aD.length a.cS)/\V.cell? (Ad w.heap.size 1)=some (.slice a.aF k.frames.length a.cF)/\V.cell? (Ad w.heap.size 2)=some (.slice a.aL k.slots.length a.cL)/\V.cell? (Ad w.heap.size 4)=some (I k.hand)):=fun V h=>h
 have lI:=ai jG;unfold bg at lI ⊢;clear jG hK;go_enter Tryz.func55,Tryz.ntmps55;go_upto_region 1 with fail;rw[<- lI.o];go_cut [3] (fun x3 wx=>∃cb aS cS aF cF aL cL,x3=.pointer (some (Ad cb 0))/\KL WA.heap.size WA wx cb (.slice aS k.aD.length cS) (.slice aF k.frames.length cF) (.slice aL k.slots.length cL) k.hand k)
 case first =>
  refine m7 (S:=fun V=>V.cell? (Ad w.heap.size 0)=some (.slice a.aS k.aD.length a.cS)/\V.cell? (Ad w.heap.size 1)=some (.slice a.aF k.frames.length a.cF)/\V.cell? (Ad w.heap.size 2)=some (.slice a.aL k.slots.length a.cL)/\V.cell? (Ad w.heap.size 4)=some (I k.hand)) (z:=13) (by rfl) ?_;have pL:=ai (aK WA.heap.size WA).drew;obtain⟨WD,MZ⟩:=ex WA.drew;rw[<- MZ] at pL ⊢;clear MZ;have gu:=ai (HS.o _ pL.o);refine cN 0 gu.o ?_ ?_ ?_;rotate_left 1
  · intro V h;rfl
  refine cN 1 gu.o ?_ ?_ ?_;rotate_left 1
  · intro V h;obtain⟨k0,k1,k2,k3⟩:=gq.o V h;go_simp;rfl
  refine cN 3 gu.o ?_ ?_ ?_;rotate_left 1
  · intro V h;rfl
  refine cN 4 gu.o ?_ ?_ ?_;rotate_left 1
  · intro V h;obtain⟨k0,k1,k2,k3⟩:=gq.o V h;go_simp;rfl
  refine cN 6 gu.o ?_ ?_ ?_;rotate_left 1
  · intro V h;obtain⟨k0,k1,k2,k3⟩:=gq.o V h;go_simp;rfl
  refine cN 7 gu.o ?_ ?_ ?_;rotate_left 1
  · intro V h;obtain⟨k0,k1,k2,k3⟩:=gq.o V h;go_simp;rfl
  refine cN 9 gu.o ?_ ?_ ?_;rotate_left 1
  · intro V h;obtain⟨k0,k1,k2,k3⟩:=gq.o V h;go_simp;rfl
  refine cN 10 gu.o ?_ ?_ ?_;rotate_left 1
  · intro V h;obtain⟨k0,k1,k2,k3⟩:=gq.o V h;go_simp;rfl
  refine bW (rs:=[2,12]) (by kernel_rfl) (by simp) ?_;refine aJ.cons rfl (fun K hK=>?_) (aJ.cons rfl (fun K hK=>?_) aJ.nil)
  · rw[aR (by rfl)];go_simp;go_at_call 103;refine(HCS.o _ pL.o).mono ?_;rintro e w1 ⟨a1,c1,rfl,hr1,hb1⟩;have HR1:=ai hr1;have dz:=ai hb1;have vZ:=ai ((pL.o).trans (hb1.mono (pL.o).size));have jP:=ai (HS.o _ vZ.o);clear hr1 hb1
    try go_simp
    refine hK.out _ _ (fun _=>?_) ?_
    · exact jP.o
    clear hK K
    try simp only[Act.put,bJ,bI,bH]
    refine bW (rs:=[5,12]) (by kernel_rfl) (by simp) ?_;refine aJ.cons rfl (fun K hK=>?_) (aJ.cons rfl (fun K hK=>?_) aJ.nil)
    · rw[aR (by rfl)];go_simp;go_at_call 104;refine(HCF.o _ vZ.o).mono ?_;rintro e w2 ⟨a2,c2,rfl,hr2,hb2⟩;have Hh:=ai hr2;have gj:=ai hb2;have qa:=ai ((vZ.o).trans (hb2.mono (vZ.o).size));have lR:=ai (HS.o _ qa.o);clear hr2 hb2
      try go_simp
      refine hK.out _ _ (fun _=>?_) ?_
      · exact lR.o
      clear hK K
      try simp only[Act.put,bJ,bI,bH]
      refine bW (rs:=[8,12]) (by kernel_rfl) (by simp) ?_;refine aJ.cons rfl (fun K hK=>?_) (aJ.cons rfl (fun K hK=>?_) aJ.nil)
      · rw[aR (by rfl)];go_simp;go_at_call 105;refine(Jj.o _ qa.o).mono ?_;rintro e w3 ⟨a3,c3,rfl,hr3,hb3⟩;have JY:=ai hr3;have kJ:=ai hb3;have p9:=ai ((qa.o).trans (hb3.mono (qa.o).size));have oN:=ai (HS.o _ p9.o);clear hr3 hb3
        try go_simp
        refine hK.out _ _ (fun _=>?_) ?_
        · exact oN.o
        clear hK K
        try simp only[Act.put,bJ,bI,bH]
        refine cN 11 oN.o ?_ ?_ ?_;rotate_left 1
        · intro V h;obtain⟨k0,k1,k2,k3⟩:=gq.o V h;go_simp;rfl
        refine bW (rs:=[12]) (by kernel_rfl) (by simp) ?_;refine aJ.cons rfl (fun K hK=>?_) aJ.nil;go_simp;refine hK.out _ _ (fun _=>?_) ?_
        · exact HS.o _ (p9.o.alloc p9.o.size (.cells #[Nl,Nl,Nl,Nl,I 0] 27))
        clear hK K
        try simp only[Act.put,bJ,bI,bH]
        refine bW (rs:=[13]) (by kernel_rfl) (by simp) ?_;refine aJ.cons rfl (fun K hK=>?_) aJ.nil;go_simp;refine hK.out _ _ (fun g=>absurd rfl g) ?_;refine ij (by rfl) ?_ _;go_wp2_with fail
        go_meet
        case rel =>
         refine⟨_,a1,c1,a2,c2,a3,c3,rfl,?_⟩;exact TE (V1:=WD) (w1:=w1) (V2:=w1) (w2:=w2) (V3:=w2) (w3:=w3) pL.o HR1.o dz.o (aK _ _) Hh.o gj.o (aK _ _) JY.o kJ.o
      · go_simp;refine hK.out _ _ (fun _=>?_) ?_
        · exact HS.o _ (qa.o.alloc qa.o.size (.cells #[Nl,Nl,Nl,Nl,I 0] 27))
        clear hK K
        try simp only[Act.put,bJ,bI,bH]
        refine bW (rs:=[8]) (by kernel_rfl) (by simp) ?_;refine aJ.cons rfl (fun K hK=>?_) aJ.nil;rw[aR (by rfl)];go_simp;go_at_call 105;refine(Jj.o _ (qa.o.alloc qa.o.size (.cells #[Nl,Nl,Nl,Nl,I 0] 27))).mono ?_;rintro e w3 ⟨a3,c3,rfl,hr3,hb3⟩;have JY:=ai hr3;have kJ:=ai hb3;have p9:=ai (((qa.o.alloc qa.o.size (.cells #[Nl,Nl,Nl,Nl,I 0] 27))).trans (hb3.mono ((qa.o.alloc qa.o.size (.cells #[Nl,Nl,Nl,Nl,I 0] 27))).size));have oN:=ai (HS.o _ p9.o);have ME:=ai (aQ (bO w2 #[Nl,Nl,Nl,Nl,I 0] 27) hb3 (by simp));clear hr3 hb3
        try go_simp
        refine hK.out _ _ (fun _=>?_) ?_
        · exact oN.o
        clear hK K
        try simp only[Act.put,bJ,bI,bH]
        refine cN 11 oN.o ?_ ?_ ?_;rotate_left 1
        · intro V h;obtain⟨k0,k1,k2,k3⟩:=gq.o V h;go_simp;rfl
        obtain⟨z0,z1,z2,z3,z4⟩:=fy ME.o;have f0:=aO ME.o 0;have f1:=aO ME.o 1;have f2:=aO ME.o 2;have f3:=aO ME.o 3;have f4:=aO ME.o 4;refine bW (rs:=[13]) (by kernel_rfl) (by simp) ?_;refine aJ.cons rfl (fun K hK=>?_) aJ.nil;go_simp;refine hK.out _ _ (fun g=>absurd rfl g) ?_;refine ij (by rfl) ?_ _;go_wp2_with fail
        go_meet
        case rel =>
         refine⟨_,a1,c1,a2,c2,a3,c3,rfl,?_⟩;exact zP (V4:=w3) (cb:=w2.heap.size) (V1:=WD) (w1:=w1) (V2:=w1) (w2:=w2) (V3:=(w2.alloc (.cells #[Nl,Nl,Nl,Nl,I 0] 27))) (w3:=w3) pL.o HR1.o dz.o (aK _ _) Hh.o gj.o ((aK _ _).alloc (aI _) _) JY.o kJ.o (aK _ _) ME.o (qa.o.size) (.inr (.inr (.inl ⟨aI _,by simp⟩)))
    · go_simp;refine hK.out _ _ (fun _=>?_) ?_
      · exact HS.o _ (vZ.o.alloc vZ.o.size (.cells #[Nl,Nl,Nl,Nl,I 0] 27))
      clear hK K
      try simp only[Act.put,bJ,bI,bH]
      refine bW (rs:=[5]) (by kernel_rfl) (by simp) ?_;refine aJ.cons rfl (fun K hK=>?_) aJ.nil;rw[aR (by rfl)];go_simp;go_at_call 104;refine(HCF.o _ (vZ.o.alloc vZ.o.size (.cells #[Nl,Nl,Nl,Nl,I 0] 27))).mono ?_;rintro e w2 ⟨a2,c2,rfl,hr2,hb2⟩;have Hh:=ai hr2;have gj:=ai hb2;have qa:=ai (((vZ.o.alloc vZ.o.size (.cells #[Nl,Nl,Nl,Nl,I 0] 27))).trans (hb2.mono ((vZ.o.alloc vZ.o.size (.cells #[Nl,Nl,Nl,Nl,I 0] 27))).size));have lR:=ai (HS.o _ qa.o);have BZ2:=ai (aQ (bO w1 #[Nl,Nl,Nl,Nl,I 0] 27) hb2 (by simp));clear hr2 hb2
      try go_simp
      refine hK.out _ _ (fun _=>?_) ?_
      · exact lR.o
      clear hK K
      try simp only[Act.put,bJ,bI,bH]
      refine bW (rs:=[8]) (by kernel_rfl) (by simp) ?_;refine aJ.cons rfl (fun K hK=>?_) aJ.nil;rw[aR (by rfl)];go_simp;go_at_call 105;refine(Jj.o _ qa.o).mono ?_;rintro e w3 ⟨a3,c3,rfl,hr3,hb3⟩;have JY:=ai hr3;have kJ:=ai hb3;have p9:=ai ((qa.o).trans (hb3.mono (qa.o).size));have oN:=ai (HS.o _ p9.o);have ME:=ai (aQ BZ2.o hb3 (aT BZ2.o));clear hr3 hb3
      try go_simp
      refine hK.out _ _ (fun _=>?_) ?_
      · exact oN.o
      clear hK K
      try simp only[Act.put,bJ,bI,bH]
      refine cN 11 oN.o ?_ ?_ ?_;rotate_left 1
      · intro V h;obtain⟨k0,k1,k2,k3⟩:=gq.o V h;go_simp;rfl
      obtain⟨z0,z1,z2,z3,z4⟩:=fy ME.o;have f0:=aO ME.o 0;have f1:=aO ME.o 1;have f2:=aO ME.o 2;have f3:=aO ME.o 3;have f4:=aO ME.o 4;refine bW (rs:=[13]) (by kernel_rfl) (by simp) ?_;refine aJ.cons rfl (fun K hK=>?_) aJ.nil;go_simp;refine hK.out _ _ (fun g=>absurd rfl g) ?_;refine ij (by rfl) ?_ _;go_wp2_with fail
      go_meet
      case rel =>
       refine⟨_,a1,c1,a2,c2,a3,c3,rfl,?_⟩;exact zP (V4:=w3) (cb:=w1.heap.size) (V1:=WD) (w1:=w1) (V2:=(w1.alloc (.cells #[Nl,Nl,Nl,Nl,I 0] 27))) (w2:=w2) (V3:=w2) (w3:=w3) pL.o HR1.o dz.o ((aK _ _).alloc (aI _) _) Hh.o gj.o (aK _ _) JY.o kJ.o (aK _ _) ME.o (vZ.o.size) (.inr (.inl ⟨aI _,by simp⟩))
  · go_simp;refine hK.out _ _ (fun _=>?_) ?_
    · exact HS.o _ (pL.o.alloc pL.o.size (.cells #[Nl,Nl,Nl,Nl,I 0] 27))
    clear hK K
    try simp only[Act.put,bJ,bI,bH]
    refine bW (rs:=[2]) (by kernel_rfl) (by simp) ?_;refine aJ.cons rfl (fun K hK=>?_) aJ.nil;rw[aR (by rfl)];go_simp;go_at_call 103;refine(HCS.o _ (pL.o.alloc pL.o.size (.cells #[Nl,Nl,Nl,Nl,I 0] 27))).mono ?_;rintro e w1 ⟨a1,c1,rfl,hr1,hb1⟩;have HR1:=ai hr1;have dz:=ai hb1;have vZ:=ai (((pL.o.alloc pL.o.size (.cells #[Nl,Nl,Nl,Nl,I 0] 27))).trans (hb1.mono ((pL.o.alloc pL.o.size (.cells #[Nl,Nl,Nl,Nl,I 0] 27))).size));have jP:=ai (HS.o _ vZ.o);have BZ1:=ai (aQ (bO WD #[Nl,Nl,Nl,Nl,I 0] 27) hb1 (by simp));clear hr1 hb1
    try go_simp
    refine hK.out _ _ (fun _=>?_) ?_
    · exact jP.o
    clear hK K
    try simp only[Act.put,bJ,bI,bH]
    refine bW (rs:=[5]) (by kernel_rfl) (by simp) ?_;refine aJ.cons rfl (fun K hK=>?_) aJ.nil;rw[aR (by rfl)];go_simp;go_at_call 104;refine(HCF.o _ vZ.o).mono ?_;rintro e w2 ⟨a2,c2,rfl,hr2,hb2⟩;have Hh:=ai hr2;have gj:=ai hb2;have qa:=ai ((vZ.o).trans (hb2.mono (vZ.o).size));have lR:=ai (HS.o _ qa.o);have BZ2:=ai (aQ BZ1.o hb2 (aT BZ1.o));clear hr2 hb2
    try go_simp
    refine hK.out _ _ (fun _=>?_) ?_
    · exact lR.o
    clear hK K
    try simp only[Act.put,bJ,bI,bH]
    refine bW (rs:=[8]) (by kernel_rfl) (by simp) ?_;refine aJ.cons rfl (fun K hK=>?_) aJ.nil;rw[aR (by rfl)];go_simp;go_at_call 105;refine(Jj.o _ qa.o).mono ?_;rintro e w3 ⟨a3,c3,rfl,hr3,hb3⟩;have JY:=ai hr3;have kJ:=ai hb3;have p9:=ai ((qa.o).trans (hb3.mono (qa.o).size));have oN:=ai (HS.o _ p9.o);have ME:=ai (aQ BZ2.o hb3 (aT BZ2.o));clear hr3 hb3
    try go_simp
    refine hK.out _ _ (fun _=>?_) ?_
    · exact oN.o
    clear hK K
    try simp only[Act.put,bJ,bI,bH]
    refine cN 11 oN.o ?_ ?_ ?_;rotate_left 1
    · intro V h;obtain⟨k0,k1,k2,k3⟩:=gq.o V h;go_simp;rfl
    obtain⟨z0,z1,z2,z3,z4⟩:=fy ME.o;have f0:=aO ME.o 0;have f1:=aO ME.o 1;have f2:=aO ME.o 2;have f3:=aO ME.o 3;have f4:=aO ME.o 4;refine bW (rs:=[13]) (by kernel_rfl) (by simp) ?_;refine aJ.cons rfl (fun K hK=>?_) aJ.nil;go_simp;refine hK.out _ _ (fun g=>absurd rfl g) ?_;refine ij (by rfl) ?_ _;go_wp2_with fail
    go_meet
    case rel =>
     refine⟨_,a1,c1,a2,c2,a3,c3,rfl,?_⟩;exact zP (V4:=w3) (cb:=WD.heap.size) (V1:=(WD.alloc (.cells #[Nl,Nl,Nl,Nl,I 0] 27))) (w1:=w1) (V2:=w1) (w2:=w2) (V3:=w2) (w3:=w3) (pL.o.alloc pL.o.size (.cells #[Nl,Nl,Nl,Nl,I 0] 27)) HR1.o dz.o (aK _ _) Hh.o gj.o (aK _ _) JY.o kJ.o (aK _ _) ME.o (pL.o.size) (.inl (by simp))
 case rest =>
  obtain⟨cb,aS,cS,aF,cF,aL,cL,rfl,Ye⟩:=hcut;have dz:=ai Ye.below;have HKH:Hid (∃lab,tB WA.heap.size cb wc lab (.slice aS k.aD.length cS) (.slice aF k.frames.length cF) (.slice aL k.slots.length cL) k k.aD 0):=VY Ye;have c0:wc.cell? (Ad cb 0)=some (.slice aS k.aD.length cS):=aB Ye.head 0 rfl;clear Ye;have hks:=hs.aD;go_wp2;go_loopw [23] (fun iv wq=>∃n:Nat,∃lab hs',n<=k.aD.length/\iv=I (n:Int)/\tB WA.heap.size cb wq lab (.slice aS k.aD.length cS) (.slice aF k.frames.length cF) (.slice aL k.slots.length cL) k hs' n/\Below WA.heap.size WA wq) (fun iv _=>k.aD.length-(intOf iv).toNat)
  case atStart =>
   grind [Hid.o]
  case round =>
   obtain⟨n,lab,hs',hn,rfl,hkh,jQ⟩:=hrel;by_cases hlt:n<k.aD.length
   · have hni:(n:Int)<(k.aD.length:Int):=by omega
     obtain⟨sb,rfl,hne,hsl,d0,x0,x1,x2,fz⟩:=hkh.at_ hlt;have hlS:=hkh.same.len;have hlo:WA.heap.size<=wr.heap.size:=jQ.size;have hsA:WA.heap.size<=sb:=(hkh.rV sb (by rw[hkh.lS sb rfl];simp)).1;have er:aV hs' n=aV k.aD n:=hkh.rest n (aI _);have hcl:cb<wr.heap.size:=aT hkh.head;have Vv:=Xt.o wr n (fV.o.trans (jQ.mono fV.o.size)) hlt;obtain⟨sh,hsh⟩:=ex (aV k.aD n);rw[<- hsh] at x0 x1 x2 Vv er;obtain⟨pg,dt,fx,ao,cp⟩:=sh;simp only at x0 x1 x2 Vv;obtain⟨Nb,hfl⟩:=Vv;obtain⟨WL,hWL⟩:=ex (wr.alloc (.cells #[I pg,.string dt,.slice ao fx.length cp] 50));have hbL:Below wr.heap.size wr WL:=by grind [Below.refl,Below.alloc]
     have BL:WL.heap[wr.heap.size]?=some (.cells #[I pg,.string dt,.slice ao fx.length cp] 50 (0,0)):=by grind [bO]
     have ZI:Hid (∀V,Below WL.heap.size WL V->Calls Tryz.prog 106 #[.slice ao fx.length cp] V fun e w'=>∃ax cx,e=.returned (.slice ax fx.length cx)/\(w'.cell? (Ad cb 0)=some (.slice (some (Ad sb 0)) k.aD.length cS)/\w'.cell? (Ad wr.heap.size 2)=some (.slice ao fx.length cp))/\((w'.setCell (Ad sb (n*3+2)) (.slice ax fx.length cx)).cell? (Ad cb 0)=some (.slice (some (Ad sb 0)) k.aD.length cS)/\(w'.setCell (Ad sb (n*3+2)) (.slice ax fx.length cx)).cell? (Ad wr.heap.size 2)=some (.slice ao fx.length cp))/\w'.cell? (Ad sb (n*3+2))=some (.slice ao fx.length cp)/\w'.frozen? (Ad sb (n*3+2))=false/\(∃lab' als,tB WA.heap.size cb (w'.setCell (Ad sb (n*3+2)) (.slice ax fx.length cx)) lab' (.slice (some (Ad sb 0)) k.aD.length cS) (.slice aF k.frames.length cF) (.slice aL k.slots.length cL) k als (n+1))/\Below WA.heap.size WA (w'.setCell (Ad sb (n*3+2)) (.slice ax fx.length cx))):=fun V hV=>(XE ao fx.length cp (fx.flatMap gZ) V (eG gZ 2 (fun _=>rfl) fx) (Nb.below (hbL.trans (hV.mono hbL.size))) (OY _) hfl).mono fun e w' ⟨v,h1,h2,h3⟩=>by
      obtain⟨ax,cx,rfl,_⟩:=aY h2;have hb':Below WL.heap.size WL w':=hV.trans (h3.mono hV.size);have hkL:=hkh.below hbL;have hk':=hkL.below hb';have hr':=mr (base':=WL.heap.size) h2 (fun g hg=>gy hV.size (h2.lt g hg).1);obtain⟨sb2,e2,_,arH,d2,_,_,y2,fz2⟩:=hk'.at_ hlt;injection e2 with e2;injection e2 with e2 _ _;subst e2;rw[<- hsh] at y2;obtain⟨lab',hst,_⟩:=hkL.step (n:=n) (ax:=ax) (cx:=cx) (by omega) (gy hlo hbL.size) hb' (by grind);rw[er] at hst;have xl:w'.cell? (Ad wr.heap.size 2)=some (.slice ao fx.length cp):=aB (aQ BL hb' (aT BL)) 2 rfl;have JF:=(jQ.trans (hbL.mono hlo)).trans (hb'.mono (gy hlo hbL.size));have ahl:¬wr.heap.size=sb:=fun e=>by omega
      exact⟨ax,cx,h1,⟨d2,xl⟩,⟨(eQ _ _ _ _ _ _ hne).trans d2,(eQ _ _ _ _ _ _ ahl).trans xl⟩,y2,fz2 _,⟨lab',_,hst⟩,aM.below JF (aM.set (fun b=>b=sb) w' (Ad sb (n*3+2)) _ rfl) JF.size (fun b e=>by omega)⟩
     have HWL:=ai hWL;have Mu:Hid (WL.drew.cell? (Ad cb 0)=some (.slice (some (Ad sb 0)) k.aD.length cS)/\WL.drew.cell? (Ad wr.heap.size 2)=some (.slice ao fx.length cp)):=⟨(hbL.drew.cell (p:=(Ad cb 0)) hcl).trans d0,aB (aQ BL (aK _ _).drew (aT BL)) 2 rfl⟩;have HDR:=ai (aK WL.heap.size WL).drew;clear hkh jQ Nb hfl er hsh hWL hbL BL hlS hlo hsA HKH dz fz hcl;go_upto_region 5 with fail;rw[<- HWL.o]
     go_region_held3 (fun V=>V.cell? (Ad cb 0)=some (.slice (some (Ad sb 0)) k.aD.length cS)/\V.cell? (Ad wr.heap.size 2)=some (.slice ao fx.length cp)) (first | exact oN.o | exact Mu.o | exact HS4.o)
      ((go_at_call 106;refine(ZI.o _ HDR.o).mono ?_;rintro e w5 ⟨ax,cx,rfl,s3,s4,y2,f2,hst,JF⟩;have oN:=ai s3;have HS4:=ai s4;have HST:=ai hst;have auw:=ai JF;clear s3 s4 hst JF))
     all_goals clear Mu oN HS4 ZI
     all_goals go_wp2
     grind [intOf,Hid.o]
   · obtain rfl:n=k.aD.length:=by omega
     have aiV:Hid (bu WA.heap.size cb 27 [] wr ⟨lab,.slice aS k.aD.length cS,.slice aF k.frames.length cF,.slice aL k.slots.length cL,Nl,[]⟩ (bN ⟨k.aD,k.frames,k.slots,k.aj.take 0,k.hand⟩ hs')):=tB.done (by rw[hkh.same.len];exact hkh);have HSM:=ai hkh.same;have gj:=ai jQ;have q3:wr.cell? (Ad w.heap.size 3)=some (.slice a.aP k.aj.length a.cP):=aB (aQ KB.o jQ (aT KB.o)) 3 rfl;have KE:=hs.aj;clear hkh jQ HKH dz;go_wp2;go_loopw [40] (fun iv wq=>∃m:Nat,∃S hs2,m<=k.aj.length/\iv=I (m:Int)/\cW k.aD hs2/\bu WA.heap.size cb 27 [] wq S (bN ⟨k.aD,k.frames,k.slots,k.aj.take m,k.hand⟩ hs2)/\Below WA.heap.size WA wq) (fun iv _=>k.aj.length-(intOf iv).toNat)
     case atStart=>grind [Hid.o]
     case round =>
      obtain⟨m,S,hs2,hm,rfl,hsame,iU,jQ⟩:=hrel;by_cases zF:m<k.aj.length
      · have hmi:(m:Int)<(k.aj.length:Int):=by omega
        obtain⟨pb,po,hpo,hpl,Sv⟩:=HKS.o (by omega);obtain⟨va,ap,cp,v0,v1,v2,hha,SZ,_⟩:=Sv m zF;have Bc:=hha;obtain⟨aa,ca,Av,_⟩:=hha;subst Av;have hbl:Below w.heap.size w wr:=fV.o.trans (jQ.mono fV.o.size);have z0:=(hbl.cell (p:=(Ad pb (po+m*3))) hpl).trans v0;have z1:=(hbl.cell (p:=(Ad pb (po+m*3+1))) hpl).trans v1;have z2:=(hbl.cell (p:=(Ad pb (po+m*3+2))) hpl).trans v2;have har:=hs.bk m zF;have hen:=hs.aU m zF;have htk:=LC k.aj m zF;obtain⟨sp,hsp⟩:=ex (ak k.aj m);rw[<- hsp] at z0 z1 z2 har hen htk Bc SZ;obtain⟨lv,pH,nN⟩:=sp;simp only at z0 z1 z2 har hen Bc SZ;obtain⟨bP,dP,eP,_⟩:=aY iU.aj;have hLl:S.L.length<=1000000:=by have:=iU.len;grind [bN]
        obtain⟨WL,hWL⟩:=ex (wr.alloc (.cells #[.bool lv,.slice aa pH.length ca,.slice ap nN.length cp] 43));have hbL:Below wr.heap.size wr WL:=by grind [Below.refl,Below.alloc]
        have BL:WL.heap[wr.heap.size]?=some (.cells #[.bool lv,.slice aa pH.length ca,.slice ap nN.length cp] 43 (0,0)):=by grind [bO]
        have Sy:Below wr.heap.size wr WL.drew:=hbL.drew;have BD:WL.drew.heap[wr.heap.size]?=some (.cells #[.bool lv,.slice aa pH.length ca,.slice ap nN.length cp] 43 (0,0)):=aQ BL (aK _ _).drew (aT BL);have HWL:=ai hWL;obtain⟨WD,MZ⟩:=ex WL.drew;rw[<- MZ] at Sy BD;have HWD:=ai MZ;have hkD:=iU.below Sy;have hlD:WA.heap.size<=WD.heap.size:=gy jQ.size Sy.size;have Z3:Hid (Calls Tryz.prog 86 #[.agg #[.bool lv,.slice aa pH.length ca,.slice ap nN.length cp]] WD fun e w'=>∃xa nx cx ya ny cy,e=.returned (.agg #[.bool lv,.slice xa nx cx,.slice ya ny cy])/\kF WD.heap.size w' ⟨lv,.slice xa nx cx,.slice ya ny cy⟩ ⟨lv,pH,nN⟩/\(∀b,bQ (.slice ya ny cy) b->¬bQ (.slice xa nx cx) b)/\Below WD.heap.size WD w'):=(DK ⟨lv,pH,nN⟩ aa ap pH.length ca cp WD (Bc.below (hbl.trans (Sy.mono hbl.size))) (SZ.below (hbl.trans (Sy.mono hbl.size))) har hen).mono fun e w' ⟨va,vp,h1,h2,h3,h4⟩=>by
         obtain⟨xa,cx,ex,_⟩:=aY h2.bk;obtain⟨ya,cy,ey,_⟩:=aY h2.bC
         grind
        have agd:Hid (∀V,aM (fun b=>bQ S.vP b) WD V->V.cell? (Ad cb 3)=some (.slice bP S.L.length dP)/\V.cell? (Ad wr.heap.size 0)=some (.bool lv)/\V.cell? (Ad wr.heap.size 1)=some (.slice aa pH.length ca)/\V.cell? (Ad wr.heap.size 2)=some (.slice ap nN.length cp)/\V.frozen? (Ad cb 3)=false):=fun V hV=>by
         have b1:=hV.keep hkD.head (fun g=>by have:=iU.lP _ g;grind [bu.lH]);have b2:=hV.keep BD (fun g=>by have:=(iU.aj.lt _ g).2;omega);refine⟨?_,aB b2 0 rfl,aB b2 1 rfl,aB b2 2 rfl,aO b1 3⟩;rw[<- eP];exact aB b1 3 rfl
        have SG:Hid (∀w2 o,Below WD.heap.size WD w2->(w2.alloc o).ownsRow WA.heap.size 43 3 (.slice bP S.L.length dP) S.L.length (S.L.flatMap eT)):=fun w2 o hb=>by
         have:=((aM.cH (D:=fun _=>False) hb).trans (aM.alloc _ w2 o) (fun _ _ g=>g)).row hkD.aj (fun _ _ g=>g)
         grind
        have UH:Hid (∀w2 w4 O v' l,Below WD.heap.size WD w2->kF WD.heap.size w2 l ⟨lv,pH,nN⟩->(∀b,bQ l.vp b->¬bQ l.va b)->(w2.alloc O).grownBy w4 S.vP.ownBlock->w4.ownsRow WA.heap.size 43 3 v' (S.L.length+1) (S.L.flatMap eT++eT l)->(v'.ownBlock=S.vP.ownBlock∨v'.ownBlock=some (w2.alloc O).heap.size)->∃S',bu WA.heap.size cb 27 [] (w4.setCell (Ad cb 3) v') S' (bN ⟨k.aD,k.frames,k.slots,k.aj.take (m+1),k.hand⟩ hs2)/\Below WA.heap.size WA (w4.setCell (Ad cb 3) v')):=fun w2 w4 O v' l h1 h2 h3 h4 h5 h6=>by
         have m1:=hkD.push hlD h1 h2 h3 h4 h5 h6;have m2:=m1.1;rw[htk];have JF:=jQ.trans (Sy.mono jQ.size);exact⟨_,m2,aM.below JF m1.2.2 JF.size (fun b hb=>(hkD.rV b hb).1)⟩
        have aqj:=ai hsame;have uT:Hid (∀w2,Below WD.heap.size WD w2->aM (fun b=>bQ S.vP b) WD w2):=fun w2 h=>aM.cH h
        have HEP:=ai eP;obtain⟨i0,hin,hz0,hz1,hz2⟩:=gm Hx;have yG:=ai hin;have Bg:=ai hz0;have Bf:=ai hz1;have Aj:=ai hz2;clear iU hkD jQ hbl v0 v1 v2 Bc SZ har hen htk hsp hWL MZ hbL BL Sy BD Sv aiV HSM gj hsame eP hin hz0 hz1 hz2;rw[hpo];go_upto_region 10 with fail;rw[<- HWL.o];refine m7 (S:=fun V=>aM (fun b=>bQ S.vP b) WD V) (z:=7) (by rfl) ?_;rw[<- HWD.o];have gq:=agd;have gu:Hid (aM (fun b=>bQ S.vP b) WD WD):=aM.refl _ _;refine cN 0 gu.o ?_ ?_ ?_;rotate_left 1
        · intro V h;rfl
        refine cN 1 gu.o ?_ ?_ ?_;rotate_left 1
        · intro V h;obtain⟨k0,k1,k2,k3,k4⟩:=gq.o V h;go_simp;rfl
        refine cN 2 gu.o ?_ ?_ ?_;rotate_left 1
        · intro V h;obtain⟨k0,k1,k2,k3,k4⟩:=gq.o V h;go_simp;rfl
        refine bW (rs:=[3]) (by kernel_rfl) (by simp) ?_;refine aJ.cons rfl (fun K hK=>?_) aJ.nil;rw[aR (by rfl)];go_simp;go_at_call 86;refine Z3.o.mono ?_;rintro e w2 ⟨xa,nx,cx,ya,ny,cy,rfl,hso,hap,hb2⟩;have Xo:=ai hso;have Xz:=ai hap;have gj:=ai hb2;have lR:=ai (uT.o _ hb2);clear hso hap hb2;try go_simp;refine hK.out _ _ (fun _=>?_) ?_
        · exact lR.o
        clear hK K
        try simp only[Act.put,bJ,bI,bH]
        refine bW (rs:=[4]) (by kernel_rfl) (by simp) ?_;refine aJ.cons rfl (fun K hK=>?_) aJ.nil;go_simp;refine hK.out _ _ (fun _=>?_) ?_
        · exact lR.o.trans (aM.alloc _ _ _) (fun _ _ g=>g)
        clear hK K
        try simp only[Act.put,bJ,bI,bH]
        have alr:=gj.o.size;refine bW (rs:=[5]) (by kernel_rfl) (by simp) ?_;refine aJ.cons rfl (fun K hK=>?_) aJ.nil;rw[aR (by rfl)];refine dM (P:=Tryz.prog) _ _ 25 rfl WA.heap.size 43 i0 (.agg #[.bool false,Nl,Nl]) 3 56 Tryz.underlying25 yG.o Bg.o Bf.o Aj.o rfl (by decide) (.slice bP S.L.length dP) S.L.length (S.L.flatMap eT) rfl (SG.o _ _ gj.o) (some (Ad w2.heap.size 0)) 1 1 (eT ⟨lv,.slice xa nx cx,.slice ya ny cy⟩) rfl rfl (fun _=>⟨_,rfl,OW w2 _ _⟩) (by intro u hu;simp[eT] at hu;rcases hu with rfl | rfl | rfl <;> rfl) (by grind [maxLen]) (by omega) (by grind [World.size_alloc]) ?_;intro vG wG yR Bj Dy;obtain⟨aG,cG,KR,_,_⟩:=aY yR;subst KR;rw[<- HEP.o] at Bj Dy;have Bl:Hid (aM (fun b=>bQ S.vP b) WD wG):=(lR.o.trans (aM.alloc _ _ _) (fun _ _ g=>g)).trans (aM.grown Bj (fun q hq=>hq)) (fun _ _ g=>g);have HPF:=ai (UH.o w2 wG _ _ ⟨lv,.slice xa nx cx,.slice ya ny cy⟩ gj.o Xo.o Xz.o Bj yR Dy);clear yR Bj Dy;refine hK.out _ _ (fun _=>?_) ?_
        · exact Bl.o
        clear hK K
        try simp only[Act.put,bJ,bI,bH]
        refine cN 6 Bl.o ?_ ?_ ?_;rotate_left 1
        · intro V h;rfl
        obtain⟨k0,k1,k2,k3,k4⟩:=gq.o _ Bl.o;refine bW (rs:=[7]) (by kernel_rfl) (by simp) ?_;refine aJ.cons rfl (fun K hK=>?_) aJ.nil;go_simp;refine hK.out _ _ (fun g=>absurd rfl g) ?_;refine ij (by rfl) ?_ _;go_wp2;go_roundw
        case rel =>
         obtain⟨S',h1,h2⟩:=HPF.o
         grind [Hid.o]
        grind [intOf]
      · obtain rfl:m=k.aj.length:=by omega
        rw[qd] at iU;obtain⟨bS,nS,dS,eS⟩:∃b n d,S.vS=.slice b n d:=by obtain⟨b,d,e,_⟩:=aY iU.aD;grind
        obtain⟨bF,nF,dF,eF⟩:∃b n d,S.vF=.slice b n d:=by obtain⟨b,d,e,_⟩:=aY iU.frames;grind
        obtain⟨bL,nL,dL,eL⟩:∃b n d,S.vL=.slice b n d:=by obtain⟨b,d,e,_⟩:=aY iU.slots;grind
        obtain⟨bP,nP,dP,eP⟩:∃b n d,S.vP=.slice b n d:=by obtain⟨b,d,e,_⟩:=aY iU.aj;grind
        have c0:=iU.c0;have c1:=iU.c1;have c2:=iU.c2;have c3:=iU.c3;have c4:wr.cell? (Ad cb 4)=some (I k.hand):=iU.c4;rw[eS] at c0;rw[eF] at c1;rw[eL] at c2;rw[eP] at c3;have R1:=aQ RB.o jQ (aT RB.o);obtain⟨y0,y1,y2,y3,y4⟩:=fy R1;have f0:=aO R1 0;have f1:=aO R1 1;have f2:=aO R1 2;have f3:=aO R1 3;have f4:=aO R1 4;have E9:w.heap.size+1<WA.heap.size:=aT RB.o;have hbl:Below w.heap.size w wr:=fV.o.trans (jQ.mono fV.o.size);have cV:Hid (∀V,aM (fun b=>b=w.heap.size+1) wr V->P (.returned (.agg #[.slice bS nS dS,.slice bF nF dF,.slice bL nL dL,.slice bP nP dP,I k.hand])) V):=fun V hV=>by
         rw[HP.o];refine⟨S,hs2,hsame,by grind,(iU.toKr.kp hV (fun b hb e=>by have:=(iU.rV b hb).1;omega)).mono (by omega),?_⟩
         grind [aM.below]
        have h5:Hid (∀s f l p h,(((((wr.setCell (Ad (w.heap.size+1) 0) s).setCell (Ad (w.heap.size+1) 1) f).setCell (Ad (w.heap.size+1) 2) l).setCell (Ad (w.heap.size+1) 3) p).setCell (Ad (w.heap.size+1) 4) h).heap[w.heap.size+1]?=some (.cells #[s,f,l,p,h] 27 (0,0))/\aM (fun b=>b=w.heap.size+1) wr (((((wr.setCell (Ad (w.heap.size+1) 0) s).setCell (Ad (w.heap.size+1) 1) f).setCell (Ad (w.heap.size+1) 2) l).setCell (Ad (w.heap.size+1) 3) p).setCell (Ad (w.heap.size+1) 4) h)):=fun s f l p h=>⟨dD (dD (dD (dD (dD R1 0 s) 1 f) 2 l) 3 p) 4 h,((((aM.set (fun b=>b=w.heap.size+1) wr (Ad (w.heap.size+1) 0) s rfl).trans (aM.set (fun b=>b=w.heap.size+1) _ (Ad (w.heap.size+1) 1) f rfl) (fun _ _ g=>g)).trans (aM.set (fun b=>b=w.heap.size+1) _ (Ad (w.heap.size+1) 2) l rfl) (fun _ _ g=>g)).trans (aM.set (fun b=>b=w.heap.size+1) _ (Ad (w.heap.size+1) 3) p rfl) (fun _ _ g=>g)).trans (aM.set (fun b=>b=w.heap.size+1) _ (Ad (w.heap.size+1) 4) h rfl) (fun _ _ g=>g)⟩
        clear iU jQ hsame eS eF eL eP E9 hbl aiV HSM gj R1;go_wp2;obtain⟨q1,q2⟩:=h5.out (.slice bS nS dS) (.slice bF nF dF) (.slice bL nL dL) (.slice bP nP dP) (I k.hand);obtain⟨y0,y1,y2,y3,y4⟩:=fy q1;refine cm (v:=.agg #[.slice bS nS dS,.slice bF nF dF,.slice bL nL dL,.slice bP nP dP,I k.hand]) (by simp[results,Tryz.results55,go_sem,y0,y1,y2,y3,y4]) rfl ?_;exact cV.o _ q2
end Go.Proofs.YtpgifpeohlllfaaGreat
