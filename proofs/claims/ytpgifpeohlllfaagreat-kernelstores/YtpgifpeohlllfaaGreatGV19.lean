import Derived.Test.YtpgifpeohlllfaaGreatGV18
set_option maxHeartbeats 20000000
set_option linter.unusedVariables false
set_option maxRecDepth 100000
set_option linter.unusedSimpArgs false
namespace Go.Proofs.YtpgifpeohlllfaaGreat
namespace Go.Proofs.YtpgifpeohlllfaaGreat
open Go.RowKit
theorem vo.at_ {lo cb:Nat} {w:World} {lab:Nat->iH} {aS:Option Addr} {m cS:Nat} {vF vL:Value} {k:aN} {hs:List bM} {n:Nat} (h:vo lo cb w lab (.slice aS m cS) vF vL k hs n) (hn:n<k.aA.length) :
  ∃sb,aS=some (Ad sb 0)/\¬cb=sb/\sb<w.heap.size/\w.cell? (Ad cb 0)=some (.slice aS m cS)/\w.cell? (Ad sb (n*3))=some (I (bj k.aA n).page)/\w.cell? (Ad sb (n*3+1))=some (.string (bj k.aA n).data)/\w.cell? (Ad sb (n*3+2))=some (.slice (bj k.aA n).ao (bj k.aA n).dn.length (bj k.aA n).cap)/\∀j,w.frozen? (Ad sb j)=false:=by
 have hl:=h.same.len;obtain⟨ao,cap,e,hc,hg⟩:=aY h.aA;injection e with e1 e2 e3;subst e1 e2 e3;obtain⟨g,rfl,hg1,hg2⟩:=hg (by omega);have at_:=fun j (hj:j<3)=>lB ic (fun _=>rfl) xy h.aA n j (by omega) hj
 have er:hs.getD n xy=bj k.aA n:=h.rest n (aM _);rw[er] at at_;exact⟨g,rfl,fun e=>by have:=h.lS g rfl;grind [lH],hg2,aB h.head 0 rfl,at_ 0 (by omega),at_ 1 (by omega),at_ 2 (by omega),ig h.aA⟩
theorem Lc:(Tryz.prog.info? 43).map (fun i=>(i.zero,i.size,i.bytes))=some (some (.agg #[.bool false,Nl,Nl]),3,56):=by rfl
theorem SZ (w:World) (xs:List Value) (e:TypeId):∀j u,xs[j]?=some u->(w.alloc (.cells xs.toArray e)).cell? (((Ad w.heap.size 0):Addr).add j)=some u:=fun j u hu=>by
 grind [Addr.add_lit,aB,bG]
theorem Pg (l:List dm) (m:Nat) (h:m<l.length):l.take (m+1)=l.take m++[ak l m]:=by
 grind [List.take_add_one,ak]
theorem Pj (k:aN) (a:fP) (w:World) (hK:fT w a k) (hs:yH k) :
  Calls Tryz.prog 55 #[.agg (aT a k)] w (qu w k):=by
 obtain⟨P,hP⟩:=ex (qu w k);rw[<- hP];have HP:=ai hP;clear hP;have HKS:=ai hK.aj;have Nr:=ai (qh (f:=ic) (n:=3) (fun _=>rfl) (SY hK.aA));have Hs:=ai (qh (f:=gq) (n:=4) (fun _=>rfl) hK.frames);have ZH:=ai (qh (f:=gp) (n:=2) (fun _=>rfl) hK.slots);obtain⟨WA,iK⟩:=ex ((w.alloc (.cells (aT a k) 27)).alloc (.cells #[Nl,Nl,Nl,Nl,I 0] 27));have gK:Hid (Below w.heap.size w WA):=by rw[iK];exact((aK _ _).alloc (aM _) _).alloc (by simp) _
 have KB:Hid (WA.heap[w.heap.size]?=some (.cells (aT a k) 27 (0,0))):=by rw[iK];exact bE (bG w _ _) _
 have RB:Hid (WA.heap[w.heap.size+1]?=some (.cells #[Nl,Nl,Nl,Nl,I 0] 27 (0,0))):=by
  grind [World.alloc]
 have HS:Hid (∀V,Below WA.heap.size WA V->V.cell? (Ad w.heap.size 0)=some (.slice a.aS k.aA.length a.cS)/\V.cell? (Ad w.heap.size 1)=some (.slice a.aF k.frames.length a.cF)/\V.cell? (Ad w.heap.size 2)=some (.slice a.aL k.slots.length a.cL)/\V.cell? (Ad w.heap.size 4)=some (I k.hand)):=fun V hb=>by
  have h1:=aQ KB.o hb (aO KB.o);exact⟨aB h1 0 rfl,aB h1 1 rfl,aB h1 2 rfl,aB h1 4 rfl⟩
 have HCS:Hid (∀V,Below WA.heap.size WA V->Calls Tryz.prog 103 #[.slice a.aS k.aA.length a.cS] V fun e w'=>∃ad c,e=.returned (.slice ad k.aA.length c)/\w'.ownsRow V.heap.size 50 3 (.slice ad k.aA.length c) k.aA.length (k.aA.flatMap ic)/\Below V.heap.size V w'):=fun V hV=>(abB _ _ _ _ V (fF ic 3 (fun _=>rfl) k.aA) (Nr.o.below (gK.o.trans (hV.mono gK.o.size))) (ac6 _) hs.aA).mono fun e w' ⟨v,h1,h2,h3⟩=>by
  grind [aY]
 have HCF:Hid (∀V,Below WA.heap.size WA V->Calls Tryz.prog 104 #[.slice a.aF k.frames.length a.cF] V fun e w'=>∃ad c,e=.returned (.slice ad k.frames.length c)/\w'.ownsRow V.heap.size 40 4 (.slice ad k.frames.length c) k.frames.length (k.frames.flatMap gq)/\Below V.heap.size V w'):=fun V hV=>(abE _ _ _ _ V (fF gq 4 (fun _=>rfl) k.frames) (Hs.o.below (gK.o.trans (hV.mono gK.o.size))) (Tb _) hs.frames).mono fun e w' ⟨v,h1,h2,h3⟩=>by
  grind [aY]
 have Oj:Hid (∀V,Below WA.heap.size WA V->Calls Tryz.prog 105 #[.slice a.aL k.slots.length a.cL] V fun e w'=>∃ad c,e=.returned (.slice ad k.slots.length c)/\w'.ownsRow V.heap.size 86 2 (.slice ad k.slots.length c) k.slots.length (k.slots.flatMap gp)/\Below V.heap.size V w'):=fun V hV=>(abA _ _ _ _ V (fF gp 2 (fun _=>rfl) k.slots) (ZH.o.below (gK.o.trans (hV.mono gK.o.size))) (SX _) hs.slots).mono fun e w' ⟨v,h1,h2,h3⟩=>by
  grind [aY]
 have HFX:Hid (∀V n,Below w.heap.size w V->n<k.aA.length->lJ V (bj k.aA n).ao (bj k.aA n).dn.length ((bj k.aA n).dn.flatMap ji)/\(bj k.aA n).dn.length<=1000000):=fun V n hb hn=>by
  obtain⟨b,off,_,_,hi⟩:=hK.aA (by omega);have h4:mr w (bj k.aA n).ao (bj k.aA n).dn:=(hi n hn).2.2.2;exact⟨qh (f:=ji) (n:=2) (fun _=>rfl) (S9 (h4.below hb)),hs.dn n hn⟩
 have ij:Hid (∀V:World,(V.cell? (Ad w.heap.size 0)=some (.slice a.aS k.aA.length a.cS)/\V.cell? (Ad w.heap.size 1)=some (.slice a.aF k.frames.length a.cF)/\V.cell? (Ad w.heap.size 2)=some (.slice a.aL k.slots.length a.cL)/\V.cell? (Ad w.heap.size 4)=some (I k.hand))->V.cell? (Ad w.heap.size 0)=some (.slice a.aS k.aA.length a.cS)/\V.cell? (Ad w.heap.size 1)=some (.slice a.aF k.frames.length a.cF)/\V.cell? (Ad w.heap.size 2)=some (.slice a.aL k.slots.length a.cL)/\V.cell? (Ad w.heap.size 4)=some (I k.hand)):=fun V h=>h
 have iG:=ai iK;unfold aT at iG ⊢;clear iK hK;go_enter Tryz.func55,Tryz.ntmps55;go_upto_region 1 with fail;rw[<- iG.o];go_cut [3] (fun x3 wx=>∃cb aS cS aF cF aL cL,x3=.pointer (some (Ad cb 0))/\Oi WA.heap.size WA wx cb (.slice aS k.aA.length cS) (.slice aF k.frames.length cF) (.slice aL k.slots.length cL) k.hand k)
 case first =>
  refine nB (S:=fun V=>V.cell? (Ad w.heap.size 0)=some (.slice a.aS k.aA.length a.cS)/\V.cell? (Ad w.heap.size 1)=some (.slice a.aF k.frames.length a.cF)/\V.cell? (Ad w.heap.size 2)=some (.slice a.aL k.slots.length a.cL)/\V.cell? (Ad w.heap.size 4)=some (I k.hand)) (z:=13) (by rfl) ?_;have rz:=ai (aK WA.heap.size WA).drew;obtain⟨WD,Gn⟩:=ex WA.drew;rw[<- Gn] at rz ⊢;clear Gn;have gj:=ai (HS.o _ rz.o);refine cB 0 gj.o ?_ ?_ ?_;rotate_left 1
  · intro V h;rfl
  refine cB 1 gj.o ?_ ?_ ?_;rotate_left 1
  · intro V h;obtain⟨k0,k1,k2,k3⟩:=ij.o V h;go_simp;rfl
  refine cB 3 gj.o ?_ ?_ ?_;rotate_left 1
  · intro V h;rfl
  refine cB 4 gj.o ?_ ?_ ?_;rotate_left 1
  · intro V h;obtain⟨k0,k1,k2,k3⟩:=ij.o V h;go_simp;rfl
  refine cB 6 gj.o ?_ ?_ ?_;rotate_left 1
  · intro V h;obtain⟨k0,k1,k2,k3⟩:=ij.o V h;go_simp;rfl
  refine cB 7 gj.o ?_ ?_ ?_;rotate_left 1
  · intro V h;obtain⟨k0,k1,k2,k3⟩:=ij.o V h;go_simp;rfl
  refine cB 9 gj.o ?_ ?_ ?_;rotate_left 1
  · intro V h;obtain⟨k0,k1,k2,k3⟩:=ij.o V h;go_simp;rfl
  refine cB 10 gj.o ?_ ?_ ?_;rotate_left 1
  · intro V h;obtain⟨k0,k1,k2,k3⟩:=ij.o V h;go_simp;rfl
  refine ck (rs:=[2,12]) (by kernel_rfl) (by simp) ?_;refine aU.cons rfl (fun K hK=>?_) (aU.cons rfl (fun K hK=>?_) aU.nil)
  · rw[bf (by rfl)];go_simp;go_at_call 103;refine(HCS.o _ rz.o).mono ?_;rintro e w1 ⟨a1,c1,rfl,hr1,hb1⟩;have HR1:=ai hr1;have cT:=ai hb1;have yj:=ai ((rz.o).trans (hb1.mono (rz.o).size));have mg:=ai (HS.o _ yj.o);clear hr1 hb1
    try go_simp
    refine hK.out _ _ (fun _=>?_) ?_
    · exact mg.o
    clear hK K
    try simp only[Act.put,bW,bV,bU]
    refine ck (rs:=[5,12]) (by kernel_rfl) (by simp) ?_;refine aU.cons rfl (fun K hK=>?_) (aU.cons rfl (fun K hK=>?_) aU.nil)
    · rw[bf (by rfl)];go_simp;go_at_call 104;refine(HCF.o _ yj.o).mono ?_;rintro e w2 ⟨a2,c2,rfl,hr2,hb2⟩;have zC:=ai hr2;have fq:=ai hb2;have pH:=ai ((yj.o).trans (hb2.mono (yj.o).size));have qd:=ai (HS.o _ pH.o);clear hr2 hb2
      try go_simp
      refine hK.out _ _ (fun _=>?_) ?_
      · exact qd.o
      clear hK K
      try simp only[Act.put,bW,bV,bU]
      refine ck (rs:=[8,12]) (by kernel_rfl) (by simp) ?_;refine aU.cons rfl (fun K hK=>?_) (aU.cons rfl (fun K hK=>?_) aU.nil)
      · rw[bf (by rfl)];go_simp;go_at_call 105;refine(Oj.o _ pH.o).mono ?_;rintro e w3 ⟨a3,c3,rfl,hr3,hb3⟩;have Kw:=ai hr3;have jo:=ai hb3;have sX:=ai ((pH.o).trans (hb3.mono (pH.o).size));have vr:=ai (HS.o _ sX.o);clear hr3 hb3
        try go_simp
        refine hK.out _ _ (fun _=>?_) ?_
        · exact vr.o
        clear hK K
        try simp only[Act.put,bW,bV,bU]
        refine cB 11 vr.o ?_ ?_ ?_;rotate_left 1
        · intro V h;obtain⟨k0,k1,k2,k3⟩:=ij.o V h;go_simp;rfl
        refine ck (rs:=[12]) (by kernel_rfl) (by simp) ?_;refine aU.cons rfl (fun K hK=>?_) aU.nil;go_simp;refine hK.out _ _ (fun _=>?_) ?_
        · exact HS.o _ (sX.o.alloc sX.o.size (.cells #[Nl,Nl,Nl,Nl,I 0] 27))
        clear hK K
        try simp only[Act.put,bW,bV,bU]
        refine ck (rs:=[13]) (by kernel_rfl) (by simp) ?_;refine aU.cons rfl (fun K hK=>?_) aU.nil;go_simp;refine hK.out _ _ (fun g=>absurd rfl g) ?_;refine jL (by rfl) ?_ _;go_wp2_with fail
        go_meet
        case rel =>
         refine⟨_,a1,c1,a2,c2,a3,c3,rfl,?_⟩;exact XR (V1:=WD) (w1:=w1) (V2:=w1) (w2:=w2) (V3:=w2) (w3:=w3) rz.o HR1.o cT.o (aK _ _) zC.o fq.o (aK _ _) Kw.o jo.o
      · go_simp;refine hK.out _ _ (fun _=>?_) ?_
        · exact HS.o _ (pH.o.alloc pH.o.size (.cells #[Nl,Nl,Nl,Nl,I 0] 27))
        clear hK K
        try simp only[Act.put,bW,bV,bU]
        refine ck (rs:=[8]) (by kernel_rfl) (by simp) ?_;refine aU.cons rfl (fun K hK=>?_) aU.nil;rw[bf (by rfl)];go_simp;go_at_call 105;refine(Oj.o _ (pH.o.alloc pH.o.size (.cells #[Nl,Nl,Nl,Nl,I 0] 27))).mono ?_;rintro e w3 ⟨a3,c3,rfl,hr3,hb3⟩;have Kw:=ai hr3;have jo:=ai hb3;have sX:=ai (((pH.o.alloc pH.o.size (.cells #[Nl,Nl,Nl,Nl,I 0] 27))).trans (hb3.mono ((pH.o.alloc pH.o.size (.cells #[Nl,Nl,Nl,Nl,I 0] 27))).size));have vr:=ai (HS.o _ sX.o);have Qu:=ai (aQ (bG w2 #[Nl,Nl,Nl,Nl,I 0] 27) hb3 (by simp));clear hr3 hb3
        try go_simp
        refine hK.out _ _ (fun _=>?_) ?_
        · exact vr.o
        clear hK K
        try simp only[Act.put,bW,bV,bU]
        refine cB 11 vr.o ?_ ?_ ?_;rotate_left 1
        · intro V h;obtain⟨k0,k1,k2,k3⟩:=ij.o V h;go_simp;rfl
        obtain⟨z0,z1,z2,z3,z4⟩:=dx Qu.o;have f0:=aJ Qu.o 0;have f1:=aJ Qu.o 1;have f2:=aJ Qu.o 2;have f3:=aJ Qu.o 3;have f4:=aJ Qu.o 4;refine ck (rs:=[13]) (by kernel_rfl) (by simp) ?_;refine aU.cons rfl (fun K hK=>?_) aU.nil;go_simp;refine hK.out _ _ (fun g=>absurd rfl g) ?_;refine jL (by rfl) ?_ _;go_wp2_with fail
        go_meet
        case rel =>
         refine⟨_,a1,c1,a2,c2,a3,c3,rfl,?_⟩;exact CJ (V4:=w3) (cb:=w2.heap.size) (V1:=WD) (w1:=w1) (V2:=w1) (w2:=w2) (V3:=(w2.alloc (.cells #[Nl,Nl,Nl,Nl,I 0] 27))) (w3:=w3) rz.o HR1.o cT.o (aK _ _) zC.o fq.o ((aK _ _).alloc (aM _) _) Kw.o jo.o (aK _ _) Qu.o (pH.o.size) (.inr (.inr (.inl ⟨aM _,by simp⟩)))
    · go_simp;refine hK.out _ _ (fun _=>?_) ?_
      · exact HS.o _ (yj.o.alloc yj.o.size (.cells #[Nl,Nl,Nl,Nl,I 0] 27))
      clear hK K
      try simp only[Act.put,bW,bV,bU]
      refine ck (rs:=[5]) (by kernel_rfl) (by simp) ?_;refine aU.cons rfl (fun K hK=>?_) aU.nil;rw[bf (by rfl)];go_simp;go_at_call 104;refine(HCF.o _ (yj.o.alloc yj.o.size (.cells #[Nl,Nl,Nl,Nl,I 0] 27))).mono ?_;rintro e w2 ⟨a2,c2,rfl,hr2,hb2⟩;have zC:=ai hr2;have fq:=ai hb2;have pH:=ai (((yj.o.alloc yj.o.size (.cells #[Nl,Nl,Nl,Nl,I 0] 27))).trans (hb2.mono ((yj.o.alloc yj.o.size (.cells #[Nl,Nl,Nl,Nl,I 0] 27))).size));have qd:=ai (HS.o _ pH.o);have BZ2:=ai (aQ (bG w1 #[Nl,Nl,Nl,Nl,I 0] 27) hb2 (by simp));clear hr2 hb2
      try go_simp
      refine hK.out _ _ (fun _=>?_) ?_
      · exact qd.o
      clear hK K
      try simp only[Act.put,bW,bV,bU]
      refine ck (rs:=[8]) (by kernel_rfl) (by simp) ?_;refine aU.cons rfl (fun K hK=>?_) aU.nil;rw[bf (by rfl)];go_simp;go_at_call 105;refine(Oj.o _ pH.o).mono ?_;rintro e w3 ⟨a3,c3,rfl,hr3,hb3⟩;have Kw:=ai hr3;have jo:=ai hb3;have sX:=ai ((pH.o).trans (hb3.mono (pH.o).size));have vr:=ai (HS.o _ sX.o);have Qu:=ai (aQ BZ2.o hb3 (aO BZ2.o));clear hr3 hb3
      try go_simp
      refine hK.out _ _ (fun _=>?_) ?_
      · exact vr.o
      clear hK K
      try simp only[Act.put,bW,bV,bU]
      refine cB 11 vr.o ?_ ?_ ?_;rotate_left 1
      · intro V h;obtain⟨k0,k1,k2,k3⟩:=ij.o V h;go_simp;rfl
      obtain⟨z0,z1,z2,z3,z4⟩:=dx Qu.o;have f0:=aJ Qu.o 0;have f1:=aJ Qu.o 1;have f2:=aJ Qu.o 2;have f3:=aJ Qu.o 3;have f4:=aJ Qu.o 4;refine ck (rs:=[13]) (by kernel_rfl) (by simp) ?_;refine aU.cons rfl (fun K hK=>?_) aU.nil;go_simp;refine hK.out _ _ (fun g=>absurd rfl g) ?_;refine jL (by rfl) ?_ _;go_wp2_with fail
      go_meet
      case rel =>
       refine⟨_,a1,c1,a2,c2,a3,c3,rfl,?_⟩;exact CJ (V4:=w3) (cb:=w1.heap.size) (V1:=WD) (w1:=w1) (V2:=(w1.alloc (.cells #[Nl,Nl,Nl,Nl,I 0] 27))) (w2:=w2) (V3:=w2) (w3:=w3) rz.o HR1.o cT.o ((aK _ _).alloc (aM _) _) zC.o fq.o (aK _ _) Kw.o jo.o (aK _ _) Qu.o (yj.o.size) (.inr (.inl ⟨aM _,by simp⟩))
  · go_simp;refine hK.out _ _ (fun _=>?_) ?_
    · exact HS.o _ (rz.o.alloc rz.o.size (.cells #[Nl,Nl,Nl,Nl,I 0] 27))
    clear hK K
    try simp only[Act.put,bW,bV,bU]
    refine ck (rs:=[2]) (by kernel_rfl) (by simp) ?_;refine aU.cons rfl (fun K hK=>?_) aU.nil;rw[bf (by rfl)];go_simp;go_at_call 103;refine(HCS.o _ (rz.o.alloc rz.o.size (.cells #[Nl,Nl,Nl,Nl,I 0] 27))).mono ?_;rintro e w1 ⟨a1,c1,rfl,hr1,hb1⟩;have HR1:=ai hr1;have cT:=ai hb1;have yj:=ai (((rz.o.alloc rz.o.size (.cells #[Nl,Nl,Nl,Nl,I 0] 27))).trans (hb1.mono ((rz.o.alloc rz.o.size (.cells #[Nl,Nl,Nl,Nl,I 0] 27))).size));have mg:=ai (HS.o _ yj.o);have BZ1:=ai (aQ (bG WD #[Nl,Nl,Nl,Nl,I 0] 27) hb1 (by simp));clear hr1 hb1
    try go_simp
    refine hK.out _ _ (fun _=>?_) ?_
    · exact mg.o
    clear hK K
    try simp only[Act.put,bW,bV,bU]
    refine ck (rs:=[5]) (by kernel_rfl) (by simp) ?_;refine aU.cons rfl (fun K hK=>?_) aU.nil;rw[bf (by rfl)];go_simp;go_at_call 104;refine(HCF.o _ yj.o).mono ?_;rintro e w2 ⟨a2,c2,rfl,hr2,hb2⟩;have zC:=ai hr2;have fq:=ai hb2;have pH:=ai ((yj.o).trans (hb2.mono (yj.o).size));have qd:=ai (HS.o _ pH.o);have BZ2:=ai (aQ BZ1.o hb2 (aO BZ1.o));clear hr2 hb2
    try go_simp
    refine hK.out _ _ (fun _=>?_) ?_
    · exact qd.o
    clear hK K
    try simp only[Act.put,bW,bV,bU]
    refine ck (rs:=[8]) (by kernel_rfl) (by simp) ?_;refine aU.cons rfl (fun K hK=>?_) aU.nil;rw[bf (by rfl)];go_simp;go_at_call 105;refine(Oj.o _ pH.o).mono ?_;rintro e w3 ⟨a3,c3,rfl,hr3,hb3⟩;have Kw:=ai hr3;have jo:=ai hb3;have sX:=ai ((pH.o).trans (hb3.mono (pH.o).size));have vr:=ai (HS.o _ sX.o);have Qu:=ai (aQ BZ2.o hb3 (aO BZ2.o));clear hr3 hb3
    try go_simp
    refine hK.out _ _ (fun _=>?_) ?_
    · exact vr.o
    clear hK K
    try simp only[Act.put,bW,bV,bU]
    refine cB 11 vr.o ?_ ?_ ?_;rotate_left 1
    · intro V h;obtain⟨k0,k1,k2,k3⟩:=ij.o V h;go_simp;rfl
    obtain⟨z0,z1,z2,z3,z4⟩:=dx Qu.o;have f0:=aJ Qu.o 0;have f1:=aJ Qu.o 1;have f2:=aJ Qu.o 2;have f3:=aJ Qu.o 3;have f4:=aJ Qu.o 4;refine ck (rs:=[13]) (by kernel_rfl) (by simp) ?_;refine aU.cons rfl (fun K hK=>?_) aU.nil;go_simp;refine hK.out _ _ (fun g=>absurd rfl g) ?_;refine jL (by rfl) ?_ _;go_wp2_with fail
    go_meet
    case rel =>
     refine⟨_,a1,c1,a2,c2,a3,c3,rfl,?_⟩;exact CJ (V4:=w3) (cb:=WD.heap.size) (V1:=(WD.alloc (.cells #[Nl,Nl,Nl,Nl,I 0] 27))) (w1:=w1) (V2:=w1) (w2:=w2) (V3:=w2) (w3:=w3) (rz.o.alloc rz.o.size (.cells #[Nl,Nl,Nl,Nl,I 0] 27)) HR1.o cT.o (aK _ _) zC.o fq.o (aK _ _) Kw.o jo.o (aK _ _) Qu.o (rz.o.size) (.inl (by simp))
 case rest =>
  obtain⟨cb,aS,cS,aF,cF,aL,cL,rfl,abW⟩:=hcut;have cT:=ai abW.below;have HKH:Hid (∃lab,vo WA.heap.size cb wc lab (.slice aS k.aA.length cS) (.slice aF k.frames.length cF) (.slice aL k.slots.length cL) k k.aA 0):=aap abW;have c0:wc.cell? (Ad cb 0)=some (.slice aS k.aA.length cS):=aB abW.head 0 rfl;clear abW;have hks:=hs.aA;go_wp2;go_loopw [23] (fun iv wq=>∃n:Nat,∃lab hs',n<=k.aA.length/\iv=I (n:Int)/\vo WA.heap.size cb wq lab (.slice aS k.aA.length cS) (.slice aF k.frames.length cF) (.slice aL k.slots.length cL) k hs' n/\Below WA.heap.size WA wq) (fun iv _=>k.aA.length-(intOf iv).toNat)
  case atStart =>
   grind [Hid.o]
  case round =>
   obtain⟨n,lab,hs',hn,rfl,hkh,iF⟩:=hrel;by_cases hlt:n<k.aA.length
   · have hni:(n:Int)<(k.aA.length:Int):=by omega
     obtain⟨sb,rfl,hne,hsl,d0,x0,x1,x2,fz⟩:=hkh.at_ hlt;have hlS:=hkh.same.len;have hlo:WA.heap.size<=wr.heap.size:=iF.size;have hsA:WA.heap.size<=sb:=(hkh.qF sb (by rw[hkh.lS sb rfl];simp)).1;have er:bj hs' n=bj k.aA n:=hkh.rest n (aM _);have hcl:cb<wr.heap.size:=aO hkh.head;have ZT:=HFX.o wr n (gK.o.trans (iF.mono gK.o.size)) hlt;obtain⟨sh,hsh⟩:=ex (bj k.aA n);rw[<- hsh] at x0 x1 x2 ZT er;obtain⟨pg,dt,fx,ao,cp⟩:=sh;simp only at x0 x1 x2 ZT;obtain⟨Ge,hfl⟩:=ZT;obtain⟨WL,hWL⟩:=ex (wr.alloc (.cells #[I pg,.string dt,.slice ao fx.length cp] 50));have hbL:Below wr.heap.size wr WL:=by grind [Below.refl,Below.alloc]
     have BL:WL.heap[wr.heap.size]?=some (.cells #[I pg,.string dt,.slice ao fx.length cp] 50 (0,0)):=by grind [bG]
     have HCX:Hid (∀V,Below WL.heap.size WL V->Calls Tryz.prog 106 #[.slice ao fx.length cp] V fun e w'=>∃ax cx,e=.returned (.slice ax fx.length cx)/\(w'.cell? (Ad cb 0)=some (.slice (some (Ad sb 0)) k.aA.length cS)/\w'.cell? (Ad wr.heap.size 2)=some (.slice ao fx.length cp))/\((w'.setCell (Ad sb (n*3+2)) (.slice ax fx.length cx)).cell? (Ad cb 0)=some (.slice (some (Ad sb 0)) k.aA.length cS)/\(w'.setCell (Ad sb (n*3+2)) (.slice ax fx.length cx)).cell? (Ad wr.heap.size 2)=some (.slice ao fx.length cp))/\w'.cell? (Ad sb (n*3+2))=some (.slice ao fx.length cp)/\w'.frozen? (Ad sb (n*3+2))=false/\(∃lab' apg,vo WA.heap.size cb (w'.setCell (Ad sb (n*3+2)) (.slice ax fx.length cx)) lab' (.slice (some (Ad sb 0)) k.aA.length cS) (.slice aF k.frames.length cF) (.slice aL k.slots.length cL) k apg (n+1))/\Below WA.heap.size WA (w'.setCell (Ad sb (n*3+2)) (.slice ax fx.length cx))):=fun V hV=>(abD ao fx.length cp (fx.flatMap ji) V (fF ji 2 (fun _=>rfl) fx) (Ge.below (hbL.trans (hV.mono hbL.size))) (Ta _) hfl).mono fun e w' ⟨v,h1,h2,h3⟩=>by
      obtain⟨ax,cx,rfl,_⟩:=aY h2;have hb':Below WL.heap.size WL w':=hV.trans (h3.mono hV.size);have hkL:=hkh.below hbL;have hk':=hkL.below hb';have hr':=lu (base':=WL.heap.size) h2 (fun g hg=>gJ hV.size (h2.lt g hg).1);obtain⟨sb2,e2,_,avb,d2,_,_,y2,fz2⟩:=hk'.at_ hlt;injection e2 with e2;injection e2 with e2 _ _;subst e2;rw[<- hsh] at y2;obtain⟨lab',hst,_⟩:=hkL.step (n:=n) (ax:=ax) (cx:=cx) (by omega) (gJ hlo hbL.size) hb' (by grind);rw[er] at hst;have xl:w'.cell? (Ad wr.heap.size 2)=some (.slice ao fx.length cp):=aB (aQ BL hb' (aO BL)) 2 rfl;have D4:=(iF.trans (hbL.mono hlo)).trans (hb'.mono (gJ hlo hbL.size));have alA:¬wr.heap.size=sb:=fun e=>by omega
      exact⟨ax,cx,h1,⟨d2,xl⟩,⟨(fO _ _ _ _ _ _ hne).trans d2,(fO _ _ _ _ _ _ alA).trans xl⟩,y2,fz2 _,⟨lab',_,hst⟩,aH.below D4 (aH.set (fun b=>b=sb) w' (Ad sb (n*3+2)) _ rfl) D4.size (fun b e=>by omega)⟩
     have HWL:=ai hWL;have Qj:Hid (WL.drew.cell? (Ad cb 0)=some (.slice (some (Ad sb 0)) k.aA.length cS)/\WL.drew.cell? (Ad wr.heap.size 2)=some (.slice ao fx.length cp)):=⟨(hbL.drew.cell (p:=(Ad cb 0)) hcl).trans d0,aB (aQ BL (aK _ _).drew (aO BL)) 2 rfl⟩;have HDR:=ai (aK WL.heap.size WL).drew;clear hkh iF Ge hfl er hsh hWL hbL BL hlS hlo hsA HKH cT fz hcl;go_upto_region 5 with fail;rw[<- HWL.o]
     go_region_held3 (fun V=>V.cell? (Ad cb 0)=some (.slice (some (Ad sb 0)) k.aA.length cS)/\V.cell? (Ad wr.heap.size 2)=some (.slice ao fx.length cp)) (first | exact vr.o | exact Qj.o | exact HS4.o)
      ((go_at_call 106;refine(HCX.o _ HDR.o).mono ?_;rintro e w5 ⟨ax,cx,rfl,s3,s4,y2,f2,hst,D4⟩;have vr:=ai s3;have HS4:=ai s4;have HST:=ai hst;have axH:=ai D4;clear s3 s4 hst D4))
     all_goals clear Qj vr HS4 HCX
     all_goals go_wp2
     grind [intOf,Hid.o]
   · obtain rfl:n=k.aA.length:=by omega
     have ang:Hid (bQ WA.heap.size cb 27 [] wr ⟨lab,.slice aS k.aA.length cS,.slice aF k.frames.length cF,.slice aL k.slots.length cL,Nl,[]⟩ (bu ⟨k.aA,k.frames,k.slots,k.aj.take 0,k.hand⟩ hs')):=vo.done (by rw[hkh.same.len];exact hkh);have HSM:=ai hkh.same;have fq:=ai iF;have q3:wr.cell? (Ad w.heap.size 3)=some (.slice a.aP k.aj.length a.cP):=aB (aQ KB.o iF (aO KB.o)) 3 rfl;have yu:=hs.aj;clear hkh iF HKH cT;go_wp2;go_loopw [40] (fun iv wq=>∃m:Nat,∃S hs2,m<=k.aj.length/\iv=I (m:Int)/\dw k.aA hs2/\bQ WA.heap.size cb 27 [] wq S (bu ⟨k.aA,k.frames,k.slots,k.aj.take m,k.hand⟩ hs2)/\Below WA.heap.size WA wq) (fun iv _=>k.aj.length-(intOf iv).toNat)
     case atStart=>grind [Hid.o]
     case round =>
      obtain⟨m,S,hs2,hm,rfl,hsame,jn,iF⟩:=hrel;by_cases Bl:m<k.aj.length
      · have hmi:(m:Int)<(k.aj.length:Int):=by omega
        obtain⟨pb,po,hpo,hpl,Aw⟩:=HKS.o (by omega);obtain⟨va,ap,cp,v0,v1,v2,L3,Bn,_⟩:=Aw m Bl;have oU:=L3;obtain⟨aa,ca,yt,_⟩:=L3;subst yt;have hbl:Below w.heap.size w wr:=gK.o.trans (iF.mono gK.o.size);have z0:=(hbl.cell (p:=(Ad pb (po+m*3))) hpl).trans v0;have z1:=(hbl.cell (p:=(Ad pb (po+m*3+1))) hpl).trans v1;have z2:=(hbl.cell (p:=(Ad pb (po+m*3+2))) hpl).trans v2;have har:=hs.aZ m Bl;have hen:=hs.aW m Bl;have htk:=Pg k.aj m Bl;obtain⟨sp,hsp⟩:=ex (ak k.aj m);rw[<- hsp] at z0 z1 z2 har hen htk oU Bn;obtain⟨lv,nj,py⟩:=sp;simp only at z0 z1 z2 har hen oU Bn;obtain⟨bP,dP,eP,_⟩:=aY jn.aj;have hLl:S.L.length<=1000000:=by have:=jn.len;grind [bu]
        obtain⟨WL,hWL⟩:=ex (wr.alloc (.cells #[.bool lv,.slice aa nj.length ca,.slice ap py.length cp] 43));have hbL:Below wr.heap.size wr WL:=by grind [Below.refl,Below.alloc]
        have BL:WL.heap[wr.heap.size]?=some (.cells #[.bool lv,.slice aa nj.length ca,.slice ap py.length cp] 43 (0,0)):=by grind [bG]
        have WH:Below wr.heap.size wr WL.drew:=hbL.drew;have BD:WL.drew.heap[wr.heap.size]?=some (.cells #[.bool lv,.slice aa nj.length ca,.slice ap py.length cp] 43 (0,0)):=aQ BL (aK _ _).drew (aO BL);have HWL:=ai hWL;obtain⟨WD,Gn⟩:=ex WL.drew;rw[<- Gn] at WH BD;have HWD:=ai Gn;have hkD:=jn.below WH;have hlD:WA.heap.size<=WD.heap.size:=gJ iF.size WH.size;have HCP:Hid (Calls Tryz.prog 86 #[.agg #[.bool lv,.slice aa nj.length ca,.slice ap py.length cp]] WD fun e w'=>∃xa nx cx ya ny cy,e=.returned (.agg #[.bool lv,.slice xa nx cx,.slice ya ny cy])/\l6 WD.heap.size w' ⟨lv,.slice xa nx cx,.slice ya ny cy⟩ ⟨lv,nj,py⟩/\(∀b,bI (.slice ya ny cy) b->¬bI (.slice xa nx cx) b)/\Below WD.heap.size WD w'):=(Gx ⟨lv,nj,py⟩ aa ap nj.length ca cp WD (oU.below (hbl.trans (WH.mono hbl.size))) (Bn.below (hbl.trans (WH.mono hbl.size))) har hen).mono fun e w' ⟨va,vp,h1,h2,h3,h4⟩=>by
         obtain⟨xa,cx,ex,_⟩:=aY h2.aZ;obtain⟨ya,cy,ey,_⟩:=aY h2.aR
         grind
        have ako:Hid (∀V,aH (fun b=>bI S.vP b) WD V->V.cell? (Ad cb 3)=some (.slice bP S.L.length dP)/\V.cell? (Ad wr.heap.size 0)=some (.bool lv)/\V.cell? (Ad wr.heap.size 1)=some (.slice aa nj.length ca)/\V.cell? (Ad wr.heap.size 2)=some (.slice ap py.length cp)/\V.frozen? (Ad cb 3)=false):=fun V hV=>by
         have b1:=hV.keep hkD.head (fun g=>by have:=jn.lP _ g;grind [bQ.lH]);have b2:=hV.keep BD (fun g=>by have:=(jn.aj.lt _ g).2;omega);refine⟨?_,aB b2 0 rfl,aB b2 1 rfl,aB b2 2 rfl,aJ b1 3⟩;rw[<- eP];exact aB b1 3 rfl
        have Sh:Hid (∀w2 o,Below WD.heap.size WD w2->(w2.alloc o).ownsRow WA.heap.size 43 3 (.slice bP S.L.length dP) S.L.length (S.L.flatMap fL)):=fun w2 o hb=>by
         have:=((aH.b7 (D:=fun _=>False) hb).trans (aH.alloc _ w2 o) (fun _ _ g=>g)).row hkD.aj (fun _ _ g=>g)
         grind
        have Wa:Hid (∀w2 w4 O v' l,Below WD.heap.size WD w2->l6 WD.heap.size w2 l ⟨lv,nj,py⟩->(∀b,bI l.vp b->¬bI l.va b)->(w2.alloc O).grownBy w4 S.vP.ownBlock->w4.ownsRow WA.heap.size 43 3 v' (S.L.length+1) (S.L.flatMap fL++fL l)->(v'.ownBlock=S.vP.ownBlock∨v'.ownBlock=some (w2.alloc O).heap.size)->∃S',bQ WA.heap.size cb 27 [] (w4.setCell (Ad cb 3) v') S' (bu ⟨k.aA,k.frames,k.slots,k.aj.take (m+1),k.hand⟩ hs2)/\Below WA.heap.size WA (w4.setCell (Ad cb 3) v')):=fun w2 w4 O v' l h1 h2 h3 h4 h5 h6=>by
         have m1:=hkD.push hlD h1 h2 h3 h4 h5 h6;have m2:=m1.1;rw[htk];have D4:=iF.trans (WH.mono iF.size);exact⟨_,m2,aH.below D4 m1.2.2 D4.size (fun b hb=>(hkD.qF b hb).1)⟩
        have atY:=ai hsame;have Ku:Hid (∀w2,Below WD.heap.size WD w2->aH (fun b=>bI S.vP b) WD w2):=fun w2 h=>aH.b7 h
        have HEP:=ai eP;obtain⟨i0,hin,hz0,hz1,hz2⟩:=iq Lc;have tP:=ai hin;have Dg:=ai hz0;have Df:=ai hz1;have BI:=ai hz2;clear jn hkD iF hbl v0 v1 v2 oU Bn har hen htk hsp hWL Gn hbL BL WH BD Aw ang HSM fq hsame eP hin hz0 hz1 hz2;rw[hpo];go_upto_region 10 with fail;rw[<- HWL.o];refine nB (S:=fun V=>aH (fun b=>bI S.vP b) WD V) (z:=7) (by rfl) ?_;rw[<- HWD.o];have ij:=ako;have gj:Hid (aH (fun b=>bI S.vP b) WD WD):=aH.refl _ _;refine cB 0 gj.o ?_ ?_ ?_;rotate_left 1
        · intro V h;rfl
        refine cB 1 gj.o ?_ ?_ ?_;rotate_left 1
        · intro V h;obtain⟨k0,k1,k2,k3,k4⟩:=ij.o V h;go_simp;rfl
        refine cB 2 gj.o ?_ ?_ ?_;rotate_left 1
        · intro V h;obtain⟨k0,k1,k2,k3,k4⟩:=ij.o V h;go_simp;rfl
        refine ck (rs:=[3]) (by kernel_rfl) (by simp) ?_;refine aU.cons rfl (fun K hK=>?_) aU.nil;rw[bf (by rfl)];go_simp;go_at_call 86;refine HCP.o.mono ?_;rintro e w2 ⟨xa,nx,cx,ya,ny,cy,rfl,hso,hap,hb2⟩;have DY:=ai hso;have HAP:=ai hap;have fq:=ai hb2;have qd:=ai (Ku.o _ hb2);clear hso hap hb2;try go_simp;refine hK.out _ _ (fun _=>?_) ?_
        · exact qd.o
        clear hK K
        try simp only[Act.put,bW,bV,bU]
        refine ck (rs:=[4]) (by kernel_rfl) (by simp) ?_;refine aU.cons rfl (fun K hK=>?_) aU.nil;go_simp;refine hK.out _ _ (fun _=>?_) ?_
        · exact qd.o.trans (aH.alloc _ _ _) (fun _ _ g=>g)
        clear hK K
        try simp only[Act.put,bW,bV,bU]
        have apf:=fq.o.size;refine ck (rs:=[5]) (by kernel_rfl) (by simp) ?_;refine aU.cons rfl (fun K hK=>?_) aU.nil;rw[bf (by rfl)];refine eK (P:=Tryz.prog) _ _ 25 rfl WA.heap.size 43 i0 (.agg #[.bool false,Nl,Nl]) 3 56 Tryz.underlying25 tP.o Dg.o Df.o BI.o rfl (by decide) (.slice bP S.L.length dP) S.L.length (S.L.flatMap fL) rfl (Sh.o _ _ fq.o) (some (Ad w2.heap.size 0)) 1 1 (fL ⟨lv,.slice xa nx cx,.slice ya ny cy⟩) rfl rfl (fun _=>⟨_,rfl,SZ w2 _ _⟩) (by intro u hu;simp[fL] at hu;rcases hu with rfl | rfl | rfl <;> rfl) (by grind [maxLen]) (by omega) (by grind [World.size_alloc]) ?_;intro vG wG zu Ce D5;obtain⟨aG,cG,MT,_,_⟩:=aY zu;subst MT;rw[<- HEP.o] at Ce D5;have BJ:Hid (aH (fun b=>bI S.vP b) WD wG):=(qd.o.trans (aH.alloc _ _ _) (fun _ _ g=>g)).trans (aH.grown Ce (fun q hq=>hq)) (fun _ _ g=>g);have HPF:=ai (Wa.o w2 wG _ _ ⟨lv,.slice xa nx cx,.slice ya ny cy⟩ fq.o DY.o HAP.o Ce zu D5);clear zu Ce D5;refine hK.out _ _ (fun _=>?_) ?_
        · exact BJ.o
        clear hK K
        try simp only[Act.put,bW,bV,bU]
        refine cB 6 BJ.o ?_ ?_ ?_;rotate_left 1
        · intro V h;rfl
        obtain⟨k0,k1,k2,k3,k4⟩:=ij.o _ BJ.o;refine ck (rs:=[7]) (by kernel_rfl) (by simp) ?_;refine aU.cons rfl (fun K hK=>?_) aU.nil;go_simp;refine hK.out _ _ (fun g=>absurd rfl g) ?_;refine jL (by rfl) ?_ _;go_wp2;go_roundw
        case rel =>
         obtain⟨S',h1,h2⟩:=HPF.o
         grind [Hid.o]
        grind [intOf]
      · obtain rfl:m=k.aj.length:=by omega
        rw[tF] at jn;obtain⟨bS,nS,dS,eS⟩:∃b n d,S.vS=.slice b n d:=by obtain⟨b,d,e,_⟩:=aY jn.aA;grind
        obtain⟨bF,nF,dF,eF⟩:∃b n d,S.vF=.slice b n d:=by obtain⟨b,d,e,_⟩:=aY jn.frames;grind
        obtain⟨bL,nL,dL,eL⟩:∃b n d,S.vL=.slice b n d:=by obtain⟨b,d,e,_⟩:=aY jn.slots;grind
        obtain⟨bP,nP,dP,eP⟩:∃b n d,S.vP=.slice b n d:=by obtain⟨b,d,e,_⟩:=aY jn.aj;grind
        have c0:=jn.c0;have c1:=jn.c1;have c2:=jn.c2;have c3:=jn.c3;have c4:wr.cell? (Ad cb 4)=some (I k.hand):=jn.c4;rw[eS] at c0;rw[eF] at c1;rw[eL] at c2;rw[eP] at c3;have R1:=aQ RB.o iF (aO RB.o);obtain⟨y0,y1,y2,y3,y4⟩:=dx R1;have f0:=aJ R1 0;have f1:=aJ R1 1;have f2:=aJ R1 2;have f3:=aJ R1 3;have f4:=aJ R1 4;have ID:w.heap.size+1<WA.heap.size:=aO RB.o;have hbl:Below w.heap.size w wr:=gK.o.trans (iF.mono gK.o.size);have cZ:Hid (∀V,aH (fun b=>b=w.heap.size+1) wr V->P (.returned (.agg #[.slice bS nS dS,.slice bF nF dF,.slice bL nL dL,.slice bP nP dP,I k.hand])) V):=fun V hV=>by
         rw[HP.o];refine⟨S,hs2,hsame,by grind,(jn.toiZ.kp hV (fun b hb e=>by have:=(jn.qF b hb).1;omega)).mono (by omega),?_⟩
         grind [aH.below]
        have h5:Hid (∀s f l p h,(((((wr.setCell (Ad (w.heap.size+1) 0) s).setCell (Ad (w.heap.size+1) 1) f).setCell (Ad (w.heap.size+1) 2) l).setCell (Ad (w.heap.size+1) 3) p).setCell (Ad (w.heap.size+1) 4) h).heap[w.heap.size+1]?=some (.cells #[s,f,l,p,h] 27 (0,0))/\aH (fun b=>b=w.heap.size+1) wr (((((wr.setCell (Ad (w.heap.size+1) 0) s).setCell (Ad (w.heap.size+1) 1) f).setCell (Ad (w.heap.size+1) 2) l).setCell (Ad (w.heap.size+1) 3) p).setCell (Ad (w.heap.size+1) 4) h)):=fun s f l p h=>⟨dG (dG (dG (dG (dG R1 0 s) 1 f) 2 l) 3 p) 4 h,((((aH.set (fun b=>b=w.heap.size+1) wr (Ad (w.heap.size+1) 0) s rfl).trans (aH.set (fun b=>b=w.heap.size+1) _ (Ad (w.heap.size+1) 1) f rfl) (fun _ _ g=>g)).trans (aH.set (fun b=>b=w.heap.size+1) _ (Ad (w.heap.size+1) 2) l rfl) (fun _ _ g=>g)).trans (aH.set (fun b=>b=w.heap.size+1) _ (Ad (w.heap.size+1) 3) p rfl) (fun _ _ g=>g)).trans (aH.set (fun b=>b=w.heap.size+1) _ (Ad (w.heap.size+1) 4) h rfl) (fun _ _ g=>g)⟩
        clear jn iF hsame eS eF eL eP ID hbl ang HSM fq R1;go_wp2;obtain⟨q1,q2⟩:=h5.out (.slice bS nS dS) (.slice bF nF dF) (.slice bL nL dL) (.slice bP nP dP) (I k.hand);obtain⟨y0,y1,y2,y3,y4⟩:=dx q1;refine bR (v:=.agg #[.slice bS nS dS,.slice bF nF dF,.slice bL nL dL,.slice bP nP dP,I k.hand]) (by simp[results,Tryz.results55,go_sem,y0,y1,y2,y3,y4]) rfl ?_;exact cZ.o _ q2
end Go.Proofs.YtpgifpeohlllfaaGreat
end Go.Proofs.YtpgifpeohlllfaaGreat
