import Derived.Test.YtpgifpeohlllfaaGreatGR34
set_option maxHeartbeats 20000000
set_option linter.unusedVariables false
set_option maxRecDepth 100000
set_option linter.unusedSimpArgs false
namespace Go.Proofs.YtpgifpeohlllfaaGreat
open Go.RowKit
theorem Uo {w:World} {a:fR} {k:aN} (h:gD w a k):og 0 k (bg a k) w:=⟨k.aD,a,rfl,rfl,fun U hU=>h.below (aM.below (aK _ _) hU (aI _) (fun b hb=>absurd hb (gN _)))⟩
theorem Ul (Hk:sG) (k:aN) (a:fR) (sp ad n way:Int) (l:List aZ) (hs:List bR) (en:Int) (aa ah:Option Addr) (na ca ch:Nat) (w:World) (hK:gD w a k) (hF:iI k) (hsp:eY sp) (had:eY ad) (b1:fu w (.slice aa na ca) l) (b2:fU l) (b3:fX w ah hs) (b4:nk hs) (b5:hs.length<=ch) (b6:eY en)
  (hbg:∀V,Calls Tryz.prog 15 #[] V fun e w'=>e=.returned (.bool true)/\Below V.heap.size V w') :
  Calls Tryz.prog 3 #[.agg (bg a k),I sp,I ad,I n,I way,.agg #[.slice aa na ca,.slice ah hs.length ch,I en]] w fun e w'=>e=.returned (.bool true)/\Below w.heap.size w w':=by
 obtain⟨WA,jG⟩:=ex ((w.alloc (.cells (bg a k) 27)).alloc (.cells #[.slice aa na ca,.slice ah hs.length ch,I en] 30));have hb0:Below w.heap.size w WA:=by rw[jG];exact((aK _ _).alloc (aI _) _).alloc (by simp) _
 have kb:WA.heap[w.heap.size]?=some (.cells (bg a k) 27 (0,0)):=by rw[jG];exact bM (bO w _ _) _
 have lb:WA.heap[w.heap.size+1]?=some (.cells #[.slice aa na ca,.slice ah hs.length ch,I en] 30 (0,0)):=by rw[jG];exact kX _ _ _ _
 have KB:Hid (∀V,Below WA.heap.size WA V->V.heap[w.heap.size]?=some (.cells #[.slice a.aS k.aD.length a.cS,.slice a.aF k.frames.length a.cF,.slice a.aL k.slots.length a.cL,.slice a.aP k.aj.length a.cP,I k.hand] 27 (0,0))):=fun V hb=>aQ kb hb (aT kb)
 have LB:Hid (∀V,Below WA.heap.size WA V->V.heap[w.heap.size+1]?=some (.cells #[.slice aa na ca,.slice ah hs.length ch,I en] 30 (0,0))):=fun V hb=>aQ lb hb (aT lb)
 have jQ:∀{V:World},Below WA.heap.size WA V->Below w.heap.size w V:=fun hV=>hb0.trans (hV.mono hb0.size)
 have lI:=ai jG;have eU:=ai hb0;have HBG:=ai hbg;have HCR:Hid (∀V,Below WA.heap.size WA V->Calls Tryz.prog 14 #[.agg (bg a k)] V fun e w'=>e=.returned (I (eZ k))/\Below V.heap.size V w'):=fun V hV=>by
  have:=Gs k a V (hK.below (jQ hV)) hF;rw[DW] at this;exact this
 have hC:=acY k sp ad n way;obtain⟨KA,hKA⟩:∃K1,K1=(gz k sp ad n way).1:=⟨_,rfl⟩;obtain⟨x1,hx1⟩:∃f1,f1=(gz k sp ad n way).2.1.1:=⟨_,rfl⟩;obtain⟨x2,hx2⟩:∃f2,f2=(gz k sp ad n way).2.1.2:=⟨_,rfl⟩;obtain⟨er,her⟩:=ex ((gz k sp ad n way).2.2);rw[<- hKA,<- hx1,<- hx2,<- her] at hC;have RX:Hid (∀V,Below WA.heap.size WA V->Calls Tryz.prog 17 #[.agg (bg a k),I sp,I ad,I n,I way] V fun e w'=>∃s1 kX q1 s2 n2 q2 s3 n3 q3 s4 n4 q4 hd D,e=.returned (.tuple #[.agg #[.slice s1 kX q1,.slice s2 n2 q2,.slice s3 n3 q3,.slice s4 n4 q4,I hd],.agg #[I x1,I x2],I er])/\og V.heap.size KA #[.slice s1 kX q1,.slice s2 n2 q2,.slice s3 n3 q3,.slice s4 n4 q4,I hd] w'/\Pk V.heap.size w' D s1 kX s2 n2 s4 n4/\Below V.heap.size V w'):=fun V hV=>by
  have:=QA Hk k a sp ad n way V (hK.below (jQ hV)) hF hsp had;rw[<- hKA,<- hx1,<- hx2,<- her] at this;refine this.mono fun e w' h=>?_
  obtain⟨s1,kX,q1,s2,n2,q2,s3,n3,q3,s4,n4,q4,hd,D,g1,g2,g3,_,g4⟩:=Mk h;exact⟨s1,kX,q1,s2,n2,q2,s3,n3,q3,s4,n4,q4,hd,D,g1,g2,g3,g4⟩
 obtain⟨KN,hKN⟩:∃K1,K1=(uk l hs en 3 512).1:=⟨_,rfl⟩;obtain⟨fe,EP⟩:∃er,er=(uk l hs en 3 512).2:=⟨_,rfl⟩;have HNW:Hid (∀V,Below WA.heap.size WA V->Calls Tryz.prog 18 #[.agg #[.slice aa na ca,.slice ah hs.length ch,I en],I 3,I 512] V fun e w'=>∃s1 kX q1 s2 n2 q2 s3 n3 q3 s4 n4 q4 hd,e=.returned (.tuple #[.agg #[.slice s1 kX q1,.slice s2 n2 q2,.slice s3 n3 q3,.slice s4 n4 q4,I hd],I fe])/\og V.heap.size KN #[.slice s1 kX q1,.slice s2 n2 q2,.slice s3 n3 q3,.slice s4 n4 q4,I hd] w'/\Ml V.heap.size w' s1 kX/\Below V.heap.size V w'):=fun V hV=>by
  have:=Lx Hk l hs en 3 512 (.slice aa na ca) ah ch V (b1.below (jQ hV)) b2 (b3.below (jQ hV)) b4 b5 b6;rw[<- hKN,<- EP] at this;refine this.mono fun e w' h=>?_
  obtain⟨s1,kX,q1,s2,n2,q2,s3,n3,q3,s4,n4,q4,hd,D,g1,g2,_,g3,g4⟩:=Mk h;exact⟨s1,kX,q1,s2,n2,q2,s3,n3,q3,s4,n4,q4,hd,g1,g2,g3,g4⟩
 have hcs:=Rq l hs en 3 512;have HNK:Hid (fe=0->(∀hs1,cW KN.aD hs1->iI (bN KN hs1))/\∀V,Below WA.heap.size WA V->Calls Tryz.prog 22 #[.agg #[.slice aa na ca,.slice ah hs.length ch,I en],I 3,I 512] V fun e w'=>∃s1 kX q1 s2 n2 q2 s3 n3 q3 s4 n4 q4 hd,e=.returned (.agg #[.slice s1 kX q1,.slice s2 n2 q2,.slice s3 n3 q3,.slice s4 n4 q4,I hd])/\og V.heap.size KN #[.slice s1 kX q1,.slice s2 n2 q2,.slice s3 n3 q3,.slice s4 n4 q4,I hd] w'/\Below V.heap.size V w'):=fun h0=>by
  rcases hcs with⟨_,g2⟩ | ⟨g1,g2,g3,g4,g5,g6⟩
  · exact absurd (EP.symm.trans h0) g2
  · have e:KN=rp l hs 3 512:=by rw[hKN,g6]
    rw[e];exact⟨fun hs1 s=>WJ g1 g3 g5 s,fun V hV=>(H3 l hs en 3 512 (.slice aa na ca) ah ch V (b1.below (jQ hV)) (b3.below (jQ hV)) g1 g2 g3 g4 g5).mono fun e w' h=>Il h⟩
 have rD:Hid (∀V,Below WA.heap.size WA V->Calls Tryz.prog 19 #[.agg (bg a k),I sp,I n,I way] V fun e w'=>e=.returned (I er)/\Below V.heap.size V w'):=fun V hV=>by
  have:=Gq k a sp n way V (hK.below (jQ hV)) hF hsp;rw[hC.err] at this;exact this
 have xx:=ai (Oc (Rp hC).1);have HRO:Hid (er=0->x1=0->∀V,Below WA.heap.size WA V->Calls Tryz.prog 21 #[.agg (bg a k),I sp,I ad,I n,I way] V fun e w'=>∃s1 kX q1 s2 n2 q2 s3 n3 q3 s4 n4 q4 hd,e=.returned (.agg #[.slice s1 kX q1,.slice s2 n2 q2,.slice s3 n3 q3,.slice s4 n4 q4,I hd])/\og V.heap.size KA #[.slice s1 kX q1,.slice s2 n2 q2,.slice s3 n3 q3,.slice s4 n4 q4,I hd] w'/\Below V.heap.size V w'):=fun h0 hz V hV=>by
  obtain⟨j,g1,g2,g3,g4,g5,g6,g7⟩:=hC.good h0;have:=LQ k a j ad n way V (hK.below (jQ hV)) hF g3 g2 g4 (by rw[g5];exact hz);rw[<- g7 hz,<- g1] at this;exact this.mono fun e w' h=>Il h
 have HOW:Hid (eZ k=0->(∀hs1,cW k.aD hs1->iI (bN k hs1))/\∀V,Below WA.heap.size WA V->Calls Tryz.prog 16 #[.agg (bg a k)] V fun e w'=>∃s1 kX q1 s2 n2 q2 s3 n3 q3 s4 n4 q4 hd,e=.returned (.agg #[.slice s1 kX q1,.slice s2 n2 q2,.slice s3 n3 q3,.slice s4 n4 q4,I hd])/\og V.heap.size k #[.slice s1 kX q1,.slice s2 n2 q2,.slice s3 n3 q3,.slice s4 n4 q4,I hd] w'/\Below V.heap.size V w'):=fun h0=>by
  have hR:=(nJ k).1 h0;exact⟨fun hs1 s=>o5 (hR.Du s),fun V hV=>(Ev k a V (hK.below (jQ hV)) (sF hR hF)).mono fun e w' h=>Il h⟩
 have HKK:Hid (og 0 k (bg a k) WA):=Uo (hK.below hb0);obtain⟨CK,hCK⟩:=ex (eZ k);rw[<- hCK] at HCR HOW;obtain⟨k0,k1,k2,k3,k4⟩:=fy (KB.o WA (aK _ _));unfold bg at lI HCR RX rD HRO HOW HKK ⊢;clear hb0 lb kb jG hbg b1 b2 b3 b4 b5 b6 hK hF jQ hCK Hk hC hKA hx1 hx2 her hKN EP hcs hsp had;obtain⟨kx,hkx⟩:=ex w.heap.size;obtain⟨lx,hlx⟩:=ex (w.heap.size+1);by_cases c:CK=0
 case neg =>
  have cb:(CK==0)=false:=by simpa using c
  clear c hkx hlx;go_enter Tryz.func3,Tryz.ntmps3;go_upto_region 1 with fail;rw[<- lI.o];go_wp2_with (first
   | (go_at_call 14;refine(HCR.o _ (aK _ _)).mono ?_;rintro e w1 ⟨rfl,hb1⟩;have dz:=ai hb1;clear hb1)
   | (go_at_call 15;refine(HBG.o _).mono ?_;rintro e w2 ⟨rfl,hb2⟩;have gj:=ai hb2;clear hb2))
  go_ret;exact⟨rfl,eU.o.trans ((dz.o.trans (gj.o.mono dz.o.size)).mono eU.o.size)⟩
 obtain⟨HFK,how⟩:=HOW.o c;have HOWN:=ai how;have anO:=ai HFK;subst c;clear how HFK HOW;go_enter Tryz.func3,Tryz.ntmps3;go_upto_region 1 with fail;rw[<- lI.o,<- hlx,<- hkx];rw[<- hkx] at KB k0 k1 k2 k3 k4;rw[<- hlx] at LB;clear hkx hlx;go_upto_region 3 with(go_at_call 14;refine(HCR.o _ (aK _ _)).mono ?_;rintro e w1 ⟨rfl,hb1⟩;have dz:=ai hb1;clear hb1)
 clear k0 k1 k2 k3 k4;obtain⟨k0,k1,k2,k3,k4⟩:=fy (KB.o _ dz.o);go_upto_region 4 with(go_at_call 16;refine(HOWN.o _ dz.o).mono ?_;rintro e w2 ⟨sW1,nW1,qW1,sW2,nW2,qW2,sW3,nW3,qW3,sW4,nW4,qW4,hdW,rfl,hk2,hb2⟩;have HKW:=ai hk2;have gj:=ai hb2;clear hk2 hb2)
 obtain⟨W2,hW2⟩:=ex (w2.alloc (.cells #[.slice sW1 nW1 qW1,.slice sW2 nW2 qW2,.slice sW3 nW3 qW3,.slice sW4 nW4 qW4,I hdW] 27));have Zv:Hid (Below w2.heap.size w2 W2):=by rw[hW2];exact(aK _ _).alloc (aI _) _
 have NW:Hid (W2.heap[w2.heap.size]?=some (.cells #[.slice sW1 nW1 qW1,.slice sW2 nW2 qW2,.slice sW3 nW3 qW3,.slice sW4 nW4 qW4,I hdW] 27 (0,0))):=by rw[hW2];exact bO w2 _ _
 have wj:Hid (Below WA.heap.size WA W2):=(dz.o.trans (gj.o.mono dz.o.size)).trans (Zv.o.mono (gy dz.o.size gj.o.size));have HWS:Hid (∀U,Below W2.heap.size W2 U->aM (fun b=>b<w1.heap.size) w2 U):=fun U hU=>aM.cH (Zv.o.trans (hU.mono Zv.o.size))
 obtain⟨bw,jQ⟩:∃b,b=w2.heap.size:=⟨_,rfl⟩;rw[<- hW2];rw[<- jQ] at NW ⊢;clear hW2 jQ k0 k1 k2 k3 k4 Zv;obtain⟨k0,k1,k2,k3,k4⟩:=fy (KB.o _ wj.o);go_upto_region 5 with(go_at_call 17;refine(RX.o _ wj.o).mono ?_;rintro e w3 ⟨s31,n31,q31,s32,n32,q32,s33,n33,q33,s34,n34,q34,hd3,D,rfl,hk3,hw3,hb3⟩;have adm:=ai hw3;have kJ:=ai hb3;clear hk3 hb3 hw3)
 obtain⟨W3,hW3⟩:=ex ((w3.alloc (.cells #[.slice s31 n31 q31,.slice s32 n32 q32,.slice s33 n33 q33,.slice s34 n34 q34,I hd3] 27)).alloc (.cells #[I x1,I x2] 36));have Oh:Hid (Below w3.heap.size w3 W3):=by rw[hW3];exact((aK _ _).alloc (aI _) _).alloc (by simp) _
 have N3:Hid (W3.heap[w3.heap.size]?=some (.cells #[.slice s31 n31 q31,.slice s32 n32 q32,.slice s33 n33 q33,.slice s34 n34 q34,I hd3] 27 (0,0))):=by rw[hW3];exact bM (bO w3 _ _) _
 obtain⟨b3,hb3⟩:∃b,b=w3.heap.size:=⟨_,rfl⟩;have HND:Hid (¬D b3):=fun h=>by have:=(adm.o.low b3 h).2;omega
 have p9:Hid (Pk W2.heap.size W3 D s31 n31 s32 n32 s34 n34):=Um adm.o Oh.o;have Al:Hid (Below W2.heap.size W2 W3):=kJ.o.trans (Oh.o.mono kJ.o.size);obtain⟨l1,l2,l4⟩:=adm.o.le;rw[<- hW3];rw[<- hb3] at N3 ⊢;clear hW3 hb3 k0 k1 k2 k3 k4 Oh adm kJ;have gu:Hid (pY D W3 W3):=pY.refl _ _;go_wp2;go_loopw [17] (fun iv wq=>∃i:Nat,i<=n32/\iv=I (i:Int)/\pY D W3 wq) (fun iv _=>n32-(intOf iv).toNat)
 case atStart=>exact⟨0,by omega,rfl,gu.o⟩
 case round =>
  obtain⟨i,hi,rfl,hsp⟩:=hrel;have uT:=ai hsp;obtain⟨c0,c1,c2,c3,c4⟩:=fy (hsp.kp.keep N3.o HND.o);clear hsp;by_cases c:i<n32
  · obtain⟨g,rfl,hD,hx,hz⟩:=(p9.o.fr i c).at_ uT.o;obtain⟨v0,e0⟩:=hx 0 (by omega);obtain⟨v1,e1⟩:=hx 1 (by omega);obtain⟨v2,e2⟩:=hx 2 (by omega);obtain⟨v3,e3⟩:=hx 3 (by omega);rw[fW] at e0;have f0:=hz (i*4);have f1:=hz (i*4+1);have f2:=hz (i*4+2);have f3:=hz (i*4+3);have HD:=ai hD;have hci:(i:Int)<(n32:Int):=by omega
    clear hx hz hD;go_wp2;go_roundw
    case rel=>exact⟨i+1,by omega,by go_num,(((uT.o.set HD.o _ _).set HD.o _ _).set HD.o _ _).set HD.o _ _⟩
    case measure=>simp[intOf];omega
  have hci:¬(i:Int)<(n32:Int):=by omega
  clear c hi;go_wp2;clear hci;obtain⟨V1,hV1⟩:=ex wr;rw[<- hV1] at uT ⊢;clear hV1 c0 c1 c2 c3 c4;go_loopw [18] (fun iv wq=>∃i:Nat,i<=n34/\iv=I (i:Int)/\pY D W3 wq) (fun iv _=>n34-(intOf iv).toNat)
  case atStart=>exact⟨0,by omega,rfl,uT.o⟩
  case round =>
   obtain⟨i,hi,rfl,hsp⟩:=hrel;have uT:=ai hsp;obtain⟨c0,c1,c2,c3,c4⟩:=fy (hsp.kp.keep N3.o HND.o);clear hsp;by_cases c:i<n34
   · obtain⟨pb,ea,en1,eq1,ar,an1,aq1,rfl,hcl,⟨OJ,hl2⟩,hpe,hpa⟩:=p9.o.sp i c;have Jj:=ai hcl;have HPE:=ai hpe;have YA:=ai hpa;have hci:(i:Int)<(n34:Int):=by omega
     clear hcl hpe hpa;go_wp2;obtain⟨V2,hV2⟩:∃V1,V1=wr:=⟨_,rfl⟩;rw[<- hV2] at uT ⊢;clear hV2 c0 c1 c2 c3 c4;go_loopw [19] (fun iv wq=>∃j:Nat,j<=en1/\iv=I (j:Int)/\pY D W3 wq) (fun iv _=>en1-(intOf iv).toNat)
     case atStart=>exact⟨0,by omega,rfl,uT.o⟩
     case round =>
      obtain⟨j,hj,rfl,hsp⟩:=hrel;have Vl:=ai hsp;obtain⟨c0,c1,c2,c3,c4⟩:=fy (hsp.kp.keep N3.o HND.o);obtain⟨d1,d2⟩:=Jj.o _ hsp.kp;clear hsp;by_cases cj:j<en1
      · obtain⟨g,rfl,hD,hx,hz⟩:=(HPE.o j cj).at_ Vl.o;obtain⟨v0,e0⟩:=hx 0 (by omega);obtain⟨v1,e1⟩:=hx 1 (by omega);obtain⟨v2,e2⟩:=hx 2 (by omega);rw[fW] at e0;have f0:=hz (j*3);have f1:=hz (j*3+1);have f2:=hz (j*3+2);have HD:=ai hD;have hcj:(j:Int)<(en1:Int):=by omega
        clear hx hz hD;go_wp2;go_roundw
        case rel=>exact⟨j+1,by omega,by go_num,((Vl.o.set HD.o _ _).set HD.o _ _).set HD.o _ _⟩
        case measure=>simp[intOf];omega
      have hcj:¬(j:Int)<(en1:Int):=by omega
      clear cj hj;go_wp2;clear hcj;obtain⟨V3,AE⟩:∃V1,V1=wr:=⟨_,rfl⟩;rw[<- AE] at Vl ⊢;clear AE c0 c1 c2 c3 c4 d1 d2;go_loopw [20] (fun iv wq=>∃j:Nat,j<=an1/\iv=I (j:Int)/\pY D W3 wq) (fun iv _=>an1-(intOf iv).toNat)
      case atStart=>exact⟨0,by omega,rfl,Vl.o⟩
      case round =>
       obtain⟨j,hj,rfl,hsp⟩:=hrel;have Vk:=ai hsp;obtain⟨c0,c1,c2,c3,c4⟩:=fy (hsp.kp.keep N3.o HND.o);obtain⟨d1,d2⟩:=Jj.o _ hsp.kp;clear hsp;by_cases cj:j<an1
       · obtain⟨g,rfl,hD,hx,hz⟩:=(YA.o j cj).at_ Vk.o;obtain⟨v0,e0⟩:=hx 0 (by omega);obtain⟨v1,e1⟩:=hx 1 (by omega);obtain⟨v2,e2⟩:=hx 2 (by omega);obtain⟨v3,e3⟩:=hx 3 (by omega);rw[fW] at e0;have f0:=hz (j*4);have f1:=hz (j*4+1);have f2:=hz (j*4+2);have f3:=hz (j*4+3);have HD:=ai hD;have hcj:(j:Int)<(an1:Int):=by omega
         clear hx hz hD;go_wp2;go_roundw
         case rel=>exact⟨j+1,by omega,by go_num,(((Vk.o.set HD.o _ _).set HD.o _ _).set HD.o _ _).set HD.o _ _⟩
         case measure=>simp[intOf];omega
       have hcj:¬(j:Int)<(an1:Int):=by omega
       clear cj hj;go_wp2;go_roundw
       case rel=>exact⟨i+1,by omega,by go_num,Vk.o⟩
       case measure=>simp[intOf];omega
   have hci:¬(i:Int)<(n34:Int):=by omega
   clear c hi;go_wp2;clear hci;obtain⟨V4,hV4⟩:∃V1,V1=wr:=⟨_,rfl⟩;rw[<- hV4] at uT ⊢;clear hV4 c0 c1 c2 c3 c4;go_loopw [21] (fun iv wq=>∃i:Nat,i<=n31/\iv=I (i:Int)/\pY D W3 wq) (fun iv _=>n31-(intOf iv).toNat)
   case atStart=>exact⟨0,by omega,rfl,uT.o⟩
   case round =>
    obtain⟨i,hi,rfl,hsp⟩:=hrel;have uT:=ai hsp;obtain⟨c0,c1,c2,c3,c4⟩:=fy (hsp.kp.keep N3.o HND.o);clear hsp;by_cases c:i<n31
    · obtain⟨pb,ea,en1,eq1,rfl,hcl,OJ,hpe⟩:=p9.o.sh i c;have Jj:=ai hcl;have HPE:=ai hpe;have hci:(i:Int)<(n31:Int):=by omega
      clear hcl hpe;go_wp2;obtain⟨V5,hV5⟩:∃V1,V1=wr:=⟨_,rfl⟩;rw[<- hV5] at uT ⊢;clear hV5 c0 c1 c2 c3 c4;go_loopw [22] (fun iv wq=>∃j:Nat,j<=en1/\iv=I (j:Int)/\pY D W3 wq) (fun iv _=>en1-(intOf iv).toNat)
      case atStart=>exact⟨0,by omega,rfl,uT.o⟩
      case round =>
       obtain⟨j,hj,rfl,hsp⟩:=hrel;have Vl:=ai hsp;obtain⟨c0,c1,c2,c3,c4⟩:=fy (hsp.kp.keep N3.o HND.o);have d2:=Jj.o _ hsp.kp;clear hsp;by_cases cj:j<en1
       · obtain⟨g,rfl,hD,hx,hz⟩:=(HPE.o j cj).at_ Vl.o;obtain⟨v0,e0⟩:=hx 0 (by omega);obtain⟨v1,e1⟩:=hx 1 (by omega);rw[fW] at e0;have f0:=hz (j*2);have f1:=hz (j*2+1);have HD:=ai hD;have hcj:(j:Int)<(en1:Int):=by omega
         clear hx hz hD;go_wp2;go_roundw
         case rel=>exact⟨j+1,by omega,by go_num,(Vl.o.set HD.o _ _).set HD.o _ _⟩
         case measure=>simp[intOf];omega
       have hcj:¬(j:Int)<(en1:Int):=by omega
       clear cj hj;go_wp2;go_roundw
       case rel=>exact⟨i+1,by omega,by go_num,Vl.o⟩
       case measure=>simp[intOf];omega
    have hci:¬(i:Int)<(n31:Int):=by omega
    clear c hi;go_upto_region 27 with fail;clear hci;obtain⟨V4,hV4⟩:∃V1,V1=wr:=⟨_,rfl⟩;rw[<- hV4] at uT ⊢;clear hV4 c0 c1 c2 c3 c4;have HV4:Hid (Below W2.heap.size W2 V4):=aM.below Al.o uT.o.kp Al.o.size (fun b hb=>(p9.o.low b hb).1);clear uT N3 HND p9 Al gu l1 l2 l4;have HA4:Hid (Below WA.heap.size WA V4):=wj.o.trans (HV4.o.mono wj.o.size);obtain⟨m0,m1,m2⟩:=nV (LB.o _ HA4.o);go_upto_region 28 with(go_at_call 18;refine(HNW.o _ HA4.o).mono ?_;rintro e w5 ⟨s51,n51,q51,s52,n52,q52,s53,n53,q53,s54,n54,q54,hd5,rfl,P9,hd5,Bk⟩;have HD5:=ai hd5;have EJ:=ai Bk;clear P9 hd5 Bk)
    obtain⟨W5,ZT⟩:=ex (w5.alloc (.cells #[.slice s51 n51 q51,.slice s52 n52 q52,.slice s53 n53 q53,.slice s54 n54 q54,I hd5] 27));have HX5:Hid (Below w5.heap.size w5 W5):=by rw[ZT];exact(aK _ _).alloc (aI _) _
    have N5:Hid (W5.heap[w5.heap.size]?=some (.cells #[.slice s51 n51 q51,.slice s52 n52 q52,.slice s53 n53 q53,.slice s54 n54 q54,I hd5] 27 (0,0))):=by rw[ZT];exact bO w5 _ _
    obtain⟨b5,Bk⟩:∃b,b=w5.heap.size:=⟨_,rfl⟩;have aiP:Hid (¬s51=some (Ad b5 0)):=fun h=>by have:=(HD5.o.low b5 h).2;omega
    have M5:Hid (Ml V4.heap.size W5 s51 n51):=Uq HD5.o HX5.o;have HA5:Hid (Below V4.heap.size V4 W5):=EJ.o.trans (HX5.o.mono EJ.o.size);have l5:=HD5.o.le;rw[<- ZT];rw[<- Bk] at N5 ⊢;clear ZT Bk m0 m1 m2 HX5 HD5 EJ;have HS5:Hid (pY (fun b=>s51=some (Ad b 0)) W5 W5):=pY.refl _ _;go_wp2;go_loopw [25] (fun iv wq=>∃i:Nat,i<=n51/\iv=I (i:Int)/\pY (fun b=>s51=some (Ad b 0)) W5 wq) (fun iv _=>n51-(intOf iv).toNat)
    case atStart=>exact⟨0,by omega,rfl,HS5.o⟩
    case round =>
     obtain⟨i,hi,rfl,hsp⟩:=hrel;have uT:=ai hsp;obtain⟨c0,c1,c2,c3,c4⟩:=fy (hsp.kp.keep N5.o aiP.o);clear hsp;by_cases c:i<n51
     · obtain⟨g,hs1,hD,hx,hz⟩:=(M5.o.sh i c).at_ uT.o;subst hs1;obtain⟨v1,e1⟩:=hx 1 (by omega);have f1:=hz (i*3+1);have HD:=ai hD;have hci:(i:Int)<(n51:Int):=by omega
       clear hx hz hD;go_wp2;go_roundw
       case rel=>exact⟨i+1,by omega,by go_num,uT.o.set HD.o _ _⟩
       case measure=>simp[intOf];omega
     have hci:¬(i:Int)<(n51:Int):=by omega
     clear c hi;go_upto_region 32 with fail;clear hci;obtain⟨V6,hV6⟩:∃V1,V1=wr:=⟨_,rfl⟩;rw[<- hV6] at uT ⊢;clear hV6 c0 c1 c2 c3 c4;have HV6:Hid (Below V4.heap.size V4 V6):=aM.below HA5.o uT.o.kp HA5.o.size (fun b hb=>(M5.o.low b hb).1);have HW6:Hid (Below W2.heap.size W2 V6):=HV4.o.trans (HV6.o.mono HV4.o.size);have HA6:Hid (Below WA.heap.size WA V6):=wj.o.trans (HW6.o.mono wj.o.size);clear uT N5 aiP M5 HA5 HS5 l5 HV6 HV4 HA4;obtain⟨k0,k1,k2,k3,k4⟩:=fy (KB.o _ HA6.o);go_upto_region 33 with(go_at_call 17;refine(RX.o _ HA6.o).mono ?_;rintro e w7 ⟨s71,n71,q71,s72,n72,q72,s73,n73,q73,s74,n74,q74,hd7,D7,rfl,hk7,hw7,hb7⟩;have anf:=ai hk7;have Pw:=ai hb7;clear hk7 hb7 hw7)
     obtain⟨W7,hW7⟩:=ex ((w7.alloc (.cells #[.slice s71 n71 q71,.slice s72 n72 q72,.slice s73 n73 q73,.slice s74 n74 q74,I hd7] 27)).alloc (.cells #[I x1,I x2] 36));have HX7:Hid (Below w7.heap.size w7 W7):=by rw[hW7];exact((aK _ _).alloc (aI _) _).alloc (by simp) _
     have N7:Hid (W7.heap[w7.heap.size]?=some (.cells #[.slice s71 n71 q71,.slice s72 n72 q72,.slice s73 n73 q73,.slice s74 n74 q74,I hd7] 27 (0,0))):=by rw[hW7];exact bM (bO w7 _ _) _
     have F7:Hid (W7.heap[w7.heap.size+1]?=some (.cells #[I x1,I x2] 36 (0,0))):=by rw[hW7];exact kX w7 _ _ _
     have HA7:Hid (Below W2.heap.size W2 W7):=HW6.o.trans ((Pw.o.trans (HX7.o.mono Pw.o.size)).mono HW6.o.size);have HE7:Hid (Below WA.heap.size WA W7):=wj.o.trans (HA7.o.mono wj.o.size);have HC7:Hid (∀U,Below W7.heap.size W7 U->aM (fun b=>b<V6.heap.size) w7 U):=fun U hU=>aM.cH (HX7.o.trans (hU.mono HX7.o.size))
     obtain⟨b7,hb7⟩:∃b,b=w7.heap.size:=⟨_,rfl⟩;obtain⟨f7,hf7⟩:∃b,b=b7+1:=⟨_,rfl⟩;rw[<- hW7];rw[<- hb7] at N7 F7 ⊢;rw[<- hf7] at F7 ⊢;clear hW7 hb7 hf7 k0 k1 k2 k3 k4 HX7 HW6 HA6 Pw;obtain⟨m0,m1,m2⟩:=nV (LB.o _ HE7.o);go_upto_region 34 with(go_at_call 18;refine(HNW.o _ HE7.o).mono ?_;rintro e w8 ⟨s81,n81,q81,s82,n82,q82,s83,n83,q83,s84,n84,q84,hd8,rfl,hk8,hd8,Vh⟩;have ane:=ai hk8;have Xy:=ai Vh;clear hk8 hd8 Vh)
     obtain⟨W8,hW8⟩:=ex (w8.alloc (.cells #[.slice s81 n81 q81,.slice s82 n82 q82,.slice s83 n83 q83,.slice s84 n84 q84,I hd8] 27));have HX8:Hid (Below w8.heap.size w8 W8):=by rw[hW8];exact(aK _ _).alloc (aI _) _
     have N8:Hid (W8.heap[w8.heap.size]?=some (.cells #[.slice s81 n81 q81,.slice s82 n82 q82,.slice s83 n83 q83,.slice s84 n84 q84,I hd8] 27 (0,0))):=by rw[hW8];exact bO w8 _ _
     have HA8:Hid (Below W7.heap.size W7 W8):=Xy.o.trans (HX8.o.mono Xy.o.size);have Vq:Hid (Below WA.heap.size WA W8):=HE7.o.trans (HA8.o.mono HE7.o.size);have HW8:Hid (Below W2.heap.size W2 W8):=HA7.o.trans (HA8.o.mono HA7.o.size);have HC8:Hid (∀U,Below W8.heap.size W8 U->aM (fun b=>b<W7.heap.size) w8 U):=fun U hU=>aM.cH (HX8.o.trans (hU.mono HX8.o.size))
     have HD7:Hid (∀U,Below W8.heap.size W8 U->aM (fun b=>b<V6.heap.size) w7 U):=fun U hU=>HC7.o U (HA8.o.trans (hU.mono HA8.o.size))
     have HDW:Hid (∀U,Below W8.heap.size W8 U->aM (fun b=>b<w1.heap.size) w2 U):=fun U hU=>HWS.o U (HW8.o.trans (hU.mono HW8.o.size))
     have M7:Hid (∀U,Below W8.heap.size W8 U->U.heap[b7]?=some (.cells #[.slice s71 n71 q71,.slice s72 n72 q72,.slice s73 n73 q73,.slice s74 n74 q74,I hd7] 27 (0,0))/\U.heap[f7]?=some (.cells #[I x1,I x2] 36 (0,0))):=fun U hU=>by
      have h:=HA8.o.trans (hU.mono HA8.o.size);exact⟨aQ N7.o h (aT N7.o),aQ F7.o h (aT F7.o)⟩
     have MW:Hid (∀U,Below W8.heap.size W8 U->U.heap[bw]?=some (.cells #[.slice sW1 nW1 qW1,.slice sW2 nW2 qW2,.slice sW3 nW3 qW3,.slice sW4 nW4 qW4,I hdW] 27 (0,0))):=fun U hU=>aQ NW.o (HW8.o.trans (hU.mono HW8.o.size)) (aT NW.o)
     obtain⟨b8,Vh⟩:∃b,b=w8.heap.size:=⟨_,rfl⟩;rw[<- hW8];rw[<- Vh] at N8 ⊢;clear hW8 Vh m0 m1 m2 HX8 Xy HA7 HE7 HC7 HWS N7 F7 NW HA8;have M8:Hid (∀U,Below W8.heap.size W8 U->U.heap[b8]?=some (.cells #[.slice s81 n81 q81,.slice s82 n82 q82,.slice s83 n83 q83,.slice s84 n84 q84,I hd8] 27 (0,0))):=fun U hU=>aQ N8.o hU (aT N8.o)
     obtain⟨k0,k1,k2,k3,k4⟩:=fy (KB.o _ Vq.o);go_upto_region 36 with(go_at_call 19;refine(rD.o _ Vq.o).mono ?_;rintro e w9 ⟨rfl,hb9⟩;have HB9:=ai hb9;clear hb9)
     clear k0 k1 k2 k3 k4;go_cut [199] (fun c wx=>c=.bool false/\Below W8.heap.size W8 wx)
     case first =>
      obtain⟨g0,g1⟩:=nM (M7.o _ HB9.o).2;by_cases c:er=0
      case neg =>
       have cb:(er==0)=false:=by simpa using c
       clear c;go_region;go_wp2;go_meet
       case rel=>exact⟨rfl,HB9.o.drew⟩
      by_cases c1:x1=0
      case neg =>
       have cb:(er==0)=true:=by simpa using c
       have cb1:(x1==0)=false:=by simpa using c1
       clear c c1;go_region;go_wp2;go_meet
       case rel=>exact⟨rfl,HB9.o.drew⟩
      have amP:=ai (HRO.o c c1);subst c c1;clear g0 g1;have gq:Hid (∀V,Below W8.heap.size W8 V->V.cell? (Ad b7 0)=some (.slice s71 n71 q71)/\V.cell? (Ad b7 1)=some (.slice s72 n72 q72)/\V.cell? (Ad b7 2)=some (.slice s73 n73 q73)/\V.cell? (Ad b7 3)=some (.slice s74 n74 q74)/\V.cell? (Ad b7 4)=some (I hd7)/\V.cell? (Ad kx 0)=some (.slice a.aS k.aD.length a.cS)/\V.cell? (Ad kx 1)=some (.slice a.aF k.frames.length a.cF)/\V.cell? (Ad kx 2)=some (.slice a.aL k.slots.length a.cL)/\V.cell? (Ad kx 3)=some (.slice a.aP k.aj.length a.cP)/\V.cell? (Ad kx 4)=some (I k.hand)/\V.cell? (Ad f7 0)=some (I 0)):=fun V hV=>by
       have c1:=(M7.o V hV).1;have c2:=KB.o V (Vq.o.trans (hV.mono Vq.o.size));exact⟨aB c1 0 rfl,aB c1 1 rfl,aB c1 2 rfl,aB c1 3 rfl,aB c1 4 rfl,aB c2 0 rfl,aB c2 1 rfl,aB c2 2 rfl,aB c2 3 rfl,aB c2 4 rfl,aB (M7.o V hV).2 0 rfl⟩
      have HRX:Hid (∀V,Below W8.heap.size W8 V->Calls Tryz.prog 21 #[.agg #[.slice a.aS k.aD.length a.cS,.slice a.aF k.frames.length a.cF,.slice a.aL k.slots.length a.cL,.slice a.aP k.aj.length a.cP,I k.hand],I sp,I ad,I n,I way] V fun e w'=>∃s1 kX q1 s2 n2 q2 s3 n3 q3 s4 n4 q4 hd,e=.returned (.agg #[.slice s1 kX q1,.slice s2 n2 q2,.slice s3 n3 q3,.slice s4 n4 q4,I hd])/\og V.heap.size KA #[.slice s1 kX q1,.slice s2 n2 q2,.slice s3 n3 q3,.slice s4 n4 q4,I hd] w'/\Below V.heap.size V w'):=fun V hV=>amP.o V (Vq.o.trans (hV.mono Vq.o.size))
      have HwB:Hid (Below W8.heap.size W8 w9.drew):=HB9.o.drew;refine wp_region_held_drew (S:=fun V=>Below W8.heap.size W8 V) (by kernel_rfl) ?_ (fun hHeld=>?_)
      · exact HwB.o
      refine mP 0 (by assumption) ?_ ?_ ?_ (hwt:=by kernel_rfl);rotate_left 1
      · intro V h;go_simp
        try with_reducible rfl
      try simp only[Act.put,bJ,bI,bH]
      refine mP 1 (by assumption) ?_ ?_ ?_ (hwt:=by kernel_rfl);rotate_left 1
      · intro V h;go_simp
        try with_reducible rfl
      try simp only[Act.put,bJ,bI,bH]
      refine mP 2 (by assumption) ?_ ?_ ?_ (hwt:=by kernel_rfl);rotate_left 1
      · intro V h;go_simp
        try with_reducible rfl
      try simp only[Act.put,bJ,bI,bH]
      refine mP 3 (by assumption) ?_ ?_ ?_ (hwt:=by kernel_rfl);rotate_left 1
      · intro V h;go_simp
        try with_reducible rfl
      try simp only[Act.put,bJ,bI,bH]
      refine mP 4 (by assumption) ?_ ?_ ?_ (hwt:=by kernel_rfl);rotate_left 1
      · intro V h;obtain⟨x0,x1,x2,x3,x4,k0,k1,k2,k3,k4,g0⟩:=gq.o V h;go_simp
        try with_reducible rfl
      try simp only[Act.put,bJ,bI,bH]
      refine mP 5 (by assumption) ?_ ?_ ?_ (hwt:=by kernel_rfl);rotate_left 1
      · intro V h;go_simp
        try with_reducible rfl
      try simp only[Act.put,bJ,bI,bH]
      refine mP 6 (by assumption) ?_ ?_ ?_ (hwt:=by kernel_rfl);rotate_left 1
      · intro V h;go_simp
        try with_reducible rfl
      try simp only[Act.put,bJ,bI,bH]
      refine mP 7 (by assumption) ?_ ?_ ?_ (hwt:=by kernel_rfl);rotate_left 1
      · intro V h;go_simp
        try with_reducible rfl
      try simp only[Act.put,bJ,bI,bH]
      refine mP 8 (by assumption) ?_ ?_ ?_ (hwt:=by kernel_rfl);rotate_left 1
      · intro V h;obtain⟨x0,x1,x2,x3,x4,k0,k1,k2,k3,k4,g0⟩:=gq.o V h;go_simp
        try with_reducible rfl
      try simp only[Act.put,bJ,bI,bH]
      refine mP 9 (by assumption) ?_ ?_ ?_ (hwt:=by kernel_rfl);rotate_left 1
      · intro V h;obtain⟨x0,x1,x2,x3,x4,k0,k1,k2,k3,k4,g0⟩:=gq.o V h;go_simp
        try with_reducible rfl
      try simp only[Act.put,bJ,bI,bH]
      refine mP 10 (by assumption) ?_ ?_ ?_ (hwt:=by kernel_rfl);rotate_left 1
      · intro V h;go_simp
        try with_reducible rfl
      try simp only[Act.put,bJ,bI,bH]
      refine mP 11 (by assumption) ?_ ?_ ?_ (hwt:=by kernel_rfl);rotate_left 1
      · intro V h;go_simp
        try with_reducible rfl
      try simp only[Act.put,bJ,bI,bH]
      refine mP 12 (by assumption) ?_ ?_ ?_ (hwt:=by kernel_rfl);rotate_left 1
      · intro V h;go_simp
        try with_reducible rfl
      try simp only[Act.put,bJ,bI,bH]
      refine mP 13 (by assumption) ?_ ?_ ?_ (hwt:=by kernel_rfl);rotate_left 1
      · intro V h;go_simp
        try with_reducible rfl
      try simp only[Act.put,bJ,bI,bH]
      refine wpAnyH_ready (rs:=[14]) (by kernel_rfl) (by simp) ?_;refine AllReadyH.cons rfl (fun K hK=>?_) AllReadyH.nil
      (try rw[aR (by kernel_rfl)]);go_simp;go_at_call 21;refine(HRX.o _ HwB.o).mono ?_;rintro e wC ⟨sT1,nT1,qT1,sT2,nT2,qT2,sT3,nT3,qT3,sT4,nT4,qT4,hdT,rfl,hkx,C7⟩;have HwC:=ai (HwB.o.trans (C7.mono HwB.o.size));have HKT:=ai hkx;have YH:=ai C7;clear hkx;clear C7;try go_simp
      refine hK.out _ _ ?_ (fun hHeld=>?_)
      · try dsimp only
        exact HwC.o
      clear hK K
      try simp only[Act.put,bJ,bI,bH]
      refine wpAnyH_ready (rs:=[15]) (by kernel_rfl) (by simp) ?_;refine AllReadyH.cons rfl (fun K hK=>?_) AllReadyH.nil
      (try rw[aR (by kernel_rfl)]);go_simp;go_at_call 20;refine(Af anf.o HKT.o xx.o (HD7.o _ HwC.o) (aM.refl _ _)).mono ?_;rintro e wD ⟨rfl,C7⟩;have HwD:=ai (HwC.o.trans (C7.mono HwC.o.size));clear C7;try go_simp
      refine hK.out _ _ ?_ (fun hHeld=>?_)
      · try dsimp only
        exact HwD.o
      clear hK K
      try simp only[Act.put,bJ,bI,bH]
      refine mP 16 (by assumption) ?_ ?_ ?_ (hwt:=by kernel_rfl);rotate_left 1
      · intro V h;go_simp
        try with_reducible rfl
      try simp only[Act.put,bJ,bI,bH]
      refine mP 17 (by assumption) ?_ ?_ ?_ (hwt:=by kernel_rfl);rotate_left 1
      · intro V h;go_simp
        try with_reducible rfl
      try simp only[Act.put,bJ,bI,bH]
      refine wpAnyH_done (by kernel_rfl) ?_ _;go_wp2;go_meet
      case rel=>exact⟨rfl,HwD.o⟩
     case rest =>
     obtain⟨rfl,hbc⟩:=hcut;have Dm:=ai hbc;clear hbc HB9;go_upto_region 38 with fail;go_cut [208] (fun c wx=>c=.bool false/\Below W8.heap.size W8 wx)
     case first =>
      by_cases c:fe=0
      case neg =>
       have cb:(fe==0)=false:=by simpa using c
       clear c;go_region;go_wp2;go_meet
       case rel=>exact⟨rfl,Dm.o.drew⟩
      obtain⟨KM,hnk⟩:=HNK.o c;have anM:=ai KM;have amZ:=ai hnk;subst c;clear KM hnk;have gq:Hid (∀V,Below W8.heap.size W8 V->V.cell? (Ad b8 0)=some (.slice s81 n81 q81)/\V.cell? (Ad b8 1)=some (.slice s82 n82 q82)/\V.cell? (Ad b8 2)=some (.slice s83 n83 q83)/\V.cell? (Ad b8 3)=some (.slice s84 n84 q84)/\V.cell? (Ad b8 4)=some (I hd8)/\V.cell? (Ad lx 0)=some (.slice aa na ca)/\V.cell? (Ad lx 1)=some (.slice ah hs.length ch)/\V.cell? (Ad lx 2)=some (I en)):=fun V hV=>by
       have c1:=M8.o V hV;have c2:=LB.o V (Vq.o.trans (hV.mono Vq.o.size));exact⟨aB c1 0 rfl,aB c1 1 rfl,aB c1 2 rfl,aB c1 3 rfl,aB c1 4 rfl,aB c2 0 rfl,aB c2 1 rfl,aB c2 2 rfl⟩
      have qH:Hid (∀V,Below W8.heap.size W8 V->Calls Tryz.prog 22 #[.agg #[.slice aa na ca,.slice ah hs.length ch,I en],I 3,I 512] V fun e w'=>∃s1 kX q1 s2 n2 q2 s3 n3 q3 s4 n4 q4 hd,e=.returned (.agg #[.slice s1 kX q1,.slice s2 n2 q2,.slice s3 n3 q3,.slice s4 n4 q4,I hd])/\og V.heap.size KN #[.slice s1 kX q1,.slice s2 n2 q2,.slice s3 n3 q3,.slice s4 n4 q4,I hd] w'/\Below V.heap.size V w'):=fun V hV=>amZ.o V (Vq.o.trans (hV.mono Vq.o.size))
      have HwB:Hid (Below W8.heap.size W8 wc.drew):=Dm.o.drew;refine wp_region_held_drew (S:=fun V=>Below W8.heap.size W8 V) (by kernel_rfl) ?_ (fun hHeld=>?_)
      · exact HwB.o
      refine mP 0 (by assumption) ?_ ?_ ?_ (hwt:=by kernel_rfl);rotate_left 1
      · intro V h;go_simp
        try with_reducible rfl
      try simp only[Act.put,bJ,bI,bH]
      refine mP 1 (by assumption) ?_ ?_ ?_ (hwt:=by kernel_rfl);rotate_left 1
      · intro V h;go_simp
        try with_reducible rfl
      try simp only[Act.put,bJ,bI,bH]
      refine mP 2 (by assumption) ?_ ?_ ?_ (hwt:=by kernel_rfl);rotate_left 1
      · intro V h;go_simp
        try with_reducible rfl
      try simp only[Act.put,bJ,bI,bH]
      refine mP 3 (by assumption) ?_ ?_ ?_ (hwt:=by kernel_rfl);rotate_left 1
      · intro V h;obtain⟨x0,x1,x2,x3,x4,m0,m1,m2⟩:=gq.o V h;go_simp
        try with_reducible rfl
      try simp only[Act.put,bJ,bI,bH]
      refine mP 4 (by assumption) ?_ ?_ ?_ (hwt:=by kernel_rfl);rotate_left 1
      · intro V h;obtain⟨x0,x1,x2,x3,x4,m0,m1,m2⟩:=gq.o V h;go_simp
        try with_reducible rfl
      try simp only[Act.put,bJ,bI,bH]
      refine wpAnyH_ready (rs:=[5]) (by kernel_rfl) (by simp) ?_;refine AllReadyH.cons rfl (fun K hK=>?_) AllReadyH.nil
      (try rw[aR (by kernel_rfl)]);go_simp;go_at_call 22;refine(qH.o _ HwB.o).mono ?_;rintro e wC ⟨sT1,nT1,qT1,sT2,nT2,qT2,sT3,nT3,qT3,sT4,nT4,qT4,hdT,rfl,hkx,C7⟩;have HwC:=ai (HwB.o.trans (C7.mono HwB.o.size));have HKT:=ai hkx;clear hkx;clear C7;try go_simp
      refine hK.out _ _ ?_ (fun hHeld=>?_)
      · try dsimp only
        exact HwC.o
      clear hK K
      try simp only[Act.put,bJ,bI,bH]
      refine wpAnyH_ready (rs:=[6]) (by kernel_rfl) (by simp) ?_;refine AllReadyH.cons rfl (fun K hK=>?_) AllReadyH.nil
      (try rw[aR (by kernel_rfl)]);go_simp;go_at_call 20;refine(Af ane.o HKT.o anM.o (HC8.o _ HwC.o) (aM.refl _ _)).mono ?_;rintro e wD ⟨rfl,C7⟩;have HwD:=ai (HwC.o.trans (C7.mono HwC.o.size));clear C7;try go_simp
      refine hK.out _ _ ?_ (fun hHeld=>?_)
      · try dsimp only
        exact HwD.o
      clear hK K
      try simp only[Act.put,bJ,bI,bH]
      refine mP 7 (by assumption) ?_ ?_ ?_ (hwt:=by kernel_rfl);rotate_left 1
      · intro V h;go_simp
        try with_reducible rfl
      try simp only[Act.put,bJ,bI,bH]
      refine mP 8 (by assumption) ?_ ?_ ?_ (hwt:=by kernel_rfl);rotate_left 1
      · intro V h;go_simp
        try with_reducible rfl
      try simp only[Act.put,bJ,bI,bH]
      refine wpAnyH_done (by kernel_rfl) ?_ _;go_wp2;go_meet
      case rel=>exact⟨rfl,HwD.o⟩
     case rest =>
     obtain⟨rfl,hbc⟩:=hcut;have ET:=ai hbc;clear hbc Dm;go_upto_region 40 with fail;have gq:Hid (∀V,Below W8.heap.size W8 V->V.heap[kx]?=some (.cells #[.slice a.aS k.aD.length a.cS,.slice a.aF k.frames.length a.cF,.slice a.aL k.slots.length a.cL,.slice a.aP k.aj.length a.cP,I k.hand] 27 (0,0))/\V.heap[bw]?=some (.cells #[.slice sW1 nW1 qW1,.slice sW2 nW2 qW2,.slice sW3 nW3 qW3,.slice sW4 nW4 qW4,I hdW] 27 (0,0))):=fun V hV=>⟨KB.o V (Vq.o.trans (hV.mono Vq.o.size)),MW.o V hV⟩
     have HSM:Hid (∀V,Below W8.heap.size W8 V->Calls Tryz.prog 20 #[.agg #[.slice a.aS k.aD.length a.cS,.slice a.aF k.frames.length a.cF,.slice a.aL k.slots.length a.cL,.slice a.aP k.aj.length a.cP,I k.hand],.agg #[.slice sW1 nW1 qW1,.slice sW2 nW2 qW2,.slice sW3 nW3 qW3,.slice sW4 nW4 qW4,I hdW]] V fun e w'=>e=.returned (.bool true)/\Below V.heap.size V w'):=fun V hV=>Af HKK.o HKW.o anO.o (aM.cH (Vq.o.trans (hV.mono Vq.o.size))) (HDW.o V hV)
     go_wp2_with (first
      | (go_at_call 15;refine(HBG.o _).mono ?_;rintro e wA ⟨rfl,JF⟩;have J0:=ai (ET.o.trans (JF.mono ET.o.size));obtain⟨r1,r2⟩:=gq.o _ J0.o;obtain⟨k0,k1,k2,k3,k4⟩:=fy r1;obtain⟨y0,y1,y2,y3,y4⟩:=fy r2;clear JF r1 r2)
      | (go_at_call 20;refine(HSM.o _ J0.o).mono ?_;rintro e wB ⟨rfl,hbB⟩;have HBF:=ai (J0.o.trans (hbB.mono J0.o.size));clear hbB))
     go_ret;exact⟨rfl,eU.o.trans ((Vq.o.trans (HBF.o.mono Vq.o.size)).mono eU.o.size)⟩
open Go.RowKit Go.Deep
theorem Fp:Tryz.prog.cellsOf 9=1:=by rfl
theorem wy:Tryz.prog.cellsOf 3=1:=by rfl
theorem Ti:Tryz.prog.cellsOf 4=1:=by rfl
theorem uD (n:Int) (h:(Lit.int .i64 n).wf=true):eY n:=ZL n h
theorem Hn {w:World} {b o:Nat} {v:Value} (h:w.cell? (Ad b o)=some v):b<w.heap.size:=by
 grind [World.cell?]
instance:Inhabited nO:=⟨Dz⟩
instance:Inhabited Qh:=⟨aea⟩
instance:Inhabited Nh:=⟨aeb⟩
def qM {H:Type} (t:TypeId) (d:DataW H):Prop:=∀n∈d.weights Tryz.prog t,n<=reachBytes
theorem yU {H:Type} {e:TypeId}:∀{l:List (DataW H)} {d:DataW H},d∈l->∀n∈d.weights Tryz.prog e,n∈DataW.weightsAll Tryz.prog e l
 | y::r,d,h,n,hn=>by
  simp only[DataW.weightsAll,kq];rcases xB.1 h with h | h
  · grind
  · exact .inr (yU h n hn)
theorem vw {H:Type} {t:TypeId} {b:List UInt8} (h:qM (H:=H) t (.lit (.string b))):b.length<=reachBytes:=h _ (by simp[DataW.weights])
theorem uC {H:Type} {t e:TypeId} {el sp:List (DataW H)} (hu:Tryz.prog.underlying t=some (.slice e)) (h:qM t (.slice el sp)):(el.length+sp.length)*Tryz.prog.bytesOf e<=reachBytes/\∀d∈el,qM e d:=by
 refine⟨h _ (by grind [DataW.weights]),fun d hd n hn=>h n ?_⟩
 grind [DataW.weights,yU]
theorem mz {H:Type} {t:TypeId} {fs:Array Field} {ps:List (DataW H)} (hu:Tryz.prog.underlying t=some (.struct fs)) (h:qM t (.agg ps)) {j:Nat} {u:TypeId} {d:DataW H} (ht:(fs.toList.map (·.type))[j]?=some u) (hd:ps[j]?=some d):qM u d:=fun n hn=>h n (by
 grind [DataW.weights,DataW.weights_mem_each])
section
variable {H:Type} {enc:TypeId×Value->H} {w:World} {base:Nat} {spare:Nat->Bool} {held:Bool}
theorem oQ {t e:TypeId} {fuel:Nat} {v:Value} {x:DataW H×List MemPlace} (ht:Tryz.prog.underlying t=some (.slice e)) (h:DataW.trod enc Tryz.prog w base spare held fuel t [v]=some x):∃a len cap,v=.slice a len cap:=by
 rcases open_slice ht h with⟨hcs,_⟩ | ⟨a,len',cap',m,n,D,Pl,hcs,_⟩
 · grind
 grind
end
open Go.RowKit Go.Deep
theorem VK:Tryz.prog.cellsOf 52=2:=by rfl
theorem VI:Tryz.prog.cellsOf 50=3:=by rfl
theorem VJ:Tryz.prog.cellsOf 30=3:=by rfl
theorem Tv:Tryz.prog.cellsOf 48=1:=by rfl
theorem IP:Tryz.prog.cellsOf 22=1:=by rfl
theorem IQ:Tryz.prog.cellsOf 28=1:=by rfl
theorem VM:Tryz.prog.bytesOf 52=24:=by rfl
theorem VL:Tryz.prog.bytesOf 50=48:=by rfl
theorem Lb:Tryz.prog.bytesOf 47=32:=by rfl
instance:Inhabited kW:=⟨Lt⟩
instance:Inhabited bR:=⟨tE⟩
section
variable {H:Type} {enc:TypeId×Value->H} {w:World} {base:Nat} {spare:Nat->Bool} {held:Bool}
theorem VF {n:Nat} {a:Addr} {cs:List Value} {x:DataW H×List MemPlace} (hc:w.cells? base a 2=some cs) (h:DataW.trod enc Tryz.prog w base spare held n 52 cs=some x) (hw:qM 52 x.1) :
  ∃(x0:Int) (x1:ByteArray),(w.cell? (a.add 0)=some (I x0)/\eY x0)/\(w.cell? (a.add 1)=some (.string x1)/\bT x1.size):=by
 obtain⟨_,hlen,hcell⟩:=Kq hc;obtain⟨xs,k,hk,hxy,_,hxl,hf⟩:=vr Tryz.underlying52 h;rw[hxy] at hw
 match cs,hlen with
 | [v0,v1],_ =>
  have g0:DataW.trod enc Tryz.prog w base spare held k 3 (([v0,v1].drop 0).take (Tryz.prog.cellsOf 3))=xs[0]?:=hf 0 _ rfl;have g1:DataW.trod enc Tryz.prog w base spare held k 9 (([v0,v1].drop 1).take (Tryz.prog.cellsOf 9))=xs[1]?:=hf 1 _ rfl;simp only[wy,Fp] at g0 g1;have e0:=hcell 0 (by omega);have e1:=hcell 1 (by omega)
  match xs,hxl with
  | [y0,y1],_ =>
   obtain⟨m0,c0,_,w0⟩:=CX Tryz.underlying3 (show DataW.trod enc Tryz.prog w base spare held k 3 [v0]=some y0 from g0);obtain⟨m1,c1,hx1,_⟩:=Ko Tryz.underlying9 (show DataW.trod enc Tryz.prog w base spare held k 9 [v1]=some y1 from g1);have u1:=mz Tryz.underlying52 hw (j:=1) (u:=9) (d:=y1.1) rfl rfl;rw[hx1] at u1;have w1:bT m1.size:=by have:=vw u1;unfold bT;unfold reachBytes at this;rw[Lib.size_eq];omega
   simp only[tY,qZ] at c0 c1;subst c0;subst c1;exact⟨m0,m1,⟨e0,uD _ w0⟩,⟨e1,w1⟩⟩
theorem Y6 {fuel:Nat} {a0:Option Addr} {len cap:Nat} {x:DataW H×List MemPlace} (h:DataW.trod enc Tryz.prog w base spare held fuel 48 [.slice a0 len cap]=some x) (hw:qM 48 x.1) :
  ∃l:List kW,l.length=len/\kQ w a0 l/\bT l.length/\∀k,k<l.length->Qy (ki l k):=by
 rcases open_slice Tryz.underlying48 h with⟨hcs,_⟩ | ⟨a,len',cap',m,n,D,Pl,hcs,hb,hl,hm,hmm,rfl,hx⟩
 · simp at hcs;obtain⟨rfl,rfl,rfl⟩:=hcs;exact⟨[],rfl,fun h=>absurd h (by simp),by grind [bT],fun k hk=>absurd hk (by simp)⟩
 · simp at hcs;obtain⟨rfl,rfl,rfl⟩:=hcs;have hlm:len<=m:=by grind
   obtain⟨hb1,hb2⟩:=uC Tryz.underlying48 hw;rw[VM] at hb1;unfold reachBytes at hb1;have hlen:len<=140737488351232:=by grind
   have each:∀i,i<len->∃y:kW,w.cell? (a.add (i*2+0))=some (I y.off)/\w.cell? (a.add (i*2+1))=some (.string y.bytes)/\Qy y:=by
    intro i hi;obtain⟨cs',h1,h2⟩:=hx i (by omega);have hd:D i∈(List.range len).map D:=xz.2 ⟨i,vk.2 hi,rfl⟩;rw[VK] at h1;obtain⟨x0,x1,⟨e0,z0⟩,⟨e1,z1⟩⟩:=VF h1 h2 (hb2 _ hd);simp only[add_add] at e0 e1;exact⟨⟨x0,x1⟩,e0,e1,⟨z0,z1⟩⟩
   obtain⟨g,hg⟩:=choose_lt each;have hat:∀i,i<len->ki ((List.range len).map g) i=g i:=by
    grind [ki]
   refine⟨(List.range len).map g,by simp,fun h0=>?_,by grind [bT],fun k hk=>?_⟩
   · have h0':0<len:=by grind
     obtain⟨b,off,spot⟩:=a;have hc:=(hg 0 h0').1;have hspot:spot=none:=by simpa [Addr.add] using Km hc
     subst hspot;rw[rY] at hc;refine⟨b,off,rfl,Hn hc,fun i hi=>?_⟩;have hi':i<len:=by grind
     rw[hat i hi'];obtain⟨e0,e1,_⟩:=hg i hi';simp only[rY] at e0 e1
     grind
   grind
theorem Ni {n:Nat} {v0 v1 v2:Value} {x:DataW H×List MemPlace} (h:DataW.trod enc Tryz.prog w base spare held n 50 [v0,v1,v2]=some x) (hw:qM 50 x.1) :
  ∃s:bR,v0=I s.page/\v1=.string s.data/\v2=.slice s.ao s.cM.length s.cap/\kQ w s.ao s.cM/\vD s:=by
 obtain⟨xs,k,hk,hxy,_,hxl,hf⟩:=vr Tryz.underlying50 h;rw[hxy] at hw;have g0:DataW.trod enc Tryz.prog w base spare held k 3 (([v0,v1,v2].drop 0).take (Tryz.prog.cellsOf 3))=xs[0]?:=hf 0 _ rfl;have g1:DataW.trod enc Tryz.prog w base spare held k 9 (([v0,v1,v2].drop 1).take (Tryz.prog.cellsOf 9))=xs[1]?:=hf 1 _ rfl;have g2:DataW.trod enc Tryz.prog w base spare held k 48 (([v0,v1,v2].drop 2).take (Tryz.prog.cellsOf 48))=xs[2]?:=hf 2 _ rfl;simp only[wy,Fp,Tv] at g0 g1 g2
 match xs,hxl with
 | [y0,y1,y2],_ =>
  obtain⟨m0,c0,_,w0⟩:=CX Tryz.underlying3 (show DataW.trod enc Tryz.prog w base spare held k 3 [v0]=some y0 from g0);obtain⟨m1,c1,hx1,_⟩:=Ko Tryz.underlying9 (show DataW.trod enc Tryz.prog w base spare held k 9 [v1]=some y1 from g1);have u1:=mz Tryz.underlying50 hw (j:=1) (u:=9) (d:=y1.1) rfl rfl;have u2:=mz Tryz.underlying50 hw (j:=2) (u:=48) (d:=y2.1) rfl rfl;rw[hx1] at u1;have w1:bT m1.size:=by have:=vw u1;unfold bT;unfold reachBytes at this;rw[Lib.size_eq];omega
  have t2:DataW.trod enc Tryz.prog w base spare held k 48 [v2]=some y2:=g2;obtain⟨ao,ln,cp,d2⟩:=oQ Tryz.underlying48 t2;subst d2;obtain⟨fs,n1,n2,n3,n4⟩:=Y6 t2 u2;simp only[tY,qZ] at c0 c1;subst c0;subst c1;subst n1;exact⟨⟨m0,m1,fs,ao,cp⟩,rfl,rfl,rfl,n2,⟨uD _ w0,w1,n3,n4⟩⟩
end
end Go.Proofs.YtpgifpeohlllfaaGreat
