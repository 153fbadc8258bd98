import Derived.Test.YtpgifpeohlllfaaGreatGS00
import Derived.Test.YtpgifpeohlllfaaGreatGS32
import Derived.Test.YtpgifpeohlllfaaGreatGS33
import Derived.Test.YtpgifpeohlllfaaGreatGS34
import Derived.Test.YtpgifpeohlllfaaGreatGS14
import Derived.Test.YtpgifpeohlllfaaGreatGS10
import Derived.Test.YtpgifpeohlllfaaGreatGS02
import Derived.Test.YtpgifpeohlllfaaGreatChecked
import Derived.Deep.Slices
import Derived.ProofKit
import Derived.SizedLaws
import Derived.Test.YtpgifpeohlllfaaGreatGS03
set_option maxHeartbeats 20000000
set_option linter.unusedVariables false
set_option maxRecDepth 100000
set_option linter.unusedSimpArgs false
namespace Go.Proofs.YtpgifpeohlllfaaGreat
namespace KL
open Go.RowKit GK KO
open FW (ai aB)
open KW (fu cI aJ eW)
open KY (sF kX)
open KZ (qO oC kN n1)
theorem RA {l:List AM.Ar} {hs:List LM.Sh} {en nf ns:Int} (hc:LM.gF l hs en=0) (h64:nf<=64) (Zd:ns<=512) {hs1:List LM.Sh} (s:KM.Same (oC l hs nf ns).ak hs1):eW (KM.bu (oC l hs nf ns) hs1):=by
 obtain⟨r1,r2,r3⟩:=KZ.mE hc
 have hl:hs1.length=hs.length:=by have:=congrArg List.length s;simpa [oC] using this
 have Tz:=KW.iY l
 have hr:LM.cV hs1=true:=by rw[KM.AA s];exact r2
 refine⟨⟨by show M.bf hs1.length;unfold M.bf;omega,fun k hk=>KG.Aw (LM.jz hs1 hs1.length hr k hk).1⟩,?_,fun i hi=>?_,?_,fun i hi=>?_,?_,fun i hi=>?_,⟨by show -9223372036854775808<=(0:Int);omega,by show(0:Int)<=9223372036854775807;omega⟩⟩
 · show M.bf (List.replicate nf.toNat KM.kY).length
   rw[List.length_replicate];unfold M.bf;omega
 · have hi:i<(List.replicate nf.toNat KM.kY).length:=hi
   rw[List.length_replicate] at hi
   show M.bf ((List.replicate nf.toNat KM.kY).getD i KM.kY).data.size/\M.gj ((List.replicate nf.toNat KM.kY).getD i KM.kY).refs
   rw[KZ.Ce _ _ _ _ hi]
   exact⟨by unfold M.bf;decide,⟨by decide,by decide⟩⟩
 · show M.bf (List.replicate ns.toNat KM.sS).length
   rw[List.length_replicate];unfold M.bf;omega
 · have hi:i<(List.replicate ns.toNat KM.sS).length:=hi
   rw[List.length_replicate] at hi
   show M.bf ((List.replicate ns.toNat KM.sS).getD i KM.sS).data.size/\M.gj ((List.replicate ns.toNat KM.sS).getD i KM.sS).refs
   rw[KZ.Ce _ _ _ _ hi]
   exact⟨by unfold M.bf;decide,⟨by decide,by decide⟩⟩
 · show M.bf 1
   unfold M.bf;decide
 · have hi:i<1:=hi
   obtain rfl:i=0:=by omega
   exact⟨AM.fX _ r1,by show M.bf 0;unfold M.bf;decide,fun n hn=>absurd hn (Nat.not_lt_zero _)⟩
theorem OW {hs1:List LM.Sh} (s:KM.Same kN.ak hs1):eW (KM.bu kN hs1):=by
 obtain rfl:hs1=[]:=by simpa [KM.Same,kN] using s
 refine⟨⟨by show M.bf 0;unfold M.bf;decide,fun k hk=>absurd hk (Nat.not_lt_zero _)⟩,by show M.bf 0;unfold M.bf;decide,fun i hi=>absurd hi (Nat.not_lt_zero _),by show M.bf 0;unfold M.bf;decide,fun i hi=>absurd hi (Nat.not_lt_zero _),by show M.bf 0;unfold M.bf;decide,fun i hi=>absurd hi (Nat.not_lt_zero _),⟨by show -9223372036854775808<=(0:Int);omega,by show(0:Int)<=9223372036854775807;omega⟩⟩
def Kept (N:Nat) (k:KM.Kn) (c:Array Value) (w:World):Prop:=∃hs a,KM.Same k.ak hs/\c=aJ a (KM.bu k hs)/\∀U,Kp (fun b=>b<N) w U->cI U a (KM.bu k hs)
theorem Kept.cells {N:Nat} {k:KM.Kn} {c:Array Value} {w:World} (h:Kept N k c w):∃s1 n1 q1 s2 n2 q2 s3 n3 q3 s4 n4 q4 hd,c=#[.slice s1 n1 q1,.slice s2 n2 q2,.slice s3 n3 q3,.slice s4 n4 q4,I hd]:=by
 obtain⟨hs,a,_,h2,_⟩:=h
 exact⟨_,_,_,_,_,_,_,_,_,_,_,_,_,h2⟩
theorem NQ {w w':World} {k:KM.Kn} {e:Ending} (h:sF w k e w'):∃c,e=.returned (.agg c)/\Kept w.heap.size k c w'/\Below w.heap.size w w':=by
 obtain⟨S,hs,h1,h2,h3,h4⟩:=h
 obtain⟨a,e1,e2⟩:=KG.yi h3
 exact⟨_,h2,⟨hs,a,h1,e1,e2⟩,h4⟩
theorem KE (N:Nat) (w:World):Kept N kN #[Nl,Nl,Nl,Nl,I 0] w:=by
 obtain⟨a,e1,e2⟩:=KG.yi (KZ.I1 N w)
 exact⟨[],a,rfl,e1,e2⟩
theorem A7 {N N':Nat} {k:KM.Kn} {c c':Array Value} {V V' U:World} (h:Kept N k c V) (h':Kept N' k c' V') (hf:∀hs1,KM.Same k.ak hs1->eW (KM.bu k hs1)) (g:Kp (fun b=>b<N) V U) (g':Kp (fun b=>b<N') V' U) :
  Calls Tryz.prog 20 #[.agg c,.agg c'] U fun e w'=>e=.returned (.bool true)/\Below U.heap.size U w':=by
 obtain⟨hs,a,h1,h2,h3⟩:=h
 obtain⟨hs',a',h1',h2',h3'⟩:=h'
 subst h2 h2'
 have s:KM.Same (KM.bu k hs).ak hs':=by
  show hs'.map LM.plain=hs.map LM.plain
  exact Eq.trans (show hs'.map LM.plain=k.ak.map LM.plain from h1') (Eq.symm (show hs.map LM.plain=k.ak.map LM.plain from h1))
 exact KR.wy (KM.bu k hs) hs' a a' U (h3 U g) (h3' U g') s (hf hs h1)
theorem Ka (l:List AM.Ar) (hs:List LM.Sh) (en nf ns:Int):((qO l hs en nf ns).1=kN/\(qO l hs en nf ns).2≠0)∨(LM.gF l hs en=0/\3<=nf/\nf<=64/\0<=ns/\ns<=512/\qO l hs en nf ns=(oC l hs nf ns,0)):=by
 unfold qO
 by_cases c:LM.gF l hs en=0
 · rw[if_neg (fun x=>x c)]
   by_cases c3:nf<3
   · rw[if_pos c3];exact .inl ⟨rfl,by decide⟩
   rw[if_neg c3]
   by_cases cr:nf>64∨ns<0∨ns>512
   · rw[if_pos cr];exact .inl ⟨rfl,by decide⟩
   rw[if_neg cr]
   by_cases ct:AM.cm l>ns
   · rw[if_pos ct];exact .inl ⟨rfl,by decide⟩
   rw[if_neg ct]
   exact .inr ⟨c,by omega,by omega,by omega,by omega,rfl⟩
 · rw[if_pos c];exact .inl ⟨rfl,c⟩
theorem Gd (xk:kX) (l:List AM.Ar) (hs:List LM.Sh) (en nf ns:Int) (aa ah:Option Addr) (na ca ch:Nat) (k:KM.Kn) (a:fu) (w:World) (b1:AW.Has w (.slice aa na ca) l) (b2:AW.ed l) (b3:LM.gT w ah hs) (b4:LM.lJ hs) (b5:hs.length<=ch) (b6:M.gj en) (hK:cI w a k) (hF:eW k)
  (hbg:∀V,Calls Tryz.prog 15 #[] V fun e w'=>e=.returned (.bool true)/\Below V.heap.size V w') :
  Calls Tryz.prog 4 #[.agg #[.slice aa na ca,.slice ah hs.length ch,I en],I nf,I ns,.agg (aJ a k)] w fun e w'=>e=.returned (.bool true)/\Below w.heap.size w w':=by
 obtain⟨WA,dK⟩:=ex ((w.alloc (.cells #[.slice aa na ca,.slice ah hs.length ch,I en] 30)).alloc (.cells (aJ a k) 27))
 have hb0:Below w.heap.size w WA:=by rw[dK];exact((Below.refl _ _).alloc (Nat.le_refl _) _).alloc (by simp) _
 have lb:WA.heap[w.heap.size]?=some (.cells #[.slice aa na ca,.slice ah hs.length ch,I en] 30 (0,0)):=by rw[dK];exact B.alloc (B.new w _ _) _
 have kb:WA.heap[w.heap.size+1]?=some (.cells (aJ a k) 27 (0,0)):=by rw[dK];exact n1 _ _ _ _
 have WY:w.heap.size+1<WA.heap.size:=B.isLt kb
 have LB:Hid (∀V,Below WA.heap.size WA V->V.heap[w.heap.size]?=some (.cells #[.slice aa na ca,.slice ah hs.length ch,I en] 30 (0,0))):=fun V hb=>B.below lb hb (B.isLt lb)
 have KB:Hid (∀V,Below WA.heap.size WA V->V.heap[w.heap.size+1]?=some (.cells #[.slice a.aS k.ak.length a.cS,.slice a.aF k.frames.length a.cF,.slice a.aL k.slots.length a.cL,.slice a.aP k.aj.length a.cP,I k.hand] 27 (0,0))):=fun V hb=>B.below kb hb (B.isLt kb)
 have eK:∀{V:World},Below WA.heap.size WA V->Below w.heap.size w V:=fun hV=>hb0.trans (hV.mono hb0.size)
 obtain⟨l0,l1,l2⟩:=B.c3 (LB.o WA (Below.refl _ _))
 have gp:=ai dK
 have bW:=ai hb0
 have HBG:=ai hbg
 obtain⟨K0,Vp⟩:=ex ((qO l hs en nf ns).1)
 obtain⟨er,her⟩:=ex ((qO l hs en nf ns).2)
 have hcs:=Ka l hs en nf ns
 have V7:Hid (Calls Tryz.prog 18 #[.agg #[.slice aa na ca,.slice ah hs.length ch,I en],I nf,I ns] WA fun e w'=>∃s1 n1 q1 s2 n2 q2 s3 n3 q3 s4 n4 q4 hd,e=.returned (.tuple #[.agg #[.slice s1 n1 q1,.slice s2 n2 q2,.slice s3 n3 q3,.slice s4 n4 q4,I hd],I er])/\Kept WA.heap.size K0 #[.slice s1 n1 q1,.slice s2 n2 q2,.slice s3 n3 q3,.slice s4 n4 q4,I hd] w'/\Below WA.heap.size WA w'):=by
  refine(KZ.IP xk l hs en nf ns (.slice aa na ca) ah ch WA (b1.below hb0) b2 (b3.below hb0) b4 b5 b6).mono fun e w' h=>?_
  obtain⟨hs1,a1,h1,h2,h3,h4⟩:=KG.Ng h
  rw[<- Vp] at h1 h2 h3
  rw[<- her] at h2
  exact⟨_,_,_,_,_,_,_,_,_,_,_,_,_,h2,⟨hs1,a1,h1,rfl,h3⟩,h4⟩
 have SX:Hid (∀V,Below WA.heap.size WA V->Calls Tryz.prog 23 #[.agg #[.slice aa na ca,.slice ah hs.length ch,I en],I nf,I ns] V fun e w'=>e=.returned (I er)/\Below V.heap.size V w'):=fun V hV=>by
  rw[her]
  exact KR.Cw l hs en nf ns (.slice aa na ca) ah ch V (b1.below (eK hV)) b2 (b3.below (eK hV)) b4 b6
 have HNK:LM.gF l hs en=0->3<=nf->nf<=64->0<=ns->ns<=512->Hid (∀V,Below WA.heap.size WA V->Calls Tryz.prog 22 #[.agg #[.slice aa na ca,.slice ah hs.length ch,I en],I nf,I ns] V fun e w'=>∃t1 m1 p1 t2 m2 p2 t3 m3 p3 t4 m4 p4 he,e=.returned (.agg #[.slice t1 m1 p1,.slice t2 m2 p2,.slice t3 m3 p3,.slice t4 m4 p4,I he])/\Kept V.heap.size (oC l hs nf ns) #[.slice t1 m1 p1,.slice t2 m2 p2,.slice t3 m3 p3,.slice t4 m4 p4,I he] w'/\Below V.heap.size V w'):=fun h1 h2 h3 h4 h5 V hV=>(KR.zY l hs en nf ns (.slice aa na ca) ah ch V (b1.below (eK hV)) (b3.below (eK hV)) h1 h2 h3 h4 h5).mono fun e w' h=>by
  obtain⟨c,g1,g2,g3⟩:=NQ h
  obtain⟨t1,m1,p1,t2,m2,p2,t3,m3,p3,t4,m4,p4,he,rfl⟩:=g2.cells
  exact⟨t1,m1,p1,t2,m2,p2,t3,m3,p3,t4,m4,p4,he,g1,g2,g3⟩
 have oU:Hid (∀V,Below WA.heap.size WA V->Calls Tryz.prog 24 #[.agg #[.slice a.aS k.ak.length a.cS,.slice a.aF k.frames.length a.cF,.slice a.aL k.slots.length a.cL,.slice a.aP k.aj.length a.cP,I k.hand]] V fun e w'=>e=.returned (I (KM.dx k))/\Below V.heap.size V w'):=fun V hV=>KW.fK k a V (hK.below (eK hV)) hF
 have HCR:Hid (∀V,Below WA.heap.size WA V->Calls Tryz.prog 14 #[.agg #[.slice a.aS k.ak.length a.cS,.slice a.aF k.frames.length a.cF,.slice a.aL k.slots.length a.cL,.slice a.aP k.aj.length a.cP,I k.hand]] V fun e w'=>e=.returned (I (KM.dx k))/\Below V.heap.size V w'):=fun V hV=>by
  have:=KR.fK k a V (hK.below (eK hV)) hF
  rw[KM.jy] at this
  exact this
 obtain⟨CK,hCK⟩:=ex (KM.dx k)
 rw[<- hCK] at oU HCR
 have Al:LM.gF l hs en=0->nf<=64->ns<=512->∀hs1,KM.Same (oC l hs nf ns).ak hs1->eW (KM.bu (oC l hs nf ns) hs1):=fun h1 h2 h3 hs1 s=>RA h1 h2 h3 s
 unfold aJ at gp ⊢
 clear hb0 lb kb dK hbg b1 b2 b3 b4 b5 b6 hK hF eK hCK xk
 rcases hcs with⟨g1,g2⟩ | ⟨g1,g2,g3,g4,g5,g6⟩
 · rw[<- Vp] at g1
   rw[<- her] at g2
   subst g1
   have eb:(er==0)=false:=by simpa using g2
   clear HNK Al Vp her g2
   go_enter Tryz.func4,Tryz.ntmps4
   go_upto_region 1 with fail
   rw[<- gp.o]
   go_upto_region 2 with(go_at_call 18;refine V7.o.mono ?_;rintro e w1 ⟨s1,n1,q1,s2,n2,q2,s3,n3,q3,s4,n4,q4,hd,rfl,hk1,hb1⟩;have HKN:=ai hk1;have bI:=ai hb1;clear hk1 hb1)
   have ck:=ai (bI.o.alloc bI.o.size (.cells #[.slice s1 n1 q1,.slice s2 n2 q2,.slice s3 n3 q3,.slice s4 n4 q4,I hd] 27))
   have LN:=ai (B.new w1 #[.slice s1 n1 q1,.slice s2 n2 q2,.slice s3 n3 q3,.slice s4 n4 q4,I hd] 27)
   have zI:Hid (Kp (fun b=>b<WA.heap.size) w1 (w1.alloc (.cells #[.slice s1 n1 q1,.slice s2 n2 q2,.slice s3 n3 q3,.slice s4 n4 q4,I hd] 27))):=Kp.alloc _ _ _
   have hz1:WA.heap.size<=w1.heap.size:=bI.o.size
   obtain⟨W1,hW1⟩:=ex (w1.alloc (.cells #[.slice s1 n1 q1,.slice s2 n2 q2,.slice s3 n3 q3,.slice s4 n4 q4,I hd] 27))
   obtain⟨nb,hnb⟩:=ex w1.heap.size
   rw[<- hW1] at ck LN zI ⊢
   rw[<- hnb] at LN hz1 ⊢
   clear hW1 hnb
   obtain⟨l0,l1,l2⟩:=B.c3 (LB.o _ ck.o)
   go_upto_region 3 with(go_at_call 23;refine(SX.o _ ck.o).mono ?_;rintro e w2 ⟨rfl,hb3⟩;have cZ:=ai hb3;clear hb3)
   go_upto_region 4 with fail
   have NB:=ai (B.alloc (B.below LN.o cZ.o (B.isLt LN.o)) (.cells #[Nl,Nl,Nl,Nl,I 0] 27))
   have qJ:=ai ((ck.o.trans (cZ.o.mono ck.o.size)).alloc (ck.o.trans (cZ.o.mono ck.o.size)).size (.cells #[Nl,Nl,Nl,Nl,I 0] 27))
   have Xg:Hid (Kp (fun b=>b<WA.heap.size) w1 (w2.alloc (.cells #[Nl,Nl,Nl,Nl,I 0] 27))):=(zI.o.trans (Kp.aY cZ.o) (fun _ _ g=>g)).trans (Kp.alloc _ _ _) (fun _ _ g=>g)
   have RB:=ai (B.new w2 #[Nl,Nl,Nl,Nl,I 0] 27)
   have Q7:WA.heap.size<=w2.heap.size:=Nat.le_trans ck.o.size cZ.o.size
   have SK:Hid (w1.heap.size<=w2.heap.size):=Nat.le_trans zI.o.size cZ.o.size
   have PL:Hid (nb<w2.heap.size):=Nat.lt_of_lt_of_le (B.isLt LN.o) cZ.o.size
   obtain⟨WR,Vk⟩:=ex (w2.alloc (.cells #[Nl,Nl,Nl,Nl,I 0] 27))
   obtain⟨rb,zK⟩:=ex w2.heap.size
   rw[<- Vk] at NB qJ Xg RB ⊢
   rw[<- zK] at RB PL SK Q7 ⊢
   clear Vk zK LN zI cZ ck
   go_upto_region 6 with fail
   have KW2:=ai (KE WR.heap.size WR)
   have Mg:Hid (∀V,Below WR.heap.size WR V->Calls Tryz.prog 20 #[.agg #[.slice s1 n1 q1,.slice s2 n2 q2,.slice s3 n3 q3,.slice s4 n4 q4,I hd],.agg #[Nl,Nl,Nl,Nl,I 0]] V fun e w'=>e=.returned (.bool true)/\Below V.heap.size V w'):=fun V hV=>A7 HKN.o KW2.o (fun hs1 s=>OW s) (Xg.o.trans (Kp.aY hV) (fun _ _ g=>g)) (Kp.aY hV)
   have WB:=ai RB.o
   obtain⟨t1,m1,p1,t2,m2,p2,t3,m3,p3,t4,m4,p4,he,hce⟩:∃(t1:Option Addr) (m1 p1:Nat) (t2:Option Addr) (m2 p2:Nat) (t3:Option Addr) (m3 p3:Nat) (t4:Option Addr) (m4 p4:Nat) (he:Int),(#[Nl,Nl,Nl,Nl,I 0]:Array Value)=#[.slice t1 m1 p1,.slice t2 m2 p2,.slice t3 m3 p3,.slice t4 m4 p4,I he]:=⟨_,_,_,_,_,_,_,_,_,_,_,_,_,rfl⟩
   rw[hce] at Mg WB
   clear hce
   have cA:Hid (∀V,Below WR.heap.size WR V->V.cell? (Ad nb 0)=some (.slice s1 n1 q1)/\V.cell? (Ad nb 1)=some (.slice s2 n2 q2)/\V.cell? (Ad nb 2)=some (.slice s3 n3 q3)/\V.cell? (Ad nb 3)=some (.slice s4 n4 q4)/\V.cell? (Ad nb 4)=some (I hd)/\V.cell? (Ad rb 0)=some (.slice t1 m1 p1)/\V.cell? (Ad rb 1)=some (.slice t2 m2 p2)/\V.cell? (Ad rb 2)=some (.slice t3 m3 p3)/\V.cell? (Ad rb 3)=some (.slice t4 m4 p4)/\V.cell? (Ad rb 4)=some (I he)/\V.cell? (Ad (w.heap.size+1) 0)=some (.slice a.aS k.ak.length a.cS)/\V.cell? (Ad (w.heap.size+1) 1)=some (.slice a.aF k.frames.length a.cF)/\V.cell? (Ad (w.heap.size+1) 2)=some (.slice a.aL k.slots.length a.cL)/\V.cell? (Ad (w.heap.size+1) 3)=some (.slice a.aP k.aj.length a.cP)/\V.cell? (Ad (w.heap.size+1) 4)=some (I k.hand)):=fun V hV=>by
    have c1:=B.below NB.o hV (B.isLt NB.o)
    have c2:=B.below WB.o hV (B.isLt WB.o)
    have c3:=KB.o V (qJ.o.trans (hV.mono qJ.o.size))
    exact⟨B.cell c1 0 rfl,B.cell c1 1 rfl,B.cell c1 2 rfl,B.cell c1 3 rfl,B.cell c1 4 rfl,B.cell c2 0 rfl,B.cell c2 1 rfl,B.cell c2 2 rfl,B.cell c2 3 rfl,B.cell c2 4 rfl,B.cell c3 0 rfl,B.cell c3 1 rfl,B.cell c3 2 rfl,B.cell c3 3 rfl,B.cell c3 4 rfl⟩
   have Mn:Hid (∀V,Below WR.heap.size WR V->Calls Tryz.prog 24 #[.agg #[.slice a.aS k.ak.length a.cS,.slice a.aF k.frames.length a.cF,.slice a.aL k.slots.length a.cL,.slice a.aP k.aj.length a.cP,I k.hand]] V fun e w'=>e=.returned (I CK)/\Below V.heap.size V w'):=fun V hV=>oU.o V (qJ.o.trans (hV.mono qJ.o.size))
   have j6:Hid (∀V,Below WR.heap.size WR V->Calls Tryz.prog 14 #[.agg #[.slice a.aS k.ak.length a.cS,.slice a.aF k.frames.length a.cF,.slice a.aL k.slots.length a.cL,.slice a.aP k.aj.length a.cP,I k.hand]] V fun e w'=>e=.returned (I CK)/\Below V.heap.size V w'):=fun V hV=>HCR.o V (qJ.o.trans (hV.mono qJ.o.size))
   have VF:Hid (Below WR.heap.size WR WR.drew):=(Below.refl _ _).drew
   refine wp_region_held_drew (S:=fun V=>Below WR.heap.size WR V) (by kernel_rfl) ?_ (fun hHeld=>?_)
   · exact VF.o
   refine wpAnyH_ready (rs:=[0]) (by kernel_rfl) (by simp) ?_
   refine AllReadyH.cons rfl (fun K hK=>?_) AllReadyH.nil
   (try rw[if_pos (by kernel_rfl)]);go_simp;go_at_call 15;refine(HBG.o _).mono ?_;rintro e w6 ⟨rfl,lB⟩;have SI:=ai (VF.o.trans (lB.mono VF.o.size));clear lB;try go_simp
   refine hK.out _ _ ?_ (fun hHeld=>?_)
   · try dsimp only
     exact SI.o
   clear hK K
   try simp only[Act.put,List.setIfInBounds_toArray,List.set_cons_zero,List.set_cons_succ]
   refine GZ.htk 1 (by assumption) ?_ ?_ ?_ (hwt:=by kernel_rfl)
   rotate_left 1
   · intro V h
     obtain⟨x0,x1,x2,x3,x4,z0,z1,z2,z3,z4,k0,k1,k2,k3,k4⟩:=cA.o V h
     go_simp
     try with_reducible rfl
   try simp only[Act.put,List.setIfInBounds_toArray,List.set_cons_zero,List.set_cons_succ]
   refine GZ.htk 2 (by assumption) ?_ ?_ ?_ (hwt:=by kernel_rfl)
   rotate_left 1
   · intro V h
     obtain⟨x0,x1,x2,x3,x4,z0,z1,z2,z3,z4,k0,k1,k2,k3,k4⟩:=cA.o V h
     go_simp
     try with_reducible rfl
   try simp only[Act.put,List.setIfInBounds_toArray,List.set_cons_zero,List.set_cons_succ]
   refine GZ.htk 3 (by assumption) ?_ ?_ ?_ (hwt:=by kernel_rfl)
   rotate_left 1
   · intro V h
     obtain⟨x0,x1,x2,x3,x4,z0,z1,z2,z3,z4,k0,k1,k2,k3,k4⟩:=cA.o V h
     go_simp
     try with_reducible rfl
   try simp only[Act.put,List.setIfInBounds_toArray,List.set_cons_zero,List.set_cons_succ]
   refine GZ.htk 4 (by assumption) ?_ ?_ ?_ (hwt:=by kernel_rfl)
   rotate_left 1
   · intro V h
     obtain⟨x0,x1,x2,x3,x4,z0,z1,z2,z3,z4,k0,k1,k2,k3,k4⟩:=cA.o V h
     go_simp
     try with_reducible rfl
   try simp only[Act.put,List.setIfInBounds_toArray,List.set_cons_zero,List.set_cons_succ]
   refine GZ.htk 5 (by assumption) ?_ ?_ ?_ (hwt:=by kernel_rfl)
   rotate_left 1
   · intro V h
     obtain⟨x0,x1,x2,x3,x4,z0,z1,z2,z3,z4,k0,k1,k2,k3,k4⟩:=cA.o V h
     go_simp
     try with_reducible rfl
   try simp only[Act.put,List.setIfInBounds_toArray,List.set_cons_zero,List.set_cons_succ]
   refine GZ.htk 6 (by assumption) ?_ ?_ ?_ (hwt:=by kernel_rfl)
   rotate_left 1
   · intro V h
     obtain⟨x0,x1,x2,x3,x4,z0,z1,z2,z3,z4,k0,k1,k2,k3,k4⟩:=cA.o V h
     go_simp
     try with_reducible rfl
   try simp only[Act.put,List.setIfInBounds_toArray,List.set_cons_zero,List.set_cons_succ]
   refine GZ.htk 7 (by assumption) ?_ ?_ ?_ (hwt:=by kernel_rfl)
   rotate_left 1
   · intro V h
     obtain⟨x0,x1,x2,x3,x4,z0,z1,z2,z3,z4,k0,k1,k2,k3,k4⟩:=cA.o V h
     go_simp
     try with_reducible rfl
   try simp only[Act.put,List.setIfInBounds_toArray,List.set_cons_zero,List.set_cons_succ]
   refine GZ.htk 8 (by assumption) ?_ ?_ ?_ (hwt:=by kernel_rfl)
   rotate_left 1
   · intro V h
     obtain⟨x0,x1,x2,x3,x4,z0,z1,z2,z3,z4,k0,k1,k2,k3,k4⟩:=cA.o V h
     go_simp
     try with_reducible rfl
   try simp only[Act.put,List.setIfInBounds_toArray,List.set_cons_zero,List.set_cons_succ]
   refine wpAnyH_ready (rs:=[9]) (by kernel_rfl) (by simp) ?_
   refine AllReadyH.cons rfl (fun K hK=>?_) AllReadyH.nil
   (try rw[if_pos (by kernel_rfl)]);go_simp;go_at_call 20;refine(Mg.o _ SI.o).mono ?_;rintro e w7 ⟨rfl,lB⟩;have SH:=ai (SI.o.trans (lB.mono SI.o.size));clear lB;try go_simp
   refine hK.out _ _ ?_ (fun hHeld=>?_)
   · try dsimp only
     exact SH.o
   clear hK K
   try simp only[Act.put,List.setIfInBounds_toArray,List.set_cons_zero,List.set_cons_succ]
   refine GZ.htk 10 (by assumption) ?_ ?_ ?_ (hwt:=by kernel_rfl)
   rotate_left 1
   · intro V h
     obtain⟨x0,x1,x2,x3,x4,z0,z1,z2,z3,z4,k0,k1,k2,k3,k4⟩:=cA.o V h
     go_simp
     try with_reducible rfl
   try simp only[Act.put,List.setIfInBounds_toArray,List.set_cons_zero,List.set_cons_succ]
   refine GZ.htk 11 (by assumption) ?_ ?_ ?_ (hwt:=by kernel_rfl)
   rotate_left 1
   · intro V h
     obtain⟨x0,x1,x2,x3,x4,z0,z1,z2,z3,z4,k0,k1,k2,k3,k4⟩:=cA.o V h
     go_simp
     try with_reducible rfl
   try simp only[Act.put,List.setIfInBounds_toArray,List.set_cons_zero,List.set_cons_succ]
   refine GZ.htk 12 (by assumption) ?_ ?_ ?_ (hwt:=by kernel_rfl)
   rotate_left 1
   · intro V h
     obtain⟨x0,x1,x2,x3,x4,z0,z1,z2,z3,z4,k0,k1,k2,k3,k4⟩:=cA.o V h
     go_simp
     try with_reducible rfl
   try simp only[Act.put,List.setIfInBounds_toArray,List.set_cons_zero,List.set_cons_succ]
   refine GZ.htk 14 (by assumption) ?_ ?_ ?_ (hwt:=by kernel_rfl)
   rotate_left 1
   · intro V h
     obtain⟨x0,x1,x2,x3,x4,z0,z1,z2,z3,z4,k0,k1,k2,k3,k4⟩:=cA.o V h
     go_simp
     try with_reducible rfl
   try simp only[Act.put,List.setIfInBounds_toArray,List.set_cons_zero,List.set_cons_succ]
   refine wpAnyH_ready (rs:=[13]) (by kernel_rfl) (by simp) ?_
   refine AllReadyH.cons rfl (fun K hK=>?_) AllReadyH.nil
   (try rw[if_pos (by kernel_rfl)]);go_simp;go_at_call 24;refine(Mn.o _ SH.o).mono ?_;rintro e w8 ⟨rfl,lB⟩;have SG:=ai (SH.o.trans (lB.mono SH.o.size));clear lB;try go_simp
   refine hK.out _ _ ?_ (fun hHeld=>?_)
   · try dsimp only
     exact SG.o
   clear hK K
   try simp only[Act.put,List.setIfInBounds_toArray,List.set_cons_zero,List.set_cons_succ]
   refine wpAnyH_ready (rs:=[15]) (by kernel_rfl) (by simp) ?_
   refine AllReadyH.cons rfl (fun K hK=>?_) AllReadyH.nil
   (try rw[if_pos (by kernel_rfl)]);go_simp;go_at_call 14;refine(j6.o _ SG.o).mono ?_;rintro e w9 ⟨rfl,lB⟩;have VE:=ai (SG.o.trans (lB.mono SG.o.size));clear lB;try go_simp
   refine hK.out _ _ ?_ (fun hHeld=>?_)
   · try dsimp only
     exact VE.o
   clear hK K
   try simp only[Act.put,List.setIfInBounds_toArray,List.set_cons_zero,List.set_cons_succ]
   refine GZ.htk 16 (by assumption) ?_ ?_ ?_ (hwt:=by kernel_rfl)
   rotate_left 1
   · intro V h
     obtain⟨x0,x1,x2,x3,x4,z0,z1,z2,z3,z4,k0,k1,k2,k3,k4⟩:=cA.o V h
     go_simp
     try with_reducible rfl
   try simp only[Act.put,List.setIfInBounds_toArray,List.set_cons_zero,List.set_cons_succ]
   refine GZ.htk 17 (by assumption) ?_ ?_ ?_ (hwt:=by kernel_rfl)
   rotate_left 1
   · intro V h
     obtain⟨x0,x1,x2,x3,x4,z0,z1,z2,z3,z4,k0,k1,k2,k3,k4⟩:=cA.o V h
     go_simp
     try with_reducible rfl
   try simp only[Act.put,List.setIfInBounds_toArray,List.set_cons_zero,List.set_cons_succ]
   refine wpAnyH_ready (rs:=[18]) (by kernel_rfl) (by simp) ?_
   refine AllReadyH.cons rfl (fun K hK=>?_) AllReadyH.nil
   go_simp
   refine hK.out _ _ ?_ (fun hHeld=>?_)
   · try dsimp only
     exact VE.o
   clear hK K
   try simp only[Act.put,List.setIfInBounds_toArray,List.set_cons_zero,List.set_cons_succ]
   refine wpAnyH_done (by kernel_rfl) ?_ _
   go_wp2
   go_ret
   exact⟨by simp,bW.o.trans ((qJ.o.trans (VE.o.mono qJ.o.size)).mono bW.o.size)⟩
 · rw[g6] at Vp her
   have Vp:K0=oC l hs nf ns:=Vp
   have her:er=0:=her
   subst Vp her
   have HNQ:=HNK g1 g2 g3 g4 g5
   have HFQ:=ai (Al g1 g3 g5)
   clear HNK Al g1 g2 g3 g4 g5 g6
   go_enter Tryz.func4,Tryz.ntmps4
   go_upto_region 1 with fail
   rw[<- gp.o]
   go_upto_region 2 with(go_at_call 18;refine V7.o.mono ?_;rintro e w1 ⟨s1,n1,q1,s2,n2,q2,s3,n3,q3,s4,n4,q4,hd,rfl,hk1,hb1⟩;have HKN:=ai hk1;have bI:=ai hb1;clear hk1 hb1)
   have ck:=ai (bI.o.alloc bI.o.size (.cells #[.slice s1 n1 q1,.slice s2 n2 q2,.slice s3 n3 q3,.slice s4 n4 q4,I hd] 27))
   have LN:=ai (B.new w1 #[.slice s1 n1 q1,.slice s2 n2 q2,.slice s3 n3 q3,.slice s4 n4 q4,I hd] 27)
   have zI:Hid (Kp (fun b=>b<WA.heap.size) w1 (w1.alloc (.cells #[.slice s1 n1 q1,.slice s2 n2 q2,.slice s3 n3 q3,.slice s4 n4 q4,I hd] 27))):=Kp.alloc _ _ _
   have hz1:WA.heap.size<=w1.heap.size:=bI.o.size
   obtain⟨W1,hW1⟩:=ex (w1.alloc (.cells #[.slice s1 n1 q1,.slice s2 n2 q2,.slice s3 n3 q3,.slice s4 n4 q4,I hd] 27))
   obtain⟨nb,hnb⟩:=ex w1.heap.size
   rw[<- hW1] at ck LN zI ⊢
   rw[<- hnb] at LN hz1 ⊢
   clear hW1 hnb
   obtain⟨l0,l1,l2⟩:=B.c3 (LB.o _ ck.o)
   go_upto_region 3 with(go_at_call 23;refine(SX.o _ ck.o).mono ?_;rintro e w2 ⟨rfl,hb3⟩;have cZ:=ai hb3;clear hb3)
   go_upto_region 4 with fail
   have NB:=ai (B.alloc (B.below LN.o cZ.o (B.isLt LN.o)) (.cells #[Nl,Nl,Nl,Nl,I 0] 27))
   have qJ:=ai ((ck.o.trans (cZ.o.mono ck.o.size)).alloc (ck.o.trans (cZ.o.mono ck.o.size)).size (.cells #[Nl,Nl,Nl,Nl,I 0] 27))
   have Xg:Hid (Kp (fun b=>b<WA.heap.size) w1 (w2.alloc (.cells #[Nl,Nl,Nl,Nl,I 0] 27))):=(zI.o.trans (Kp.aY cZ.o) (fun _ _ g=>g)).trans (Kp.alloc _ _ _) (fun _ _ g=>g)
   have RB:=ai (B.new w2 #[Nl,Nl,Nl,Nl,I 0] 27)
   have Q7:WA.heap.size<=w2.heap.size:=Nat.le_trans ck.o.size cZ.o.size
   have SK:Hid (w1.heap.size<=w2.heap.size):=Nat.le_trans zI.o.size cZ.o.size
   have PL:Hid (nb<w2.heap.size):=Nat.lt_of_lt_of_le (B.isLt LN.o) cZ.o.size
   obtain⟨WR,Vk⟩:=ex (w2.alloc (.cells #[Nl,Nl,Nl,Nl,I 0] 27))
   obtain⟨rb,zK⟩:=ex w2.heap.size
   rw[<- Vk] at NB qJ Xg RB ⊢
   rw[<- zK] at RB PL SK Q7 ⊢
   clear Vk zK LN zI cZ ck
   obtain⟨l0,l1,l2⟩:=B.c3 (LB.o _ qJ.o)
   obtain⟨y0,y1,y2,y3,y4⟩:=B.c5 RB.o
   have HZQ:=ai Q7
   clear Q7
   go_upto_region 6 with(go_at_call 22;refine(HNQ.o _ qJ.o).mono ?_;rintro e w4 ⟨t1,m1,p1,t2,m2,p2,t3,m3,p3,t4,m4,p4,he,rfl,hk4,hb4⟩;have Ua:=ai hk4;have iF:=ai hb4;have R4:=ai (B.below RB.o hb4 (B.isLt RB.o));obtain⟨y0,y1,y2,y3,y4⟩:=B.c5 R4.o;have f0:=B.free R4.o 0;have f1:=B.free R4.o 1;have f2:=B.free R4.o 2;have f3:=B.free R4.o 3;have f4:=B.free R4.o 4;clear hk4 hb4)
   have h5:=KZ.mg R4.o (.slice t1 m1 p1) (.slice t2 m2 p2) (.slice t3 m3 p3) (.slice t4 m4 p4) (I he) rfl
   obtain⟨W5,TR⟩:=ex (((((w4.setCell (Ad rb 0) (.slice t1 m1 p1)).setCell (Ad rb 1) (.slice t2 m2 p2)).setCell (Ad rb 2) (.slice t3 m3 p3)).setCell (Ad rb 3) (.slice t4 m4 p4)).setCell (Ad rb 4) (I he))
   rw[<- TR] at h5 ⊢
   have ZO:Hid (Kp (fun b=>b=rb) w4 W5):=h5.2
   have WB5:=ai h5.1
   have HA5:Hid (Below WA.heap.size WA W5):=Kp.below (qJ.o.trans (iF.o.mono qJ.o.size)) ZO.o (Nat.le_trans qJ.o.size iF.o.size) (fun b e=>by have:=HZQ.o;omega)
   have Jz:Hid (Kp (fun b=>b<WA.heap.size) w1 W5):=(Xg.o.trans (Kp.aY (D:=fun b=>b<WA.heap.size) iF.o) (fun _ _ g=>g)).trans ZO.o (fun b hb e=>by have:=SK.o;have e':b=rb:=e;omega)
   have NB5:=ai (ZO.o.keep (B.below NB.o iF.o (B.isLt NB.o)) (by have:=PL.o;omega))
   clear TR h5 f0 f1 f2 f3 f4 y0 y1 y2 y3 y4
   have Zv:Hid (∀V,Below W5.heap.size W5 V->Calls Tryz.prog 20 #[.agg #[.slice s1 n1 q1,.slice s2 n2 q2,.slice s3 n3 q3,.slice s4 n4 q4,I hd],.agg #[.slice t1 m1 p1,.slice t2 m2 p2,.slice t3 m3 p3,.slice t4 m4 p4,I he]] V fun e w'=>e=.returned (.bool true)/\Below V.heap.size V w'):=fun V hV=>A7 HKN.o Ua.o HFQ.o (Jz.o.trans (Kp.aY hV) (fun _ _ g=>g)) ((ZO.o.mono (fun b _ e=>by rw[e];exact B.isLt RB.o)).trans (Kp.aY hV) (fun _ _ g=>g))
   clear Xg SX V7
   have Z8:=ai HA5.o
   clear qJ NB RB
   have qJ:=ai Z8.o
   have NB:=ai NB5.o
   have WB:=ai WB5.o
   have Mg:=ai Zv.o
   clear Z8 HA5 NB5 WB5 Zv Jz ZO iF Ua R4 HZQ PL HKN HFQ HNQ
   have cA:Hid (∀V,Below W5.heap.size W5 V->V.cell? (Ad nb 0)=some (.slice s1 n1 q1)/\V.cell? (Ad nb 1)=some (.slice s2 n2 q2)/\V.cell? (Ad nb 2)=some (.slice s3 n3 q3)/\V.cell? (Ad nb 3)=some (.slice s4 n4 q4)/\V.cell? (Ad nb 4)=some (I hd)/\V.cell? (Ad rb 0)=some (.slice t1 m1 p1)/\V.cell? (Ad rb 1)=some (.slice t2 m2 p2)/\V.cell? (Ad rb 2)=some (.slice t3 m3 p3)/\V.cell? (Ad rb 3)=some (.slice t4 m4 p4)/\V.cell? (Ad rb 4)=some (I he)/\V.cell? (Ad (w.heap.size+1) 0)=some (.slice a.aS k.ak.length a.cS)/\V.cell? (Ad (w.heap.size+1) 1)=some (.slice a.aF k.frames.length a.cF)/\V.cell? (Ad (w.heap.size+1) 2)=some (.slice a.aL k.slots.length a.cL)/\V.cell? (Ad (w.heap.size+1) 3)=some (.slice a.aP k.aj.length a.cP)/\V.cell? (Ad (w.heap.size+1) 4)=some (I k.hand)):=fun V hV=>by
    have c1:=B.below NB.o hV (B.isLt NB.o)
    have c2:=B.below WB.o hV (B.isLt WB.o)
    have c3:=KB.o V (qJ.o.trans (hV.mono qJ.o.size))
    exact⟨B.cell c1 0 rfl,B.cell c1 1 rfl,B.cell c1 2 rfl,B.cell c1 3 rfl,B.cell c1 4 rfl,B.cell c2 0 rfl,B.cell c2 1 rfl,B.cell c2 2 rfl,B.cell c2 3 rfl,B.cell c2 4 rfl,B.cell c3 0 rfl,B.cell c3 1 rfl,B.cell c3 2 rfl,B.cell c3 3 rfl,B.cell c3 4 rfl⟩
   have Mn:Hid (∀V,Below W5.heap.size W5 V->Calls Tryz.prog 24 #[.agg #[.slice a.aS k.ak.length a.cS,.slice a.aF k.frames.length a.cF,.slice a.aL k.slots.length a.cL,.slice a.aP k.aj.length a.cP,I k.hand]] V fun e w'=>e=.returned (I CK)/\Below V.heap.size V w'):=fun V hV=>oU.o V (qJ.o.trans (hV.mono qJ.o.size))
   have j6:Hid (∀V,Below W5.heap.size W5 V->Calls Tryz.prog 14 #[.agg #[.slice a.aS k.ak.length a.cS,.slice a.aF k.frames.length a.cF,.slice a.aL k.slots.length a.cL,.slice a.aP k.aj.length a.cP,I k.hand]] V fun e w'=>e=.returned (I CK)/\Below V.heap.size V w'):=fun V hV=>HCR.o V (qJ.o.trans (hV.mono qJ.o.size))
   have VF:Hid (Below W5.heap.size W5 W5.drew):=(Below.refl _ _).drew
   refine wp_region_held_drew (S:=fun V=>Below W5.heap.size W5 V) (by kernel_rfl) ?_ (fun hHeld=>?_)
   · exact VF.o
   refine wpAnyH_ready (rs:=[0]) (by kernel_rfl) (by simp) ?_
   refine AllReadyH.cons rfl (fun K hK=>?_) AllReadyH.nil
   (try rw[if_pos (by kernel_rfl)]);go_simp;go_at_call 15;refine(HBG.o _).mono ?_;rintro e w6 ⟨rfl,lB⟩;have SI:=ai (VF.o.trans (lB.mono VF.o.size));clear lB;try go_simp
   refine hK.out _ _ ?_ (fun hHeld=>?_)
   · try dsimp only
     exact SI.o
   clear hK K
   try simp only[Act.put,List.setIfInBounds_toArray,List.set_cons_zero,List.set_cons_succ]
   refine GZ.htk 1 (by assumption) ?_ ?_ ?_ (hwt:=by kernel_rfl)
   rotate_left 1
   · intro V h
     obtain⟨x0,x1,x2,x3,x4,z0,z1,z2,z3,z4,k0,k1,k2,k3,k4⟩:=cA.o V h
     go_simp
     try with_reducible rfl
   try simp only[Act.put,List.setIfInBounds_toArray,List.set_cons_zero,List.set_cons_succ]
   refine GZ.htk 2 (by assumption) ?_ ?_ ?_ (hwt:=by kernel_rfl)
   rotate_left 1
   · intro V h
     obtain⟨x0,x1,x2,x3,x4,z0,z1,z2,z3,z4,k0,k1,k2,k3,k4⟩:=cA.o V h
     go_simp
     try with_reducible rfl
   try simp only[Act.put,List.setIfInBounds_toArray,List.set_cons_zero,List.set_cons_succ]
   refine GZ.htk 3 (by assumption) ?_ ?_ ?_ (hwt:=by kernel_rfl)
   rotate_left 1
   · intro V h
     obtain⟨x0,x1,x2,x3,x4,z0,z1,z2,z3,z4,k0,k1,k2,k3,k4⟩:=cA.o V h
     go_simp
     try with_reducible rfl
   try simp only[Act.put,List.setIfInBounds_toArray,List.set_cons_zero,List.set_cons_succ]
   refine GZ.htk 4 (by assumption) ?_ ?_ ?_ (hwt:=by kernel_rfl)
   rotate_left 1
   · intro V h
     obtain⟨x0,x1,x2,x3,x4,z0,z1,z2,z3,z4,k0,k1,k2,k3,k4⟩:=cA.o V h
     go_simp
     try with_reducible rfl
   try simp only[Act.put,List.setIfInBounds_toArray,List.set_cons_zero,List.set_cons_succ]
   refine GZ.htk 5 (by assumption) ?_ ?_ ?_ (hwt:=by kernel_rfl)
   rotate_left 1
   · intro V h
     obtain⟨x0,x1,x2,x3,x4,z0,z1,z2,z3,z4,k0,k1,k2,k3,k4⟩:=cA.o V h
     go_simp
     try with_reducible rfl
   try simp only[Act.put,List.setIfInBounds_toArray,List.set_cons_zero,List.set_cons_succ]
   refine GZ.htk 6 (by assumption) ?_ ?_ ?_ (hwt:=by kernel_rfl)
   rotate_left 1
   · intro V h
     obtain⟨x0,x1,x2,x3,x4,z0,z1,z2,z3,z4,k0,k1,k2,k3,k4⟩:=cA.o V h
     go_simp
     try with_reducible rfl
   try simp only[Act.put,List.setIfInBounds_toArray,List.set_cons_zero,List.set_cons_succ]
   refine GZ.htk 7 (by assumption) ?_ ?_ ?_ (hwt:=by kernel_rfl)
   rotate_left 1
   · intro V h
     obtain⟨x0,x1,x2,x3,x4,z0,z1,z2,z3,z4,k0,k1,k2,k3,k4⟩:=cA.o V h
     go_simp
     try with_reducible rfl
   try simp only[Act.put,List.setIfInBounds_toArray,List.set_cons_zero,List.set_cons_succ]
   refine GZ.htk 8 (by assumption) ?_ ?_ ?_ (hwt:=by kernel_rfl)
   rotate_left 1
   · intro V h
     obtain⟨x0,x1,x2,x3,x4,z0,z1,z2,z3,z4,k0,k1,k2,k3,k4⟩:=cA.o V h
     go_simp
     try with_reducible rfl
   try simp only[Act.put,List.setIfInBounds_toArray,List.set_cons_zero,List.set_cons_succ]
   refine wpAnyH_ready (rs:=[9]) (by kernel_rfl) (by simp) ?_
   refine AllReadyH.cons rfl (fun K hK=>?_) AllReadyH.nil
   (try rw[if_pos (by kernel_rfl)]);go_simp;go_at_call 20;refine(Mg.o _ SI.o).mono ?_;rintro e w7 ⟨rfl,lB⟩;have SH:=ai (SI.o.trans (lB.mono SI.o.size));clear lB;try go_simp
   refine hK.out _ _ ?_ (fun hHeld=>?_)
   · try dsimp only
     exact SH.o
   clear hK K
   try simp only[Act.put,List.setIfInBounds_toArray,List.set_cons_zero,List.set_cons_succ]
   refine GZ.htk 10 (by assumption) ?_ ?_ ?_ (hwt:=by kernel_rfl)
   rotate_left 1
   · intro V h
     obtain⟨x0,x1,x2,x3,x4,z0,z1,z2,z3,z4,k0,k1,k2,k3,k4⟩:=cA.o V h
     go_simp
     try with_reducible rfl
   try simp only[Act.put,List.setIfInBounds_toArray,List.set_cons_zero,List.set_cons_succ]
   refine GZ.htk 11 (by assumption) ?_ ?_ ?_ (hwt:=by kernel_rfl)
   rotate_left 1
   · intro V h
     obtain⟨x0,x1,x2,x3,x4,z0,z1,z2,z3,z4,k0,k1,k2,k3,k4⟩:=cA.o V h
     go_simp
     try with_reducible rfl
   try simp only[Act.put,List.setIfInBounds_toArray,List.set_cons_zero,List.set_cons_succ]
   refine GZ.htk 12 (by assumption) ?_ ?_ ?_ (hwt:=by kernel_rfl)
   rotate_left 1
   · intro V h
     obtain⟨x0,x1,x2,x3,x4,z0,z1,z2,z3,z4,k0,k1,k2,k3,k4⟩:=cA.o V h
     go_simp
     try with_reducible rfl
   try simp only[Act.put,List.setIfInBounds_toArray,List.set_cons_zero,List.set_cons_succ]
   refine GZ.htk 14 (by assumption) ?_ ?_ ?_ (hwt:=by kernel_rfl)
   rotate_left 1
   · intro V h
     obtain⟨x0,x1,x2,x3,x4,z0,z1,z2,z3,z4,k0,k1,k2,k3,k4⟩:=cA.o V h
     go_simp
     try with_reducible rfl
   try simp only[Act.put,List.setIfInBounds_toArray,List.set_cons_zero,List.set_cons_succ]
   refine wpAnyH_ready (rs:=[13]) (by kernel_rfl) (by simp) ?_
   refine AllReadyH.cons rfl (fun K hK=>?_) AllReadyH.nil
   (try rw[if_pos (by kernel_rfl)]);go_simp;go_at_call 24;refine(Mn.o _ SH.o).mono ?_;rintro e w8 ⟨rfl,lB⟩;have SG:=ai (SH.o.trans (lB.mono SH.o.size));clear lB;try go_simp
   refine hK.out _ _ ?_ (fun hHeld=>?_)
   · try dsimp only
     exact SG.o
   clear hK K
   try simp only[Act.put,List.setIfInBounds_toArray,List.set_cons_zero,List.set_cons_succ]
   refine wpAnyH_ready (rs:=[15]) (by kernel_rfl) (by simp) ?_
   refine AllReadyH.cons rfl (fun K hK=>?_) AllReadyH.nil
   (try rw[if_pos (by kernel_rfl)]);go_simp;go_at_call 14;refine(j6.o _ SG.o).mono ?_;rintro e w9 ⟨rfl,lB⟩;have VE:=ai (SG.o.trans (lB.mono SG.o.size));clear lB;try go_simp
   refine hK.out _ _ ?_ (fun hHeld=>?_)
   · try dsimp only
     exact VE.o
   clear hK K
   try simp only[Act.put,List.setIfInBounds_toArray,List.set_cons_zero,List.set_cons_succ]
   refine GZ.htk 16 (by assumption) ?_ ?_ ?_ (hwt:=by kernel_rfl)
   rotate_left 1
   · intro V h
     obtain⟨x0,x1,x2,x3,x4,z0,z1,z2,z3,z4,k0,k1,k2,k3,k4⟩:=cA.o V h
     go_simp
     try with_reducible rfl
   try simp only[Act.put,List.setIfInBounds_toArray,List.set_cons_zero,List.set_cons_succ]
   refine GZ.htk 17 (by assumption) ?_ ?_ ?_ (hwt:=by kernel_rfl)
   rotate_left 1
   · intro V h
     obtain⟨x0,x1,x2,x3,x4,z0,z1,z2,z3,z4,k0,k1,k2,k3,k4⟩:=cA.o V h
     go_simp
     try with_reducible rfl
   try simp only[Act.put,List.setIfInBounds_toArray,List.set_cons_zero,List.set_cons_succ]
   refine wpAnyH_ready (rs:=[18]) (by kernel_rfl) (by simp) ?_
   refine AllReadyH.cons rfl (fun K hK=>?_) AllReadyH.nil
   go_simp
   refine hK.out _ _ ?_ (fun hHeld=>?_)
   · try dsimp only
     exact VE.o
   clear hK K
   try simp only[Act.put,List.setIfInBounds_toArray,List.set_cons_zero,List.set_cons_succ]
   refine wpAnyH_done (by kernel_rfl) ?_ _
   go_wp2
   go_ret
   exact⟨by simp,bW.o.trans ((qJ.o.trans (VE.o.mono qJ.o.size)).mono bW.o.size)⟩
end KL
namespace W
open Go.RowKit Go.Deep
theorem su:Tryz.prog.cellsOf 9=1:=by kernel_rfl
theorem cells3:Tryz.prog.cellsOf 3=1:=by kernel_rfl
theorem zk:Tryz.prog.cellsOf 4=1:=by kernel_rfl
theorem ku (n:Int) (h:(Lit.int .i64 n).wf=true):M.gj n:=CM.bounds n h
theorem qG {w:World} {b o:Nat} {v:Value} (h:w.cell? (Ad b o)=some v):b<w.heap.size:=by
 rcases Nat.lt_or_ge b w.heap.size with g | g
 · exact g
 · have e:w.heap[b]?=none:=Array.getElem?_eq_none g
   simp[World.cell?,e] at h
instance:Inhabited M.Sg:=⟨M.PX⟩
instance:Inhabited M.Sy:=⟨M.sy0⟩
instance:Inhabited M.Rl:=⟨M.rl0⟩
def OkW {H:Type} (t:TypeId) (d:DataW H):Prop:=∀n∈d.weights Tryz.prog t,n<=reachBytes
theorem pI {H:Type} {e:TypeId}:∀{l:List (DataW H)} {d:DataW H},d∈l->∀n∈d.weights Tryz.prog e,n∈DataW.weightsAll Tryz.prog e l
 | y::r,d,h,n,hn=>by
  simp only[DataW.weightsAll,List.mem_append]
  rcases List.mem_cons.1 h with h | h
  · subst h;exact .inl hn
  · exact .inr (pI h n hn)
theorem jt {H:Type} {t:TypeId} {b:List UInt8} (h:OkW (H:=H) t (.lit (.string b))):b.length<=reachBytes:=h _ (by simp[DataW.weights])
theorem jB {H:Type} {t e:TypeId} {el sp:List (DataW H)} (hu:Tryz.prog.underlying t=some (.slice e)) (h:OkW t (.slice el sp)):(el.length+sp.length)*Tryz.prog.bytesOf e<=reachBytes/\∀d∈el,OkW e d:=by
 refine⟨h _ (by simp[DataW.weights,hu]),fun d hd n hn=>h n ?_⟩
 simp only[DataW.weights,hu,List.mem_cons,List.mem_append]
 exact .inr (.inl (pI hd n hn))
theorem gu {H:Type} {t:TypeId} {fs:Array Field} {ps:List (DataW H)} (hu:Tryz.prog.underlying t=some (.struct fs)) (h:OkW t (.agg ps)) {j:Nat} {u:TypeId} {d:DataW H} (ht:(fs.toList.map (·.type))[j]?=some u) (hd:ps[j]?=some d):OkW u d:=fun n hn=>h n (by
 simp only[DataW.weights,hu]
 exact DataW.weights_mem_each ht hd n hn)
section
variable {H:Type} {enc:TypeId×Value->H} {w:World} {base:Nat} {spare:Nat->Bool} {held:Bool}
theorem gM {t e:TypeId} {fuel:Nat} {v:Value} {x:DataW H×List MemPlace} (ht:Tryz.prog.underlying t=some (.slice e)) (h:DataW.trod enc Tryz.prog w base spare held fuel t [v]=some x):∃a len cap,v=.slice a len cap:=by
 rcases open_slice ht h with⟨hcs,_⟩ | ⟨a,len',cap',m,n,D,Pl,hcs,_⟩
 · simp at hcs;exact⟨_,_,_,hcs⟩
 · simp at hcs;exact⟨_,_,_,hcs⟩
end
end W
namespace LW
open Go.RowKit Go.Deep
open W (OkW jt jB gu gM qG ku su cells3)
theorem Sd:Tryz.prog.cellsOf 52=2:=by kernel_rfl
theorem Sa:Tryz.prog.cellsOf 50=3:=by kernel_rfl
theorem Sb:Tryz.prog.cellsOf 30=3:=by kernel_rfl
theorem Pj:Tryz.prog.cellsOf 48=1:=by kernel_rfl
theorem E1:Tryz.prog.cellsOf 22=1:=by kernel_rfl
theorem E3:Tryz.prog.cellsOf 28=1:=by kernel_rfl
theorem Sr:Tryz.prog.bytesOf 52=24:=by kernel_rfl
theorem Sq:Tryz.prog.bytesOf 50=48:=by kernel_rfl
theorem Jo:Tryz.prog.bytesOf 47=32:=by kernel_rfl
instance:Inhabited LM.Fx:=⟨LM.Ze⟩
instance:Inhabited LM.Sh:=⟨LM.L5⟩
section
variable {H:Type} {enc:TypeId×Value->H} {w:World} {base:Nat} {spare:Nat->Bool} {held:Bool}
theorem QQ {n:Nat} {a:Addr} {cs:List Value} {x:DataW H×List MemPlace} (hc:w.cells? base a 2=some cs) (h:DataW.trod enc Tryz.prog w base spare held n 52 cs=some x) (hw:OkW 52 x.1) :
  ∃(x0:Int) (x1:ByteArray),(w.cell? (a.add 0)=some (I x0)/\M.gj x0)/\(w.cell? (a.add 1)=some (.string x1)/\M.bf x1.size):=by
 obtain⟨_,hlen,hcell⟩:=World.cells?_some hc
 obtain⟨xs,k,hk,hxy,_,hxl,hf⟩:=DataW.trod_struct Tryz.underlying52 h
 rw[hxy] at hw
 match cs,hlen with
 | [v0,v1],_ =>
  have g0:DataW.trod enc Tryz.prog w base spare held k 3 (([v0,v1].drop 0).take (Tryz.prog.cellsOf 3))=xs[0]?:=hf 0 _ rfl
  have g1:DataW.trod enc Tryz.prog w base spare held k 9 (([v0,v1].drop 1).take (Tryz.prog.cellsOf 9))=xs[1]?:=hf 1 _ rfl
  simp only[cells3,su] at g0 g1
  have e0:=hcell 0 (by omega)
  have e1:=hcell 1 (by omega)
  match xs,hxl with
  | [y0,y1],_ =>
   obtain⟨m0,c0,_,w0⟩:=DataW.trod_int Tryz.underlying3 (show DataW.trod enc Tryz.prog w base spare held k 3 [v0]=some y0 from g0)
   obtain⟨m1,c1,hx1,_⟩:=DataW.trod_string Tryz.underlying9 (show DataW.trod enc Tryz.prog w base spare held k 9 [v1]=some y1 from g1)
   have u1:=gu Tryz.underlying52 hw (j:=1) (u:=9) (d:=y1.1) rfl rfl
   rw[hx1] at u1
   have w1:M.bf m1.size:=by have:=jt u1;unfold M.bf;unfold reachBytes at this;rw[Lib.size_eq];exact this
   simp only[List.cons.injEq,and_true] at c0 c1
   subst c0;subst c1
   exact⟨m0,m1,⟨e0,ku _ w0⟩,⟨e1,w1⟩⟩
theorem UC {fuel:Nat} {a0:Option Addr} {len cap:Nat} {x:DataW H×List MemPlace} (h:DataW.trod enc Tryz.prog w base spare held fuel 48 [.slice a0 len cap]=some x) (hw:OkW 48 x.1) :
  ∃l:List LM.Fx,l.length=len/\LM.nE w a0 l/\M.bf l.length/\∀k,k<l.length->LM.WG (LM.lQ l k):=by
 rcases open_slice Tryz.underlying48 h with⟨hcs,_⟩ | ⟨a,len',cap',m,n,D,Pl,hcs,hb,hl,hm,hmm,rfl,hx⟩
 · simp at hcs
   obtain⟨rfl,rfl,rfl⟩:=hcs
   exact⟨[],rfl,fun h=>absurd h (by simp),by unfold M.bf;simp,fun k hk=>absurd hk (by simp)⟩
 · simp at hcs
   obtain⟨rfl,rfl,rfl⟩:=hcs
   have hlm:len<=m:=by rw[hmm];split <;> omega
   obtain⟨hb1,hb2⟩:=jB Tryz.underlying48 hw
   rw[Sr] at hb1
   unfold reachBytes at hb1
   have hlen:len<=140737488351232:=by simp at hb1;omega
   have each:∀i,i<len->∃y:LM.Fx,w.cell? (a.add (i*2+0))=some (I y.off)/\w.cell? (a.add (i*2+1))=some (.string y.bytes)/\LM.WG y:=by
    intro i hi
    obtain⟨cs',h1,h2⟩:=hx i (by omega)
    have hd:D i∈(List.range len).map D:=List.mem_map.2 ⟨i,List.mem_range.2 hi,rfl⟩
    rw[Sd] at h1
    obtain⟨x0,x1,⟨e0,z0⟩,⟨e1,z1⟩⟩:=QQ h1 h2 (hb2 _ hd)
    simp only[add_add] at e0 e1
    exact⟨⟨x0,x1⟩,e0,e1,⟨z0,z1⟩⟩
   obtain⟨g,hg⟩:=choose_lt each
   have hat:∀i,i<len->LM.lQ ((List.range len).map g) i=g i:=by
    intro i hi
    simp[LM.lQ,hi]
   refine⟨(List.range len).map g,by simp,fun h0=>?_,by unfold M.bf;simp;exact hlen,fun k hk=>?_⟩
   · have h0':0<len:=by simpa using h0
     obtain⟨b,off,spot⟩:=a
     have hc:=(hg 0 h0').1
     have hspot:spot=none:=by simpa [Addr.add] using World.cell?_spot hc
     subst hspot
     rw[Addr.add_lit] at hc
     refine⟨b,off,rfl,qG hc,fun i hi=>?_⟩
     have hi':i<len:=by simpa using hi
     rw[hat i hi']
     obtain⟨e0,e1,_⟩:=hg i hi'
     simp only[Addr.add_lit] at e0 e1
     exact⟨e0,by rw[Nat.add_assoc];exact e1⟩
   · have hi':k<len:=by simpa using hk
     rw[hat k hi']
     obtain⟨_,_,f⟩:=hg k hi'
     exact f
theorem FT {n:Nat} {v0 v1 v2:Value} {x:DataW H×List MemPlace} (h:DataW.trod enc Tryz.prog w base spare held n 50 [v0,v1,v2]=some x) (hw:OkW 50 x.1) :
  ∃s:LM.Sh,v0=I s.page/\v1=.string s.data/\v2=.slice s.ao s.bh.length s.cap/\LM.nE w s.ao s.bh/\LM.De s:=by
 obtain⟨xs,k,hk,hxy,_,hxl,hf⟩:=DataW.trod_struct Tryz.underlying50 h
 rw[hxy] at hw
 have g0:DataW.trod enc Tryz.prog w base spare held k 3 (([v0,v1,v2].drop 0).take (Tryz.prog.cellsOf 3))=xs[0]?:=hf 0 _ rfl
 have g1:DataW.trod enc Tryz.prog w base spare held k 9 (([v0,v1,v2].drop 1).take (Tryz.prog.cellsOf 9))=xs[1]?:=hf 1 _ rfl
 have g2:DataW.trod enc Tryz.prog w base spare held k 48 (([v0,v1,v2].drop 2).take (Tryz.prog.cellsOf 48))=xs[2]?:=hf 2 _ rfl
 simp only[cells3,su,Pj] at g0 g1 g2
 match xs,hxl with
 | [y0,y1,y2],_ =>
  obtain⟨m0,c0,_,w0⟩:=DataW.trod_int Tryz.underlying3 (show DataW.trod enc Tryz.prog w base spare held k 3 [v0]=some y0 from g0)
  obtain⟨m1,c1,hx1,_⟩:=DataW.trod_string Tryz.underlying9 (show DataW.trod enc Tryz.prog w base spare held k 9 [v1]=some y1 from g1)
  have u1:=gu Tryz.underlying50 hw (j:=1) (u:=9) (d:=y1.1) rfl rfl
  have u2:=gu Tryz.underlying50 hw (j:=2) (u:=48) (d:=y2.1) rfl rfl
  rw[hx1] at u1
  have w1:M.bf m1.size:=by have:=jt u1;unfold M.bf;unfold reachBytes at this;rw[Lib.size_eq];exact this
  have t2:DataW.trod enc Tryz.prog w base spare held k 48 [v2]=some y2:=g2
  obtain⟨ao,ln,cp,d2⟩:=gM Tryz.underlying48 t2
  subst d2
  obtain⟨fs,n1,n2,n3,n4⟩:=UC t2 u2
  simp only[List.cons.injEq,and_true] at c0 c1
  subst c0;subst c1;subst n1
  exact⟨⟨m0,m1,fs,ao,cp⟩,rfl,rfl,rfl,n2,⟨ku _ w0,w1,n3,n4⟩⟩
end
end LW
end Go.Proofs.YtpgifpeohlllfaaGreat
