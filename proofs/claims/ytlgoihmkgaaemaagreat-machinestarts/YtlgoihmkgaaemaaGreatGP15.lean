import Derived.Test.YtlgoihmkgaaemaaGreatGP14
import Derived.Great.Ranges
set_option maxHeartbeats 20000000
set_option linter.unusedVariables false
set_option maxRecDepth 100000
set_option linter.unusedSimpArgs false
namespace Go.Proofs.YtlgoihmkgaaemaaGreat
open Go.RowKit Tryz
def tD (w:World) (a:gN) (k:aT) (e:Ending) (w':World):Prop:=Below w.heap.size w w'/\((dD k=0/\∃mb,e=.returned (.tuple #[.pointer (some (Ad mb 0)),I 0])/\w.heap.size<=mb/\w'.heap[mb]?=some (.cells (mW (.slice a.aS k.aD.length a.cS) (.slice a.aF k.frames.length a.cF) (.slice a.aL k.slots.length a.cL) (.slice a.aP k.aj.length a.cP) (I k.hand) (mq k.aD k.aD.length)) 158 (0,0)))\/(dD k≠0/\e=.returned (.tuple #[.pointer none,I (dD k)])))
theorem Og {w:World} {mb:Nat} {hs:List bD} {a b c d e:Value} (h:w.heap[mb]?=some (.cells (mW a b c d e (mq hs hs.length)) 158 (0,0))) (hr:dR hs=true):∀n:Nat,n<256->w.cell? (Ad mb (5+n))=some (.string (fE hs n)):=λn hn=>(aA h (5+n) (Rv a b c d e _ n hn)).trans (by grind [Gg])
variable (k:aT) (a:gN) (es:List bK) (p:Int) (w:World)
theorem Xy (hK:iB w a k) (hF:kN k) (hc:lh k=true):Calls prog 87 #[.agg (bj a k)] w (tD w a k):=by
 have aE:=kr hc;have sS:Hid (∀w',Below w.heap.size w w'->Dz k=false->tD w a k (.returned (.tuple #[.pointer none,I 1])) w'):=λw' hb hf=>by
  have e:dD k=1:=by grind [dD]
  exact⟨hb,.inr ⟨ω,by rw[e]⟩⟩
 have FI:Hid (∀w' mb,Below w.heap.size w w'->Dz k=true->w.heap.size<=mb->w'.heap[mb]?=some (.cells (mW (.slice a.aS k.aD.length a.cS) (.slice a.aF k.frames.length a.cF) (.slice a.aL k.slots.length a.cL) (.slice a.aP k.aj.length a.cP) (I k.hand) (mq k.aD k.aD.length)) 158 (0,0))->tD w a k (.returned (.tuple #[.pointer (some (Ad mb 0)),I 0])) w'):=λw' mb hb hf hm hh=>by
  have e:dD k=0:=by grind [dD]
  exact⟨hb,.inl ⟨e,mb,rfl,hm,hh⟩⟩
 generalize tD w a k=P at sS FI ⊢;unfold bj;have HC:Hid (∀V,Calls prog 139 #[.agg #[.slice a.aS k.aD.length a.cS,.slice a.aF k.frames.length a.cF,.slice a.aL k.slots.length a.cL,.slice a.aP k.aj.length a.cP,I k.hand]] V λe w'=>e=.returned (.bool true)/\Below V.heap.size V w'):=λV=>by
  have:=IK a.aS a.aF a.aL a.aP k.aD.length a.cS k.frames.length a.cF k.slots.length a.cL k.aj.length a.cP (I k.hand) V;rw[dW aE] at this;exact this
 have a8:=ai (@TW k);have X:=ai (Vv k.aD k.aj (List.replicate k.frames.length dM,List.replicate k.slots.length dM) k.frames.length k.slots.length (Vu _) (Vu _));have ad:=ai (LI k.aD k.aj (List.replicate k.frames.length dM,List.replicate k.slots.length dM));obtain⟨b0,ay,ar,aQ⟩:=hK;obtain⟨fS,ba,au,b8,aC,bb,av,b4⟩:=hF;have a2:=ai b0;have a4:=ai ay;have a9:=ai ar;have R:=ai aQ;have ab:=ai fS;have VL:=ai au;have VF:=ai aC;have I9:=ai av;clear b0 ay ar aQ fS au aC av hc ba b8 bb;obtain⟨aS,cS,aF,cF,aL,cL,aP,cP⟩:=a;obtain⟨hs,fs,ls,ss,hd⟩:=k;unfold Dz AK at *;simp only at HC aE sS FI a8 X ad a2 a4 a9 R ab VL VF I9 b4 ⊢;have BK:=ai (bG w #[.slice aS hs.length cS,.slice aF fs.length cF,.slice aL ls.length cL,.slice aP ss.length cP,I hd] 30);have Ij:=ai ((aN w.heap.size w).alloc (aJ _) (.cells #[.slice aS hs.length cS,.slice aF fs.length cF,.slice aL ls.length cL,.slice aP ss.length cP,I hd] 30));go_enter func87,ntmps87;go_upto_region 3 with(go_at_call 139;refine(HC.o _).mono ?_;rintro e w1 ⟨rfl,al⟩;have ah:=ai (cJ Ij.o al);have a1:=ai (aO BK.o al ξ);clear al);refine wp_region_lit ?_;refine vZ rfl 30 _ rfl w.heap.size rfl 30 _ (0,0) _ a1.o underlying30 rfl ρ ?_;refine Pq rfl 158 _ rfl (.agg #[.slice aS hs.length cS,.slice aF fs.length cF,.slice aL ls.length cL,.slice aP ss.length cP,I hd]) ρ _ (agf _ _ _ _ _) ?_;have HM:=ai (bG w1 (mW (.slice aS hs.length cS) (.slice aF fs.length cF) (.slice aL ls.length cL) (.slice aP ss.length cP) (I hd) tB) 158);have F:=ai (bB a1.o (.cells (mW (.slice aS hs.length cS) (.slice aF fs.length cF) (.slice aL ls.length cL) (.slice aP ss.length cP) (I hd) tB) 158));have a0:=ai (ah.o.alloc ah.o.size (.cells (mW (.slice aS hs.length cS) (.slice aF fs.length cF) (.slice aL ls.length cL) (.slice aP ss.length cP) (I hd) tB) 158));have mL:w.heap.size<w1.heap.size:=aM a1.o;refine Go.Great.wpList_boxTo rfl 158 _ rfl _ rfl w1.heap.size rfl (mW (.slice aS hs.length cS) (.slice aF fs.length cF) (.slice aL ls.length cL) (.slice aP ss.length cP) (I hd) tB) ρ ?_;generalize w1.alloc (.cells (mW (.slice aS hs.length cS) (.slice aF fs.length cF) (.slice aL ls.length cL) (.slice aP ss.length cP) (I hd) tB) 158)=W at HM F a0 ⊢;generalize w1.heap.size=mb at HM mL ⊢;obtain⟨kb,b3⟩:=ex w.heap.size;have az:w.heap.size<=mb:=by omega
 have bp:w.heap.size<=kb:=by omega
 have a3:¬kb=mb:=by omega
 rw[<- b3] at F ⊢;have d1:W.cell? (Ad kb 1)=some (.slice aF fs.length cF):=aA F.o 1 rfl;have d2:W.cell? (Ad kb 2)=some (.slice aL ls.length cL):=aA F.o 2 rfl;clear b3 BK a1 HC Ij ah;have Br:fs.length<=1000:=by omega
 have a6:ls.length<=1000:=by omega
 have e2:∀V:World,(Instr.makeSlice 250 (I (fs.length:Int)) (I (fs.length:Int))).run prog V=.ok (.slice (some (Ad V.heap.size 0)) fs.length fs.length) (V.alloc (.cells (xH fs.length) 302)):=λV=>afj V fs.length Br
 have e3:∀V:World,(Instr.makeSlice 250 (I (ls.length:Int)) (I (ls.length:Int))).run prog V=.ok (.slice (some (Ad V.heap.size 0)) ls.length ls.length) (V.alloc (.cells (xH ls.length) 302)):=λV=>afj V ls.length a6
 have b9:(W.alloc (.cells (xH ls.length) 302)).cell? (Ad kb 1)=some (.slice aF fs.length cF):=aA (bB F.o _) 1 rfl;have b5:(W.alloc (.cells (xH fs.length) 302)).cell? (Ad kb 2)=some (.slice aL ls.length cL):=aA (bB F.o _) 2 rfl;have q1:=ai (Hv W.heap.size W fs.length (aJ _) Br);have q2:=ai (Hv W.heap.size (W.alloc (.cells (xH fs.length) 302)) ls.length ξ a6);have q3:=ai (Hv W.heap.size W ls.length (aJ _) a6);have q4:=ai (Hv W.heap.size (W.alloc (.cells (xH ls.length) 302)) fs.length ξ Br);rw[fp] at q2 q4;have q5:=ai (((aN W.heap.size W).alloc (aJ _) (.cells (xH fs.length) 302)).alloc ξ (.cells (xH ls.length) 302));have q6:=ai (((aN W.heap.size W).alloc (aJ _) (.cells (xH ls.length) 302)).alloc ξ (.cells (xH fs.length) 302));go_upto_region 4 with fail;go_cut [5,6] (λx5 x6 wx=>∃gf gs:Nat,x5=.slice (some (Ad gf 0)) fs.length fs.length/\x6=.slice (some (Ad gs 0)) ls.length ls.length/\¬gf=gs/\iz W.heap.size wx gf fs.length fs.length (List.replicate fs.length dM)/\iz W.heap.size wx gs ls.length ls.length (List.replicate ls.length dM)/\Below W.heap.size W wx)
 case first =>
  go_region
  all_goals
   go_wp2_with fail
   go_meet
   case rel=>first | exact⟨_,_,rfl,rfl,ξ,(q1.out.kp (aI.alloc (λ_=>False) _ _) (λx=>x)).d,q2.out.d,q5.out.drew⟩ | exact⟨_,_,rfl,rfl,ξ,q4.out.d,(q3.out.kp (aI.alloc (λ_=>False) _ _) (λx=>x)).d,q6.out.drew⟩
 case rest =>
  obtain⟨gf,gs,rfl,rfl,bi,A,y,E7⟩:=hcut;clear q1 q2 q3 q4 q5 q6 e2 e3 b9 b5 d1 d2;have bx:=A.lt;have bs:=y.lt;have T:=ai A;have Y:=ai y;have b6:=aM HM.o;have bn:=aM F.o;have aw:=ai (aO HM.o E7 b6);have Q:=ai (aO F.o E7 bn);have mh:=ai (a0.o.trans (E7.mono a0.o.size));have M:=ai (Lu hs aS cS mb (.slice aF fs.length cF) (.slice aL ls.length cL) (.slice aP ss.length cP) (I hd) w wc a2.o ab.o mh.o az aw.o ω);clear A y E7 HM F a0;have EK:Hid (∀V,Below w.heap.size w V->(dR hs=false\/hd<0\/(fs.length:Int)<=hd)->P (.returned (.tuple #[.pointer none,I 1])) V):=λV hV g=>sS.o V hV (by
   rcases g with g | g | g
   . rw[g];rfl
   . rw[eH ω];simp
   rw[eH ω];simp)
  obtain⟨RB,ae⟩:=ex (dR hs);have Kc:=ai ae;rw[<- ae] at M EK;clear ae;cases RB with
  | false =>
   go_wp2_with (go_at_call 140;refine M.o.mono ?_;rintro e w2 ⟨rfl,q,G,hG,hg⟩;have iI:=ai (q.below mh.o mh.o.size (λb hb=>ω));have r:=ai (q.keep Q.o a3);clear q hG hg)
   exact EK.o _ iI.o (.inl trivial)
  | true =>
   rcases(show hd<0\/(0<=hd/\(fs.length:Int)<=hd)\/(0<=hd/\hd<(fs.length:Int)) by omega) with g | ⟨g1,g2⟩ | ⟨g1,g2⟩
   . go_wp2_with (go_at_call 140;refine M.o.mono ?_;rintro e w2 ⟨rfl,q,G,hG,hg⟩;have iI:=ai (q.below mh.o mh.o.size (λb hb=>ω));have r:=ai (q.keep Q.o a3);have Z:=ai hg;have m4:w2.cell? (Ad kb 4)=some (I hd):=aA r.o 4 rfl;clear q hG hg)
     exact EK.o _ iI.o (.inr (.inl g))
   . go_wp2_with (go_at_call 140;refine M.o.mono ?_;rintro e w2 ⟨rfl,q,G,hG,hg⟩;have iI:=ai (q.below mh.o mh.o.size (λb hb=>ω));have r:=ai (q.keep Q.o a3);have Z:=ai hg;have m1:w2.cell? (Ad kb 1)=some (.slice aF fs.length cF):=aA r.o 1 rfl;have m4:w2.cell? (Ad kb 4)=some (I hd):=aA r.o 4 rfl;clear q hG hg)
     exact EK.o _ iI.o (.inr (.inr g2))
   go_wp2_with (go_at_call 140;refine M.o.mono ?_;rintro e w2 ⟨rfl,q,G,hG,hg⟩;have iI:=ai (q.below mh.o mh.o.size (λb hb=>ω));have r:=ai (q.keep Q.o a3);have HG:=ai hG;have Z:=ai hg;have aq:=ai (T.o.kp q ω);have af:=ai (Y.o.kp q ω);have m1:w2.cell? (Ad kb 1)=some (.slice aF fs.length cF):=aA r.o 1 rfl;have m3:w2.cell? (Ad kb 3)=some (.slice aP ss.length cP):=aA r.o 3 rfl;have m4:w2.cell? (Ad kb 4)=some (I hd):=aA r.o 4 rfl;clear q hG hg)
   have an:Hid (w2.heap[mb]?=some (.cells (mW (.slice aS hs.length cS) (.slice aF fs.length cF) (.slice aL ls.length cL) (.slice aP ss.length cP) (I hd) (mq hs hs.length)) 158 (0,0))):=by
    have:=HG.o;rw[Z.o trivial] at this;exact this
   clear M EK HG Z aw Q mh T Y m4;go_loopw [42] (λiv wr=>∃k:Nat,k<=ss.length/\iv=I (k:Int)/\oI hs ss (List.replicate fs.length dM,List.replicate ls.length dM) k=true/\Below w.heap.size w wr/\wr.heap[mb]?=some (.cells (mW (.slice aS hs.length cS) (.slice aF fs.length cF) (.slice aL ls.length cL) (.slice aP ss.length cP) (I hd) (mq hs hs.length)) 158 (0,0))/\wr.heap[kb]?=some (.cells #[.slice aS hs.length cS,.slice aF fs.length cF,.slice aL ls.length cL,.slice aP ss.length cP,I hd] 30 (0,0))/\iz W.heap.size wr gf fs.length fs.length (kP ss (List.replicate fs.length dM,List.replicate ls.length dM) k).1/\iz W.heap.size wr gs ls.length ls.length (kP ss (List.replicate fs.length dM,List.replicate ls.length dM) k).2) (λiv _=>ss.length-(intOf iv).toNat)
   case atStart=>exact⟨0,ω,rfl,rfl,iI.o,an.o,r.o,aq.o,af.o⟩
   case round =>
    obtain⟨k,hk,rfl,O8,hb,K,N,A,y⟩:=hrel;have b2:=ai O8;have HB:=ai hb;have ao:=ai K;have b1:=ai N;have T:=ai A;have Y:=ai y;have m2:wr.cell? (Ad kb 2)=some (.slice aL ls.length cL):=aA N 2 rfl;by_cases hlt:k<ss.length
    . obtain⟨pb,po,bd,am,dZ⟩:=R.o ω;subst bd;obtain⟨va,ap,cp,c0,c1,c2,c3,c4,c5⟩:=dZ k hlt;obtain⟨aa,ca,Ec,_⟩:=id c3;subst Ec;have U:=I9.o k hlt;have x0:=(hb.cell (p:=(Ad pb (po+k*3))) am).trans c0;have x1:=(hb.cell (p:=(Ad pb (po+k*3+1))) am).trans c1;have x2:=(hb.cell (p:=(Ad pb (po+k*3+2))) am).trans c2;have bv:=hb.size;have QN:=X.o k ω O8;have ag:Hid (∀V,Below w.heap.size w V->oI hs ss (List.replicate fs.length dM,List.replicate ls.length dM) (k+1)=false->P (.returned (.tuple #[.pointer none,I 1])) V):=λV hV g=>sS.o V hV (by rw[ad.o (k+1) ss.length hlt g];simp)
      have Tg:Hid (oI hs ss (List.replicate fs.length dM,List.replicate ls.length dM) (k+1)=(qx hs (ak ss k)&&kg (ak ss k).bu (ak ss k).bl (kP ss (List.replicate fs.length dM,List.replicate ls.length dM) k) (ak ss k).bl.length)):=by grind [oI]
      have bm:Hid (kP ss (List.replicate fs.length dM,List.replicate ls.length dM) (k+1)=jK (ak ss k).bu (ak ss k).bl (kP ss (List.replicate fs.length dM,List.replicate ls.length dM) k) (ak ss k).bl.length):=rfl;have O:=aM K;have Me:=ai (Lq hs (ak ss k) (.slice aa (ak ss k).bu.length ca) ap cp mb (wr.alloc (.cells #[.bool (ak ss k).live,.slice aa (ak ss k).bu.length ca,.slice ap (ak ss k).bl.length cp] 99)) (c3.below (hb.alloc hb.size _)) U (by simp;omega) (Og (bB K _) Kc.o.symm));have yZ:Hid (∀V,Below w.heap.size w V->iz W.heap.size V gf fs.length fs.length (kP ss (List.replicate fs.length dM,List.replicate ls.length dM) k).1->iz W.heap.size V gs ls.length ls.length (kP ss (List.replicate fs.length dM,List.replicate ls.length dM) k).2->Calls prog 142 #[.agg #[.bool (ak ss k).live,.slice aa (ak ss k).bu.length ca,.slice ap (ak ss k).bl.length cp],.slice (some (Ad gf 0)) fs.length fs.length,.slice (some (Ad gs 0)) ls.length ls.length] V λx w'=>x=.returned (.bool (kg (ak ss k).bu (ak ss k).bl (kP ss (List.replicate fs.length dM,List.replicate ls.length dM) k) (ak ss k).bl.length))/\aI (λb=>b=gf\/b=gs) V w'/\(kg (ak ss k).bu (ak ss k).bl (kP ss (List.replicate fs.length dM,List.replicate ls.length dM) k) (ak ss k).bl.length=true->iz W.heap.size w' gf fs.length fs.length (jK (ak ss k).bu (ak ss k).bl (kP ss (List.replicate fs.length dM,List.replicate ls.length dM) k) (ak ss k).bl.length).1/\iz W.heap.size w' gs ls.length ls.length (jK (ak ss k).bu (ak ss k).bl (kP ss (List.replicate fs.length dM,List.replicate ls.length dM) k) (ak ss k).bl.length).2)):=λV hV h1 h2=>Ig (ak ss k) (.slice aa (ak ss k).bu.length ca) ap cp (kP ss (List.replicate fs.length dM,List.replicate ls.length dM) k).1 (kP ss (List.replicate fs.length dM,List.replicate ls.length dM) k).2 W.heap.size gf fs.length fs.length gs ls.length ls.length (255*k) w V c3 c4 U hV ω h1 h2 bi QN.1 QN.2 ω Br a6
      obtain⟨EB,aG⟩:=ex (kg (ak ss k).bu (ak ss k).bl (kP ss (List.replicate fs.length dM,List.replicate ls.length dM) k) (ak ss k).bl.length);generalize qx hs (ak ss k)=RS at Me Tg;rw[<- aG] at yZ Tg;obtain⟨na,tR⟩:=ex ((ak ss k).bu.length);obtain⟨ne,a7⟩:=ex ((ak ss k).bl.length);generalize (ak ss k).live=lv at Me yZ x0;rw[<- tR,<- a7] at Me;rw[<- tR] at yZ;rw[<- tR] at x1;rw[<- a7] at x2;rw[<- a7] at yZ bm;have jo:=ai (hb.alloc hb.size (.cells #[.bool lv,.slice aa na ca,.slice ap ne cp] 99));have MA:=ai (bB K (.cells #[.bool lv,.slice aa na ca,.slice ap ne cp] 99));have KA:=ai (bB N (.cells #[.bool lv,.slice aa na ca,.slice ap ne cp] 99));have OA:=ai (A.kp (aI.alloc (λ_=>False) wr (.cells #[.bool lv,.slice aa na ca,.slice ap ne cp] 99)) (λx=>x));have OB:=ai (y.kp (aI.alloc (λ_=>False) wr (.cells #[.bool lv,.slice aa na ca,.slice ap ne cp] 99)) (λx=>x));have SB:=ai (bG wr #[.bool lv,.slice aa na ca,.slice ap ne cp] 99);clear aG tR a7 c0 c1 c2 c3 c4 c5 dZ U QN O8 hb K N A y X ad sS FI a8 a2 a4 a9 R ab VL VF I9 ao b1 T Y iI an r aq af m1 m3 m2;cases RS with
      | false =>
       have HX:=ai (ag.o);have a5:Hid (oI hs ss (List.replicate fs.length dM,List.replicate ls.length dM) (k+1)=false):=Tg;clear Tg yZ;go_wp2_with (go_at_call 141;refine Me.o.mono ?_;rintro e w3 ⟨rfl,h⟩;have kE:=ai (cJ jo.o h);have J:=ai (aO SB.o h (aM SB.o));clear h);exact HX.o _ kE.o a5.o
      | true =>
       cases EB with
       | false =>
        have HX:=ai (ag.o);have a5:Hid (oI hs ss (List.replicate fs.length dM,List.replicate ls.length dM) (k+1)=false):=Tg;clear Tg;go_wp2_with (first | (go_at_call 141;refine Me.o.mono ?_;rintro e w3 ⟨rfl,h⟩;have kE:=ai (cJ jo.o h);have M3:=ai (aO MA.o h (aM MA.o));have aH:=ai (aO KA.o h (aM KA.o));have O3:=ai (OA.o.kp (aI.cA (D:=λ_=>False) h) (λx=>x));have S3:=ai (OB.o.kp (aI.cA (D:=λ_=>False) h) (λx=>x));have J:=ai (aO SB.o h (aM SB.o));have v0:w3.cell? (Ad wr.heap.size 0)=some (.bool lv):=aA J.o 0 rfl;have v1:w3.cell? (Ad wr.heap.size 1)=some (.slice aa na ca):=aA J.o 1 rfl;have v2:w3.cell? (Ad wr.heap.size 2)=some (.slice ap ne cp):=aA J.o 2 rfl;clear h) | (go_at_call 142;refine(yZ.o _ kE.o O3.o S3.out).mono ?_;rintro e w4 ⟨rfl,L,ac⟩;have vX:=ai (L.below kE.o kE.o.size (λb hb=>ω));clear L ac));exact HX.o _ vX.o a5.o
       | true =>
        have a5:Hid (oI hs ss (List.replicate fs.length dM,List.replicate ls.length dM) (k+1)=true):=Tg;clear Tg ag;go_wp2_with (first | (go_at_call 141;refine Me.o.mono ?_;rintro e w3 ⟨rfl,h⟩;have kE:=ai (cJ jo.o h);have M3:=ai (aO MA.o h (aM MA.o));have aH:=ai (aO KA.o h (aM KA.o));have O3:=ai (OA.o.kp (aI.cA (D:=λ_=>False) h) (λx=>x));have S3:=ai (OB.o.kp (aI.cA (D:=λ_=>False) h) (λx=>x));have J:=ai (aO SB.o h (aM SB.o));have v0:w3.cell? (Ad wr.heap.size 0)=some (.bool lv):=aA J.o 0 rfl;have v1:w3.cell? (Ad wr.heap.size 1)=some (.slice aa na ca):=aA J.o 1 rfl;have v2:w3.cell? (Ad wr.heap.size 2)=some (.slice ap ne cp):=aA J.o 2 rfl;clear h) | (go_at_call 142;refine(yZ.o _ kE.o O3.o S3.out).mono ?_;rintro e w4 ⟨rfl,L,ac⟩;have vX:=ai (L.below kE.o kE.o.size (λb hb=>ω));have M4:=ai (L.keep M3.out ω);have bq:=ai (L.keep aH.o ω);have bo:=ai ac;clear L ac))
        grind [intOf,Hid.o]
    obtain rfl:k=ss.length:=by omega
    have mB:=K;have p1:wr.cell? (Ad mb 1)=some (.slice aF fs.length cF):=aA mB 1 rfl;have p2:wr.cell? (Ad mb 2)=some (.slice aL ls.length cL):=aA mB 2 rfl;have p3:wr.cell? (Ad mb 3)=some (.slice aP ss.length cP):=aA mB 3 rfl;have O:=aM K;have bt:=aM N;have QN:=X.o ss.length (aJ _) O8;have Nr:Hid (∀V,Below wr.heap.size wr V->Calls prog 143 #[.pointer (some (Ad mb 0))] V λe w'=>e=.returned (I (dJ ss))/\Below V.heap.size V w'):=λV hV=>Eu ss aP cP mb V (R.o.below (hb.trans (hV.mono hb.size))) (λj hj=>(I9.o j hj).bu) ω ((hV.cell (p:=(Ad mb 3)) O).trans p3)
    have JV:Hid (∀V,Below wr.heap.size wr V->Calls prog 144 #[.pointer (some (Ad mb 0)),.slice (some (Ad gf 0)) fs.length fs.length] V λe w'=>e=.returned (.bool ((List.range fs.length).all λi=>jZ hs (aK fs i) (dx (kP ss (List.replicate fs.length dM,List.replicate ls.length dM) ss.length).1 i)))/\Below V.heap.size V w'):=λV hV=>JL hs fs _ aF cF mb W.heap.size gf fs.length V (a4.o.below (hb.trans (hV.mono hb.size))) (A.kp (aI.cA (D:=λ_=>False) hV) (λx=>x)) (gm O hV.size) ((hV.cell (p:=(Ad mb 1)) O).trans p1) (Og (aO mB hV O) Kc.o.symm) (λi hi=>a8.o Kc.o.symm O8 i hi) (λi hi=>(VL.o i hi).1) ω
    have B:Hid (∀V,Below wr.heap.size wr V->Calls prog 145 #[.pointer (some (Ad mb 0)),.slice (some (Ad gs 0)) ls.length ls.length] V λe w'=>e=.returned (.bool ((List.range ls.length).all λi=>mr (bI ls i) (dx (kP ss (List.replicate fs.length dM,List.replicate ls.length dM) ss.length).2 i)))/\Below V.heap.size V w'):=λV hV=>Lr ls _ aL cL mb W.heap.size gs ls.length V (a9.o.below (hb.trans (hV.mono hb.size))) (y.kp (aI.cA (D:=λ_=>False) hV) (λx=>x)) ((hV.cell (p:=(Ad mb 2)) O).trans p2) (λi hi=>(QN.2.2 i hi).1) (λi hi=>(VF.o i hi).1) ω
    have YD:=sS;have VE:=FI;rw[Kc.o.symm,b2.o,dW (show 0<=hd/\hd<(fs.length:Int) from⟨g1,g2⟩)] at YD VE;obtain⟨RL,aY⟩:=ex ((List.range ls.length).all λi=>mr (bI ls i) (dx (kP ss (List.replicate fs.length dM,List.replicate ls.length dM) ss.length).2 i));obtain⟨RM,aX⟩:=ex (dJ ss);generalize ((List.range fs.length).all λi=>jZ hs (aK fs i) (dx (kP ss (List.replicate fs.length dM,List.replicate ls.length dM) ss.length).1 i))=RF at JV YD VE;rw[<- aY] at B YD VE;rw[<- aX] at Nr YD VE;have yL:=iH wr;have k2:∀x:cM wr.heap.size wr,x.world.cell? (Ad kb 2)=some (.slice aL ls.length cL):=λx=>by grind [fG]
    clear aY aX QN O8 hb K N A y X ad sS FI a8 a2 a4 a9 R ab VL VF I9 b1 T Y iI an r aq af m1 m3 m2 p1 p2 p3 mB b2;go_upto_region 13 with fail;by_cases c:RM<=(ls.length:Int)
    . have c2:decide ((ls.length:Int)<RM)=false:=eH ω;rw[dW c] at YD VE;cases RF with
      | false =>
       refine cB ρ κ ?_
       repeat (first | go_big_quiet_step ((first | (go_at_call 143;exact gZ _ Nr.o) | (go_at_call 144;exact gZ _ JV.o))) | quiet_step ((first | (go_at_call 143;exact gZ _ Nr.o) | (go_at_call 144;exact gZ _ JV.o))))
       refine fL ?_;rintro _ ⟨x,rfl⟩;have mh:=ai (HB.o.trans (x.keeps.mono HB.o.size));clear Nr JV B k2;go_wp2;exact YD.o _ mh.o ξ
      | true =>
       cases RL with
       | false =>
        refine cB ρ κ ?_
        repeat (first | go_big_quiet_step ((first | (go_at_call 143;exact gZ _ Nr.o) | (go_at_call 144;exact gZ _ JV.o) | (go_at_call 145;exact gZ _ B.o))) | quiet_step ((first | (go_at_call 143;exact gZ _ Nr.o) | (go_at_call 144;exact gZ _ JV.o) | (go_at_call 145;exact gZ _ B.o))))
        refine fL ?_;rintro _ ⟨x,rfl⟩;have mh:=ai (HB.o.trans (x.keeps.mono HB.o.size));clear Nr JV B k2;go_wp2;exact YD.o _ mh.o ξ
       | true =>
        refine cB ρ κ ?_
        repeat (first | go_big_quiet_step ((first | (go_at_call 143;exact gZ _ Nr.o) | (go_at_call 144;exact gZ _ JV.o) | (go_at_call 145;exact gZ _ B.o))) | quiet_step ((first | (go_at_call 143;exact gZ _ Nr.o) | (go_at_call 144;exact gZ _ JV.o) | (go_at_call 145;exact gZ _ B.o))))
        refine fL ?_;rintro _ ⟨x,rfl⟩;have mh:=ai (HB.o.trans (x.keeps.mono HB.o.size));have MX:=ai (aO ao.o x.keeps (aM ao.o));clear Nr JV B k2;go_wp2;exact VE.o _ mb mh.o ξ az MX.o
    have c2:decide ((ls.length:Int)<RM)=true:=dW ω;rw[eH c] at YD;refine cB ρ κ ?_
    repeat (first | go_big_quiet_step ((go_at_call 143;exact gZ _ Nr.o)) | quiet_step ((go_at_call 143;exact gZ _ Nr.o)))
    refine fL ?_;rintro _ ⟨x,rfl⟩;have mh:=ai (HB.o.trans (x.keeps.mono HB.o.size));clear Nr JV B k2;go_wp2;exact YD.o _ mh.o ξ
theorem aaz (hc:lh k=false):Calls prog 87 #[.agg (bj a k)] w (tD w a k):=by
 have b:=zG hc;have sS:Hid (∀w',Below w.heap.size w w'->tD w a k (.returned (.tuple #[.pointer none,I 2])) w'):=λw' hb=>by
  have e:dD k=2:=by grind [dD]
  exact⟨hb,.inr ⟨ω,by rw[e]⟩⟩
 generalize tD w a k=P at sS ⊢;unfold bj;have HC:Hid (∀V,Calls prog 139 #[.agg #[.slice a.aS k.aD.length a.cS,.slice a.aF k.frames.length a.cF,.slice a.aL k.slots.length a.cL,.slice a.aP k.aj.length a.cP,I k.hand]] V λe w'=>e=.returned (.bool false)/\Below V.heap.size V w'):=λV=>by
  have:=IK a.aS a.aF a.aL a.aP k.aD.length a.cS k.frames.length a.cF k.slots.length a.cL k.aj.length a.cP (I k.hand) V;rw[eH b] at this;exact this
 obtain⟨aS,cS,aF,cF,aL,cL,aP,cP⟩:=a;obtain⟨hs,fs,ls,ss,hd⟩:=k;simp only at HC ⊢;have Ij:=ai ((aN w.heap.size w).alloc (aJ _) (.cells #[.slice aS hs.length cS,.slice aF fs.length cF,.slice aL ls.length cL,.slice aP ss.length cP,I hd] 30));clear hc b;go_enter func87,ntmps87;go_wp2_with (go_at_call 139;refine(HC.o _).mono ?_;rintro e w1 ⟨rfl,h⟩;have q:=ai (cJ Ij.o h);clear h);exact sS.o _ q.o
theorem Oh (hK:iB w a k) (hF:kN k):Calls prog 87 #[.agg (bj a k)] w (tD w a k):=by
 cases hc:lh k with
 | true=>exact Xy k a w hK hF hc
 | false=>exact aaz k a w hc
theorem XF (hK:iB w a k) (hF:kN k):Calls prog 40 #[.agg (bj a k)] w λe w'=>e=.returned (I (dD k))/\Below w.heap.size w w':=by
 have HL:Hid (∀V,Below w.heap.size w V->Calls prog 87 #[.agg (bj a k)] V λe w'=>∃v,e=.returned (.tuple #[v,I (dD k)])/\Below V.heap.size V w'):=λV hV=>(Oh k a V (hK.below hV) hF).mono λe w' ⟨hb,h⟩=>by
  grind
 generalize dD k=C at HL ⊢;unfold bj at HL ⊢;obtain⟨aS,cS,aF,cF,aL,cL,aP,cP⟩:=a;obtain⟨hs,fs,ls,ss,hd⟩:=k;simp only at HL ⊢;clear hK hF;have Ij:=ai ((aN w.heap.size w).alloc (aJ _) (.cells #[.slice aS hs.length cS,.slice aF fs.length cF,.slice aL ls.length cL,.slice aP ss.length cP,I hd] 30));go_enter func40,ntmps40;go_wp2_with (go_at_call 87;refine(HL.o _ Ij.o).mono ?_;rintro e w1 ⟨v,rfl,b⟩;have dz:=ai (cJ Ij.o b);clear b);go_ret;exact⟨rfl,dz.o⟩
def fR (k:aT) (sp:Int):Int:=if dD k=0 then (if 0<=sp/\sp<(k.aj.length:Int)/\(ak k.aj sp.toNat).live=true then 0 else 6) else dD k
def tY (a:gN) (k:aT):Array Value:=mW (.slice a.aS k.aD.length a.cS) (.slice a.aF k.frames.length a.cF) (.slice a.aL k.slots.length a.cL) (.slice a.aP k.aj.length a.cP) (I k.hand) (mq k.aD k.aD.length)
def xN (w:World) (a:gN) (k:aT) (c:Int) (e:Ending) (w':World):Prop:=Below w.heap.size w w'/\((c=0/\∃mb,e=.returned (.tuple #[.pointer (some (Ad mb 0)),I 0])/\w.heap.size<=mb/\w'.heap[mb]?=some (.cells (tY a k) 158 (0,0)))\/(c≠0/\e=.returned (.tuple #[.pointer none,I c])))
theorem yP (sp:Int) (w:World) (hK:iB w a k) (hF:kN k) (hsp:cR sp):Calls prog 76 #[.agg (bj a k),I sp] w (xN w a k (fR k sp)):=by
 have HL:=ai (λV (hV:Below w.heap.size w V)=>Oh k a V (hK.below hV) hF);have HE:Hid (∀V c,Below w.heap.size w V->fR k sp=c->c≠0->xN w a k (fR k sp) (.returned (.tuple #[.pointer none,I c])) V):=λV c hV e hc=>⟨hV,.inr ⟨ω,by rw[e]⟩⟩
 have HY:Hid (∀V mb,Below w.heap.size w V->fR k sp=0->w.heap.size<=mb->V.heap[mb]?=some (.cells (tY a k) 158 (0,0))->xN w a k (fR k sp) (.returned (.tuple #[.pointer (some (Ad mb 0)),I 0])) V):=λV mb hV e hm hh=>⟨hV,.inl ⟨e,mb,rfl,hm,hh⟩⟩
 generalize xN w a k (fR k sp)=P at HE HY ⊢;have r:=ai hK.aj;have VJ:=ai (bG w (bj a k) 30);have eB:=ai ((aN w.heap.size w).alloc (aJ _) (.cells (bj a k) 30));have B:Hid (fR k sp=if dD k=0 then (if 0<=sp/\sp<(k.aj.length:Int)/\(ak k.aj sp.toNat).live=true then 0 else 6) else dD k):=rfl;have y:Hid (dD k=0->k.aj.length<=4):=λh=>((wV k).1 h).c.2.2.1.2
 clear hK hF;by_cases hc:dD k=0
 . have Cw:Hid (∀V,Below w.heap.size w V->Calls prog 87 #[.agg (bj a k)] V λe w'=>∃mb,e=.returned (.tuple #[.pointer (some (Ad mb 0)),I 0])/\w.heap.size<=mb/\w'.heap[mb]?=some (.cells (tY a k) 158 (0,0))/\Below V.heap.size V w'):=λV hV=>(HL.o V hV).mono λe w' ⟨hb,h⟩=>by
    rcases h with⟨_,mb,h1,h2,h3⟩ | ⟨h1,_⟩
    . exact⟨mb,h1,gj hV.size h2,h3,hb⟩
    omega
   have Ho:=y.o hc;have YJ:Hid (fR k sp=if 0<=sp/\sp<(k.aj.length:Int)/\(ak k.aj sp.toNat).live=true then 0 else 6):=by grind
   clear HL B hc y;unfold bj at Cw VJ eB ⊢;obtain⟨aS,cS,aF,cF,aL,cL,aP,cP⟩:=a;obtain⟨hs,fs,ls,ss,hd⟩:=k;simp only at Cw VJ eB r YJ HY Ho ⊢;rcases(show sp<0\/(0<=sp/\(ss.length:Int)<=sp)\/(0<=sp/\sp<(ss.length:Int)) by omega) with g | ⟨g1,g2⟩ | ⟨g1,g2⟩
   . have HX:=ai (λV hV=>HE.o V 6 hV (by grind [Hid.o]) Δ);clear HE HY YJ r;go_enter func76,ntmps76;go_wp2_with (go_at_call 87;refine(Cw.o _ eB.o).mono ?_;rintro e w1 ⟨mb,rfl,vW,q,b⟩;have dz:=ai (cJ eB.o b);have K1:=ai (aO VJ.o b ξ);clear b q);exact HX.o _ dz.o
   . have HX:=ai (λV hV=>HE.o V 6 hV (by grind [Hid.o]) Δ);clear HE HY YJ r;go_enter func76,ntmps76;go_wp2_with (go_at_call 87;refine(Cw.o _ eB.o).mono ?_;rintro e w1 ⟨mb,rfl,vW,q,b⟩;have dz:=ai (cJ eB.o b);have K1:=ai (aO VJ.o b ξ);have c3:w1.cell? (Ad w.heap.size 3)=some (.slice aP ss.length cP):=aA K1.o 3 rfl;clear b q);exact HX.o _ dz.o
   obtain⟨j,rfl⟩:∃j:Nat,sp=(j:Int):=⟨sp.toNat,ω⟩;obtain⟨pb,po,F,A,dZ⟩:=r.o ω;subst F;obtain⟨va,ap,cp,y0,_,_,_,_,_⟩:=dZ j ω;rw[kq] at YJ;generalize (ak ss j).live=lv at y0 YJ;clear dZ r;cases lv with
   | false =>
    have HX:=ai (λV hV=>HE.o V 6 hV (by rw[YJ.o,aH ξ]) Δ);clear HE HY YJ;go_enter func76,ntmps76;go_wp2_with (go_at_call 87;refine(Cw.o _ eB.o).mono ?_;rintro e w1 ⟨mb,rfl,vW,q,b⟩;have dz:=ai (cJ eB.o b);have K1:=ai (aO VJ.o b ξ);have c3:w1.cell? (Ad w.heap.size 3)=some (.slice (some (Ad pb po)) ss.length cP):=aA K1.o 3 rfl;have l0:w1.cell? (Ad pb (po+j*3))=some (.bool false):=(dz.o.cell (p:=(Ad pb (po+j*3))) A).trans y0;clear b q);exact HX.o _ dz.o
   | true =>
    have HX:=ai (λV mb hV hm hh=>HY.o V mb hV (by rw[YJ.o,aQ ⟨g1,g2,rfl⟩]) hm hh);clear HE HY YJ;go_enter func76,ntmps76;go_wp2_with (go_at_call 87;refine(Cw.o _ eB.o).mono ?_;rintro e w1 ⟨mb,rfl,vW,q,b⟩;have YG:=ai q;have dz:=ai (cJ eB.o b);have K1:=ai (aO VJ.o b ξ);have c3:w1.cell? (Ad w.heap.size 3)=some (.slice (some (Ad pb po)) ss.length cP):=aA K1.o 3 rfl;have l0:w1.cell? (Ad pb (po+j*3))=some (.bool true):=(dz.o.cell (p:=(Ad pb (po+j*3))) A).trans y0;clear b q);exact HX.o _ mb dz.o vW YG.o
 have Cw:Hid (∀V,Below w.heap.size w V->Calls prog 87 #[.agg (bj a k)] V λe w'=>e=.returned (.tuple #[.pointer none,I (dD k)])/\Below V.heap.size V w'):=λV hV=>(HL.o V hV).mono λe w' ⟨hb,h⟩=>by
  grind
 have HX:=ai (λV hV=>HE.o V (dD k) hV (by grind [Hid.o]) hc);generalize dD k=C at Cw HX hc;have cb:(C != 0)=true:=by grind
 clear HL B HE HY y r;unfold bj at Cw VJ eB ⊢;obtain⟨aS,cS,aF,cF,aL,cL,aP,cP⟩:=a;obtain⟨hs,fs,ls,ss,hd⟩:=k;simp only at Cw VJ eB ⊢;clear hc;go_enter func76,ntmps76;go_wp2_with (go_at_call 87;refine(Cw.o _ eB.o).mono ?_;rintro e w1 ⟨rfl,b⟩;have dz:=ai (cJ eB.o b);clear b);exact HX.o _ dz.o
theorem TT (e:bK) (x:Nat) (w:World) (hx:w.cell? (Ad x 0)=some (I p)) :
  Calls prog 187 #[.agg #[I e.page,I e.kind,I e.loc],.pointer (some (Ad x 0))] w λr w'=>r=.returned (.bool (decide (e.page=p)))/\Below w.heap.size w w':=by
 obtain⟨pg,kd,lc⟩:=e;simp only;have b:x<w.heap.size:=nu w _ hx;have xA:(w.alloc (.cells #[I pg,I kd,I lc] 174)).cell? (Ad x 0)=some (I p):=(Qd ((aN w.heap.size w).alloc (aJ _) _) (p:=(Ad x 0)) b).trans hx;obtain⟨A,hA⟩:=ex (decide (pg=p));have HA:Hid ((pg==p)=A):=by show _=_;grind
 rw[<- hA];clear hA;have ha:=HA.o;clear HA;go_enter func187,ntmps187;go_wp2;go_ret;simp[aN,pG]
theorem JM (F:FuncId) (hF:F=187\/F=298\/F=300) (P:bK->Bool) (es:List bK) (ao:Option Addr) (cap x:Nat) (w:World) (h:dE bC 3 gJ w ao es) (hl:es.length<=1000000)
  (hC:∀V e,Below w.heap.size w V->Calls prog F #[.agg #[I e.page,I e.kind,I e.loc],.pointer (some (Ad x 0))] V λr w'=>r=.returned (.bool (P e))/\Below V.heap.size V w') :
  Calls prog 186 #[.slice ao es.length cap,.func (.func F) #[] #[.pointer (some (Ad x 0))]] w λe w' =>
   Below w.heap.size w w'/\((e=.returned (I (-1))/\∀j,j<es.length->P (aW es j)=false)\/∃i:Nat,i<es.length/\e=.returned (I (i:Int))/\P (aW es i)=true/\∀j,j<i->P (aW es j)=false):=by
 have HH:=ai h;have HC:=ai hC;clear h hC;rcases hF with rfl | rfl | rfl
 all_goals
  go_enter func186,ntmps186;go_wp2;go_loopw [8] (λiv wr=>∃k:Nat,k<=es.length/\iv=I (k:Int)/\(∀j,j<k->P (aW es j)=false)/\Below w.heap.size w wr) (λiv _=>es.length-(intOf iv).toNat)
  case atStart=>grind [Below.refl]
  case round =>
   obtain⟨k,hk,rfl,A,hb⟩:=hrel;have sS:=ai A;have HB:=ai hb;clear A;by_cases hlt:k<es.length
   . have Il:(k:Int)<(es.length:Int):=by omega
     obtain⟨eb,eo,B,y,dZ⟩:=HH.o ω;subst B;have y0:=(hb.cell (p:=(Ad eb (eo+k*3+0))) y).trans (dZ k hlt 0 ω);have y1:=(hb.cell (p:=(Ad eb (eo+k*3+1))) y).trans (dZ k hlt 1 ω);have y2:=(hb.cell (p:=(Ad eb (eo+k*3+2))) y).trans (dZ k hlt 2 ω);rw[jt] at y0;have vd:=ai (HC.o wr (aW es k) hb);obtain⟨G,hG⟩:=ex (P (aW es k));rw[<- hG] at vd;have HG:=ai hG;obtain⟨E,hE⟩:=ex (aW es k);have x0:wr.cell? (Ad eb (eo+k*3))=some (I E.page):=by rw[hE];exact y0
     have x1:wr.cell? (Ad eb (eo+k*3+1))=some (I E.kind):=by rw[hE];exact y1
     have x2:wr.cell? (Ad eb (eo+k*3+2))=some (I E.loc):=by rw[hE];exact y2
     rw[<- hE] at vd;clear hG hE hb y0 y1 y2 dZ;cases G with
     | true =>
      go_wp2_with ((first | go_at_call 187 | go_at_call 298 | go_at_call 300);refine vd.o.mono ?_;rintro e w1 ⟨rfl,b⟩;have dz:=ai (HB.o.trans (b.mono HB.o.size));clear b)
      go_ret;exact⟨dz.o,.inr ⟨k,hlt,rfl,HG.o.symm,sS.o⟩⟩
     | false =>
      go_wp2_with ((first | go_at_call 187 | go_at_call 298 | go_at_call 300);refine vd.o.mono ?_;rintro e w1 ⟨rfl,b⟩;have dz:=ai (HB.o.trans (b.mono HB.o.size));clear b)
      go_roundw
      case rel=>exact⟨k+1,ω,by go_num,λj hj=>by
       by_cases q:j=k
       . subst q;exact HG.o.symm
       exact sS.o j ω,dz.o⟩
      case measure=>simp[intOf];omega
   obtain rfl:k=es.length:=by omega
   clear hb;go_wp2;go_ret;exact⟨HB.o,.inl ⟨rfl,sS.o⟩⟩
theorem TS (i:Nat) (hi:i<es.length) (h:(aW es i).page=p) (hno:∀j,j<i->¬(aW es j).page=p):bH es p=some (aW es i):=by
 induction es generalizing i with
 | nil=>cases hi
 | cons a r ih =>
  cases i with
  | zero =>
   have h:a.page=p:=h;show(a::r).find? _=some a
   grind
  | succ i =>
   have h0:¬a.page=p:=hno 0 ω;show(a::r).find? _=some (aW r i);rw[List.find?_cons,eH h0];exact ih i (BG hi) h (λj hj=>hno (j+1) ω)
theorem XC (hno:∀j,j<es.length->¬(aW es j).page=p):bH es p=none:=vR.2 λe he=>by
 obtain⟨j,hj,rfl⟩:=jE gJ he;exact hno j hj
def nX (es:List bK) (p:Int):bK×Bool:=match bH es p with
 | some e=>(e,true)
 | none=>(gJ,false)
def tC (e:bK):Value:=.agg #[I e.page,I e.kind,I e.loc]
theorem XE (j n mb pb po cP:Nat) (ae:Option Addr) (ce:Nat) (w:World) (hm:w.cell? (Ad mb 3)=some (.slice (some (Ad pb po)) n cP)) (hj:j<n) (hce:w.cell? (Ad pb (po+j*3+2))=some (.slice ae es.length ce)) (he:dE bC 3 gJ w ae es) (hl:es.length<=1000000) (hn:n<=1000000) :
  Calls prog 129 #[.pointer (some (Ad mb 0)),I (j:Int),I p] w λe w'=>e=.returned (.tuple #[tC (nX es p).1,.bool (nX es p).2])/\Below w.heap.size w w':=by
 have NQ:=nu w _ hm;have q:=nu w _ hce;have NQ:mb<w.heap.size:=NQ;have q:pb<w.heap.size:=q;have J:=ai he;obtain⟨W,hW⟩:=ex ((w.alloc (.cells #[I p] 3)).alloc (.cells #[I 0,I 0,I 0] 174));have eB:Hid (Below w.heap.size w W):=by simp_all [aN,pG]
 have X0:Hid (W.heap[w.heap.size]?=some (.cells #[I p] 3 (0,0))):=by grind [bB,bG]
 have R0:Hid (W.heap[w.heap.size+1]?=some (.cells #[I 0,I 0,I 0] 174 (0,0))):=by
  grind [bG,World.size_alloc]
 have d3:W.cell? (Ad mb 3)=some (.slice (some (Ad pb po)) n cP):=(eB.o.cell (p:=(Ad mb 3)) NQ).trans hm;have d2:W.cell? (Ad pb (po+j*3+2))=some (.slice ae es.length ce):=(eB.o.cell (p:=(Ad pb (po+j*3+2))) q).trans hce;have VK:=ai (JM 187 (.inl rfl) (λe=>decide (e.page=p)) es ae ce w.heap.size W (he.below eB.o) hl (λV e hV=>TT p e w.heap.size V (aA (aO X0.o hV (aM X0.o)) 0 rfl)));have HF:=ai (TS es p);have HN:=ai (XC es p);have M:(j:Int)<(n:Int):=by omega
 have O:(0:Int)<=(j:Int):=by omega
 have HW:=ai hW;clear hm hce he hW;by_cases hex:∃j,j<es.length/\(aW es j).page=p
 . obtain⟨j0,G,A⟩:=hex;have Su:Hid (Calls prog 186 #[.slice ae es.length ce,.func (.func 187) #[] #[.pointer (some (Ad w.heap.size 0))]] W λe w'=>∃i:Nat,i<es.length/\e=.returned (I (i:Int))/\nX es p=(aW es i,true)/\Below W.heap.size W w'):=VK.o.mono λe w' ⟨hb,h⟩=>by
    rcases h with⟨_,B⟩ | ⟨i,hi,he,N,B⟩
    . grind
    refine⟨i,hi,he,?_,hb⟩;unfold nX;rw[HF.o i hi Γ (λj hj=>Γ)]
   clear VK HF HN G A;go_enter func129,ntmps129;go_upto_region 1 with fail;rw[<- HW.o];go_upto_region 3 with(go_at_call 186;refine Su.o.mono ?_;rintro e w1 ⟨i,hi,rfl,y,b⟩;have vt:=ai y;have dz:=ai (eB.o.trans (b.mono eB.o.size));have R1:=ai (aO R0.o b (aM R0.o));clear b y);obtain⟨eb,eo,F,r,dZ⟩:=J.o ω;subst F;have y0:=(dz.o.cell (p:=(Ad eb (eo+i*3+0))) r).trans (dZ i hi 0 ω);have y1:=(dz.o.cell (p:=(Ad eb (eo+i*3+1))) r).trans (dZ i hi 1 ω);have y2:=(dz.o.cell (p:=(Ad eb (eo+i*3+2))) r).trans (dZ i hi 2 ω);rw[jt] at y0;obtain⟨E,hE⟩:=ex (aW es i);have x0:w1.cell? (Ad eb (eo+i*3))=some (I E.page):=by rw[hE];exact y0
   have x1:w1.cell? (Ad eb (eo+i*3+1))=some (I E.kind):=by rw[hE];exact y1
   have x2:w1.cell? (Ad eb (eo+i*3+2))=some (I E.loc):=by rw[hE];exact y2
   rw[<- hE] at vt;obtain⟨r0,r1,r2⟩:=uo R1.o;have f0:=br R1.o 0;have f1:=br R1.o 1;have f2:=br R1.o 2;have K:(i:Int)<(es.length:Int):=by omega
   have L:(0:Int)<=(i:Int):=by omega
   clear hE y0 y1 y2 dZ;go_wp2;have R2:(((w1.setCell (Ad (w.heap.size+1) 0) (I E.page)).setCell (Ad (w.heap.size+1) 1) (I E.kind)).setCell (Ad (w.heap.size+1) 2) (I E.loc)).heap[w.heap.size+1]?=some (.cells #[I E.page,I E.kind,I E.loc] 174 (0,0)):=dm (dm (dm R1.o 0 _) 1 _) 2 _;obtain⟨v0,v1,v2⟩:=uo R2;refine bW (v:=.tuple #[tC E,.bool true]) (by simp[results,results129,go_sem,tC,v0,v1,v2]) rfl ?_;rw[vt.o];refine⟨rfl,?_⟩;exact((dz.o.setCell (p:=(Ad (w.heap.size+1) 0)) (by show w.heap.size<=w.heap.size+1;omega) _).setCell (p:=(Ad (w.heap.size+1) 1)) (by show w.heap.size<=w.heap.size+1;omega) _).setCell (p:=(Ad (w.heap.size+1) 2)) (by show w.heap.size<=w.heap.size+1;omega) _
 have Su:Hid (Calls prog 186 #[.slice ae es.length ce,.func (.func 187) #[] #[.pointer (some (Ad w.heap.size 0))]] W λe w'=>e=.returned (I (-1))/\Below W.heap.size W w'):=VK.o.mono λe w' ⟨hb,h⟩=>by
  grind
 have vt:Hid (nX es p=(gJ,false)):=by
  show _=_;unfold nX;rw[HN.o (λj hj e=>hex ⟨j,hj,e⟩)]
 clear VK HF HN hex;go_enter func129,ntmps129;go_upto_region 1 with fail;rw[<- HW.o];go_upto_region 3 with(go_at_call 186;refine Su.o.mono ?_;rintro e w1 ⟨rfl,b⟩;have dz:=ai (eB.o.trans (b.mono eB.o.size));have R1:=ai (aO R0.o b (aM R0.o));clear b);obtain⟨r0,r1,r2⟩:=uo R1.o;have f0:=br R1.o 0;have f1:=br R1.o 1;have f2:=br R1.o 2;go_wp2;have R2:(((w1.setCell (Ad (w.heap.size+1) 0) (I 0)).setCell (Ad (w.heap.size+1) 1) (I 0)).setCell (Ad (w.heap.size+1) 2) (I 0)).heap[w.heap.size+1]?=some (.cells #[I 0,I 0,I 0] 174 (0,0)):=dm (dm (dm R1.o 0 _) 1 _) 2 _;obtain⟨v0,v1,v2⟩:=uo R2;refine bW (v:=.tuple #[tC gJ,.bool false]) (by simp[results,results129,go_sem,tC,gJ,v0,v1,v2]) rfl ?_;rw[vt.o];refine⟨rfl,?_⟩;exact((dz.o.setCell (p:=(Ad (w.heap.size+1) 0)) Γ _).setCell (p:=(Ad (w.heap.size+1) 1)) Γ _).setCell (p:=(Ad (w.heap.size+1) 2)) Γ _
def iL (n:Int):List Value:=[I n]
def Ev (l:List Int) (i:Nat):Int:=l.getD i 0
theorem TR (l:List Int) (x:Int) (ao:Option Addr) (cap:Nat) (w:World) (h:dE iL 1 0 w ao l) (hl:l.length<=1000000) :
  Calls prog 288 #[.slice ao l.length cap,I x] w λe w'=>w'=w/\((e=.returned (I (-1))/\∀j,j<l.length->Ev l j≠x)\/∃i:Nat,i<l.length/\e=.returned (I (i:Int))/\Ev l i=x):=by
 have HH:=ai h;clear h;go_enter func288,ntmps288;go_wp2;go_loopw [8] (λiv wr=>∃k:Nat,k<=l.length/\iv=I (k:Int)/\(∀j,j<k->Ev l j≠x)/\wr=w) (λiv _=>l.length-(intOf iv).toNat)
 case atStart=>grind
 case round =>
  obtain⟨k,hk,rfl,b,rfl⟩:=hrel;have sS:=ai b;clear b;by_cases hlt:k<l.length
  . have Il:(k:Int)<(l.length:Int):=by omega
    obtain⟨eb,eo,q,r,dZ⟩:=HH.o ω;subst q;have y0:=dZ k hlt 0 ω;rw[jt,PZ] at y0;obtain⟨E,hE⟩:=ex (Ev l k);have x0:wr.cell? (Ad eb (eo+k))=some (I E):=by rw[hE];exact y0
    have HE:=ai hE;clear hE y0 dZ;by_cases c:x=E
    . have cb:(x==E)=true:=by grind
      have HC:=ai c;clear c;go_wp2;go_ret;exact⟨rfl,.inr ⟨k,hlt,rfl,by rw[<- HE.o,HC.o]⟩⟩
    have cb:(x==E)=false:=by grind
    have HC:=ai c;clear c;go_wp2
    grind [intOf,Hid.o]
  obtain rfl:k=l.length:=by omega
  go_wp2;go_ret;exact⟨rfl,.inl ⟨rfl,sS.o⟩⟩
theorem Oi (l:List Int) (x:Int):x∈l↔∃i,i<l.length/\Ev l i=x:=⟨λh=>jE 0 h,λ⟨i,hi,e⟩=>e ▸ kT hi⟩
theorem xM (l:List Int) (x:Int) (ao:Option Addr) (cap:Nat) (w:World) (h:dE iL 1 0 w ao l) (hl:l.length<=1000000) :
  Calls prog 282 #[.slice ao l.length cap,I x] w λe w'=>e=.returned (.bool (decide (x∈l)))/\w'=w:=by
 have HI:=ai (TR l x ao cap w h hl);clear h;by_cases c:x∈l
 . have Su:Hid (Calls prog 288 #[.slice ao l.length cap,I x] w λe w'=>∃i:Nat,i<l.length/\e=.returned (I (i:Int))/\w'=w):=HI.o.mono λe w' ⟨hw,h⟩=>by
    grind [Oi]
   rw[dW c];clear HI c;go_enter func282,ntmps282;go_wp2_with (go_at_call 288;refine Su.o.mono ?_;rintro e w1 ⟨i,hi,rfl,rfl⟩;have b:(0:Int)<=(i:Int):=ω);go_ret
   simp_all
 have Su:Hid (Calls prog 288 #[.slice ao l.length cap,I x] w λe w'=>e=.returned (I (-1))/\w'=w):=HI.o.mono λe w' ⟨hw,h⟩=>by
  grind [Oi]
 rw[eH c];clear HI c;go_enter func282,ntmps282;go_wp2_with (go_at_call 288;refine Su.o.mono ?_;rintro e w1 ⟨rfl,rfl⟩);go_ret
 simp_all
end Go.Proofs.YtlgoihmkgaaemaaGreat
