import Derived.Test.YtpgifpeohlllfaaGreatGT13
import Derived.Great.Ranges
set_option maxHeartbeats 20000000
set_option linter.unusedVariables false
set_option maxRecDepth 100000
set_option linter.unusedSimpArgs false
namespace Go.Proofs.YtpgifpeohlllfaaGreat
namespace KW
open Go.RowKit GK
open FW (ai aD)
def nW (w:World) (a:fh) (k:KM.Kn) (e:Ending) (w':World):Prop:=Below w.heap.size w w'/\((KM.dR k=0/\∃mb,e=.returned (.tuple #[.pointer (some (Ad mb 0)),I 0])/\w.heap.size<=mb/\w'.heap[mb]?=some (.cells (m9 (.slice a.aS k.ak.length a.cS) (.slice a.aF k.frames.length a.cF) (.slice a.aL k.slots.length a.cL) (.slice a.aP k.aj.length a.cP) (I k.hand) (j4 k.ak k.ak.length)) 104 (0,0)))∨(KM.dR k≠0/\e=.returned (.tuple #[.pointer none,I (KM.dR k)])))
theorem yU {w:World} {mb:Nat} {hs:List LM.Sh} {a b c d e:Value} (h:w.heap[mb]?=some (.cells (m9 a b c d e (j4 hs hs.length)) 104 (0,0))) (hr:LM.dC hs=true):∀n:Nat,n<256->w.cell? (Ad mb (5+n))=some (.string (KM.filled hs n)):=fun n hn=>(B.cell h (5+n) (Jx a b c d e _ n hn)).trans (by rw[wO hs hr n])
theorem Lr (k:KM.Kn) (a:fh) (w:World) (hK:cK w a k) (hF:eB k) (hc:KM.counts k=true):Calls Tryz.prog 62 #[.agg (aI a k)] w (nW w a k):=by
 have hcc:=of_decide_eq_true hc;have jc:Hid (∀w',Below w.heap.size w w'->KM.ub k=false->nW w a k (.returned (.tuple #[.pointer none,I 1])) w'):=fun w' hb hf=>by
  have e:KM.dR k=1:=by unfold KM.dR;rw[if_neg (by rw[hc];simp),hf];rfl
  exact⟨hb,.inr ⟨by rw[e];decide,by rw[e]⟩⟩
 have pJ:Hid (∀w' mb,Below w.heap.size w w'->KM.ub k=true->w.heap.size<=mb->w'.heap[mb]?=some (.cells (m9 (.slice a.aS k.ak.length a.cS) (.slice a.aF k.frames.length a.cF) (.slice a.aL k.slots.length a.cL) (.slice a.aP k.aj.length a.cP) (I k.hand) (j4 k.ak k.ak.length)) 104 (0,0))->nW w a k (.returned (.tuple #[.pointer (some (Ad mb 0)),I 0])) w'):=fun w' mb hb hf hm hh=>by
  have e:KM.dR k=0:=by unfold KM.dR;rw[if_neg (by rw[hc];simp),hf];rfl
  exact⟨hb,.inl ⟨e,mb,rfl,hm,hh⟩⟩
 obtain⟨P,hP⟩:=ex (nW w a k);rw[<- hP] at jc pJ ⊢;clear hP;unfold aI;have HC:Hid (∀V,Calls Tryz.prog 109 #[.agg #[.slice a.aS k.ak.length a.cS,.slice a.aF k.frames.length a.cF,.slice a.aL k.slots.length a.cL,.slice a.aP k.aj.length a.cP,I k.hand]] V fun e w'=>e=.returned (.bool true)/\Below V.heap.size V w'):=fun V=>by
  have:=zL a.aS a.aF a.aL a.aP k.ak.length a.cS k.frames.length a.cF k.slots.length a.cL k.aj.length a.cP (I k.hand) V;rw[decide_eq_true hcc] at this;exact this
 have HUP:=ai (@KM.Gw k);have DW:=ai (KM.NI k.ak k.aj (List.replicate k.frames.length KM.gY,List.replicate k.slots.length KM.gY) k.frames.length k.slots.length (KM.Nu _) (KM.Nu _));have Uw:=ai (KM.Bc k.ak k.aj (List.replicate k.frames.length KM.gY,List.replicate k.slots.length KM.gY));obtain⟨hKS,hKF,hKL,hKP⟩:=hK;obtain⟨fS,fnF,ffr,fnS,fsl,fnP,fsp,fhd⟩:=hF;have VH:=ai hKS;have UK:=ai hKF;have HKL:=ai hKL;have FV:=ai hKP;have MI:=ai fS;have MJ:=ai ffr;have Cu:=ai fsl;have pG:=ai fsp;clear hKS hKF hKL hKP fS ffr fsl fsp hc fnF fnS fnP;obtain⟨aS,cS,aF,cF,aL,cL,aP,cP⟩:=a;obtain⟨hs,fs,ls,ss,hd⟩:=k;unfold KM.ub KM.xW at *;simp only at HC hcc jc pJ HUP DW Uw VH UK HKL FV MI MJ Cu pG fhd ⊢;have BK:=ai (B.new w #[.slice aS hs.length cS,.slice aF fs.length cF,.slice aL ls.length cL,.slice aP ss.length cP,I hd] 27);have A7:=ai ((Below.refl w.heap.size w).alloc (Nat.le_refl _) (.cells #[.slice aS hs.length cS,.slice aF fs.length cF,.slice aL ls.length cL,.slice aP ss.length cP,I hd] 27));go_enter Tryz.func62,Tryz.ntmps62;go_upto_region 3 with(go_at_call 109;refine(HC.o _).mono ?_;rintro e w1 ⟨rfl,hb1⟩;have QP:=ai (aD A7.o hb1);have BK1:=ai (B.below BK.o hb1 (by simp));clear hb1)
 refine wp_region_lit ?_;refine wpList_load_row rfl 27 _ rfl w.heap.size rfl 27 _ (0,0) _ BK1.o Tryz.underlying27 rfl (by kernel_rfl) ?_;refine Cz rfl 104 _ rfl (.agg #[.slice aS hs.length cS,.slice aF fs.length cF,.slice aL ls.length cL,.slice aP ss.length cP,I hd]) (by rfl) _ (Xf _ _ _ _ _) ?_;have HM:=ai (B.new w1 (m9 (.slice aS hs.length cS) (.slice aF fs.length cF) (.slice aL ls.length cL) (.slice aP ss.length cP) (I hd) nu) 104);have UZ:=ai (B.alloc BK1.o (.cells (m9 (.slice aS hs.length cS) (.slice aF fs.length cF) (.slice aL ls.length cL) (.slice aP ss.length cP) (I hd) nu) 104));have UW:=ai (QP.o.alloc QP.o.size (.cells (m9 (.slice aS hs.length cS) (.slice aF fs.length cF) (.slice aL ls.length cL) (.slice aP ss.length cP) (I hd) nu) 104));have dG:w.heap.size<w1.heap.size:=B.isLt BK1.o;refine Go.Great.wpList_boxTo rfl 104 _ rfl _ rfl w1.heap.size rfl (m9 (.slice aS hs.length cS) (.slice aF fs.length cF) (.slice aL ls.length cL) (.slice aP ss.length cP) (I hd) nu) (by rfl) ?_;obtain⟨W,hW⟩:=ex (w1.alloc (.cells (m9 (.slice aS hs.length cS) (.slice aF fs.length cF) (.slice aL ls.length cL) (.slice aP ss.length cP) (I hd) nu) 104));rw[<- hW] at HM UZ UW ⊢;obtain⟨mb,hmb⟩:=ex w1.heap.size;rw[<- hmb] at HM dG ⊢;obtain⟨kb,hkb⟩:=ex w.heap.size;have Zm:w.heap.size<=mb:=by omega
 have ajF:w.heap.size<=kb:=by omega
 have Tz:¬kb=mb:=by omega
 rw[<- hkb] at UZ ⊢;have d1:W.cell? (Ad kb 1)=some (.slice aF fs.length cF):=B.cell UZ.o 1 rfl;have d2:W.cell? (Ad kb 2)=some (.slice aL ls.length cL):=B.cell UZ.o 2 rfl;clear hW hmb hkb BK BK1 HC A7 QP;have rI:fs.length<=1000:=by omega
 have Yu:ls.length<=1000:=by omega
 have e2:∀V:World,(Instr.makeSlice 162 (I (fs.length:Int)) (I (fs.length:Int))).run Tryz.prog V=.ok (.slice (some (Ad V.heap.size 0)) fs.length fs.length) (V.alloc (.cells (zu fs.length) 211)):=fun V=>Y9 V fs.length rI
 have e3:∀V:World,(Instr.makeSlice 162 (I (ls.length:Int)) (I (ls.length:Int))).run Tryz.prog V=.ok (.slice (some (Ad V.heap.size 0)) ls.length ls.length) (V.alloc (.cells (zu ls.length) 211)):=fun V=>Y9 V ls.length Yu
 have d1A:(W.alloc (.cells (zu ls.length) 211)).cell? (Ad kb 1)=some (.slice aF fs.length cF):=B.cell (B.alloc UZ.o _) 1 rfl;have d2A:(W.alloc (.cells (zu fs.length) 211)).cell? (Ad kb 2)=some (.slice aL ls.length cL):=B.cell (B.alloc UZ.o _) 2 rfl;have q1:=ai (Cy W.heap.size W fs.length (Nat.le_refl _) rI);have q2:=ai (Cy W.heap.size (W.alloc (.cells (zu fs.length) 211)) ls.length (by simp) Yu);have q3:=ai (Cy W.heap.size W ls.length (Nat.le_refl _) Yu);have q4:=ai (Cy W.heap.size (W.alloc (.cells (zu ls.length) 211)) fs.length (by simp) rI);rw[World.size_alloc] at q2 q4;have q5:=ai (((Below.refl W.heap.size W).alloc (Nat.le_refl _) (.cells (zu fs.length) 211)).alloc (by simp) (.cells (zu ls.length) 211));have q6:=ai (((Below.refl W.heap.size W).alloc (Nat.le_refl _) (.cells (zu ls.length) 211)).alloc (by simp) (.cells (zu fs.length) 211));go_upto_region 4 with fail;go_cut [5,6] (fun x5 x6 wx=>∃gf gs:Nat,x5=.slice (some (Ad gf 0)) fs.length fs.length/\x6=.slice (some (Ad gs 0)) ls.length ls.length/\¬gf=gs/\iw W.heap.size wx gf fs.length fs.length (List.replicate fs.length KM.gY)/\iw W.heap.size wx gs ls.length ls.length (List.replicate ls.length KM.gY)/\Below W.heap.size W wx)
 case first =>
  go_region
  all_goals
   go_wp2_with fail
   go_meet
   case rel=>first | exact⟨_,_,rfl,rfl,by simp,(q1.out.kp (Kp.alloc (fun _=>False) _ _) (fun x=>x)).d,q2.out.d,q5.out.drew⟩ | exact⟨_,_,rfl,rfl,by simp,q4.out.d,(q3.out.kp (Kp.alloc (fun _=>False) _ _) (fun x=>x)).d,q6.out.drew⟩
 case rest =>
  obtain⟨gf,gs,rfl,rfl,hne,hof,hos,Ai⟩:=hcut;clear q1 q2 q3 q4 q5 q6 e2 e3 d1A d2A d1 d2;have hgf:=hof.lt;have hgs:=hos.lt;have Kg:=ai hof;have Kf:=ai hos;have hmW:=B.isLt HM.o;have hkW:=B.isLt UZ.o;have R4:=ai (B.below HM.o Ai hmW);have YU:=ai (B.below UZ.o Ai hkW);have lB:=ai (UW.o.trans (Ai.mono UW.o.size));have MK:=ai (zy hs aS cS mb (.slice aF fs.length cF) (.slice aL ls.length cL) (.slice aP ss.length cP) (I hd) w wc VH.o MI.o lB.o Zm R4.o (by omega));have k4:wc.cell? (Ad kb 4)=some (I hd):=B.cell YU.o 4 rfl;clear hof hos Ai HM UZ UW;have px:Hid (∀V,Below w.heap.size w V->(LM.dC hs=false∨hd<0∨(fs.length:Int)<=hd)->P (.returned (.tuple #[.pointer none,I 1])) V):=fun V hV g=>jc.o V hV (by
   rcases g with g | g | g
   · rw[g];rfl
   · rw[decide_eq_false (by omega)];simp
   · rw[decide_eq_false (by omega)];simp)
  obtain⟨RB,hRB⟩:=ex (LM.dC hs);have vt:=ai hRB;rw[<- hRB] at MK px;clear hRB;cases RB with
  | false =>
   go_wp2_with (go_at_call 110;refine MK.o.mono ?_;rintro e w2 ⟨rfl,hk2,G,hG,hg⟩;have cM:=ai (hk2.below lB.o lB.o.size (fun b hb=>(by omega)));have D8:=ai (hk2.keep YU.o Tz);have HG:=ai hG;have HGG:=ai hg;have YH:=ai (Kg.o.kp hk2 (by omega));have YG:=ai (Kf.o.kp hk2 (by omega));have m1:w2.cell? (Ad kb 1)=some (.slice aF fs.length cF):=B.cell D8.o 1 rfl;have m3:w2.cell? (Ad kb 3)=some (.slice aP ss.length cP):=B.cell D8.o 3 rfl;have m4:w2.cell? (Ad kb 4)=some (I hd):=B.cell D8.o 4 rfl;clear hk2 hG hg)
   exact px.o _ cM.o (.inl trivial)
  | true =>
   rcases(show hd<0∨(0<=hd/\(fs.length:Int)<=hd)∨(0<=hd/\hd<(fs.length:Int)) by omega) with g | ⟨g1,g2⟩ | ⟨g1,g2⟩
   · go_wp2_with (go_at_call 110;refine MK.o.mono ?_;rintro e w2 ⟨rfl,hk2,G,hG,hg⟩;have cM:=ai (hk2.below lB.o lB.o.size (fun b hb=>(by omega)));have D8:=ai (hk2.keep YU.o Tz);have HG:=ai hG;have HGG:=ai hg;have YH:=ai (Kg.o.kp hk2 (by omega));have YG:=ai (Kf.o.kp hk2 (by omega));have m1:w2.cell? (Ad kb 1)=some (.slice aF fs.length cF):=B.cell D8.o 1 rfl;have m3:w2.cell? (Ad kb 3)=some (.slice aP ss.length cP):=B.cell D8.o 3 rfl;have m4:w2.cell? (Ad kb 4)=some (I hd):=B.cell D8.o 4 rfl;clear hk2 hG hg)
     exact px.o _ cM.o (.inr (.inl g))
   · go_wp2_with (go_at_call 110;refine MK.o.mono ?_;rintro e w2 ⟨rfl,hk2,G,hG,hg⟩;have cM:=ai (hk2.below lB.o lB.o.size (fun b hb=>(by omega)));have D8:=ai (hk2.keep YU.o Tz);have HG:=ai hG;have HGG:=ai hg;have YH:=ai (Kg.o.kp hk2 (by omega));have YG:=ai (Kf.o.kp hk2 (by omega));have m1:w2.cell? (Ad kb 1)=some (.slice aF fs.length cF):=B.cell D8.o 1 rfl;have m3:w2.cell? (Ad kb 3)=some (.slice aP ss.length cP):=B.cell D8.o 3 rfl;have m4:w2.cell? (Ad kb 4)=some (I hd):=B.cell D8.o 4 rfl;clear hk2 hG hg)
     exact px.o _ cM.o (.inr (.inr g2))
   · go_wp2_with (go_at_call 110;refine MK.o.mono ?_;rintro e w2 ⟨rfl,hk2,G,hG,hg⟩;have cM:=ai (hk2.below lB.o lB.o.size (fun b hb=>(by omega)));have D8:=ai (hk2.keep YU.o Tz);have HG:=ai hG;have HGG:=ai hg;have YH:=ai (Kg.o.kp hk2 (by omega));have YG:=ai (Kf.o.kp hk2 (by omega));have m1:w2.cell? (Ad kb 1)=some (.slice aF fs.length cF):=B.cell D8.o 1 rfl;have m3:w2.cell? (Ad kb 3)=some (.slice aP ss.length cP):=B.cell D8.o 3 rfl;have m4:w2.cell? (Ad kb 4)=some (I hd):=B.cell D8.o 4 rfl;clear hk2 hG hg)
     have HG2:Hid (w2.heap[mb]?=some (.cells (m9 (.slice aS hs.length cS) (.slice aF fs.length cF) (.slice aL ls.length cL) (.slice aP ss.length cP) (I hd) (j4 hs hs.length)) 104 (0,0))):=by
      have:=HG.o;rw[HGG.o trivial] at this;exact this
     clear MK px HG HGG R4 YU lB Kg Kf k4 m4;go_loopw [42] (fun iv wr=>∃k:Nat,k<=ss.length/\iv=I (k:Int)/\KM.oO hs ss (List.replicate fs.length KM.gY,List.replicate ls.length KM.gY) k=true/\Below w.heap.size w wr/\wr.heap[mb]?=some (.cells (m9 (.slice aS hs.length cS) (.slice aF fs.length cF) (.slice aL ls.length cL) (.slice aP ss.length cP) (I hd) (j4 hs hs.length)) 104 (0,0))/\wr.heap[kb]?=some (.cells #[.slice aS hs.length cS,.slice aF fs.length cF,.slice aL ls.length cL,.slice aP ss.length cP,I hd] 27 (0,0))/\iw W.heap.size wr gf fs.length fs.length (KM.lD ss (List.replicate fs.length KM.gY,List.replicate ls.length KM.gY) k).1/\iw W.heap.size wr gs ls.length ls.length (KM.lD ss (List.replicate fs.length KM.gY,List.replicate ls.length KM.gY) k).2) (fun iv _=>ss.length-(intOf iv).toNat)
     case atStart=>exact⟨0,by omega,rfl,rfl,cM.o,HG2.o,D8.o,YH.o,YG.o⟩
     case round =>
      obtain⟨k,hk,rfl,pC,hb,hmm,hkk,hof,hos⟩:=hrel;have Xv:=ai pC;have HB:=ai hb;have DY:=ai hmm;have HKK:=ai hkk;have Kg:=ai hof;have Kf:=ai hos;have m2:wr.cell? (Ad kb 2)=some (.slice aL ls.length cL):=B.cell hkk 2 rfl;by_cases hlt:k<ss.length
      · obtain⟨pb,po,hao,hbl,bN⟩:=FV.o (by omega);subst hao;obtain⟨va,ap,cp,c0,c1,c2,c3,c4,c5⟩:=bN k hlt;obtain⟨aa,ca,sI,_⟩:=id c3;subst sI;have hfit:=pG.o k hlt;have x0:=(hb.cell (p:=(Ad pb (po+k*3))) hbl).trans c0;have x1:=(hb.cell (p:=(Ad pb (po+k*3+1))) hbl).trans c1;have x2:=(hb.cell (p:=(Ad pb (po+k*3+2))) hbl).trans c2;have hbs:=hb.size;have DK:=DW.o k (by omega) pC;have XI:Hid (∀V,Below w.heap.size w V->KM.oO hs ss (List.replicate fs.length KM.gY,List.replicate ls.length KM.gY) (k+1)=false->P (.returned (.tuple #[.pointer none,I 1])) V):=fun V hV g=>jc.o V hV (by rw[Uw.o (k+1) ss.length hlt g];simp)
        have vq:Hid (KM.oO hs ss (List.replicate fs.length KM.gY,List.replicate ls.length KM.gY) (k+1)=(KM.ld hs (KM.au ss k)&&KM.ir (KM.au ss k).aB (KM.au ss k).aA (KM.lD ss (List.replicate fs.length KM.gY,List.replicate ls.length KM.gY) k) (KM.au ss k).aA.length)):=by show _=_;rw[KM.oO,Xv.o,Bool.true_and]
        have Xn:Hid (KM.lD ss (List.replicate fs.length KM.gY,List.replicate ls.length KM.gY) (k+1)=KM.gQ (KM.au ss k).aB (KM.au ss k).aA (KM.lD ss (List.replicate fs.length KM.gY,List.replicate ls.length KM.gY) k) (KM.au ss k).aA.length):=rfl;have LY:=B.isLt hmm;have xE:=ai (yB hs (KM.au ss k) (.slice aa (KM.au ss k).aB.length ca) ap cp mb (wr.alloc (.cells #[.bool (KM.au ss k).live,.slice aa (KM.au ss k).aB.length ca,.slice ap (KM.au ss k).aA.length cp] 43)) (c3.below (hb.alloc hb.size _)) hfit (by simp;omega) (yU (B.alloc hmm _) vt.o.symm));have m6:Hid (∀V,Below w.heap.size w V->iw W.heap.size V gf fs.length fs.length (KM.lD ss (List.replicate fs.length KM.gY,List.replicate ls.length KM.gY) k).1->iw W.heap.size V gs ls.length ls.length (KM.lD ss (List.replicate fs.length KM.gY,List.replicate ls.length KM.gY) k).2->Calls Tryz.prog 112 #[.agg #[.bool (KM.au ss k).live,.slice aa (KM.au ss k).aB.length ca,.slice ap (KM.au ss k).aA.length cp],.slice (some (Ad gf 0)) fs.length fs.length,.slice (some (Ad gs 0)) ls.length ls.length] V fun x w'=>x=.returned (.bool (KM.ir (KM.au ss k).aB (KM.au ss k).aA (KM.lD ss (List.replicate fs.length KM.gY,List.replicate ls.length KM.gY) k) (KM.au ss k).aA.length))/\Kp (fun b=>b=gf∨b=gs) V w'/\(KM.ir (KM.au ss k).aB (KM.au ss k).aA (KM.lD ss (List.replicate fs.length KM.gY,List.replicate ls.length KM.gY) k) (KM.au ss k).aA.length=true->iw W.heap.size w' gf fs.length fs.length (KM.gQ (KM.au ss k).aB (KM.au ss k).aA (KM.lD ss (List.replicate fs.length KM.gY,List.replicate ls.length KM.gY) k) (KM.au ss k).aA.length).1/\iw W.heap.size w' gs ls.length ls.length (KM.gQ (KM.au ss k).aB (KM.au ss k).aA (KM.lD ss (List.replicate fs.length KM.gY,List.replicate ls.length KM.gY) k) (KM.au ss k).aA.length).2)):=fun V hV h1 h2=>uL (KM.au ss k) (.slice aa (KM.au ss k).aB.length ca) ap cp (KM.lD ss (List.replicate fs.length KM.gY,List.replicate ls.length KM.gY) k).1 (KM.lD ss (List.replicate fs.length KM.gY,List.replicate ls.length KM.gY) k).2 W.heap.size gf fs.length fs.length gs ls.length ls.length (255*k) w V c3 c4 hfit hV (by omega) h1 h2 hne DK.1 DK.2 (by omega) rI Yu
        obtain⟨RS,hRS⟩:=ex (KM.ld hs (KM.au ss k));obtain⟨EB,hEB⟩:=ex (KM.ir (KM.au ss k).aB (KM.au ss k).aA (KM.lD ss (List.replicate fs.length KM.gY,List.replicate ls.length KM.gY) k) (KM.au ss k).aA.length);rw[<- hRS] at xE vq;rw[<- hEB] at m6 vq;obtain⟨lv,hlv⟩:=ex ((KM.au ss k).live);obtain⟨na,nZ⟩:=ex ((KM.au ss k).aB.length);obtain⟨ne,hnE⟩:=ex ((KM.au ss k).aA.length);rw[<- hlv,<- nZ,<- hnE] at xE;rw[<- hlv,<- nZ] at m6;rw[<- hlv] at x0;rw[<- nZ] at x1;rw[<- hnE] at x2;rw[<- hnE] at m6 Xn;have cQ:=ai (hb.alloc hb.size (.cells #[.bool lv,.slice aa na ca,.slice ap ne cp] 43));have MA:=ai (B.alloc hmm (.cells #[.bool lv,.slice aa na ca,.slice ap ne cp] 43));have KA:=ai (B.alloc hkk (.cells #[.bool lv,.slice aa na ca,.slice ap ne cp] 43));have OA:=ai (hof.kp (Kp.alloc (fun _=>False) wr (.cells #[.bool lv,.slice aa na ca,.slice ap ne cp] 43)) (fun x=>x));have OB:=ai (hos.kp (Kp.alloc (fun _=>False) wr (.cells #[.bool lv,.slice aa na ca,.slice ap ne cp] 43)) (fun x=>x));have SB:=ai (B.new wr #[.bool lv,.slice aa na ca,.slice ap ne cp] 43);have ajU:¬pb=wr.heap.size:=by omega
        clear hRS hEB hlv nZ hnE c0 c1 c2 c3 c4 c5 bN hfit DK pC hb hmm hkk hof hos DW Uw jc pJ HUP VH UK HKL FV MI MJ Cu pG DY HKK Kg Kf cM HG2 D8 YH YG m1 m3 m2;cases RS with
        | false =>
         have HX:=ai (XI.o);have QG:Hid (KM.oO hs ss (List.replicate fs.length KM.gY,List.replicate ls.length KM.gY) (k+1)=false):=vq;clear vq m6;go_wp2_with (go_at_call 111;refine xE.o.mono ?_;rintro e w3 ⟨rfl,hb3⟩;have ed:=ai (aD cQ.o hb3);have M3:=ai (B.below MA.o hb3 (B.isLt MA.o));have KB3:=ai (B.below KA.o hb3 (B.isLt KA.o));have O3:=ai (OA.o.kp (Kp.bc (D:=fun _=>False) hb3) (fun x=>x));have S3:=ai (OB.o.kp (Kp.bc (D:=fun _=>False) hb3) (fun x=>x));have Qv:=ai (B.below SB.o hb3 (B.isLt SB.o));have v0:w3.cell? (Ad wr.heap.size 0)=some (.bool lv):=B.cell Qv.o 0 rfl;have v1:w3.cell? (Ad wr.heap.size 1)=some (.slice aa na ca):=B.cell Qv.o 1 rfl;have v2:w3.cell? (Ad wr.heap.size 2)=some (.slice ap ne cp):=B.cell Qv.o 2 rfl;clear hb3)
         exact HX.o _ ed.o QG.o
        | true =>
         cases EB with
         | false =>
          have HX:=ai (XI.o);have QG:Hid (KM.oO hs ss (List.replicate fs.length KM.gY,List.replicate ls.length KM.gY) (k+1)=false):=vq;clear vq;go_wp2_with (first | (go_at_call 111;refine xE.o.mono ?_;rintro e w3 ⟨rfl,hb3⟩;have ed:=ai (aD cQ.o hb3);have M3:=ai (B.below MA.o hb3 (B.isLt MA.o));have KB3:=ai (B.below KA.o hb3 (B.isLt KA.o));have O3:=ai (OA.o.kp (Kp.bc (D:=fun _=>False) hb3) (fun x=>x));have S3:=ai (OB.o.kp (Kp.bc (D:=fun _=>False) hb3) (fun x=>x));have Qv:=ai (B.below SB.o hb3 (B.isLt SB.o));have v0:w3.cell? (Ad wr.heap.size 0)=some (.bool lv):=B.cell Qv.o 0 rfl;have v1:w3.cell? (Ad wr.heap.size 1)=some (.slice aa na ca):=B.cell Qv.o 1 rfl;have v2:w3.cell? (Ad wr.heap.size 2)=some (.slice ap ne cp):=B.cell Qv.o 2 rfl;clear hb3) | (go_at_call 112;refine(m6.o _ ed.o O3.o S3.o).mono ?_;rintro e w4 ⟨rfl,hk4,ZC⟩;have gw:=ai (hk4.below ed.o ed.o.size (fun b hb=>(by omega)));have M4:=ai (hk4.keep M3.o (by omega));have KB4:=ai (hk4.keep KB3.o (by omega));have XH:=ai ZC;clear hk4 ZC))
          exact HX.o _ gw.o QG.o
         | true =>
          have QG:Hid (KM.oO hs ss (List.replicate fs.length KM.gY,List.replicate ls.length KM.gY) (k+1)=true):=vq;clear vq XI;go_wp2_with (first | (go_at_call 111;refine xE.o.mono ?_;rintro e w3 ⟨rfl,hb3⟩;have ed:=ai (aD cQ.o hb3);have M3:=ai (B.below MA.o hb3 (B.isLt MA.o));have KB3:=ai (B.below KA.o hb3 (B.isLt KA.o));have O3:=ai (OA.o.kp (Kp.bc (D:=fun _=>False) hb3) (fun x=>x));have S3:=ai (OB.o.kp (Kp.bc (D:=fun _=>False) hb3) (fun x=>x));have Qv:=ai (B.below SB.o hb3 (B.isLt SB.o));have v0:w3.cell? (Ad wr.heap.size 0)=some (.bool lv):=B.cell Qv.o 0 rfl;have v1:w3.cell? (Ad wr.heap.size 1)=some (.slice aa na ca):=B.cell Qv.o 1 rfl;have v2:w3.cell? (Ad wr.heap.size 2)=some (.slice ap ne cp):=B.cell Qv.o 2 rfl;clear hb3) | (go_at_call 112;refine(m6.o _ ed.o O3.o S3.o).mono ?_;rintro e w4 ⟨rfl,hk4,ZC⟩;have gw:=ai (hk4.below ed.o ed.o.size (fun b hb=>(by omega)));have M4:=ai (hk4.keep M3.o (by omega));have KB4:=ai (hk4.keep KB3.o (by omega));have XH:=ai ZC;clear hk4 ZC))
          have HO5:=ai (XH.o trivial);rw[<- Xn.o] at HO5;go_roundw
          case rel=>exact⟨k+1,by omega,by go_num,QG.o,gw.o,M4.o,KB4.o,HO5.o.1,HO5.o.2⟩
          case measure=>simp[intOf];omega
      · obtain rfl:k=ss.length:=by omega
        have ZJ:ss.length<=4:=by omega
        have mB:=hmm;have p1:wr.cell? (Ad mb 1)=some (.slice aF fs.length cF):=B.cell mB 1 rfl;have p2:wr.cell? (Ad mb 2)=some (.slice aL ls.length cL):=B.cell mB 2 rfl;have p3:wr.cell? (Ad mb 3)=some (.slice aP ss.length cP):=B.cell mB 3 rfl;have LY:=B.isLt hmm;have adV:=B.isLt hkk;have DK:=DW.o ss.length (Nat.le_refl _) pC;have vw:Hid (∀V,Below wr.heap.size wr V->Calls Tryz.prog 83 #[.pointer (some (Ad mb 0))] V fun e w'=>e=.returned (I (KM.room ss))/\Below V.heap.size V w'):=fun V hV=>oC ss aP cP mb V (FV.o.below (hb.trans (hV.mono hb.size))) (fun j hj=>(pG.o j hj).aB) (by omega) ((hV.cell (p:=(Ad mb 3)) LY).trans p3)
        have ru:Hid (∀V,Below wr.heap.size wr V->Calls Tryz.prog 113 #[.pointer (some (Ad mb 0)),.slice (some (Ad gf 0)) fs.length fs.length] V fun e w'=>e=.returned (.bool ((List.range fs.length).all fun i=>KM.fT hs (KM.aH fs i) (KM.dm (KM.lD ss (List.replicate fs.length KM.gY,List.replicate ls.length KM.gY) ss.length).1 i)))/\Below V.heap.size V w'):=fun V hV=>xk hs fs _ aF cF mb W.heap.size gf fs.length V (UK.o.below (hb.trans (hV.mono hb.size))) (hof.kp (Kp.bc (D:=fun _=>False) hV) (fun x=>x)) (Nat.lt_of_lt_of_le LY hV.size) ((hV.cell (p:=(Ad mb 1)) LY).trans p1) (yU (B.below mB hV LY) vt.o.symm) (fun i hi=>HUP.o vt.o.symm pC i hi) (fun i hi=>(MJ.o i hi).1) (by omega)
        have DX:Hid (∀V,Below wr.heap.size wr V->Calls Tryz.prog 114 #[.pointer (some (Ad mb 0)),.slice (some (Ad gs 0)) ls.length ls.length] V fun e w'=>e=.returned (.bool ((List.range ls.length).all fun i=>KM.ij (KM.bj ls i) (KM.dm (KM.lD ss (List.replicate fs.length KM.gY,List.replicate ls.length KM.gY) ss.length).2 i)))/\Below V.heap.size V w'):=fun V hV=>yC ls _ aL cL mb W.heap.size gs ls.length V (HKL.o.below (hb.trans (hV.mono hb.size))) (hos.kp (Kp.bc (D:=fun _=>False) hV) (fun x=>x)) ((hV.cell (p:=(Ad mb 2)) LY).trans p2) (fun i hi=>(DK.2.2 i hi).1) (fun i hi=>(Cu.o i hi).1) (by omega)
        have Dx:=jc;have Ct:=pJ;rw[vt.o.symm,Xv.o,decide_eq_true (show 0<=hd/\hd<(fs.length:Int) from⟨g1,g2⟩)] at Dx Ct;obtain⟨RF,hRF⟩:=ex ((List.range fs.length).all fun i=>KM.fT hs (KM.aH fs i) (KM.dm (KM.lD ss (List.replicate fs.length KM.gY,List.replicate ls.length KM.gY) ss.length).1 i));obtain⟨RL,hRL⟩:=ex ((List.range ls.length).all fun i=>KM.ij (KM.bj ls i) (KM.dm (KM.lD ss (List.replicate fs.length KM.gY,List.replicate ls.length KM.gY) ss.length).2 i));obtain⟨RM,De⟩:=ex (KM.room ss);rw[<- hRF] at ru Dx Ct;rw[<- hRL] at DX Dx Ct;rw[<- De] at vw Dx Ct;have j3:=Q.dE wr;have k2:∀x:Q.ez wr.heap.size wr,x.world.cell? (Ad kb 2)=some (.slice aL ls.length cL):=fun x=>by rw[Q.cV x _ _ adV];exact m2
        clear hRF hRL De DK pC hb hmm hkk hof hos DW Uw jc pJ HUP VH UK HKL FV MI MJ Cu pG HKK Kg Kf cM HG2 D8 YH YG m1 m3 m2 p1 p2 p3 mB Xv;go_upto_region 13 with fail;by_cases c:RM<=(ls.length:Int)
        · have c2:decide ((ls.length:Int)<RM)=false:=decide_eq_false (by omega);rw[decide_eq_true c] at Dx Ct;cases RF with
          | false =>
           refine Q.bu (by kernel_rfl) (by kernel_rfl) ?_
           repeat (first | go_big_quiet_step ((first | (go_at_call 83;exact eY _ vw.o) | (go_at_call 113;exact eY _ ru.o))) | quiet_step ((first | (go_at_call 83;exact eY _ vw.o) | (go_at_call 113;exact eY _ ru.o))))
           refine wpQuiet_nil ?_;rintro _ ⟨x,rfl⟩;have lB:=ai (HB.o.trans (x.keeps.mono HB.o.size));have MX:=ai (B.below DY.o x.keeps (B.isLt DY.o));clear vw ru DX k2;go_wp2;exact Dx.o _ lB.o (by simp)
          | true =>
           cases RL with
           | false =>
            refine Q.bu (by kernel_rfl) (by kernel_rfl) ?_
            repeat (first | go_big_quiet_step ((first | (go_at_call 83;exact eY _ vw.o) | (go_at_call 113;exact eY _ ru.o) | (go_at_call 114;exact eY _ DX.o))) | quiet_step ((first | (go_at_call 83;exact eY _ vw.o) | (go_at_call 113;exact eY _ ru.o) | (go_at_call 114;exact eY _ DX.o))))
            refine wpQuiet_nil ?_;rintro _ ⟨x,rfl⟩;have lB:=ai (HB.o.trans (x.keeps.mono HB.o.size));have MX:=ai (B.below DY.o x.keeps (B.isLt DY.o));clear vw ru DX k2;go_wp2;exact Dx.o _ lB.o (by simp)
           | true =>
            refine Q.bu (by kernel_rfl) (by kernel_rfl) ?_
            repeat (first | go_big_quiet_step ((first | (go_at_call 83;exact eY _ vw.o) | (go_at_call 113;exact eY _ ru.o) | (go_at_call 114;exact eY _ DX.o))) | quiet_step ((first | (go_at_call 83;exact eY _ vw.o) | (go_at_call 113;exact eY _ ru.o) | (go_at_call 114;exact eY _ DX.o))))
            refine wpQuiet_nil ?_;rintro _ ⟨x,rfl⟩;have lB:=ai (HB.o.trans (x.keeps.mono HB.o.size));have MX:=ai (B.below DY.o x.keeps (B.isLt DY.o));clear vw ru DX k2;go_wp2;exact Ct.o _ mb lB.o (by simp) Zm MX.o
        · have c2:decide ((ls.length:Int)<RM)=true:=decide_eq_true (by omega);rw[decide_eq_false c] at Dx;refine Q.bu (by kernel_rfl) (by kernel_rfl) ?_
          repeat (first | go_big_quiet_step ((go_at_call 83;exact eY _ vw.o)) | quiet_step ((go_at_call 83;exact eY _ vw.o)))
          refine wpQuiet_nil ?_;rintro _ ⟨x,rfl⟩;have lB:=ai (HB.o.trans (x.keeps.mono HB.o.size));have MX:=ai (B.below DY.o x.keeps (B.isLt DY.o));clear vw ru DX k2;go_wp2;exact Dx.o _ lB.o (by simp)
theorem Oy (k:KM.Kn) (a:fh) (w:World) (hc:KM.counts k=false):Calls Tryz.prog 62 #[.agg (aI a k)] w (nW w a k):=by
 have hcc:=of_decide_eq_false hc;have jc:Hid (∀w',Below w.heap.size w w'->nW w a k (.returned (.tuple #[.pointer none,I 2])) w'):=fun w' hb=>by
  have e:KM.dR k=2:=by unfold KM.dR;rw[if_pos hc]
  exact⟨hb,.inr ⟨by rw[e];decide,by rw[e]⟩⟩
 obtain⟨P,hP⟩:=ex (nW w a k);rw[<- hP] at jc ⊢;clear hP;unfold aI;have HC:Hid (∀V,Calls Tryz.prog 109 #[.agg #[.slice a.aS k.ak.length a.cS,.slice a.aF k.frames.length a.cF,.slice a.aL k.slots.length a.cL,.slice a.aP k.aj.length a.cP,I k.hand]] V fun e w'=>e=.returned (.bool false)/\Below V.heap.size V w'):=fun V=>by
  have:=zL a.aS a.aF a.aL a.aP k.ak.length a.cS k.frames.length a.cF k.slots.length a.cL k.aj.length a.cP (I k.hand) V;rw[decide_eq_false hcc] at this;exact this
 obtain⟨aS,cS,aF,cF,aL,cL,aP,cP⟩:=a;obtain⟨hs,fs,ls,ss,hd⟩:=k;simp only at HC ⊢;have A7:=ai ((Below.refl w.heap.size w).alloc (Nat.le_refl _) (.cells #[.slice aS hs.length cS,.slice aF fs.length cF,.slice aL ls.length cL,.slice aP ss.length cP,I hd] 27));clear hc hcc;go_enter Tryz.func62,Tryz.ntmps62;go_wp2_with (go_at_call 109;refine(HC.o _).mono ?_;rintro e w1 ⟨rfl,hb1⟩;have QP:=ai (aD A7.o hb1);clear hb1)
 exact jc.o _ QP.o
theorem Oz (k:KM.Kn) (a:fh) (w:World) (hK:cK w a k) (hF:eB k):Calls Tryz.prog 62 #[.agg (aI a k)] w (nW w a k):=by
 cases hc:KM.counts k with
 | true=>exact Lr k a w hK hF hc
 | false=>exact Oy k a w hc
def cu (k:KM.Kn) (sp:Int):Int:=if KM.dR k=0 then (if 0<=sp/\sp<(k.aj.length:Int)/\(KM.au k.aj sp.toNat).live=true then 0 else 6) else KM.dR k
def kK (a:fh) (k:KM.Kn):Array Value:=m9 (.slice a.aS k.ak.length a.cS) (.slice a.aF k.frames.length a.cF) (.slice a.aL k.slots.length a.cL) (.slice a.aP k.aj.length a.cP) (I k.hand) (j4 k.ak k.ak.length)
def iU (w:World) (a:fh) (k:KM.Kn) (c:Int) (e:Ending) (w':World):Prop:=Below w.heap.size w w'/\((c=0/\∃mb,e=.returned (.tuple #[.pointer (some (Ad mb 0)),I 0])/\w.heap.size<=mb/\w'.heap[mb]?=some (.cells (kK a k) 104 (0,0)))∨(c≠0/\e=.returned (.tuple #[.pointer none,I c])))
theorem qd (k:KM.Kn) (a:fh) (sp:Int) (w:World) (hK:cK w a k) (hF:eB k) (hsp:M.gu sp):Calls Tryz.prog 69 #[.agg (aI a k),I sp] w (iU w a k (cu k sp)):=by
 have HL:=ai (fun V (hV:Below w.heap.size w V)=>Oz k a V (hK.below hV) hF);have HE:Hid (∀V c,Below w.heap.size w V->cu k sp=c->c≠0->iU w a k (cu k sp) (.returned (.tuple #[.pointer none,I c])) V):=fun V c hV e hc=>⟨hV,.inr ⟨by rw[e];exact hc,by rw[e]⟩⟩
 have HY:Hid (∀V mb,Below w.heap.size w V->cu k sp=0->w.heap.size<=mb->V.heap[mb]?=some (.cells (kK a k) 104 (0,0))->iU w a k (cu k sp) (.returned (.tuple #[.pointer (some (Ad mb 0)),I 0])) V):=fun V mb hV e hm hh=>⟨hV,.inl ⟨e,mb,rfl,hm,hh⟩⟩
 obtain⟨P,hP⟩:=ex (iU w a k (cu k sp));rw[<- hP] at HE HY ⊢;clear hP;have YO:=ai hK.aj;have Cv:=ai (B.new w (aI a k) 27);have bR:=ai ((Below.refl w.heap.size w).alloc (Nat.le_refl _) (.cells (aI a k) 27));have UH:Hid (cu k sp=if KM.dR k=0 then (if 0<=sp/\sp<(k.aj.length:Int)/\(KM.au k.aj sp.toNat).live=true then 0 else 6) else KM.dR k):=rfl;have HN4:Hid (KM.dR k=0->k.aj.length<=4):=fun h=>((KM.kR k).1 h).c.2.2.1.2
 clear hK hF;by_cases hc:KM.dR k=0
 · have A4:Hid (∀V,Below w.heap.size w V->Calls Tryz.prog 62 #[.agg (aI a k)] V fun e w'=>∃mb,e=.returned (.tuple #[.pointer (some (Ad mb 0)),I 0])/\w.heap.size<=mb/\w'.heap[mb]?=some (.cells (kK a k) 104 (0,0))/\Below V.heap.size V w'):=fun V hV=>(HL.o V hV).mono fun e w' ⟨hb,h⟩=>by
    rcases h with⟨_,mb,h1,h2,h3⟩ | ⟨h1,_⟩
    · exact⟨mb,h1,Nat.le_trans hV.size h2,h3,hb⟩
    · exact absurd hc h1
   have hn4:=HN4.o hc;have Ac:Hid (cu k sp=if 0<=sp/\sp<(k.aj.length:Int)/\(KM.au k.aj sp.toNat).live=true then 0 else 6):=by show _=_;rw[UH.o,if_pos hc]
   clear HL UH hc HN4;unfold aI at A4 Cv bR ⊢;obtain⟨aS,cS,aF,cF,aL,cL,aP,cP⟩:=a;obtain⟨hs,fs,ls,ss,hd⟩:=k;simp only at A4 Cv bR YO Ac HY hn4 ⊢;have CALL:True:=trivial;rcases(show sp<0∨(0<=sp/\(ss.length:Int)<=sp)∨(0<=sp/\sp<(ss.length:Int)) by omega) with g | ⟨g1,g2⟩ | ⟨g1,g2⟩
   · have HX:=ai (fun V hV=>HE.o V 6 hV (by rw[Ac.o,if_neg (by omega)]) (by decide));clear HE HY Ac YO;go_enter Tryz.func69,Tryz.ntmps69;go_wp2_with (go_at_call 62;refine(A4.o _ bR.o).mono ?_;rintro e w1 ⟨mb,rfl,jP,hm2,hb1⟩;have bE:=ai (aD bR.o hb1);have K1:=ai (B.below Cv.o hb1 (by simp));have c3:w1.cell? (Ad w.heap.size 3)=some (.slice aP ss.length cP):=B.cell K1.o 3 rfl;clear hb1 hm2)
     exact HX.o _ bE.o
   · have HX:=ai (fun V hV=>HE.o V 6 hV (by rw[Ac.o,if_neg (by omega)]) (by decide));clear HE HY Ac YO;go_enter Tryz.func69,Tryz.ntmps69;go_wp2_with (go_at_call 62;refine(A4.o _ bR.o).mono ?_;rintro e w1 ⟨mb,rfl,jP,hm2,hb1⟩;have bE:=ai (aD bR.o hb1);have K1:=ai (B.below Cv.o hb1 (by simp));have c3:w1.cell? (Ad w.heap.size 3)=some (.slice aP ss.length cP):=B.cell K1.o 3 rfl;clear hb1 hm2)
     exact HX.o _ bE.o
   · obtain⟨j,rfl⟩:∃j:Nat,sp=(j:Int):=⟨sp.toNat,by omega⟩;obtain⟨pb,po,hao,hbl,bN⟩:=YO.o (by omega);subst hao;obtain⟨va,ap,cp,y0,_,_,_,_,_⟩:=bN j (by omega);rw[Int.toNat_natCast] at Ac;obtain⟨lv,hlv⟩:=ex ((KM.au ss j).live);rw[<- hlv] at y0 Ac;clear hlv bN YO;cases lv with
     | false =>
      have HX:=ai (fun V hV=>HE.o V 6 hV (by rw[Ac.o,if_neg (by simp)]) (by decide));clear HE HY Ac;go_enter Tryz.func69,Tryz.ntmps69;go_wp2_with (go_at_call 62;refine(A4.o _ bR.o).mono ?_;rintro e w1 ⟨mb,rfl,jP,hm2,hb1⟩;have bE:=ai (aD bR.o hb1);have K1:=ai (B.below Cv.o hb1 (by simp));have c3:w1.cell? (Ad w.heap.size 3)=some (.slice (some (Ad pb po)) ss.length cP):=B.cell K1.o 3 rfl;have l0:w1.cell? (Ad pb (po+j*3))=some (.bool false):=(bE.o.cell (p:=(Ad pb (po+j*3))) hbl).trans y0;clear hb1 hm2)
      exact HX.o _ bE.o
     | true =>
      have HX:=ai (fun V mb hV hm hh=>HY.o V mb hV (by rw[Ac.o,if_pos ⟨g1,g2,rfl⟩]) hm hh);clear HE HY Ac;go_enter Tryz.func69,Tryz.ntmps69;go_wp2_with (go_at_call 62;refine(A4.o _ bR.o).mono ?_;rintro e w1 ⟨mb,rfl,jP,hm2,hb1⟩;have DZ:=ai hm2;have bE:=ai (aD bR.o hb1);have K1:=ai (B.below Cv.o hb1 (by simp));have c3:w1.cell? (Ad w.heap.size 3)=some (.slice (some (Ad pb po)) ss.length cP):=B.cell K1.o 3 rfl;have l0:w1.cell? (Ad pb (po+j*3))=some (.bool true):=(bE.o.cell (p:=(Ad pb (po+j*3))) hbl).trans y0;clear hb1 hm2)
      exact HX.o _ mb bE.o jP DZ.o
 · have A4:Hid (∀V,Below w.heap.size w V->Calls Tryz.prog 62 #[.agg (aI a k)] V fun e w'=>e=.returned (.tuple #[.pointer none,I (KM.dR k)])/\Below V.heap.size V w'):=fun V hV=>(HL.o V hV).mono fun e w' ⟨hb,h⟩=>by
    rcases h with⟨h1,_⟩ | ⟨_,h1⟩
    · exact absurd h1 hc
    · exact⟨h1,hb⟩
   have HX:=ai (fun V hV=>HE.o V (KM.dR k) hV (by rw[UH.o,if_neg hc]) hc);obtain⟨C,hC⟩:=ex (KM.dR k);rw[<- hC] at A4 HX hc;have cb:(C != 0)=true:=by simpa using hc
   clear HL UH hC HE HY HN4 YO;unfold aI at A4 Cv bR ⊢;obtain⟨aS,cS,aF,cF,aL,cL,aP,cP⟩:=a;obtain⟨hs,fs,ls,ss,hd⟩:=k;simp only at A4 Cv bR ⊢;clear hc;go_enter Tryz.func69,Tryz.ntmps69;go_wp2_with (go_at_call 62;refine(A4.o _ bR.o).mono ?_;rintro e w1 ⟨rfl,hb1⟩;have bE:=ai (aD bR.o hb1);clear hb1)
   exact HX.o _ bE.o
theorem Iu (p:Int) (e:KM.En) (x:Nat) (w:World) (hx:w.cell? (Ad x 0)=some (I p)) :
  Calls Tryz.prog 154 #[.agg #[I e.page,I e.kind,I e.loc],.pointer (some (Ad x 0))] w fun r w'=>r=.returned (.bool (decide (e.page=p)))/\Below w.heap.size w w':=by
 obtain⟨pg,kd,lc⟩:=e;simp only;have hxl:x<w.heap.size:=World.block_lt_of_cell? w _ hx;have xA:(w.alloc (.cells #[I pg,I kd,I lc] 45)).cell? (Ad x 0)=some (I p):=(Below.cell ((Below.refl w.heap.size w).alloc (Nat.le_refl _) _) (p:=(Ad x 0)) hxl).trans hx;obtain⟨A,hA⟩:=ex (decide (pg=p));have HA:Hid ((pg==p)=A):=by show _=_;rw[hA];rfl
 rw[<- hA];clear hA;have ha:=HA.o;clear HA;go_enter Tryz.func154,Tryz.ntmps154;go_wp2;go_ret;exact⟨by simp,(Below.refl _ _).alloc (Nat.le_refl _) _⟩
theorem C5 (F:FuncId) (hF:F=154∨F=191∨F=202) (P:KM.En->Bool) (es:List KM.En) (ao:Option Addr) (cap x:Nat) (w:World) (h:aZ aK 3 KM.js w ao es) (hl:es.length<=1000000)
  (hC:∀V e,Below w.heap.size w V->Calls Tryz.prog F #[.agg #[I e.page,I e.kind,I e.loc],.pointer (some (Ad x 0))] V fun r w'=>r=.returned (.bool (P e))/\Below V.heap.size V w') :
  Calls Tryz.prog 153 #[.slice ao es.length cap,.func (.func F) #[] #[.pointer (some (Ad x 0))]] w fun e w' =>
   Below w.heap.size w w'/\((e=.returned (I (-1))/\∀j,j<es.length->P (KM.aM es j)=false)∨∃i:Nat,i<es.length/\e=.returned (I (i:Int))/\P (KM.aM es i)=true/\∀j,j<i->P (KM.aM es j)=false):=by
 have HH:=ai h;have HC:=ai hC;clear h hC;rcases hF with rfl | rfl | rfl
 all_goals
  go_enter Tryz.func153,Tryz.ntmps153;go_wp2;go_loopw [8] (fun iv wr=>∃k:Nat,k<=es.length/\iv=I (k:Int)/\(∀j,j<k->P (KM.aM es j)=false)/\Below w.heap.size w wr) (fun iv _=>es.length-(intOf iv).toNat)
  case atStart=>exact⟨0,by omega,rfl,fun j hj=>by omega,Below.refl _ _⟩
  case round =>
   obtain⟨k,hk,rfl,hno,hb⟩:=hrel;have jc:=ai hno;have HB:=ai hb;clear hno;by_cases hlt:k<es.length
   · have wj:(k:Int)<(es.length:Int):=by omega
     obtain⟨eb,eo,hao,hbl,bN⟩:=HH.o (by omega);subst hao;have y0:=(hb.cell (p:=(Ad eb (eo+k*3+0))) hbl).trans (bN k hlt 0 (by omega));have y1:=(hb.cell (p:=(Ad eb (eo+k*3+1))) hbl).trans (bN k hlt 1 (by omega));have y2:=(hb.cell (p:=(Ad eb (eo+k*3+2))) hbl).trans (bN k hlt 2 (by omega));rw[Nat.add_zero] at y0;have lR:=ai (HC.o wr (KM.aM es k) hb);obtain⟨G,hG⟩:=ex (P (KM.aM es k));rw[<- hG] at lR;have HG:=ai hG;obtain⟨E,hE⟩:=ex (KM.aM es k);have x0:wr.cell? (Ad eb (eo+k*3))=some (I E.page):=by rw[hE];exact y0
     have x1:wr.cell? (Ad eb (eo+k*3+1))=some (I E.kind):=by rw[hE];exact y1
     have x2:wr.cell? (Ad eb (eo+k*3+2))=some (I E.loc):=by rw[hE];exact y2
     rw[<- hE] at lR;clear hG hE hb y0 y1 y2 bN;cases G with
     | true =>
      go_wp2_with ((first | go_at_call 154 | go_at_call 191 | go_at_call 202);refine lR.o.mono ?_;rintro e w1 ⟨rfl,hb1⟩;have bE:=ai (HB.o.trans (hb1.mono HB.o.size));clear hb1)
      go_ret;exact⟨bE.o,.inr ⟨k,hlt,rfl,HG.o.symm,jc.o⟩⟩
     | false =>
      go_wp2_with ((first | go_at_call 154 | go_at_call 191 | go_at_call 202);refine lR.o.mono ?_;rintro e w1 ⟨rfl,hb1⟩;have bE:=ai (HB.o.trans (hb1.mono HB.o.size));clear hb1)
      go_roundw
      case rel=>exact⟨k+1,by omega,by go_num,fun j hj=>by
       by_cases q:j=k
       · subst q;exact HG.o.symm
       · exact jc.o j (by omega),bE.o⟩
      case measure=>simp[intOf];omega
   · obtain rfl:k=es.length:=by omega
     clear hb;go_wp2;go_ret;exact⟨HB.o,.inl ⟨rfl,jc.o⟩⟩
end KW
end Go.Proofs.YtpgifpeohlllfaaGreat
