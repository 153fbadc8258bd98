import Derived.Test.YtpgifpeohlllfaaGreatGR11
import Derived.Great.Ranges
set_option maxHeartbeats 20000000
set_option linter.unusedVariables false
set_option maxRecDepth 100000
set_option linter.unusedSimpArgs false
namespace Go.Proofs.YtpgifpeohlllfaaGreat
open Go.RowKit
def pT (w:World) (a:fR) (k:aN) (e:Ending) (w':World):Prop:=Below w.heap.size w w'/\((eZ k=0/\∃mb,e=.returned (.tuple #[.pointer (some (Ad mb 0)),I 0])/\w.heap.size<=mb/\w'.heap[mb]?=some (.cells (kS (.slice a.aS k.aD.length a.cS) (.slice a.aF k.frames.length a.cF) (.slice a.aL k.slots.length a.cL) (.slice a.aP k.aj.length a.cP) (I k.hand) (kz k.aD k.aD.length)) 104 (0,0)))∨(eZ k≠0/\e=.returned (.tuple #[.pointer none,I (eZ k)])))
theorem BN {w:World} {mb:Nat} {hs:List bR} {a b c d e:Value} (h:w.heap[mb]?=some (.cells (kS a b c d e (kz hs hs.length)) 104 (0,0))) (hr:ed hs=true):∀n:Nat,n<256->w.cell? (Ad mb (5+n))=some (.string (eO hs n)):=fun n hn=>(aB h (5+n) (LL a b c d e _ n hn)).trans (by grind [BQ])
theorem QI (k:aN) (a:fR) (w:World) (hK:gD w a k) (hF:iI k) (hc:lu k=true):Calls Tryz.prog 62 #[.agg (bg a k)] w (pT w a k):=by
 have hcc:=kr hc;have pK:Hid (∀w',Below w.heap.size w w'->zj k=false->pT w a k (.returned (.tuple #[.pointer none,I 1])) w'):=fun w' hb hf=>by
  have e:eZ k=1:=by grind [eZ]
  exact⟨hb,.inr ⟨by omega,by rw[e]⟩⟩
 have xj:Hid (∀w' mb,Below w.heap.size w w'->zj k=true->w.heap.size<=mb->w'.heap[mb]?=some (.cells (kS (.slice a.aS k.aD.length a.cS) (.slice a.aF k.frames.length a.cF) (.slice a.aL k.slots.length a.cL) (.slice a.aP k.aj.length a.cP) (I k.hand) (kz k.aD k.aD.length)) 104 (0,0))->pT w a k (.returned (.tuple #[.pointer (some (Ad mb 0)),I 0])) w'):=fun w' mb hb hf hm hh=>by
  have e:eZ k=0:=by grind [eZ]
  exact⟨hb,.inl ⟨e,mb,rfl,hm,hh⟩⟩
 obtain⟨P,hP⟩:=ex (pT w a k);rw[<- hP] at pK xj ⊢;clear hP;unfold bg;have HC:Hid (∀V,Calls Tryz.prog 109 #[.agg #[.slice a.aS k.aD.length a.cS,.slice a.aF k.frames.length a.cF,.slice a.aL k.slots.length a.cL,.slice a.aP k.aj.length a.cP,I k.hand]] V fun e w'=>e=.returned (.bool true)/\Below V.heap.size V w'):=fun V=>by
  have:=DJ a.aS a.aF a.aL a.aP k.aD.length a.cS k.frames.length a.cF k.slots.length a.cL k.aj.length a.cP (I k.hand) V;rw[dI hcc] at this;exact this
 have HUP:=ai (@NP k);have Dj:=ai (Pc k.aD k.aj (List.replicate k.frames.length dw,List.replicate k.slots.length dw) k.frames.length k.slots.length (Pb _) (Pb _));have HSF:=ai (Gz k.aD k.aj (List.replicate k.frames.length dw,List.replicate k.slots.length dw));obtain⟨hKS,hKF,hKL,hKP⟩:=hK;obtain⟨fS,fnF,ffr,fnS,fsl,fnP,fsp,fhd⟩:=hF;have HKS:=ai hKS;have HKF:=ai hKF;have HKL:=ai hKL;have UJ:=ai hKP;have ZE:=ai fS;have ZF:=ai ffr;have Mu:=ai fsl;have A3:=ai fsp;clear hKS hKF hKL hKP fS ffr fsl fsp hc fnF fnS fnP;obtain⟨aS,cS,aF,cF,aL,cL,aP,cP⟩:=a;obtain⟨hs,fs,ls,ss,hd⟩:=k;unfold zj wQ at *;simp only at HC hcc pK xj HUP Dj HSF HKS HKF HKL UJ ZE ZF Mu A3 fhd ⊢;have BK:=ai (bO w #[.slice aS hs.length cS,.slice aF fs.length cF,.slice aL ls.length cL,.slice aP ss.length cP,I hd] 27);have Sa:=ai ((aK w.heap.size w).alloc (aI _) (.cells #[.slice aS hs.length cS,.slice aF fs.length cF,.slice aL ls.length cL,.slice aP ss.length cP,I hd] 27));go_enter Tryz.func62,Tryz.ntmps62;go_upto_region 3 with(go_at_call 109;refine(HC.o _).mono ?_;rintro e w1 ⟨rfl,hb1⟩;have abB:=ai (cd Sa.o hb1);have BK1:=ai (aQ BK.o hb1 (by simp));clear hb1)
 refine wp_region_lit ?_;refine vq rfl 27 _ rfl w.heap.size rfl 27 _ (0,0) _ BK1.o Tryz.underlying27 rfl (by rfl) ?_;refine JP rfl 104 _ rfl (.agg #[.slice aS hs.length cS,.slice aF fs.length cF,.slice aL ls.length cL,.slice aP ss.length cP,I hd]) (by rfl) _ (Zf _ _ _ _ _) ?_;have HM:=ai (bO w1 (kS (.slice aS hs.length cS) (.slice aF fs.length cF) (.slice aL ls.length cL) (.slice aP ss.length cP) (I hd) pS) 104);have BK2:=ai (bM BK1.o (.cells (kS (.slice aS hs.length cS) (.slice aF fs.length cF) (.slice aL ls.length cL) (.slice aP ss.length cP) (I hd) pS) 104));have ady:=ai (abB.o.alloc abB.o.size (.cells (kS (.slice aS hs.length cS) (.slice aF fs.length cF) (.slice aL ls.length cL) (.slice aP ss.length cP) (I hd) pS) 104));have iU:w.heap.size<w1.heap.size:=aT BK1.o;refine Go.Great.wpList_boxTo rfl 104 _ rfl _ rfl w1.heap.size rfl (kS (.slice aS hs.length cS) (.slice aF fs.length cF) (.slice aL ls.length cL) (.slice aP ss.length cP) (I hd) pS) (by rfl) ?_;obtain⟨W,hW⟩:=ex (w1.alloc (.cells (kS (.slice aS hs.length cS) (.slice aF fs.length cF) (.slice aL ls.length cL) (.slice aP ss.length cP) (I hd) pS) 104));rw[<- hW] at HM BK2 ady ⊢;obtain⟨mb,hmb⟩:=ex w1.heap.size;rw[<- hmb] at HM iU ⊢;obtain⟨kb,hkb⟩:=ex w.heap.size;have ag9:w.heap.size<=mb:=by omega
 have ary:w.heap.size<=kb:=by omega
 have acp:¬kb=mb:=by omega
 rw[<- hkb] at BK2 ⊢;have d1:W.cell? (Ad kb 1)=some (.slice aF fs.length cF):=aB BK2.o 1 rfl;have d2:W.cell? (Ad kb 2)=some (.slice aL ls.length cL):=aB BK2.o 2 rfl;clear hW hmb hkb BK BK1 HC Sa abB;have Fg:fs.length<=1000:=by omega
 have hn3:ls.length<=1000:=by omega
 have e2:∀V:World,(Instr.makeSlice 162 (I (fs.length:Int)) (I (fs.length:Int))).run Tryz.prog V=.ok (.slice (some (Ad V.heap.size 0)) fs.length fs.length) (V.alloc (.cells (tC fs.length) 211)):=fun V=>Yq V fs.length Fg
 have e3:∀V:World,(Instr.makeSlice 162 (I (ls.length:Int)) (I (ls.length:Int))).run Tryz.prog V=.ok (.slice (some (Ad V.heap.size 0)) ls.length ls.length) (V.alloc (.cells (tC ls.length) 211)):=fun V=>Yq V ls.length hn3
 have d1A:(W.alloc (.cells (tC ls.length) 211)).cell? (Ad kb 1)=some (.slice aF fs.length cF):=aB (bM BK2.o _) 1 rfl;have d2A:(W.alloc (.cells (tC fs.length) 211)).cell? (Ad kb 2)=some (.slice aL ls.length cL):=aB (bM BK2.o _) 2 rfl;have q1:=ai (Dd W.heap.size W fs.length (aI _) Fg);have q2:=ai (Dd W.heap.size (W.alloc (.cells (tC fs.length) 211)) ls.length (by simp) hn3);have q3:=ai (Dd W.heap.size W ls.length (aI _) hn3);have q4:=ai (Dd W.heap.size (W.alloc (.cells (tC ls.length) 211)) fs.length (by simp) Fg);rw[ig] at q2 q4;have q5:=ai (((aK W.heap.size W).alloc (aI _) (.cells (tC fs.length) 211)).alloc (by simp) (.cells (tC ls.length) 211));have q6:=ai (((aK W.heap.size W).alloc (aI _) (.cells (tC ls.length) 211)).alloc (by simp) (.cells (tC fs.length) 211));go_upto_region 4 with fail;go_cut [5,6] (fun x5 x6 wx=>∃gf gs:Nat,x5=.slice (some (Ad gf 0)) fs.length fs.length/\x6=.slice (some (Ad gs 0)) ls.length ls.length/\¬gf=gs/\fY W.heap.size wx gf fs.length fs.length (List.replicate fs.length dw)/\fY W.heap.size wx gs ls.length ls.length (List.replicate ls.length dw)/\Below W.heap.size W wx)
 case first =>
  go_region
  all_goals
   go_wp2_with fail
   go_meet
   case rel=>first | exact⟨_,_,rfl,rfl,by simp,(q1.out.kp (aM.alloc (fun _=>False) _ _) (fun x=>x)).d,q2.out.d,q5.out.drew⟩ | exact⟨_,_,rfl,rfl,by simp,q4.out.d,(q3.out.kp (aM.alloc (fun _=>False) _ _) (fun x=>x)).d,q6.out.drew⟩
 case rest =>
  obtain⟨gf,gs,rfl,rfl,hne,hof,hos,C7⟩:=hcut;clear q1 q2 q3 q4 q5 q6 e2 e3 d1A d2A d1 d2;have hgf:=hof.lt;have hgs:=hos.lt;have HOF:=ai hof;have HOS:=ai hos;have hmW:=aT HM.o;have hkW:=aT BK2.o;have HMX:=ai (aQ HM.o C7 hmW);have BKX:=ai (aQ BK2.o C7 hkW);have uO:=ai (ady.o.trans (C7.mono ady.o.size));have ZG:=ai (Gm hs aS cS mb (.slice aF fs.length cF) (.slice aL ls.length cL) (.slice aP ss.length cP) (I hd) w wc HKS.o ZE.o uO.o ag9 HMX.o (by omega));clear hof hos C7 HM BK2 ady;have Ak:Hid (∀V,Below w.heap.size w V->(ed hs=false∨hd<0∨(fs.length:Int)<=hd)->P (.returned (.tuple #[.pointer none,I 1])) V):=fun V hV g=>pK.o V hV (by
   rcases g with g | g | g
   · rw[g];rfl
   · rw[dJ (by omega)];simp
   · rw[dJ (by omega)];simp)
  obtain⟨RB,hRB⟩:=ex (ed hs);have Ip:=ai hRB;rw[<- hRB] at ZG Ak;clear hRB;cases RB with
  | false =>
   go_wp2_with (go_at_call 110;refine ZG.o.mono ?_;rintro e w2 ⟨rfl,hk2,G,hG,hg⟩;have gj:=ai (hk2.below uO.o uO.o.size (fun b hb=>(by omega)));have Z6:=ai (hk2.keep BKX.o acp);clear hk2 hG hg)
   exact Ak.o _ gj.o (.inl trivial)
  | true =>
   rcases(show hd<0∨(0<=hd/\(fs.length:Int)<=hd)∨(0<=hd/\hd<(fs.length:Int)) by omega) with g | ⟨g1,g2⟩ | ⟨g1,g2⟩
   · go_wp2_with (go_at_call 110;refine ZG.o.mono ?_;rintro e w2 ⟨rfl,hk2,G,hG,hg⟩;have gj:=ai (hk2.below uO.o uO.o.size (fun b hb=>(by omega)));have Z6:=ai (hk2.keep BKX.o acp);have HGG:=ai hg;have m4:w2.cell? (Ad kb 4)=some (I hd):=aB Z6.o 4 rfl;clear hk2 hG hg)
     exact Ak.o _ gj.o (.inr (.inl g))
   · go_wp2_with (go_at_call 110;refine ZG.o.mono ?_;rintro e w2 ⟨rfl,hk2,G,hG,hg⟩;have gj:=ai (hk2.below uO.o uO.o.size (fun b hb=>(by omega)));have Z6:=ai (hk2.keep BKX.o acp);have HGG:=ai hg;have m1:w2.cell? (Ad kb 1)=some (.slice aF fs.length cF):=aB Z6.o 1 rfl;have m4:w2.cell? (Ad kb 4)=some (I hd):=aB Z6.o 4 rfl;clear hk2 hG hg)
     exact Ak.o _ gj.o (.inr (.inr g2))
   · go_wp2_with (go_at_call 110;refine ZG.o.mono ?_;rintro e w2 ⟨rfl,hk2,G,hG,hg⟩;have gj:=ai (hk2.below uO.o uO.o.size (fun b hb=>(by omega)));have Z6:=ai (hk2.keep BKX.o acp);have HG:=ai hG;have HGG:=ai hg;have OF2:=ai (HOF.o.kp hk2 (by omega));have OS2:=ai (HOS.o.kp hk2 (by omega));have m1:w2.cell? (Ad kb 1)=some (.slice aF fs.length cF):=aB Z6.o 1 rfl;have m3:w2.cell? (Ad kb 3)=some (.slice aP ss.length cP):=aB Z6.o 3 rfl;have m4:w2.cell? (Ad kb 4)=some (I hd):=aB Z6.o 4 rfl;clear hk2 hG hg)
     have HG2:Hid (w2.heap[mb]?=some (.cells (kS (.slice aS hs.length cS) (.slice aF fs.length cF) (.slice aL ls.length cL) (.slice aP ss.length cP) (I hd) (kz hs hs.length)) 104 (0,0))):=by
      have:=HG.o;rw[HGG.o trivial] at this;exact this
     clear ZG Ak HG HGG HMX BKX uO HOF HOS m4;go_loopw [42] (fun iv wr=>∃k:Nat,k<=ss.length/\iv=I (k:Int)/\mh hs ss (List.replicate fs.length dw,List.replicate ls.length dw) k=true/\Below w.heap.size w wr/\wr.heap[mb]?=some (.cells (kS (.slice aS hs.length cS) (.slice aF fs.length cF) (.slice aL ls.length cL) (.slice aP ss.length cP) (I hd) (kz hs hs.length)) 104 (0,0))/\wr.heap[kb]?=some (.cells #[.slice aS hs.length cS,.slice aF fs.length cF,.slice aL ls.length cL,.slice aP ss.length cP,I hd] 27 (0,0))/\fY W.heap.size wr gf fs.length fs.length (jE ss (List.replicate fs.length dw,List.replicate ls.length dw) k).1/\fY W.heap.size wr gs ls.length ls.length (jE ss (List.replicate fs.length dw,List.replicate ls.length dw) k).2) (fun iv _=>ss.length-(intOf iv).toNat)
     case atStart=>exact⟨0,by omega,rfl,rfl,gj.o,HG2.o,Z6.o,OF2.o,OS2.o⟩
     case round =>
      obtain⟨k,hk,rfl,Bi,hb,hmm,hkk,hof,hos⟩:=hrel;have aiA:=ai Bi;have HB:=ai hb;have ZZ:=ai hmm;have HKK:=ai hkk;have HOF:=ai hof;have HOS:=ai hos;have m2:wr.cell? (Ad kb 2)=some (.slice aL ls.length cL):=aB hkk 2 rfl;by_cases hlt:k<ss.length
      · obtain⟨pb,po,hao,hbl,eI⟩:=UJ.o (by omega);subst hao;obtain⟨va,ap,cp,c0,c1,c2,c3,c4,c5⟩:=eI k hlt;obtain⟨aa,ca,Av,_⟩:=id c3;subst Av;have hfit:=A3.o k hlt;have x0:=(hb.cell (p:=(Ad pb (po+k*3))) hbl).trans c0;have x1:=(hb.cell (p:=(Ad pb (po+k*3+1))) hbl).trans c1;have x2:=(hb.cell (p:=(Ad pb (po+k*3+2))) hbl).trans c2;have hbs:=hb.size;have KU:=Dj.o k (by omega) Bi;have afP:Hid (∀V,Below w.heap.size w V->mh hs ss (List.replicate fs.length dw,List.replicate ls.length dw) (k+1)=false->P (.returned (.tuple #[.pointer none,I 1])) V):=fun V hV g=>pK.o V hV (by rw[HSF.o (k+1) ss.length hlt g];simp)
        have M0:Hid (mh hs ss (List.replicate fs.length dw,List.replicate ls.length dw) (k+1)=(nR hs (ak ss k)&&jd (ak ss k).bk (ak ss k).aU (jE ss (List.replicate fs.length dw,List.replicate ls.length dw) k) (ak ss k).aU.length)):=by grind [mh]
        have HUN:Hid (jE ss (List.replicate fs.length dw,List.replicate ls.length dw) (k+1)=iL (ak ss k).bk (ak ss k).aU (jE ss (List.replicate fs.length dw,List.replicate ls.length dw) k) (ak ss k).aU.length):=rfl;have YR:=aT hmm;have JW:=ai (Gh hs (ak ss k) (.slice aa (ak ss k).bk.length ca) ap cp mb (wr.alloc (.cells #[.bool (ak ss k).live,.slice aa (ak ss k).bk.length ca,.slice ap (ak ss k).aU.length cp] 43)) (c3.below (hb.alloc hb.size _)) hfit (by simp;omega) (BN (bM hmm _) Ip.o.symm));have rD:Hid (∀V,Below w.heap.size w V->fY W.heap.size V gf fs.length fs.length (jE ss (List.replicate fs.length dw,List.replicate ls.length dw) k).1->fY W.heap.size V gs ls.length ls.length (jE ss (List.replicate fs.length dw,List.replicate ls.length dw) k).2->Calls Tryz.prog 112 #[.agg #[.bool (ak ss k).live,.slice aa (ak ss k).bk.length ca,.slice ap (ak ss k).aU.length cp],.slice (some (Ad gf 0)) fs.length fs.length,.slice (some (Ad gs 0)) ls.length ls.length] V fun x w'=>x=.returned (.bool (jd (ak ss k).bk (ak ss k).aU (jE ss (List.replicate fs.length dw,List.replicate ls.length dw) k) (ak ss k).aU.length))/\aM (fun b=>b=gf∨b=gs) V w'/\(jd (ak ss k).bk (ak ss k).aU (jE ss (List.replicate fs.length dw,List.replicate ls.length dw) k) (ak ss k).aU.length=true->fY W.heap.size w' gf fs.length fs.length (iL (ak ss k).bk (ak ss k).aU (jE ss (List.replicate fs.length dw,List.replicate ls.length dw) k) (ak ss k).aU.length).1/\fY W.heap.size w' gs ls.length ls.length (iL (ak ss k).bk (ak ss k).aU (jE ss (List.replicate fs.length dw,List.replicate ls.length dw) k) (ak ss k).aU.length).2)):=fun V hV h1 h2=>Ds (ak ss k) (.slice aa (ak ss k).bk.length ca) ap cp (jE ss (List.replicate fs.length dw,List.replicate ls.length dw) k).1 (jE ss (List.replicate fs.length dw,List.replicate ls.length dw) k).2 W.heap.size gf fs.length fs.length gs ls.length ls.length (255*k) w V c3 c4 hfit hV (by omega) h1 h2 hne KU.1 KU.2 (by omega) Fg hn3
        obtain⟨RS,hRS⟩:=ex (nR hs (ak ss k));obtain⟨EB,hEB⟩:=ex (jd (ak ss k).bk (ak ss k).aU (jE ss (List.replicate fs.length dw,List.replicate ls.length dw) k) (ak ss k).aU.length);rw[<- hRS] at JW M0;rw[<- hEB] at rD M0;obtain⟨lv,hlv⟩:=ex ((ak ss k).live);obtain⟨na,Ax⟩:=ex ((ak ss k).bk.length);obtain⟨ne,hnE⟩:=ex ((ak ss k).aU.length);rw[<- hlv,<- Ax,<- hnE] at JW;rw[<- hlv,<- Ax] at rD;rw[<- hlv] at x0;rw[<- Ax] at x1;rw[<- hnE] at x2;rw[<- hnE] at rD HUN;have fV:=ai (hb.alloc hb.size (.cells #[.bool lv,.slice aa na ca,.slice ap ne cp] 43));have MA:=ai (bM hmm (.cells #[.bool lv,.slice aa na ca,.slice ap ne cp] 43));have KA:=ai (bM hkk (.cells #[.bool lv,.slice aa na ca,.slice ap ne cp] 43));have OA:=ai (hof.kp (aM.alloc (fun _=>False) wr (.cells #[.bool lv,.slice aa na ca,.slice ap ne cp] 43)) (fun x=>x));have OB:=ai (hos.kp (aM.alloc (fun _=>False) wr (.cells #[.bool lv,.slice aa na ca,.slice ap ne cp] 43)) (fun x=>x));have SB:=ai (bO wr #[.bool lv,.slice aa na ca,.slice ap ne cp] 43);clear hRS hEB hlv Ax hnE c0 c1 c2 c3 c4 c5 eI hfit KU Bi hb hmm hkk hof hos Dj HSF pK xj HUP HKS HKF HKL UJ ZE ZF Mu A3 ZZ HKK HOF HOS gj HG2 Z6 OF2 OS2 m1 m3 m2;cases RS with
        | false =>
         have HX:=ai (afP.o);have ac3:Hid (mh hs ss (List.replicate fs.length dw,List.replicate ls.length dw) (k+1)=false):=M0;clear M0 rD;go_wp2_with (go_at_call 111;refine JW.o.mono ?_;rintro e w3 ⟨rfl,hb3⟩;have kJ:=ai (cd fV.o hb3);have SB3:=ai (aQ SB.o hb3 (aT SB.o));clear hb3)
         exact HX.o _ kJ.o ac3.o
        | true =>
         cases EB with
         | false =>
          have HX:=ai (afP.o);have ac3:Hid (mh hs ss (List.replicate fs.length dw,List.replicate ls.length dw) (k+1)=false):=M0;clear M0;go_wp2_with (first | (go_at_call 111;refine JW.o.mono ?_;rintro e w3 ⟨rfl,hb3⟩;have kJ:=ai (cd fV.o hb3);have M3:=ai (aQ MA.o hb3 (aT MA.o));have KB3:=ai (aQ KA.o hb3 (aT KA.o));have O3:=ai (OA.o.kp (aM.cH (D:=fun _=>False) hb3) (fun x=>x));have S3:=ai (OB.o.kp (aM.cH (D:=fun _=>False) hb3) (fun x=>x));have SB3:=ai (aQ SB.o hb3 (aT SB.o));have v0:w3.cell? (Ad wr.heap.size 0)=some (.bool lv):=aB SB3.o 0 rfl;have v1:w3.cell? (Ad wr.heap.size 1)=some (.slice aa na ca):=aB SB3.o 1 rfl;have v2:w3.cell? (Ad wr.heap.size 2)=some (.slice ap ne cp):=aB SB3.o 2 rfl;clear hb3) | (go_at_call 112;refine(rD.o _ kJ.o O3.o S3.o).mono ?_;rintro e w4 ⟨rfl,hk4,ho4⟩;have pZ:=ai (hk4.below kJ.o kJ.o.size (fun b hb=>(by omega)));clear hk4 ho4))
          exact HX.o _ pZ.o ac3.o
         | true =>
          have ac3:Hid (mh hs ss (List.replicate fs.length dw,List.replicate ls.length dw) (k+1)=true):=M0;clear M0 afP;go_wp2_with (first | (go_at_call 111;refine JW.o.mono ?_;rintro e w3 ⟨rfl,hb3⟩;have kJ:=ai (cd fV.o hb3);have M3:=ai (aQ MA.o hb3 (aT MA.o));have KB3:=ai (aQ KA.o hb3 (aT KA.o));have O3:=ai (OA.o.kp (aM.cH (D:=fun _=>False) hb3) (fun x=>x));have S3:=ai (OB.o.kp (aM.cH (D:=fun _=>False) hb3) (fun x=>x));have SB3:=ai (aQ SB.o hb3 (aT SB.o));have v0:w3.cell? (Ad wr.heap.size 0)=some (.bool lv):=aB SB3.o 0 rfl;have v1:w3.cell? (Ad wr.heap.size 1)=some (.slice aa na ca):=aB SB3.o 1 rfl;have v2:w3.cell? (Ad wr.heap.size 2)=some (.slice ap ne cp):=aB SB3.o 2 rfl;clear hb3) | (go_at_call 112;refine(rD.o _ kJ.o O3.o S3.o).mono ?_;rintro e w4 ⟨rfl,hk4,ho4⟩;have pZ:=ai (hk4.below kJ.o kJ.o.size (fun b hb=>(by omega)));have M4:=ai (hk4.keep M3.o (by omega));have KB4:=ai (hk4.keep KB3.o (by omega));have HO4:=ai ho4;clear hk4 ho4))
          grind [intOf,Hid.o]
      · obtain rfl:k=ss.length:=by omega
        have mB:=hmm;have p1:wr.cell? (Ad mb 1)=some (.slice aF fs.length cF):=aB mB 1 rfl;have p2:wr.cell? (Ad mb 2)=some (.slice aL ls.length cL):=aB mB 2 rfl;have p3:wr.cell? (Ad mb 3)=some (.slice aP ss.length cP):=aB mB 3 rfl;have YR:=aT hmm;have ar7:=aT hkk;have KU:=Dj.o ss.length (aI _) Bi;have Oj:Hid (∀V,Below wr.heap.size wr V->Calls Tryz.prog 83 #[.pointer (some (Ad mb 0))] V fun e w'=>e=.returned (I (fL ss))/\Below V.heap.size V w'):=fun V hV=>Gk ss aP cP mb V (UJ.o.below (hb.trans (hV.mono hb.size))) (fun j hj=>(A3.o j hj).bk) (by omega) ((hV.cell (p:=(Ad mb 3)) YR).trans p3)
        have EH:Hid (∀V,Below wr.heap.size wr V->Calls Tryz.prog 113 #[.pointer (some (Ad mb 0)),.slice (some (Ad gf 0)) fs.length fs.length] V fun e w'=>e=.returned (.bool ((List.range fs.length).all fun i=>ja hs (au fs i) (cU (jE ss (List.replicate fs.length dw,List.replicate ls.length dw) ss.length).1 i)))/\Below V.heap.size V w'):=fun V hV=>Er hs fs _ aF cF mb W.heap.size gf fs.length V (HKF.o.below (hb.trans (hV.mono hb.size))) (hof.kp (aM.cH (D:=fun _=>False) hV) (fun x=>x)) (iH YR hV.size) ((hV.cell (p:=(Ad mb 1)) YR).trans p1) (BN (aQ mB hV YR) Ip.o.symm) (fun i hi=>HUP.o Ip.o.symm Bi i hi) (fun i hi=>(ZF.o i hi).1) (by omega)
        have Vn:Hid (∀V,Below wr.heap.size wr V->Calls Tryz.prog 114 #[.pointer (some (Ad mb 0)),.slice (some (Ad gs 0)) ls.length ls.length] V fun e w'=>e=.returned (.bool ((List.range ls.length).all fun i=>kG (br ls i) (cU (jE ss (List.replicate fs.length dw,List.replicate ls.length dw) ss.length).2 i)))/\Below V.heap.size V w'):=fun V hV=>Gi ls _ aL cL mb W.heap.size gs ls.length V (HKL.o.below (hb.trans (hV.mono hb.size))) (hos.kp (aM.cH (D:=fun _=>False) hV) (fun x=>x)) ((hV.cell (p:=(Ad mb 2)) YR).trans p2) (fun i hi=>(KU.2.2 i hi).1) (fun i hi=>(Mu.o i hi).1) (by omega)
        have RY:=pK;have Pp:=xj;rw[Ip.o.symm,aiA.o,dI (show 0<=hd/\hd<(fs.length:Int) from⟨g1,g2⟩)] at RY Pp;obtain⟨RF,hRF⟩:=ex ((List.range fs.length).all fun i=>ja hs (au fs i) (cU (jE ss (List.replicate fs.length dw,List.replicate ls.length dw) ss.length).1 i));obtain⟨RL,hRL⟩:=ex ((List.range ls.length).all fun i=>kG (br ls i) (cU (jE ss (List.replicate fs.length dw,List.replicate ls.length dw) ss.length).2 i));obtain⟨RM,Yh⟩:=ex (fL ss);rw[<- hRF] at EH RY Pp;rw[<- hRL] at Vn RY Pp;rw[<- Yh] at Oj RY Pp;have uP:=gG wr;have k2:∀x:dm wr.heap.size wr,x.world.cell? (Ad kb 2)=some (.slice aL ls.length cL):=fun x=>by grind [fD]
        clear hRF hRL Yh KU Bi hb hmm hkk hof hos Dj HSF pK xj HUP HKS HKF HKL UJ ZE ZF Mu A3 HKK HOF HOS gj HG2 Z6 OF2 OS2 m1 m3 m2 p1 p2 p3 mB aiA;go_upto_region 13 with fail;by_cases c:RM<=(ls.length:Int)
        · have c2:decide ((ls.length:Int)<RM)=false:=dJ (by omega);rw[dI c] at RY Pp;cases RF with
          | false =>
           refine cA (by rfl) (by kernel_rfl) ?_
           repeat (first | go_big_quiet_step ((first | (go_at_call 83;exact fJ _ Oj.o) | (go_at_call 113;exact fJ _ EH.o))) | quiet_step ((first | (go_at_call 83;exact fJ _ Oj.o) | (go_at_call 113;exact fJ _ EH.o))))
           refine fK ?_;rintro _ ⟨x,rfl⟩;have uO:=ai (HB.o.trans (x.keeps.mono HB.o.size));clear Oj EH Vn k2;go_wp2;exact RY.o _ uO.o (by simp)
          | true =>
           cases RL with
           | false =>
            refine cA (by rfl) (by kernel_rfl) ?_
            repeat (first | go_big_quiet_step ((first | (go_at_call 83;exact fJ _ Oj.o) | (go_at_call 113;exact fJ _ EH.o) | (go_at_call 114;exact fJ _ Vn.o))) | quiet_step ((first | (go_at_call 83;exact fJ _ Oj.o) | (go_at_call 113;exact fJ _ EH.o) | (go_at_call 114;exact fJ _ Vn.o))))
            refine fK ?_;rintro _ ⟨x,rfl⟩;have uO:=ai (HB.o.trans (x.keeps.mono HB.o.size));clear Oj EH Vn k2;go_wp2;exact RY.o _ uO.o (by simp)
           | true =>
            refine cA (by rfl) (by kernel_rfl) ?_
            repeat (first | go_big_quiet_step ((first | (go_at_call 83;exact fJ _ Oj.o) | (go_at_call 113;exact fJ _ EH.o) | (go_at_call 114;exact fJ _ Vn.o))) | quiet_step ((first | (go_at_call 83;exact fJ _ Oj.o) | (go_at_call 113;exact fJ _ EH.o) | (go_at_call 114;exact fJ _ Vn.o))))
            refine fK ?_;rintro _ ⟨x,rfl⟩;have uO:=ai (HB.o.trans (x.keeps.mono HB.o.size));have MX:=ai (aQ ZZ.o x.keeps (aT ZZ.o));clear Oj EH Vn k2;go_wp2;exact Pp.o _ mb uO.o (by simp) ag9 MX.o
        · have c2:decide ((ls.length:Int)<RM)=true:=dI (by omega);rw[dJ c] at RY;refine cA (by rfl) (by kernel_rfl) ?_
          repeat (first | go_big_quiet_step ((go_at_call 83;exact fJ _ Oj.o)) | quiet_step ((go_at_call 83;exact fJ _ Oj.o)))
          refine fK ?_;rintro _ ⟨x,rfl⟩;have uO:=ai (HB.o.trans (x.keeps.mono HB.o.size));clear Oj EH Vn k2;go_wp2;exact RY.o _ uO.o (by simp)
open Go.RowKit
theorem TN (k:aN) (a:fR) (w:World) (hc:lu k=false):Calls Tryz.prog 62 #[.agg (bg a k)] w (pT w a k):=by
 have hcc:=of_decide_eq_false hc;have pK:Hid (∀w',Below w.heap.size w w'->pT w a k (.returned (.tuple #[.pointer none,I 2])) w'):=fun w' hb=>by
  have e:eZ k=2:=by grind [eZ]
  exact⟨hb,.inr ⟨by omega,by rw[e]⟩⟩
 obtain⟨P,hP⟩:=ex (pT w a k);rw[<- hP] at pK ⊢;clear hP;unfold bg;have HC:Hid (∀V,Calls Tryz.prog 109 #[.agg #[.slice a.aS k.aD.length a.cS,.slice a.aF k.frames.length a.cF,.slice a.aL k.slots.length a.cL,.slice a.aP k.aj.length a.cP,I k.hand]] V fun e w'=>e=.returned (.bool false)/\Below V.heap.size V w'):=fun V=>by
  have:=DJ a.aS a.aF a.aL a.aP k.aD.length a.cS k.frames.length a.cF k.slots.length a.cL k.aj.length a.cP (I k.hand) V;rw[dJ hcc] at this;exact this
 obtain⟨aS,cS,aF,cF,aL,cL,aP,cP⟩:=a;obtain⟨hs,fs,ls,ss,hd⟩:=k;simp only at HC ⊢;have Sa:=ai ((aK w.heap.size w).alloc (aI _) (.cells #[.slice aS hs.length cS,.slice aF fs.length cF,.slice aL ls.length cL,.slice aP ss.length cP,I hd] 27));clear hc hcc;go_enter Tryz.func62,Tryz.ntmps62;go_wp2_with (go_at_call 109;refine(HC.o _).mono ?_;rintro e w1 ⟨rfl,hb1⟩;have abB:=ai (cd Sa.o hb1);clear hb1)
 exact pK.o _ abB.o
theorem TP (k:aN) (a:fR) (w:World) (hK:gD w a k) (hF:iI k):Calls Tryz.prog 62 #[.agg (bg a k)] w (pT w a k):=by
 cases hc:lu k with
 | true=>exact QI k a w hK hF hc
 | false=>exact TN k a w hc
open Go.RowKit
def dV (k:aN) (sp:Int):Int:=if eZ k=0 then (if 0<=sp/\sp<(k.aj.length:Int)/\(ak k.aj sp.toNat).live=true then 0 else 6) else eZ k
def nu (a:fR) (k:aN):Array Value:=kS (.slice a.aS k.aD.length a.cS) (.slice a.aF k.frames.length a.cF) (.slice a.aL k.slots.length a.cL) (.slice a.aP k.aj.length a.cP) (I k.hand) (kz k.aD k.aD.length)
def tJ (w:World) (a:fR) (k:aN) (c:Int) (e:Ending) (w':World):Prop:=Below w.heap.size w w'/\((c=0/\∃mb,e=.returned (.tuple #[.pointer (some (Ad mb 0)),I 0])/\w.heap.size<=mb/\w'.heap[mb]?=some (.cells (nu a k) 104 (0,0)))∨(c≠0/\e=.returned (.tuple #[.pointer none,I c])))
theorem xU (k:aN) (a:fR) (sp:Int) (w:World) (hK:gD w a k) (hF:iI k) (hsp:eY sp):Calls Tryz.prog 69 #[.agg (bg a k),I sp] w (tJ w a k (dV k sp)):=by
 have HL:=ai (fun V (hV:Below w.heap.size w V)=>TP k a V (hK.below hV) hF);have HE:Hid (∀V c,Below w.heap.size w V->dV k sp=c->c≠0->tJ w a k (dV k sp) (.returned (.tuple #[.pointer none,I c])) V):=fun V c hV e hc=>⟨hV,.inr ⟨by omega,by rw[e]⟩⟩
 have HY:Hid (∀V mb,Below w.heap.size w V->dV k sp=0->w.heap.size<=mb->V.heap[mb]?=some (.cells (nu a k) 104 (0,0))->tJ w a k (dV k sp) (.returned (.tuple #[.pointer (some (Ad mb 0)),I 0])) V):=fun V mb hV e hm hh=>⟨hV,.inl ⟨e,mb,rfl,hm,hh⟩⟩
 obtain⟨P,hP⟩:=ex (tJ w a k (dV k sp));rw[<- hP] at HE HY ⊢;clear hP;have HHP:=ai hK.aj;have Ps:=ai (bO w (bg a k) 27);have eU:=ai ((aK w.heap.size w).alloc (aI _) (.cells (bg a k) 27));have HLK:Hid (dV k sp=if eZ k=0 then (if 0<=sp/\sp<(k.aj.length:Int)/\(ak k.aj sp.toNat).live=true then 0 else 6) else eZ k):=rfl;have HN4:Hid (eZ k=0->k.aj.length<=4):=fun h=>((nJ k).1 h).c.2.2.1.2
 clear hK hF;by_cases hc:eZ k=0
 · have Mx:Hid (∀V,Below w.heap.size w V->Calls Tryz.prog 62 #[.agg (bg a k)] V fun e w'=>∃mb,e=.returned (.tuple #[.pointer (some (Ad mb 0)),I 0])/\w.heap.size<=mb/\w'.heap[mb]?=some (.cells (nu a k) 104 (0,0))/\Below V.heap.size V w'):=fun V hV=>(HL.o V hV).mono fun e w' ⟨hb,h⟩=>by
    rcases h with⟨_,mb,h1,h2,h3⟩ | ⟨h1,_⟩
    · exact⟨mb,h1,gy hV.size h2,h3,hb⟩
    omega
   have hn4:=HN4.o hc;have RZ:Hid (dV k sp=if 0<=sp/\sp<(k.aj.length:Int)/\(ak k.aj sp.toNat).live=true then 0 else 6):=by grind
   clear HL HLK hc HN4;unfold bg at Mx Ps eU ⊢;obtain⟨aS,cS,aF,cF,aL,cL,aP,cP⟩:=a;obtain⟨hs,fs,ls,ss,hd⟩:=k;simp only at Mx Ps eU HHP RZ HY hn4 ⊢;rcases(show sp<0∨(0<=sp/\(ss.length:Int)<=sp)∨(0<=sp/\sp<(ss.length:Int)) by omega) with g | ⟨g1,g2⟩ | ⟨g1,g2⟩
   · have HX:=ai (fun V hV=>HE.o V 6 hV (by grind [Hid.o]) (by decide));clear HE HY RZ HHP;go_enter Tryz.func69,Tryz.ntmps69;go_wp2_with (go_at_call 62;refine(Mx.o _ eU.o).mono ?_;rintro e w1 ⟨mb,rfl,rZ,hm2,hb1⟩;have dz:=ai (cd eU.o hb1);have K1:=ai (aQ Ps.o hb1 (by simp));clear hb1 hm2)
     exact HX.o _ dz.o
   · have HX:=ai (fun V hV=>HE.o V 6 hV (by grind [Hid.o]) (by decide));clear HE HY RZ HHP;go_enter Tryz.func69,Tryz.ntmps69;go_wp2_with (go_at_call 62;refine(Mx.o _ eU.o).mono ?_;rintro e w1 ⟨mb,rfl,rZ,hm2,hb1⟩;have dz:=ai (cd eU.o hb1);have K1:=ai (aQ Ps.o hb1 (by simp));have c3:w1.cell? (Ad w.heap.size 3)=some (.slice aP ss.length cP):=aB K1.o 3 rfl;clear hb1 hm2)
     exact HX.o _ dz.o
   · obtain⟨j,rfl⟩:∃j:Nat,sp=(j:Int):=⟨sp.toNat,by omega⟩;obtain⟨pb,po,hao,hbl,eI⟩:=HHP.o (by omega);subst hao;obtain⟨va,ap,cp,y0,_,_,_,_,_⟩:=eI j (by omega);rw[jn] at RZ;obtain⟨lv,hlv⟩:=ex ((ak ss j).live);rw[<- hlv] at y0 RZ;clear hlv eI HHP;cases lv with
     | false =>
      have HX:=ai (fun V hV=>HE.o V 6 hV (by rw[RZ.o,bf (by simp)]) (by decide));clear HE HY RZ;go_enter Tryz.func69,Tryz.ntmps69;go_wp2_with (go_at_call 62;refine(Mx.o _ eU.o).mono ?_;rintro e w1 ⟨mb,rfl,rZ,hm2,hb1⟩;have dz:=ai (cd eU.o hb1);have K1:=ai (aQ Ps.o hb1 (by simp));have c3:w1.cell? (Ad w.heap.size 3)=some (.slice (some (Ad pb po)) ss.length cP):=aB K1.o 3 rfl;have l0:w1.cell? (Ad pb (po+j*3))=some (.bool false):=(dz.o.cell (p:=(Ad pb (po+j*3))) hbl).trans y0;clear hb1 hm2)
      exact HX.o _ dz.o
     | true =>
      have HX:=ai (fun V mb hV hm hh=>HY.o V mb hV (by rw[RZ.o,aR ⟨g1,g2,rfl⟩]) hm hh);clear HE HY RZ;go_enter Tryz.func69,Tryz.ntmps69;go_wp2_with (go_at_call 62;refine(Mx.o _ eU.o).mono ?_;rintro e w1 ⟨mb,rfl,rZ,hm2,hb1⟩;have Vo:=ai hm2;have dz:=ai (cd eU.o hb1);have K1:=ai (aQ Ps.o hb1 (by simp));have c3:w1.cell? (Ad w.heap.size 3)=some (.slice (some (Ad pb po)) ss.length cP):=aB K1.o 3 rfl;have l0:w1.cell? (Ad pb (po+j*3))=some (.bool true):=(dz.o.cell (p:=(Ad pb (po+j*3))) hbl).trans y0;clear hb1 hm2)
      exact HX.o _ mb dz.o rZ Vo.o
 · have Mx:Hid (∀V,Below w.heap.size w V->Calls Tryz.prog 62 #[.agg (bg a k)] V fun e w'=>e=.returned (.tuple #[.pointer none,I (eZ k)])/\Below V.heap.size V w'):=fun V hV=>(HL.o V hV).mono fun e w' ⟨hb,h⟩=>by
    grind
   have HX:=ai (fun V hV=>HE.o V (eZ k) hV (by grind [Hid.o]) hc);obtain⟨C,hC⟩:=ex (eZ k);rw[<- hC] at Mx HX hc;have cb:(C != 0)=true:=by grind
   clear HL HLK hC HE HY HN4 HHP;unfold bg at Mx Ps eU ⊢;obtain⟨aS,cS,aF,cF,aL,cL,aP,cP⟩:=a;obtain⟨hs,fs,ls,ss,hd⟩:=k;simp only at Mx Ps eU ⊢;clear hc;go_enter Tryz.func69,Tryz.ntmps69;go_wp2_with (go_at_call 62;refine(Mx.o _ eU.o).mono ?_;rintro e w1 ⟨rfl,hb1⟩;have dz:=ai (cd eU.o hb1);clear hb1)
   exact HX.o _ dz.o
open Go.RowKit
theorem NK (p:Int) (e:bG) (x:Nat) (w:World) (hx:w.cell? (Ad x 0)=some (I p)) :
  Calls Tryz.prog 154 #[.agg #[I e.page,I e.kind,I e.loc],.pointer (some (Ad x 0))] w fun r w'=>r=.returned (.bool (decide (e.page=p)))/\Below w.heap.size w w':=by
 obtain⟨pg,kd,lc⟩:=e;simp only;have hxl:x<w.heap.size:=oc w _ hx;have xA:(w.alloc (.cells #[I pg,I kd,I lc] 45)).cell? (Ad x 0)=some (I p):=(Kl ((aK w.heap.size w).alloc (aI _) _) (p:=(Ad x 0)) hxl).trans hx;obtain⟨A,hA⟩:=ex (decide (pg=p));have HA:Hid ((pg==p)=A):=by show _=_;grind
 rw[<- hA];clear hA;have ha:=HA.o;clear HA;go_enter Tryz.func154,Tryz.ntmps154;go_wp2;go_ret;simp[aK,m9]
theorem Es (F:FuncId) (hF:F=154∨F=191∨F=202) (P:bG->Bool) (es:List bG) (ao:Option Addr) (cap x:Nat) (w:World) (h:cJ bj 3 dW w ao es) (hl:es.length<=1000000)
  (hC:∀V e,Below w.heap.size w V->Calls Tryz.prog F #[.agg #[I e.page,I e.kind,I e.loc],.pointer (some (Ad x 0))] V fun r w'=>r=.returned (.bool (P e))/\Below V.heap.size V w') :
  Calls Tryz.prog 153 #[.slice ao es.length cap,.func (.func F) #[] #[.pointer (some (Ad x 0))]] w fun e w' =>
   Below w.heap.size w w'/\((e=.returned (I (-1))/\∀j,j<es.length->P (aH es j)=false)∨∃i:Nat,i<es.length/\e=.returned (I (i:Int))/\P (aH es i)=true/\∀j,j<i->P (aH es j)=false):=by
 have HH:=ai h;have HC:=ai hC;clear h hC;rcases hF with rfl | rfl | rfl
 all_goals
  go_enter Tryz.func153,Tryz.ntmps153;go_wp2;go_loopw [8] (fun iv wr=>∃k:Nat,k<=es.length/\iv=I (k:Int)/\(∀j,j<k->P (aH es j)=false)/\Below w.heap.size w wr) (fun iv _=>es.length-(intOf iv).toNat)
  case atStart=>grind [Below.refl]
  case round =>
   obtain⟨k,hk,rfl,hno,hb⟩:=hrel;have pK:=ai hno;have HB:=ai hb;clear hno;by_cases hlt:k<es.length
   · have JC:(k:Int)<(es.length:Int):=by omega
     obtain⟨eb,eo,hao,hbl,eI⟩:=HH.o (by omega);subst hao;have y0:=(hb.cell (p:=(Ad eb (eo+k*3+0))) hbl).trans (eI k hlt 0 (by omega));have y1:=(hb.cell (p:=(Ad eb (eo+k*3+1))) hbl).trans (eI k hlt 1 (by omega));have y2:=(hb.cell (p:=(Ad eb (eo+k*3+2))) hbl).trans (eI k hlt 2 (by omega));rw[fW] at y0;have tD:=ai (HC.o wr (aH es k) hb);obtain⟨G,hG⟩:=ex (P (aH es k));rw[<- hG] at tD;have HG:=ai hG;obtain⟨E,hE⟩:=ex (aH es k);have x0:wr.cell? (Ad eb (eo+k*3))=some (I E.page):=by rw[hE];exact y0
     have x1:wr.cell? (Ad eb (eo+k*3+1))=some (I E.kind):=by rw[hE];exact y1
     have x2:wr.cell? (Ad eb (eo+k*3+2))=some (I E.loc):=by rw[hE];exact y2
     rw[<- hE] at tD;clear hG hE hb y0 y1 y2 eI;cases G with
     | true =>
      go_wp2_with ((first | go_at_call 154 | go_at_call 191 | go_at_call 202);refine tD.o.mono ?_;rintro e w1 ⟨rfl,hb1⟩;have dz:=ai (HB.o.trans (hb1.mono HB.o.size));clear hb1)
      go_ret;exact⟨dz.o,.inr ⟨k,hlt,rfl,HG.o.symm,pK.o⟩⟩
     | false =>
      go_wp2_with ((first | go_at_call 154 | go_at_call 191 | go_at_call 202);refine tD.o.mono ?_;rintro e w1 ⟨rfl,hb1⟩;have dz:=ai (HB.o.trans (hb1.mono HB.o.size));clear hb1)
      go_roundw
      case rel=>exact⟨k+1,by omega,by go_num,fun j hj=>by
       by_cases q:j=k
       · subst q;exact HG.o.symm
       · exact pK.o j (by omega),dz.o⟩
      case measure=>simp[intOf];omega
   · obtain rfl:k=es.length:=by omega
     clear hb;go_wp2;go_ret;exact⟨HB.o,.inl ⟨rfl,pK.o⟩⟩
open Go.RowKit
theorem NJ (es:List bG) (p:Int) (i:Nat) (hi:i<es.length) (h:(aH es i).page=p) (hno:∀j,j<i->¬(aH es j).page=p):bD es p=some (aH es i):=by
 induction es generalizing i with
 | nil=>cases hi
 | cons a r ih =>
  cases i with
  | zero =>
   have h:a.page=p:=h;show(a::r).find? _=some a
   grind
  | succ i =>
   have h0:¬a.page=p:=hno 0 (by omega);show(a::r).find? _=some (aH r i);rw[PO,dJ h0];exact ih i (xH hi) h (fun j hj=>hno (j+1) (by omega))
theorem QL (es:List bG) (p:Int) (hno:∀j,j<es.length->¬(aH es j).page=p):bD es p=none:=rU.2 fun e he=>by
 obtain⟨j,hj,rfl⟩:=gU dW he;exact hno j hj
def gY (es:List bG) (p:Int):bG×Bool:=match bD es p with
 | some e=>(e,true)
 | none=>(dW,false)
def kE (e:bG):Value:=.agg #[I e.page,I e.kind,I e.loc]
theorem Gn (es:List bG) (p:Int) (j n mb pb po cP:Nat) (ae:Option Addr) (ce:Nat) (w:World) (hm:w.cell? (Ad mb 3)=some (.slice (some (Ad pb po)) n cP)) (hj:j<n) (hce:w.cell? (Ad pb (po+j*3+2))=some (.slice ae es.length ce)) (he:cJ bj 3 dW w ae es) (hl:es.length<=1000000) (hn:n<=1000000) :
  Calls Tryz.prog 118 #[.pointer (some (Ad mb 0)),I (j:Int),I p] w fun e w'=>e=.returned (.tuple #[kE (gY es p).1,.bool (gY es p).2])/\Below w.heap.size w w':=by
 have yT:=oc w _ hm;have hpl:=oc w _ hce;have yT:mb<w.heap.size:=yT;have hpl:pb<w.heap.size:=hpl;have YE:=ai he;obtain⟨W,hW⟩:=ex ((w.alloc (.cells #[I p] 3)).alloc (.cells #[I 0,I 0,I 0] 45));have eU:Hid (Below w.heap.size w W):=by simp_all [aK,m9]
 have X0:Hid (W.heap[w.heap.size]?=some (.cells #[I p] 3 (0,0))):=by grind [bM,bO]
 have R0:Hid (W.heap[w.heap.size+1]?=some (.cells #[I 0,I 0,I 0] 45 (0,0))):=by
  grind [bO,World.size_alloc]
 have d3:W.cell? (Ad mb 3)=some (.slice (some (Ad pb po)) n cP):=(eU.o.cell (p:=(Ad mb 3)) yT).trans hm;have d2:W.cell? (Ad pb (po+j*3+2))=some (.slice ae es.length ce):=(eU.o.cell (p:=(Ad pb (po+j*3+2))) hpl).trans hce;have Pt:=ai (Es 154 (.inl rfl) (fun e=>decide (e.page=p)) es ae ce w.heap.size W (he.below eU.o) hl (fun V e hV=>NK p e w.heap.size V (aB (aQ X0.o hV (aT X0.o)) 0 rfl)));have HF:=ai (NJ es p);have HN:=ai (QL es p);have Sw:(j:Int)<(n:Int):=by omega
 have SY:(0:Int)<=(j:Int):=by omega
 have HW:=ai hW;clear hm hce he hW;by_cases hex:∃j,j<es.length/\(aH es j).page=p
 · obtain⟨j0,alN,alM⟩:=hex;have Z1:Hid (Calls Tryz.prog 153 #[.slice ae es.length ce,.func (.func 154) #[] #[.pointer (some (Ad w.heap.size 0))]] W fun e w'=>∃i:Nat,i<es.length/\e=.returned (I (i:Int))/\gY es p=(aH es i,true)/\Below W.heap.size W w'):=Pt.o.mono fun e w' ⟨hb,h⟩=>by
    rcases h with⟨_,hno⟩ | ⟨i,hi,he,ag8,hno⟩
    · grind
    · refine⟨i,hi,he,?_,hb⟩;unfold gY;rw[HF.o i hi (by grind) (fun j hj=>by grind)]
   clear Pt HF HN alN alM;go_enter Tryz.func118,Tryz.ntmps118;go_upto_region 1 with fail;rw[<- HW.o];go_upto_region 3 with(go_at_call 153;refine Z1.o.mono ?_;rintro e w1 ⟨i,hi,rfl,hen,hb1⟩;have oD:=ai hen;have dz:=ai (eU.o.trans (hb1.mono eU.o.size));have R1:=ai (aQ R0.o hb1 (aT R0.o));clear hb1 hen)
   obtain⟨eb,eo,hao,hbl,eI⟩:=YE.o (by omega);subst hao;have y0:=(dz.o.cell (p:=(Ad eb (eo+i*3+0))) hbl).trans (eI i hi 0 (by omega));have y1:=(dz.o.cell (p:=(Ad eb (eo+i*3+1))) hbl).trans (eI i hi 1 (by omega));have y2:=(dz.o.cell (p:=(Ad eb (eo+i*3+2))) hbl).trans (eI i hi 2 (by omega));rw[fW] at y0;obtain⟨E,hE⟩:=ex (aH es i);have x0:w1.cell? (Ad eb (eo+i*3))=some (I E.page):=by rw[hE];exact y0
   have x1:w1.cell? (Ad eb (eo+i*3+1))=some (I E.kind):=by rw[hE];exact y1
   have x2:w1.cell? (Ad eb (eo+i*3+2))=some (I E.loc):=by rw[hE];exact y2
   rw[<- hE] at oD;obtain⟨r0,r1,r2⟩:=nV R1.o;have f0:=aO R1.o 0;have f1:=aO R1.o 1;have f2:=aO R1.o 2;have hi1:(i:Int)<(es.length:Int):=by omega
   have hi0:(0:Int)<=(i:Int):=by omega
   clear hE y0 y1 y2 eI;go_wp2;have R2:(((w1.setCell (Ad (w.heap.size+1) 0) (I E.page)).setCell (Ad (w.heap.size+1) 1) (I E.kind)).setCell (Ad (w.heap.size+1) 2) (I E.loc)).heap[w.heap.size+1]?=some (.cells #[I E.page,I E.kind,I E.loc] 45 (0,0)):=dD (dD (dD R1.o 0 _) 1 _) 2 _;obtain⟨v0,v1,v2⟩:=nV R2;refine cm (v:=.tuple #[kE E,.bool true]) (by simp[results,Tryz.results118,go_sem,kE,v0,v1,v2]) rfl ?_;rw[oD.o];refine⟨rfl,?_⟩;exact((dz.o.setCell (p:=(Ad (w.heap.size+1) 0)) (by show w.heap.size<=w.heap.size+1;omega) _).setCell (p:=(Ad (w.heap.size+1) 1)) (by show w.heap.size<=w.heap.size+1;omega) _).setCell (p:=(Ad (w.heap.size+1) 2)) (by show w.heap.size<=w.heap.size+1;omega) _
 · have Z1:Hid (Calls Tryz.prog 153 #[.slice ae es.length ce,.func (.func 154) #[] #[.pointer (some (Ad w.heap.size 0))]] W fun e w'=>e=.returned (I (-1))/\Below W.heap.size W w'):=Pt.o.mono fun e w' ⟨hb,h⟩=>by
    grind
   have oD:Hid (gY es p=(dW,false)):=by
    show _=_;unfold gY;rw[HN.o (fun j hj e=>hex ⟨j,hj,e⟩)]
   clear Pt HF HN hex;go_enter Tryz.func118,Tryz.ntmps118;go_upto_region 1 with fail;rw[<- HW.o];go_upto_region 3 with(go_at_call 153;refine Z1.o.mono ?_;rintro e w1 ⟨rfl,hb1⟩;have dz:=ai (eU.o.trans (hb1.mono eU.o.size));have R1:=ai (aQ R0.o hb1 (aT R0.o));clear hb1)
   obtain⟨r0,r1,r2⟩:=nV R1.o;have f0:=aO R1.o 0;have f1:=aO R1.o 1;have f2:=aO R1.o 2;go_wp2;have R2:(((w1.setCell (Ad (w.heap.size+1) 0) (I 0)).setCell (Ad (w.heap.size+1) 1) (I 0)).setCell (Ad (w.heap.size+1) 2) (I 0)).heap[w.heap.size+1]?=some (.cells #[I 0,I 0,I 0] 45 (0,0)):=dD (dD (dD R1.o 0 _) 1 _) 2 _;obtain⟨v0,v1,v2⟩:=nV R2;refine cm (v:=.tuple #[kE dW,.bool false]) (by simp[results,Tryz.results118,go_sem,kE,dW,v0,v1,v2]) rfl ?_;rw[oD.o];refine⟨rfl,?_⟩;exact((dz.o.setCell (p:=(Ad (w.heap.size+1) 0)) (by grind) _).setCell (p:=(Ad (w.heap.size+1) 1)) (by grind) _).setCell (p:=(Ad (w.heap.size+1) 2)) (by grind) _
end Go.Proofs.YtpgifpeohlllfaaGreat
