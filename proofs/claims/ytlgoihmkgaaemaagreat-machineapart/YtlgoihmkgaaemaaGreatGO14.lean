import Derived.Test.YtlgoihmkgaaemaaGreatGO13
import Derived.Great.Ranges
set_option maxHeartbeats 20000000
set_option linter.unusedVariables false
set_option maxRecDepth 100000
set_option linter.unusedSimpArgs false
namespace Go.Proofs.YtlgoihmkgaaemaaGreat
open Go.RowKit
def s7 (w:World) (a:iH) (k:aR) (e:Ending) (w':World):Prop:=Below w.heap.size w w'/\((fV k=0/\∃mb,e=.returned (.tuple #[.pointer (some (Ad mb 0)),I 0])/\w.heap.size<=mb/\w'.heap[mb]?=some (.cells (mH (.slice a.aS k.aM.length a.cS) (.slice a.aF k.frames.length a.cF) (.slice a.aL k.slots.length a.cL) (.slice a.aP k.aj.length a.cP) (I k.hand) (mg k.aM k.aM.length)) 158 (0,0)))∨(fV k≠0/\e=.returned (.tuple #[.pointer none,I (fV k)])))
theorem FP {w:World} {mb:Nat} {hs:List bG} {a b c d e:Value} (h:w.heap[mb]?=some (.cells (mH a b c d e (mg hs hs.length)) 158 (0,0))) (hr:ia hs=true):∀n:Nat,n<256->w.cell? (Ad mb (5+n))=some (.string (fq hs n)):=fun n hn=>(aq h (5+n) (QT a b c d e _ n hn)).trans (by grind [FQ])
theorem Wo (k:aR) (a:iH) (w:World) (hK:jg w a k) (hF:nZ k) (hc:nz k=true):Calls Tryz.prog 87 #[.agg (bc a k)] w (s7 w a k):=by
 have hcc:=o5 hc;have uJ:Hid (∀w',Below w.heap.size w w'->C0 k=false->s7 w a k (.returned (.tuple #[.pointer none,I 1])) w'):=fun w' hb hf=>by
  have e:fV k=1:=by grind [fV]
  exact⟨hb,.inr ⟨by omega,by rw[e]⟩⟩
 have Fa:Hid (∀w' mb,Below w.heap.size w w'->C0 k=true->w.heap.size<=mb->w'.heap[mb]?=some (.cells (mH (.slice a.aS k.aM.length a.cS) (.slice a.aF k.frames.length a.cF) (.slice a.aL k.slots.length a.cL) (.slice a.aP k.aj.length a.cP) (I k.hand) (mg k.aM k.aM.length)) 158 (0,0))->s7 w a k (.returned (.tuple #[.pointer (some (Ad mb 0)),I 0])) w'):=fun w' mb hb hf hm hh=>by
  have e:fV k=0:=by grind [fV]
  exact⟨hb,.inl ⟨e,mb,rfl,hm,hh⟩⟩
 obtain⟨P,hP⟩:=ex (s7 w a k);rw[<- hP] at uJ Fa ⊢;clear hP;unfold bc;have HC:Hid (∀V,Calls Tryz.prog 139 #[.agg #[.slice a.aS k.aM.length a.cS,.slice a.aF k.frames.length a.cF,.slice a.aL k.slots.length a.cL,.slice a.aP k.aj.length a.cP,I k.hand]] V fun e w'=>e=.returned (.bool true)/\Below V.heap.size V w'):=fun V=>by
  have:=Ix a.aS a.aF a.aL a.aP k.aM.length a.cS k.frames.length a.cF k.slots.length a.cL k.aj.length a.cP (I k.hand) V;rw[ic hcc] at this;exact this
 have HUP:=ai (@Tj k);have HSB:=ai (UH k.aM k.aj (List.replicate k.frames.length dG,List.replicate k.slots.length dG) k.frames.length k.slots.length (UG _) (UG _));have HSF:=ai (K6 k.aM k.aj (List.replicate k.frames.length dG,List.replicate k.slots.length dG));obtain⟨hKS,hKF,hKL,hKP⟩:=hK;obtain⟨fS,fnF,ffr,fnS,fsl,fnP,fsp,fhd⟩:=hF;have HKS:=ai hKS;have HKF:=ai hKF;have HKL:=ai hKL;have HKP:=ai hKP;have HFS:=ai fS;have HFR:=ai ffr;have HSL:=ai fsl;have Hy:=ai fsp;clear hKS hKF hKL hKP fS ffr fsl fsp hc fnF fnS fnP;obtain⟨aS,cS,aF,cF,aL,cL,aP,cP⟩:=a;obtain⟨hs,fs,ls,ss,hd⟩:=k;unfold C0 Ae at *;simp only at HC hcc uJ Fa HUP HSB HSF HKS HKF HKL HKP HFS HFR HSL Hy fhd ⊢;have BK:=ai (bB w #[.slice aS hs.length cS,.slice aF fs.length cF,.slice aL ls.length cL,.slice aP ss.length cP,I hd] 30);have OY:=ai ((aK w.heap.size w).alloc (aD _) (.cells #[.slice aS hs.length cS,.slice aF fs.length cF,.slice aL ls.length cL,.slice aP ss.length cP,I hd] 30));go_enter Tryz.func87,Tryz.ntmps87;go_upto_region 3 with(go_at_call 139;refine(HC.o _).mono ?_;rintro e w1 ⟨rfl,hb1⟩;have agT:=ai (bH OY.o hb1);have BK1:=ai (aN BK.o hb1 (by simp));clear hb1)
 refine wp_region_lit ?_;refine Ds rfl 30 _ rfl w.heap.size rfl 30 _ (0,0) _ BK1.o Tryz.underlying30 rfl (by rfl) ?_;refine OO rfl 158 _ rfl (.agg #[.slice aS hs.length cS,.slice aF fs.length cF,.slice aL ls.length cL,.slice aP ss.length cP,I hd]) (by rfl) _ (aee _ _ _ _ _) ?_;have HM:=ai (bB w1 (mH (.slice aS hs.length cS) (.slice aF fs.length cF) (.slice aL ls.length cL) (.slice aP ss.length cP) (I hd) sZ) 158);have BK2:=ai (bk BK1.o (.cells (mH (.slice aS hs.length cS) (.slice aF fs.length cF) (.slice aL ls.length cL) (.slice aP ss.length cP) (I hd) sZ) 158));have aiF:=ai (agT.o.alloc agT.o.size (.cells (mH (.slice aS hs.length cS) (.slice aF fs.length cF) (.slice aL ls.length cL) (.slice aP ss.length cP) (I hd) sZ) 158));have rW:w.heap.size<w1.heap.size:=aJ BK1.o;refine Go.Great.wpList_boxTo rfl 158 _ rfl _ rfl w1.heap.size rfl (mH (.slice aS hs.length cS) (.slice aF fs.length cF) (.slice aL ls.length cL) (.slice aP ss.length cP) (I hd) sZ) (by rfl) ?_;obtain⟨W,hW⟩:=ex (w1.alloc (.cells (mH (.slice aS hs.length cS) (.slice aF fs.length cF) (.slice aL ls.length cL) (.slice aP ss.length cP) (I hd) sZ) 158));rw[<- hW] at HM BK2 aiF ⊢;obtain⟨mb,hmb⟩:=ex w1.heap.size;rw[<- hmb] at HM rW ⊢;obtain⟨kb,hkb⟩:=ex w.heap.size;have alH:w.heap.size<=mb:=by omega
 have auy:w.heap.size<=kb:=by omega
 have ahI:¬kb=mb:=by omega
 rw[<- hkb] at BK2 ⊢;have d1:W.cell? (Ad kb 1)=some (.slice aF fs.length cF):=aq BK2.o 1 rfl;have d2:W.cell? (Ad kb 2)=some (.slice aL ls.length cL):=aq BK2.o 2 rfl;clear hW hmb hkb BK BK1 HC OY agT;have Hh:fs.length<=1000:=by omega
 have hn3:ls.length<=1000:=by omega
 have e2:∀V:World,(Instr.makeSlice 250 (I (fs.length:Int)) (I (fs.length:Int))).run Tryz.prog V=.ok (.slice (some (Ad V.heap.size 0)) fs.length fs.length) (V.alloc (.cells (xe fs.length) 302)):=fun V=>adm V fs.length Hh
 have e3:∀V:World,(Instr.makeSlice 250 (I (ls.length:Int)) (I (ls.length:Int))).run Tryz.prog V=.ok (.slice (some (Ad V.heap.size 0)) ls.length ls.length) (V.alloc (.cells (xe ls.length) 302)):=fun V=>adm V ls.length hn3
 have d1A:(W.alloc (.cells (xe ls.length) 302)).cell? (Ad kb 1)=some (.slice aF fs.length cF):=aq (bk BK2.o _) 1 rfl;have d2A:(W.alloc (.cells (xe fs.length) 302)).cell? (Ad kb 2)=some (.slice aL ls.length cL):=aq (bk BK2.o _) 2 rfl;have q1:=ai (Ho W.heap.size W fs.length (aD _) Hh);have q2:=ai (Ho W.heap.size (W.alloc (.cells (xe fs.length) 302)) ls.length (by simp) hn3);have q3:=ai (Ho W.heap.size W ls.length (aD _) hn3);have q4:=ai (Ho W.heap.size (W.alloc (.cells (xe ls.length) 302)) fs.length (by simp) Hh);rw[gh] at q2 q4;have q5:=ai (((aK W.heap.size W).alloc (aD _) (.cells (xe fs.length) 302)).alloc (by simp) (.cells (xe ls.length) 302));have q6:=ai (((aK W.heap.size W).alloc (aD _) (.cells (xe ls.length) 302)).alloc (by simp) (.cells (xe fs.length) 302));go_upto_region 4 with fail;go_cut [5,6] (fun x5 x6 wx=>∃gf gs:Nat,x5=.slice (some (Ad gf 0)) fs.length fs.length/\x6=.slice (some (Ad gs 0)) ls.length ls.length/\¬gf=gs/\ig W.heap.size wx gf fs.length fs.length (List.replicate fs.length dG)/\ig W.heap.size wx gs ls.length ls.length (List.replicate ls.length dG)/\Below W.heap.size W wx)
 case first =>
  go_region
  all_goals
   go_wp2_with fail
   go_meet
   case rel=>first | exact⟨_,_,rfl,rfl,by simp,(q1.out.kp (aC.alloc (fun _=>False) _ _) (fun x=>x)).d,q2.out.d,q5.out.drew⟩ | exact⟨_,_,rfl,rfl,by simp,q4.out.d,(q3.out.kp (aC.alloc (fun _=>False) _ _) (fun x=>x)).d,q6.out.drew⟩
 case rest =>
  obtain⟨gf,gs,rfl,rfl,hne,hof,hos,hbx⟩:=hcut;clear q1 q2 q3 q4 q5 q6 e2 e3 d1A d2A d1 d2;have hgf:=hof.lt;have hgs:=hos.lt;have HOF:=ai hof;have HOS:=ai hos;have hmW:=aJ HM.o;have hkW:=aJ BK2.o;have HMX:=ai (aN HM.o hbx hmW);have BKX:=ai (aN BK2.o hbx hkW);have jm:=ai (aiF.o.trans (hbx.mono aiF.o.size));have aew:=ai (KW hs aS cS mb (.slice aF fs.length cF) (.slice aL ls.length cL) (.slice aP ss.length cP) (I hd) w wc HKS.o HFS.o jm.o alH HMX.o (by omega));clear hof hos hbx HM BK2 aiF;have En:Hid (∀V,Below w.heap.size w V->(ia hs=false∨hd<0∨(fs.length:Int)<=hd)->P (.returned (.tuple #[.pointer none,I 1])) V):=fun V hV g=>uJ.o V hV (by
   rcases g with g | g | g
   · rw[g];rfl
   · rw[jq (by omega)];simp
   · rw[jq (by omega)];simp)
  obtain⟨RB,hRB⟩:=ex (ia hs);have MS:=ai hRB;rw[<- hRB] at aew En;clear hRB;cases RB with
  | false =>
   go_wp2_with (go_at_call 140;refine aew.o.mono ?_;rintro e w2 ⟨rfl,hk2,G,hG,hg⟩;have gK:=ai (hk2.below jm.o jm.o.size (fun b hb=>(by omega)));have BK3:=ai (hk2.keep BKX.o ahI);clear hk2 hG hg)
   exact En.o _ gK.o (.inl trivial)
  | true =>
   rcases(show hd<0∨(0<=hd/\(fs.length:Int)<=hd)∨(0<=hd/\hd<(fs.length:Int)) by omega) with g | ⟨g1,g2⟩ | ⟨g1,g2⟩
   · go_wp2_with (go_at_call 140;refine aew.o.mono ?_;rintro e w2 ⟨rfl,hk2,G,hG,hg⟩;have gK:=ai (hk2.below jm.o jm.o.size (fun b hb=>(by omega)));have BK3:=ai (hk2.keep BKX.o ahI);have HGG:=ai hg;have m4:w2.cell? (Ad kb 4)=some (I hd):=aq BK3.o 4 rfl;clear hk2 hG hg)
     exact En.o _ gK.o (.inr (.inl g))
   · go_wp2_with (go_at_call 140;refine aew.o.mono ?_;rintro e w2 ⟨rfl,hk2,G,hG,hg⟩;have gK:=ai (hk2.below jm.o jm.o.size (fun b hb=>(by omega)));have BK3:=ai (hk2.keep BKX.o ahI);have HGG:=ai hg;have m1:w2.cell? (Ad kb 1)=some (.slice aF fs.length cF):=aq BK3.o 1 rfl;have m4:w2.cell? (Ad kb 4)=some (I hd):=aq BK3.o 4 rfl;clear hk2 hG hg)
     exact En.o _ gK.o (.inr (.inr g2))
   · go_wp2_with (go_at_call 140;refine aew.o.mono ?_;rintro e w2 ⟨rfl,hk2,G,hG,hg⟩;have gK:=ai (hk2.below jm.o jm.o.size (fun b hb=>(by omega)));have BK3:=ai (hk2.keep BKX.o ahI);have HG:=ai hG;have HGG:=ai hg;have OF2:=ai (HOF.o.kp hk2 (by omega));have OS2:=ai (HOS.o.kp hk2 (by omega));have m1:w2.cell? (Ad kb 1)=some (.slice aF fs.length cF):=aq BK3.o 1 rfl;have m3:w2.cell? (Ad kb 3)=some (.slice aP ss.length cP):=aq BK3.o 3 rfl;have m4:w2.cell? (Ad kb 4)=some (I hd):=aq BK3.o 4 rfl;clear hk2 hG hg)
     have HG2:Hid (w2.heap[mb]?=some (.cells (mH (.slice aS hs.length cS) (.slice aF fs.length cF) (.slice aL ls.length cL) (.slice aP ss.length cP) (I hd) (mg hs hs.length)) 158 (0,0))):=by
      have:=HG.o;rw[HGG.o trivial] at this;exact this
     clear aew En HG HGG HMX BKX jm HOF HOS m4;go_loopw [42] (fun iv wr=>∃k:Nat,k<=ss.length/\iv=I (k:Int)/\oa hs ss (List.replicate fs.length dG,List.replicate ls.length dG) k=true/\Below w.heap.size w wr/\wr.heap[mb]?=some (.cells (mH (.slice aS hs.length cS) (.slice aF fs.length cF) (.slice aL ls.length cL) (.slice aP ss.length cP) (I hd) (mg hs hs.length)) 158 (0,0))/\wr.heap[kb]?=some (.cells #[.slice aS hs.length cS,.slice aF fs.length cF,.slice aL ls.length cL,.slice aP ss.length cP,I hd] 30 (0,0))/\ig W.heap.size wr gf fs.length fs.length (kJ ss (List.replicate fs.length dG,List.replicate ls.length dG) k).1/\ig W.heap.size wr gs ls.length ls.length (kJ ss (List.replicate fs.length dG,List.replicate ls.length dG) k).2) (fun iv _=>ss.length-(intOf iv).toNat)
     case atStart=>exact⟨0,by omega,rfl,rfl,gK.o,HG2.o,BK3.o,OF2.o,OS2.o⟩
     case round =>
      obtain⟨k,hk,rfl,Jh,hb,hmm,hkk,hof,hos⟩:=hrel;have amV:=ai Jh;have HB:=ai hb;have RG:=ai hmm;have HKK:=ai hkk;have HOF:=ai hof;have HOS:=ai hos;have m2:wr.cell? (Ad kb 2)=some (.slice aL ls.length cL):=aq hkk 2 rfl;by_cases hlt:k<ss.length
      · obtain⟨pb,po,hao,hbl,eY⟩:=HKP.o (by omega);subst hao;obtain⟨va,ap,cp,c0,c1,c2,c3,c4,c5⟩:=eY k hlt;obtain⟨aa,ca,H8,_⟩:=id c3;subst H8;have hfit:=Hy.o k hlt;have x0:=(hb.cell (p:=(Ad pb (po+k*3))) hbl).trans c0;have x1:=(hb.cell (p:=(Ad pb (po+k*3+1))) hbl).trans c1;have x2:=(hb.cell (p:=(Ad pb (po+k*3+2))) hbl).trans c2;have hbs:=hb.size;have hbd:=HSB.o k (by omega) Jh;have akB:Hid (∀V,Below w.heap.size w V->oa hs ss (List.replicate fs.length dG,List.replicate ls.length dG) (k+1)=false->P (.returned (.tuple #[.pointer none,I 1])) V):=fun V hV g=>uJ.o V hV (by rw[HSF.o (k+1) ss.length hlt g];simp)
        have HSN:Hid (oa hs ss (List.replicate fs.length dG,List.replicate ls.length dG) (k+1)=(pT hs (ak ss k)&&jV (ak ss k).aT (ak ss k).bf (kJ ss (List.replicate fs.length dG,List.replicate ls.length dG) k) (ak ss k).bf.length)):=by grind [oa]
        have HUN:Hid (kJ ss (List.replicate fs.length dG,List.replicate ls.length dG) (k+1)=jD (ak ss k).aT (ak ss k).bf (kJ ss (List.replicate fs.length dG,List.replicate ls.length dG) k) (ak ss k).bf.length):=rfl;have adL:=aJ hmm;have ZV:=ai (KS hs (ak ss k) (.slice aa (ak ss k).aT.length ca) ap cp mb (wr.alloc (.cells #[.bool (ak ss k).live,.slice aa (ak ss k).aT.length ca,.slice ap (ak ss k).bf.length cp] 99)) (c3.below (hb.alloc hb.size _)) hfit (by simp;omega) (FP (bk hmm _) MS.o.symm));have Dl:Hid (∀V,Below w.heap.size w V->ig W.heap.size V gf fs.length fs.length (kJ ss (List.replicate fs.length dG,List.replicate ls.length dG) k).1->ig W.heap.size V gs ls.length ls.length (kJ ss (List.replicate fs.length dG,List.replicate ls.length dG) k).2->Calls Tryz.prog 142 #[.agg #[.bool (ak ss k).live,.slice aa (ak ss k).aT.length ca,.slice ap (ak ss k).bf.length cp],.slice (some (Ad gf 0)) fs.length fs.length,.slice (some (Ad gs 0)) ls.length ls.length] V fun x w'=>x=.returned (.bool (jV (ak ss k).aT (ak ss k).bf (kJ ss (List.replicate fs.length dG,List.replicate ls.length dG) k) (ak ss k).bf.length))/\aC (fun b=>b=gf∨b=gs) V w'/\(jV (ak ss k).aT (ak ss k).bf (kJ ss (List.replicate fs.length dG,List.replicate ls.length dG) k) (ak ss k).bf.length=true->ig W.heap.size w' gf fs.length fs.length (jD (ak ss k).aT (ak ss k).bf (kJ ss (List.replicate fs.length dG,List.replicate ls.length dG) k) (ak ss k).bf.length).1/\ig W.heap.size w' gs ls.length ls.length (jD (ak ss k).aT (ak ss k).bf (kJ ss (List.replicate fs.length dG,List.replicate ls.length dG) k) (ak ss k).bf.length).2)):=fun V hV h1 h2=>H9 (ak ss k) (.slice aa (ak ss k).aT.length ca) ap cp (kJ ss (List.replicate fs.length dG,List.replicate ls.length dG) k).1 (kJ ss (List.replicate fs.length dG,List.replicate ls.length dG) k).2 W.heap.size gf fs.length fs.length gs ls.length ls.length (255*k) w V c3 c4 hfit hV (by omega) h1 h2 hne hbd.1 hbd.2 (by omega) Hh hn3
        obtain⟨RS,hRS⟩:=ex (pT hs (ak ss k));obtain⟨EB,hEB⟩:=ex (jV (ak ss k).aT (ak ss k).bf (kJ ss (List.replicate fs.length dG,List.replicate ls.length dG) k) (ak ss k).bf.length);rw[<- hRS] at ZV HSN;rw[<- hEB] at Dl HSN;obtain⟨lv,hlv⟩:=ex ((ak ss k).live);obtain⟨na,rH⟩:=ex ((ak ss k).aT.length);obtain⟨ne,hnE⟩:=ex ((ak ss k).bf.length);rw[<- hlv,<- rH,<- hnE] at ZV;rw[<- hlv,<- rH] at Dl;rw[<- hlv] at x0;rw[<- rH] at x1;rw[<- hnE] at x2;rw[<- hnE] at Dl HUN;have jk:=ai (hb.alloc hb.size (.cells #[.bool lv,.slice aa na ca,.slice ap ne cp] 99));have MA:=ai (bk hmm (.cells #[.bool lv,.slice aa na ca,.slice ap ne cp] 99));have KA:=ai (bk hkk (.cells #[.bool lv,.slice aa na ca,.slice ap ne cp] 99));have OA:=ai (hof.kp (aC.alloc (fun _=>False) wr (.cells #[.bool lv,.slice aa na ca,.slice ap ne cp] 99)) (fun x=>x));have OB:=ai (hos.kp (aC.alloc (fun _=>False) wr (.cells #[.bool lv,.slice aa na ca,.slice ap ne cp] 99)) (fun x=>x));have SB:=ai (bB wr #[.bool lv,.slice aa na ca,.slice ap ne cp] 99);clear hRS hEB hlv rH hnE c0 c1 c2 c3 c4 c5 eY hfit hbd Jh hb hmm hkk hof hos HSB HSF uJ Fa HUP HKS HKF HKL HKP HFS HFR HSL Hy RG HKK HOF HOS gK HG2 BK3 OF2 OS2 m1 m3 m2;cases RS with
        | false =>
         have HX:=ai (akB.o);have aih:Hid (oa hs ss (List.replicate fs.length dG,List.replicate ls.length dG) (k+1)=false):=HSN;clear HSN Dl;go_wp2_with (go_at_call 141;refine ZV.o.mono ?_;rintro e w3 ⟨rfl,hb3⟩;have mQ:=ai (bH jk.o hb3);have SB3:=ai (aN SB.o hb3 (aJ SB.o));clear hb3)
         exact HX.o _ mQ.o aih.o
        | true =>
         cases EB with
         | false =>
          have HX:=ai (akB.o);have aih:Hid (oa hs ss (List.replicate fs.length dG,List.replicate ls.length dG) (k+1)=false):=HSN;clear HSN;go_wp2_with (first | (go_at_call 141;refine ZV.o.mono ?_;rintro e w3 ⟨rfl,hb3⟩;have mQ:=ai (bH jk.o hb3);have M3:=ai (aN MA.o hb3 (aJ MA.o));have KB3:=ai (aN KA.o hb3 (aJ KA.o));have O3:=ai (OA.o.kp (aC.bZ (D:=fun _=>False) hb3) (fun x=>x));have S3:=ai (OB.o.kp (aC.bZ (D:=fun _=>False) hb3) (fun x=>x));have SB3:=ai (aN SB.o hb3 (aJ SB.o));have v0:w3.cell? (Ad wr.heap.size 0)=some (.bool lv):=aq SB3.o 0 rfl;have v1:w3.cell? (Ad wr.heap.size 1)=some (.slice aa na ca):=aq SB3.o 1 rfl;have v2:w3.cell? (Ad wr.heap.size 2)=some (.slice ap ne cp):=aq SB3.o 2 rfl;clear hb3) | (go_at_call 142;refine(Dl.o _ mQ.o O3.o S3.o).mono ?_;rintro e w4 ⟨rfl,hk4,ho4⟩;have sQ:=ai (hk4.below mQ.o mQ.o.size (fun b hb=>(by omega)));clear hk4 ho4))
          exact HX.o _ sQ.o aih.o
         | true =>
          have aih:Hid (oa hs ss (List.replicate fs.length dG,List.replicate ls.length dG) (k+1)=true):=HSN;clear HSN akB;go_wp2_with (first | (go_at_call 141;refine ZV.o.mono ?_;rintro e w3 ⟨rfl,hb3⟩;have mQ:=ai (bH jk.o hb3);have M3:=ai (aN MA.o hb3 (aJ MA.o));have KB3:=ai (aN KA.o hb3 (aJ KA.o));have O3:=ai (OA.o.kp (aC.bZ (D:=fun _=>False) hb3) (fun x=>x));have S3:=ai (OB.o.kp (aC.bZ (D:=fun _=>False) hb3) (fun x=>x));have SB3:=ai (aN SB.o hb3 (aJ SB.o));have v0:w3.cell? (Ad wr.heap.size 0)=some (.bool lv):=aq SB3.o 0 rfl;have v1:w3.cell? (Ad wr.heap.size 1)=some (.slice aa na ca):=aq SB3.o 1 rfl;have v2:w3.cell? (Ad wr.heap.size 2)=some (.slice ap ne cp):=aq SB3.o 2 rfl;clear hb3) | (go_at_call 142;refine(Dl.o _ mQ.o O3.o S3.o).mono ?_;rintro e w4 ⟨rfl,hk4,ho4⟩;have sQ:=ai (hk4.below mQ.o mQ.o.size (fun b hb=>(by omega)));have M4:=ai (hk4.keep M3.o (by omega));have KB4:=ai (hk4.keep KB3.o (by omega));have HO4:=ai ho4;clear hk4 ho4))
          grind [intOf,Hid.o]
      · obtain rfl:k=ss.length:=by omega
        have mB:=hmm;have p1:wr.cell? (Ad mb 1)=some (.slice aF fs.length cF):=aq mB 1 rfl;have p2:wr.cell? (Ad mb 2)=some (.slice aL ls.length cL):=aq mB 2 rfl;have p3:wr.cell? (Ad mb 3)=some (.slice aP ss.length cP):=aq mB 3 rfl;have adL:=aJ hmm;have au1:=aJ hkk;have hbd:=HSB.o ss.length (aD _) Jh;have N0:Hid (∀V,Below wr.heap.size wr V->Calls Tryz.prog 143 #[.pointer (some (Ad mb 0))] V fun e w'=>e=.returned (I (eD ss))/\Below V.heap.size V w'):=fun V hV=>D3 ss aP cP mb V (HKP.o.below (hb.trans (hV.mono hb.size))) (fun j hj=>(Hy.o j hj).aT) (by omega) ((hV.cell (p:=(Ad mb 3)) adL).trans p3)
        have LG:Hid (∀V,Below wr.heap.size wr V->Calls Tryz.prog 144 #[.pointer (some (Ad mb 0)),.slice (some (Ad gf 0)) fs.length fs.length] V fun e w'=>e=.returned (.bool ((List.range fs.length).all fun i=>jQ hs (aH fs i) (cY (kJ ss (List.replicate fs.length dG,List.replicate ls.length dG) ss.length).1 i)))/\Below V.heap.size V w'):=fun V hV=>Jt hs fs _ aF cF mb W.heap.size gf fs.length V (HKF.o.below (hb.trans (hV.mono hb.size))) (hof.kp (aC.bZ (D:=fun _=>False) hV) (fun x=>x)) (fD adL hV.size) ((hV.cell (p:=(Ad mb 1)) adL).trans p1) (FP (aN mB hV adL) MS.o.symm) (fun i hi=>HUP.o MS.o.symm Jh i hi) (fun i hi=>(HFR.o i hi).1) (by omega)
        have HRL:Hid (∀V,Below wr.heap.size wr V->Calls Tryz.prog 145 #[.pointer (some (Ad mb 0)),.slice (some (Ad gs 0)) ls.length ls.length] V fun e w'=>e=.returned (.bool ((List.range ls.length).all fun i=>mh (bE ls i) (cY (kJ ss (List.replicate fs.length dG,List.replicate ls.length dG) ss.length).2 i)))/\Below V.heap.size V w'):=fun V hV=>KT ls _ aL cL mb W.heap.size gs ls.length V (HKL.o.below (hb.trans (hV.mono hb.size))) (hos.kp (aC.bZ (D:=fun _=>False) hV) (fun x=>x)) ((hV.cell (p:=(Ad mb 2)) adL).trans p2) (fun i hi=>(hbd.2.2 i hi).1) (fun i hi=>(HSL.o i hi).1) (by omega)
        have Xi:=uJ;have UT:=Fa;rw[MS.o.symm,amV.o,ic (show 0<=hd/\hd<(fs.length:Int) from⟨g1,g2⟩)] at Xi UT;obtain⟨RF,hRF⟩:=ex ((List.range fs.length).all fun i=>jQ hs (aH fs i) (cY (kJ ss (List.replicate fs.length dG,List.replicate ls.length dG) ss.length).1 i));obtain⟨RL,hRL⟩:=ex ((List.range ls.length).all fun i=>mh (bE ls i) (cY (kJ ss (List.replicate fs.length dG,List.replicate ls.length dG) ss.length).2 i));obtain⟨RM,hRM⟩:=ex (eD ss);rw[<- hRF] at LG Xi UT;rw[<- hRL] at HRL Xi UT;rw[<- hRM] at N0 Xi UT;have CM:=jt wr;have k2:∀x:dW wr.heap.size wr,x.world.cell? (Ad kb 2)=some (.slice aL ls.length cL):=fun x=>by grind [fR]
        clear hRF hRL hRM hbd Jh hb hmm hkk hof hos HSB HSF uJ Fa HUP HKS HKF HKL HKP HFS HFR HSL Hy HKK HOF HOS gK HG2 BK3 OF2 OS2 m1 m3 m2 p1 p2 p3 mB amV;go_upto_region 13 with fail;by_cases c:RM<=(ls.length:Int)
        · have c2:decide ((ls.length:Int)<RM)=false:=jq (by omega);rw[ic c] at Xi UT;cases RF with
          | false =>
           refine dA (by rfl) (by kernel_rfl) ?_
           repeat (first | go_big_quiet_step ((first | (go_at_call 143;exact gw _ N0.o) | (go_at_call 144;exact gw _ LG.o))) | quiet_step ((first | (go_at_call 143;exact gw _ N0.o) | (go_at_call 144;exact gw _ LG.o))))
           refine jo ?_;rintro _ ⟨x,rfl⟩;have jm:=ai (HB.o.trans (x.keeps.mono HB.o.size));clear N0 LG HRL k2;go_wp2;exact Xi.o _ jm.o (by simp)
          | true =>
           cases RL with
           | false =>
            refine dA (by rfl) (by kernel_rfl) ?_
            repeat (first | go_big_quiet_step ((first | (go_at_call 143;exact gw _ N0.o) | (go_at_call 144;exact gw _ LG.o) | (go_at_call 145;exact gw _ HRL.o))) | quiet_step ((first | (go_at_call 143;exact gw _ N0.o) | (go_at_call 144;exact gw _ LG.o) | (go_at_call 145;exact gw _ HRL.o))))
            refine jo ?_;rintro _ ⟨x,rfl⟩;have jm:=ai (HB.o.trans (x.keeps.mono HB.o.size));clear N0 LG HRL k2;go_wp2;exact Xi.o _ jm.o (by simp)
           | true =>
            refine dA (by rfl) (by kernel_rfl) ?_
            repeat (first | go_big_quiet_step ((first | (go_at_call 143;exact gw _ N0.o) | (go_at_call 144;exact gw _ LG.o) | (go_at_call 145;exact gw _ HRL.o))) | quiet_step ((first | (go_at_call 143;exact gw _ N0.o) | (go_at_call 144;exact gw _ LG.o) | (go_at_call 145;exact gw _ HRL.o))))
            refine jo ?_;rintro _ ⟨x,rfl⟩;have jm:=ai (HB.o.trans (x.keeps.mono HB.o.size));have MX:=ai (aN RG.o x.keeps (aJ RG.o));clear N0 LG HRL k2;go_wp2;exact UT.o _ mb jm.o (by simp) alH MX.o
        · have c2:decide ((ls.length:Int)<RM)=true:=ic (by omega);rw[jq c] at Xi;refine dA (by rfl) (by kernel_rfl) ?_
          repeat (first | go_big_quiet_step ((go_at_call 143;exact gw _ N0.o)) | quiet_step ((go_at_call 143;exact gw _ N0.o)))
          refine jo ?_;rintro _ ⟨x,rfl⟩;have jm:=ai (HB.o.trans (x.keeps.mono HB.o.size));clear N0 LG HRL k2;go_wp2;exact Xi.o _ jm.o (by simp)
open Go.RowKit
theorem Zi (k:aR) (a:iH) (w:World) (hc:nz k=false):Calls Tryz.prog 87 #[.agg (bc a k)] w (s7 w a k):=by
 have hcc:=qU hc;have uJ:Hid (∀w',Below w.heap.size w w'->s7 w a k (.returned (.tuple #[.pointer none,I 2])) w'):=fun w' hb=>by
  have e:fV k=2:=by grind [fV]
  exact⟨hb,.inr ⟨by omega,by rw[e]⟩⟩
 obtain⟨P,hP⟩:=ex (s7 w a k);rw[<- hP] at uJ ⊢;clear hP;unfold bc;have HC:Hid (∀V,Calls Tryz.prog 139 #[.agg #[.slice a.aS k.aM.length a.cS,.slice a.aF k.frames.length a.cF,.slice a.aL k.slots.length a.cL,.slice a.aP k.aj.length a.cP,I k.hand]] V fun e w'=>e=.returned (.bool false)/\Below V.heap.size V w'):=fun V=>by
  have:=Ix a.aS a.aF a.aL a.aP k.aM.length a.cS k.frames.length a.cF k.slots.length a.cL k.aj.length a.cP (I k.hand) V;rw[jq hcc] at this;exact this
 obtain⟨aS,cS,aF,cF,aL,cL,aP,cP⟩:=a;obtain⟨hs,fs,ls,ss,hd⟩:=k;simp only at HC ⊢;have OY:=ai ((aK w.heap.size w).alloc (aD _) (.cells #[.slice aS hs.length cS,.slice aF fs.length cF,.slice aL ls.length cL,.slice aP ss.length cP,I hd] 30));clear hc hcc;go_enter Tryz.func87,Tryz.ntmps87;go_wp2_with (go_at_call 139;refine(HC.o _).mono ?_;rintro e w1 ⟨rfl,hb1⟩;have agT:=ai (bH OY.o hb1);clear hb1)
 exact uJ.o _ agT.o
theorem NA (k:aR) (a:iH) (w:World) (hK:jg w a k) (hF:nZ k):Calls Tryz.prog 87 #[.agg (bc a k)] w (s7 w a k):=by
 cases hc:nz k with
 | true=>exact Wo k a w hK hF hc
 | false=>exact Zi k a w hc
theorem Wu (k:aR) (a:iH) (w:World) (hK:jg w a k) (hF:nZ k):Calls Tryz.prog 40 #[.agg (bc a k)] w fun e w'=>e=.returned (I (fV k))/\Below w.heap.size w w':=by
 have HL:Hid (∀V,Below w.heap.size w V->Calls Tryz.prog 87 #[.agg (bc a k)] V fun e w'=>∃v,e=.returned (.tuple #[v,I (fV k)])/\Below V.heap.size V w'):=fun V hV=>(NA k a V (hK.below hV) hF).mono fun e w' ⟨hb,h⟩=>by
  grind
 obtain⟨C,hC⟩:=ex (fV k);rw[<- hC] at HL ⊢;unfold bc at HL ⊢;obtain⟨aS,cS,aF,cF,aL,cL,aP,cP⟩:=a;obtain⟨hs,fs,ls,ss,hd⟩:=k;simp only at HL ⊢;clear hC hK hF;have OY:=ai ((aK w.heap.size w).alloc (aD _) (.cells #[.slice aS hs.length cS,.slice aF fs.length cF,.slice aL ls.length cL,.slice aP ss.length cP,I hd] 30));go_enter Tryz.func40,Tryz.ntmps40;go_wp2_with (go_at_call 87;refine(HL.o _ OY.o).mono ?_;rintro e w1 ⟨v,rfl,hb1⟩;have cH:=ai (bH OY.o hb1);clear hb1)
 go_ret;exact⟨rfl,cH.o⟩
open Go.RowKit
def cT (k:aR) (sp:Int):Int:=if fV k=0 then (if 0<=sp/\sp<(k.aj.length:Int)/\(ak k.aj sp.toNat).live=true then 0 else 6) else fV k
def lQ (a:iH) (k:aR):Array Value:=mH (.slice a.aS k.aM.length a.cS) (.slice a.aF k.frames.length a.cF) (.slice a.aL k.slots.length a.cL) (.slice a.aP k.aj.length a.cP) (I k.hand) (mg k.aM k.aM.length)
def xm (w:World) (a:iH) (k:aR) (c:Int) (e:Ending) (w':World):Prop:=Below w.heap.size w w'/\((c=0/\∃mb,e=.returned (.tuple #[.pointer (some (Ad mb 0)),I 0])/\w.heap.size<=mb/\w'.heap[mb]?=some (.cells (lQ a k) 158 (0,0)))∨(c≠0/\e=.returned (.tuple #[.pointer none,I c])))
theorem vA (k:aR) (a:iH) (sp:Int) (w:World) (hK:jg w a k) (hF:nZ k) (hsp:cN sp):Calls Tryz.prog 76 #[.agg (bc a k),I sp] w (xm w a k (cT k sp)):=by
 have HL:=ai (fun V (hV:Below w.heap.size w V)=>NA k a V (hK.below hV) hF);have HE:Hid (∀V c,Below w.heap.size w V->cT k sp=c->c≠0->xm w a k (cT k sp) (.returned (.tuple #[.pointer none,I c])) V):=fun V c hV e hc=>⟨hV,.inr ⟨by omega,by rw[e]⟩⟩
 have HY:Hid (∀V mb,Below w.heap.size w V->cT k sp=0->w.heap.size<=mb->V.heap[mb]?=some (.cells (lQ a k) 158 (0,0))->xm w a k (cT k sp) (.returned (.tuple #[.pointer (some (Ad mb 0)),I 0])) V):=fun V mb hV e hm hh=>⟨hV,.inl ⟨e,mb,rfl,hm,hh⟩⟩
 obtain⟨P,hP⟩:=ex (xm w a k (cT k sp));rw[<- hP] at HE HY ⊢;clear hP;have HHP:=ai hK.aj;have HKB:=ai (bB w (bc a k) 30);have gB:=ai ((aK w.heap.size w).alloc (aD _) (.cells (bc a k) 30));have HLK:Hid (cT k sp=if fV k=0 then (if 0<=sp/\sp<(k.aj.length:Int)/\(ak k.aj sp.toNat).live=true then 0 else 6) else fV k):=rfl;have HN4:Hid (fV k=0->k.aj.length<=4):=fun h=>((oh k).1 h).c.2.2.1.2
 clear hK hF;by_cases hc:fV k=0
 · have Bz:Hid (∀V,Below w.heap.size w V->Calls Tryz.prog 87 #[.agg (bc a k)] V fun e w'=>∃mb,e=.returned (.tuple #[.pointer (some (Ad mb 0)),I 0])/\w.heap.size<=mb/\w'.heap[mb]?=some (.cells (lQ a k) 158 (0,0))/\Below V.heap.size V w'):=fun V hV=>(HL.o V hV).mono fun e w' ⟨hb,h⟩=>by
    rcases h with⟨_,mb,h1,h2,h3⟩ | ⟨h1,_⟩
    · exact⟨mb,h1,gu hV.size h2,h3,hb⟩
    omega
   have Fk:=HN4.o hc;have Xt:Hid (cT k sp=if 0<=sp/\sp<(k.aj.length:Int)/\(ak k.aj sp.toNat).live=true then 0 else 6):=by grind
   clear HL HLK hc HN4;unfold bc at Bz HKB gB ⊢;obtain⟨aS,cS,aF,cF,aL,cL,aP,cP⟩:=a;obtain⟨hs,fs,ls,ss,hd⟩:=k;simp only at Bz HKB gB HHP Xt HY Fk ⊢;rcases(show sp<0∨(0<=sp/\(ss.length:Int)<=sp)∨(0<=sp/\sp<(ss.length:Int)) by omega) with g | ⟨g1,g2⟩ | ⟨g1,g2⟩
   · have HX:=ai (fun V hV=>HE.o V 6 hV (by grind [Hid.o]) (by decide));clear HE HY Xt HHP;go_enter Tryz.func76,Tryz.ntmps76;go_wp2_with (go_at_call 87;refine(Bz.o _ gB.o).mono ?_;rintro e w1 ⟨mb,rfl,ni,hm2,hb1⟩;have cH:=ai (bH gB.o hb1);have K1:=ai (aN HKB.o hb1 (by simp));clear hb1 hm2)
     exact HX.o _ cH.o
   · have HX:=ai (fun V hV=>HE.o V 6 hV (by grind [Hid.o]) (by decide));clear HE HY Xt HHP;go_enter Tryz.func76,Tryz.ntmps76;go_wp2_with (go_at_call 87;refine(Bz.o _ gB.o).mono ?_;rintro e w1 ⟨mb,rfl,ni,hm2,hb1⟩;have cH:=ai (bH gB.o hb1);have K1:=ai (aN HKB.o hb1 (by simp));have c3:w1.cell? (Ad w.heap.size 3)=some (.slice aP ss.length cP):=aq K1.o 3 rfl;clear hb1 hm2)
     exact HX.o _ cH.o
   · obtain⟨j,rfl⟩:∃j:Nat,sp=(j:Int):=⟨sp.toNat,by omega⟩;obtain⟨pb,po,hao,hbl,eY⟩:=HHP.o (by omega);subst hao;obtain⟨va,ap,cp,y0,_,_,_,_,_⟩:=eY j (by omega);rw[jz] at Xt;obtain⟨lv,hlv⟩:=ex ((ak ss j).live);rw[<- hlv] at y0 Xt;clear hlv eY HHP;cases lv with
     | false =>
      have HX:=ai (fun V hV=>HE.o V 6 hV (by rw[Xt.o,au (by simp)]) (by decide));clear HE HY Xt;go_enter Tryz.func76,Tryz.ntmps76;go_wp2_with (go_at_call 87;refine(Bz.o _ gB.o).mono ?_;rintro e w1 ⟨mb,rfl,ni,hm2,hb1⟩;have cH:=ai (bH gB.o hb1);have K1:=ai (aN HKB.o hb1 (by simp));have c3:w1.cell? (Ad w.heap.size 3)=some (.slice (some (Ad pb po)) ss.length cP):=aq K1.o 3 rfl;have l0:w1.cell? (Ad pb (po+j*3))=some (.bool false):=(cH.o.cell (p:=(Ad pb (po+j*3))) hbl).trans y0;clear hb1 hm2)
      exact HX.o _ cH.o
     | true =>
      have HX:=ai (fun V mb hV hm hh=>HY.o V mb hV (by rw[Xt.o,aB ⟨g1,g2,rfl⟩]) hm hh);clear HE HY Xt;go_enter Tryz.func76,Tryz.ntmps76;go_wp2_with (go_at_call 87;refine(Bz.o _ gB.o).mono ?_;rintro e w1 ⟨mb,rfl,ni,hm2,hb1⟩;have Gx:=ai hm2;have cH:=ai (bH gB.o hb1);have K1:=ai (aN HKB.o hb1 (by simp));have c3:w1.cell? (Ad w.heap.size 3)=some (.slice (some (Ad pb po)) ss.length cP):=aq K1.o 3 rfl;have l0:w1.cell? (Ad pb (po+j*3))=some (.bool true):=(cH.o.cell (p:=(Ad pb (po+j*3))) hbl).trans y0;clear hb1 hm2)
      exact HX.o _ mb cH.o ni Gx.o
 · have Bz:Hid (∀V,Below w.heap.size w V->Calls Tryz.prog 87 #[.agg (bc a k)] V fun e w'=>e=.returned (.tuple #[.pointer none,I (fV k)])/\Below V.heap.size V w'):=fun V hV=>(HL.o V hV).mono fun e w' ⟨hb,h⟩=>by
    grind
   have HX:=ai (fun V hV=>HE.o V (fV k) hV (by grind [Hid.o]) hc);obtain⟨C,hC⟩:=ex (fV k);rw[<- hC] at Bz HX hc;have cb:(C != 0)=true:=by grind
   clear HL HLK hC HE HY HN4 HHP;unfold bc at Bz HKB gB ⊢;obtain⟨aS,cS,aF,cF,aL,cL,aP,cP⟩:=a;obtain⟨hs,fs,ls,ss,hd⟩:=k;simp only at Bz HKB gB ⊢;clear hc;go_enter Tryz.func76,Tryz.ntmps76;go_wp2_with (go_at_call 87;refine(Bz.o _ gB.o).mono ?_;rintro e w1 ⟨rfl,hb1⟩;have cH:=ai (bH gB.o hb1);clear hb1)
   exact HX.o _ cH.o
open Go.RowKit
theorem Tg (p:Int) (e:bD) (x:Nat) (w:World) (hx:w.cell? (Ad x 0)=some (I p)) :
  Calls Tryz.prog 187 #[.agg #[I e.page,I e.kind,I e.loc],.pointer (some (Ad x 0))] w fun r w'=>r=.returned (.bool (decide (e.page=p)))/\Below w.heap.size w w':=by
 obtain⟨pg,kd,lc⟩:=e;simp only;have hxl:x<w.heap.size:=nW w _ hx;have xA:(w.alloc (.cells #[I pg,I kd,I lc] 174)).cell? (Ad x 0)=some (I p):=(Pn ((aK w.heap.size w).alloc (aD _) _) (p:=(Ad x 0)) hxl).trans hx;obtain⟨A,hA⟩:=ex (decide (pg=p));have HA:Hid ((pg==p)=A):=by show _=_;grind
 rw[<- hA];clear hA;have ha:=HA.o;clear HA;go_enter Tryz.func187,Tryz.ntmps187;go_wp2;go_ret;simp[aK,qj]
theorem Ju (F:FuncId) (hF:F=187∨F=298∨F=300) (P:bD->Bool) (es:List bD) (ao:Option Addr) (cap x:Nat) (w:World) (h:eB bw 3 gY w ao es) (hl:es.length<=1000000)
  (hC:∀V e,Below w.heap.size w V->Calls Tryz.prog F #[.agg #[I e.page,I e.kind,I e.loc],.pointer (some (Ad x 0))] V fun r w'=>r=.returned (.bool (P e))/\Below V.heap.size V w') :
  Calls Tryz.prog 186 #[.slice ao es.length cap,.func (.func F) #[] #[.pointer (some (Ad x 0))]] w fun e w' =>
   Below w.heap.size w w'/\((e=.returned (I (-1))/\∀j,j<es.length->P (aX es j)=false)∨∃i:Nat,i<es.length/\e=.returned (I (i:Int))/\P (aX es i)=true/\∀j,j<i->P (aX es j)=false):=by
 have HH:=ai h;have HC:=ai hC;clear h hC;rcases hF with rfl | rfl | rfl
 all_goals
  go_enter Tryz.func186,Tryz.ntmps186;go_wp2;go_loopw [8] (fun iv wr=>∃k:Nat,k<=es.length/\iv=I (k:Int)/\(∀j,j<k->P (aX es j)=false)/\Below w.heap.size w wr) (fun iv _=>es.length-(intOf iv).toNat)
  case atStart=>grind [Below.refl]
  case round =>
   obtain⟨k,hk,rfl,hno,hb⟩:=hrel;have uJ:=ai hno;have HB:=ai hb;clear hno;by_cases hlt:k<es.length
   · have Jj:(k:Int)<(es.length:Int):=by omega
     obtain⟨eb,eo,hao,hbl,eY⟩:=HH.o (by omega);subst hao;have y0:=(hb.cell (p:=(Ad eb (eo+k*3+0))) hbl).trans (eY k hlt 0 (by omega));have y1:=(hb.cell (p:=(Ad eb (eo+k*3+1))) hbl).trans (eY k hlt 1 (by omega));have y2:=(hb.cell (p:=(Ad eb (eo+k*3+2))) hbl).trans (eY k hlt 2 (by omega));rw[mF] at y0;have yG:=ai (HC.o wr (aX es k) hb);obtain⟨G,hG⟩:=ex (P (aX es k));rw[<- hG] at yG;have HG:=ai hG;obtain⟨E,hE⟩:=ex (aX es k);have x0:wr.cell? (Ad eb (eo+k*3))=some (I E.page):=by rw[hE];exact y0
     have x1:wr.cell? (Ad eb (eo+k*3+1))=some (I E.kind):=by rw[hE];exact y1
     have x2:wr.cell? (Ad eb (eo+k*3+2))=some (I E.loc):=by rw[hE];exact y2
     rw[<- hE] at yG;clear hG hE hb y0 y1 y2 eY;cases G with
     | true =>
      go_wp2_with ((first | go_at_call 187 | go_at_call 298 | go_at_call 300);refine yG.o.mono ?_;rintro e w1 ⟨rfl,hb1⟩;have cH:=ai (HB.o.trans (hb1.mono HB.o.size));clear hb1)
      go_ret;exact⟨cH.o,.inr ⟨k,hlt,rfl,HG.o.symm,uJ.o⟩⟩
     | false =>
      go_wp2_with ((first | go_at_call 187 | go_at_call 298 | go_at_call 300);refine yG.o.mono ?_;rintro e w1 ⟨rfl,hb1⟩;have cH:=ai (HB.o.trans (hb1.mono HB.o.size));clear hb1)
      go_roundw
      case rel=>exact⟨k+1,by omega,by go_num,fun j hj=>by
       by_cases q:j=k
       · subst q;exact HG.o.symm
       · exact uJ.o j (by omega),cH.o⟩
      case measure=>simp[intOf];omega
   · obtain rfl:k=es.length:=by omega
     clear hb;go_wp2;go_ret;exact⟨HB.o,.inl ⟨rfl,uJ.o⟩⟩
open Go.RowKit
theorem Tf (es:List bD) (p:Int) (i:Nat) (hi:i<es.length) (h:(aX es i).page=p) (hno:∀j,j<i->¬(aX es j).page=p):bl es p=some (aX es i):=by
 induction es generalizing i with
 | nil=>cases hi
 | cons a r ih =>
  cases i with
  | zero =>
   have h:a.page=p:=h;show(a::r).find? _=some a
   grind
  | succ i =>
   have h0:¬a.page=p:=hno 0 (by omega);show(a::r).find? _=some (aX r i);rw[List.find?_cons,jq h0];exact ih i (Dx hi) h (fun j hj=>hno (j+1) (by omega))
theorem Ws (es:List bD) (p:Int) (hno:∀j,j<es.length->¬(aX es j).page=p):bl es p=none:=qQ.2 fun e he=>by
 obtain⟨j,hj,rfl⟩:=lM gY he;exact hno j hj
def jb (es:List bD) (p:Int):bD×Bool:=match bl es p with
 | some e=>(e,true)
 | none=>(gY,false)
def rQ (e:bD):Value:=.agg #[I e.page,I e.kind,I e.loc]
theorem KY (es:List bD) (p:Int) (j n mb pb po cP:Nat) (ae:Option Addr) (ce:Nat) (w:World) (hm:w.cell? (Ad mb 3)=some (.slice (some (Ad pb po)) n cP)) (hj:j<n) (hce:w.cell? (Ad pb (po+j*3+2))=some (.slice ae es.length ce)) (he:eB bw 3 gY w ae es) (hl:es.length<=1000000) (hn:n<=1000000) :
  Calls Tryz.prog 129 #[.pointer (some (Ad mb 0)),I (j:Int),I p] w fun e w'=>e=.returned (.tuple #[rQ (jb es p).1,.bool (jb es p).2])/\Below w.heap.size w w':=by
 have Ji:=nW w _ hm;have hpl:=nW w _ hce;have Ji:mb<w.heap.size:=Ji;have hpl:pb<w.heap.size:=hpl;have HHE:=ai he;obtain⟨W,hW⟩:=ex ((w.alloc (.cells #[I p] 3)).alloc (.cells #[I 0,I 0,I 0] 174));have gB:Hid (Below w.heap.size w W):=by simp_all [aK,qj]
 have X0:Hid (W.heap[w.heap.size]?=some (.cells #[I p] 3 (0,0))):=by grind [bk,bB]
 have R0:Hid (W.heap[w.heap.size+1]?=some (.cells #[I 0,I 0,I 0] 174 (0,0))):=by
  grind [bB,World.size_alloc]
 have d3:W.cell? (Ad mb 3)=some (.slice (some (Ad pb po)) n cP):=(gB.o.cell (p:=(Ad mb 3)) Ji).trans hm;have d2:W.cell? (Ad pb (po+j*3+2))=some (.slice ae es.length ce):=(gB.o.cell (p:=(Ad pb (po+j*3+2))) hpl).trans hce;have UY:=ai (Ju 187 (.inl rfl) (fun e=>decide (e.page=p)) es ae ce w.heap.size W (he.below gB.o) hl (fun V e hV=>Tg p e w.heap.size V (aq (aN X0.o hV (aJ X0.o)) 0 rfl)));have HF:=ai (Tf es p);have HN:=ai (Ws es p);have hji:(j:Int)<(n:Int):=by omega
 have YA:(0:Int)<=(j:Int):=by omega
 have HW:=ai hW;clear hm hce he hW;by_cases hex:∃j,j<es.length/\(aX es j).page=p
 · obtain⟨j0,apB,apA⟩:=hex;have HI2:Hid (Calls Tryz.prog 186 #[.slice ae es.length ce,.func (.func 187) #[] #[.pointer (some (Ad w.heap.size 0))]] W fun e w'=>∃i:Nat,i<es.length/\e=.returned (I (i:Int))/\jb es p=(aX es i,true)/\Below W.heap.size W w'):=UY.o.mono fun e w' ⟨hb,h⟩=>by
    rcases h with⟨_,hno⟩ | ⟨i,hi,he,alF,hno⟩
    · grind
    · refine⟨i,hi,he,?_,hb⟩;unfold jb;rw[HF.o i hi (by grind) (fun j hj=>by grind)]
   clear UY HF HN apB apA;go_enter Tryz.func129,Tryz.ntmps129;go_upto_region 1 with fail;rw[<- HW.o];go_upto_region 3 with(go_at_call 186;refine HI2.o.mono ?_;rintro e w1 ⟨i,hi,rfl,hen,hb1⟩;have yF:=ai hen;have cH:=ai (gB.o.trans (hb1.mono gB.o.size));have R1:=ai (aN R0.o hb1 (aJ R0.o));clear hb1 hen)
   obtain⟨eb,eo,hao,hbl,eY⟩:=HHE.o (by omega);subst hao;have y0:=(cH.o.cell (p:=(Ad eb (eo+i*3+0))) hbl).trans (eY i hi 0 (by omega));have y1:=(cH.o.cell (p:=(Ad eb (eo+i*3+1))) hbl).trans (eY i hi 1 (by omega));have y2:=(cH.o.cell (p:=(Ad eb (eo+i*3+2))) hbl).trans (eY i hi 2 (by omega));rw[mF] at y0;obtain⟨E,hE⟩:=ex (aX es i);have x0:w1.cell? (Ad eb (eo+i*3))=some (I E.page):=by rw[hE];exact y0
   have x1:w1.cell? (Ad eb (eo+i*3+1))=some (I E.kind):=by rw[hE];exact y1
   have x2:w1.cell? (Ad eb (eo+i*3+2))=some (I E.loc):=by rw[hE];exact y2
   rw[<- hE] at yF;obtain⟨r0,r1,r2⟩:=GU R1.o;have f0:=aO R1.o 0;have f1:=aO R1.o 1;have f2:=aO R1.o 2;have hi1:(i:Int)<(es.length:Int):=by omega
   have hi0:(0:Int)<=(i:Int):=by omega
   clear hE y0 y1 y2 eY;go_wp2;have R2:(((w1.setCell (Ad (w.heap.size+1) 0) (I E.page)).setCell (Ad (w.heap.size+1) 1) (I E.kind)).setCell (Ad (w.heap.size+1) 2) (I E.loc)).heap[w.heap.size+1]?=some (.cells #[I E.page,I E.kind,I E.loc] 174 (0,0)):=fP (fP (fP R1.o 0 _) 1 _) 2 _;obtain⟨v0,v1,v2⟩:=GU R2;refine bI (v:=.tuple #[rQ E,.bool true]) (by simp[results,Tryz.results129,go_sem,rQ,v0,v1,v2]) rfl ?_;rw[yF.o];refine⟨rfl,?_⟩;exact((cH.o.setCell (p:=(Ad (w.heap.size+1) 0)) (by show w.heap.size<=w.heap.size+1;omega) _).setCell (p:=(Ad (w.heap.size+1) 1)) (by show w.heap.size<=w.heap.size+1;omega) _).setCell (p:=(Ad (w.heap.size+1) 2)) (by show w.heap.size<=w.heap.size+1;omega) _
 · have HI2:Hid (Calls Tryz.prog 186 #[.slice ae es.length ce,.func (.func 187) #[] #[.pointer (some (Ad w.heap.size 0))]] W fun e w'=>e=.returned (I (-1))/\Below W.heap.size W w'):=UY.o.mono fun e w' ⟨hb,h⟩=>by
    grind
   have yF:Hid (jb es p=(gY,false)):=by
    show _=_;unfold jb;rw[HN.o (fun j hj e=>hex ⟨j,hj,e⟩)]
   clear UY HF HN hex;go_enter Tryz.func129,Tryz.ntmps129;go_upto_region 1 with fail;rw[<- HW.o];go_upto_region 3 with(go_at_call 186;refine HI2.o.mono ?_;rintro e w1 ⟨rfl,hb1⟩;have cH:=ai (gB.o.trans (hb1.mono gB.o.size));have R1:=ai (aN R0.o hb1 (aJ R0.o));clear hb1)
   obtain⟨r0,r1,r2⟩:=GU R1.o;have f0:=aO R1.o 0;have f1:=aO R1.o 1;have f2:=aO R1.o 2;go_wp2;have R2:(((w1.setCell (Ad (w.heap.size+1) 0) (I 0)).setCell (Ad (w.heap.size+1) 1) (I 0)).setCell (Ad (w.heap.size+1) 2) (I 0)).heap[w.heap.size+1]?=some (.cells #[I 0,I 0,I 0] 174 (0,0)):=fP (fP (fP R1.o 0 _) 1 _) 2 _;obtain⟨v0,v1,v2⟩:=GU R2;refine bI (v:=.tuple #[rQ gY,.bool false]) (by simp[results,Tryz.results129,go_sem,rQ,gY,v0,v1,v2]) rfl ?_;rw[yF.o];refine⟨rfl,?_⟩;exact((cH.o.setCell (p:=(Ad (w.heap.size+1) 0)) (by grind) _).setCell (p:=(Ad (w.heap.size+1) 1)) (by grind) _).setCell (p:=(Ad (w.heap.size+1) 2)) (by grind) _
end Go.Proofs.YtlgoihmkgaaemaaGreat
