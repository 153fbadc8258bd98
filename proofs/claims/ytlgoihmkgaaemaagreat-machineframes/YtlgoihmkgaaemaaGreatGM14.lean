import Derived.Test.YtlgoihmkgaaemaaGreatGM13
import Derived.Great.Ranges
set_option maxHeartbeats 20000000
set_option linter.unusedVariables false
set_option maxRecDepth 100000
set_option linter.unusedSimpArgs false
namespace Go.Proofs.YtlgoihmkgaaemaaGreat
open Go.RowKit
def sK (w:World) (a:ja) (k:aR) (e:Ending) (w':World):Prop:=Below w.heap.size w w'/\((gh k=0/\∃mb,e=.returned (.tuple #[.pointer (some (Ad mb 0)),I 0])/\w.heap.size<=mb/\w'.heap[mb]?=some (.cells (mD (.slice a.aS k.aM.length a.cS) (.slice a.aF k.frames.length a.cF) (.slice a.aL k.slots.length a.cL) (.slice a.aP k.aj.length a.cP) (I k.hand) (lY k.aM k.aM.length)) 158 (0,0)))∨(gh k≠0/\e=.returned (.tuple #[.pointer none,I (gh k)])))
theorem M5 {w:World} {mb:Nat} {hs:List bG} {a b c d e:Value} (h:w.heap[mb]?=some (.cells (mD a b c d e (lY hs hs.length)) 158 (0,0))) (hr:gS hs=true):∀n:Nat,n<256->w.cell? (Ad mb (5+n))=some (.string (eV hs n)):=fun n hn=>(aq h (5+n) (Qs a b c d e _ n hn)).trans (by grind [Fp])
theorem Vy (k:aR) (a:ja) (w:World) (hK:jo w a k) (hF:o7 k) (hc:nk k=true):Calls Tryz.prog 87 #[.agg (bc a k)] w (sK w a k):=by
 have hcc:=oI hc;have uP:Hid (∀w',Below w.heap.size w w'->CJ k=false->sK w a k (.returned (.tuple #[.pointer none,I 1])) w'):=fun w' hb hf=>by
  have e:gh k=1:=by grind [gh]
  exact⟨hb,.inr ⟨by omega,by rw[e]⟩⟩
 have ER:Hid (∀w' mb,Below w.heap.size w w'->CJ k=true->w.heap.size<=mb->w'.heap[mb]?=some (.cells (mD (.slice a.aS k.aM.length a.cS) (.slice a.aF k.frames.length a.cF) (.slice a.aL k.slots.length a.cL) (.slice a.aP k.aj.length a.cP) (I k.hand) (lY k.aM k.aM.length)) 158 (0,0))->sK w a k (.returned (.tuple #[.pointer (some (Ad mb 0)),I 0])) w'):=fun w' mb hb hf hm hh=>by
  have e:gh k=0:=by grind [gh]
  exact⟨hb,.inl ⟨e,mb,rfl,hm,hh⟩⟩
 obtain⟨P,hP⟩:=ex (sK w a k);rw[<- hP] at uP ER ⊢;clear hP;unfold bc;have HC:Hid (∀V,Calls Tryz.prog 139 #[.agg #[.slice a.aS k.aM.length a.cS,.slice a.aF k.frames.length a.cF,.slice a.aL k.slots.length a.cL,.slice a.aP k.aj.length a.cP,I k.hand]] V fun e w'=>e=.returned (.bool true)/\Below V.heap.size V w'):=fun V=>by
  have:=H0 a.aS a.aF a.aL a.aP k.aM.length a.cS k.frames.length a.cF k.slots.length a.cL k.aj.length a.cP (I k.hand) V;rw[gU hcc] at this;exact this
 have HUP:=ai (@Sy k);have HSB:=ai (TZ k.aM k.aj (List.replicate k.frames.length dx,List.replicate k.slots.length dx) k.frames.length k.slots.length (TY _) (TY _));have HSF:=ai (KG k.aM k.aj (List.replicate k.frames.length dx,List.replicate k.slots.length dx));obtain⟨hKS,hKF,hKL,hKP⟩:=hK;obtain⟨fS,fnF,ffr,fnS,fsl,fnP,fsp,fhd⟩:=hF;have HKS:=ai hKS;have HKF:=ai hKF;have HKL:=ai hKL;have HKP:=ai hKP;have HFS:=ai fS;have HFR:=ai ffr;have HSL:=ai fsl;have Ha:=ai fsp;clear hKS hKF hKL hKP fS ffr fsl fsp hc fnF fnS fnP;obtain⟨aS,cS,aF,cF,aL,cL,aP,cP⟩:=a;obtain⟨hs,fs,ls,ss,hd⟩:=k;unfold CJ zL at *;simp only at HC hcc uP ER HUP HSB HSF HKS HKF HKL HKP HFS HFR HSL Ha fhd ⊢;have BK:=ai (bD w #[.slice aS hs.length cS,.slice aF fs.length cF,.slice aL ls.length cL,.slice aP ss.length cP,I hd] 30);have Om:=ai ((aJ w.heap.size w).alloc (aH _) (.cells #[.slice aS hs.length cS,.slice aF fs.length cF,.slice aL ls.length cL,.slice aP ss.length cP,I hd] 30));go_enter Tryz.func87,Tryz.ntmps87;go_upto_region 3 with(go_at_call 139;refine(HC.o _).mono ?_;rintro e w1 ⟨rfl,hb1⟩;have af5:=ai (bU Om.o hb1);have BK1:=ai (aN BK.o hb1 (by simp));clear hb1)
 refine wp_region_lit ?_;refine C7 rfl 30 _ rfl w.heap.size rfl 30 _ (0,0) _ BK1.o Tryz.underlying30 rfl (by rfl) ?_;refine Oa rfl 158 _ rfl (.agg #[.slice aS hs.length cS,.slice aF fs.length cF,.slice aL ls.length cL,.slice aP ss.length cP,I hd]) (by rfl) _ (adA _ _ _ _ _) ?_;have HM:=ai (bD w1 (mD (.slice aS hs.length cS) (.slice aF fs.length cF) (.slice aL ls.length cL) (.slice aP ss.length cP) (I hd) sI) 158);have BK2:=ai (bl BK1.o (.cells (mD (.slice aS hs.length cS) (.slice aF fs.length cF) (.slice aL ls.length cL) (.slice aP ss.length cP) (I hd) sI) 158));have ahL:=ai (af5.o.alloc af5.o.size (.cells (mD (.slice aS hs.length cS) (.slice aF fs.length cF) (.slice aL ls.length cL) (.slice aP ss.length cP) (I hd) sI) 158));have rz:w.heap.size<w1.heap.size:=aI BK1.o;refine Go.Great.wpList_boxTo rfl 158 _ rfl _ rfl w1.heap.size rfl (mD (.slice aS hs.length cS) (.slice aF fs.length cF) (.slice aL ls.length cL) (.slice aP ss.length cP) (I hd) sI) (by rfl) ?_;obtain⟨W,hW⟩:=ex (w1.alloc (.cells (mD (.slice aS hs.length cS) (.slice aF fs.length cF) (.slice aL ls.length cL) (.slice aP ss.length cP) (I hd) sI) 158));rw[<- hW] at HM BK2 ahL ⊢;obtain⟨mb,hmb⟩:=ex w1.heap.size;rw[<- hmb] at HM rz ⊢;obtain⟨kb,hkb⟩:=ex w.heap.size;have akF:w.heap.size<=mb:=by omega
 have aub:w.heap.size<=kb:=by omega
 have agR:¬kb=mb:=by omega
 rw[<- hkb] at BK2 ⊢;have d1:W.cell? (Ad kb 1)=some (.slice aF fs.length cF):=aq BK2.o 1 rfl;have d2:W.cell? (Ad kb 2)=some (.slice aL ls.length cL):=aq BK2.o 2 rfl;clear hW hmb hkb BK BK1 HC Om af5;have GU:fs.length<=1000:=by omega
 have hn3:ls.length<=1000:=by omega
 have e2:∀V:World,(Instr.makeSlice 250 (I (fs.length:Int)) (I (fs.length:Int))).run Tryz.prog V=.ok (.slice (some (Ad V.heap.size 0)) fs.length fs.length) (V.alloc (.cells (wK fs.length) 302)):=fun V=>acG V fs.length GU
 have e3:∀V:World,(Instr.makeSlice 250 (I (ls.length:Int)) (I (ls.length:Int))).run Tryz.prog V=.ok (.slice (some (Ad V.heap.size 0)) ls.length ls.length) (V.alloc (.cells (wK ls.length) 302)):=fun V=>acG V ls.length hn3
 have d1A:(W.alloc (.cells (wK ls.length) 302)).cell? (Ad kb 1)=some (.slice aF fs.length cF):=aq (bl BK2.o _) 1 rfl;have d2A:(W.alloc (.cells (wK fs.length) 302)).cell? (Ad kb 2)=some (.slice aL ls.length cL):=aq (bl BK2.o _) 2 rfl;have q1:=ai (G1 W.heap.size W fs.length (aH _) GU);have q2:=ai (G1 W.heap.size (W.alloc (.cells (wK fs.length) 302)) ls.length (by simp) hn3);have q3:=ai (G1 W.heap.size W ls.length (aH _) hn3);have q4:=ai (G1 W.heap.size (W.alloc (.cells (wK ls.length) 302)) fs.length (by simp) GU);rw[fM] at q2 q4;have q5:=ai (((aJ W.heap.size W).alloc (aH _) (.cells (wK fs.length) 302)).alloc (by simp) (.cells (wK ls.length) 302));have q6:=ai (((aJ W.heap.size W).alloc (aH _) (.cells (wK ls.length) 302)).alloc (by simp) (.cells (wK fs.length) 302));go_upto_region 4 with fail;go_cut [5,6] (fun x5 x6 wx=>∃gf gs:Nat,x5=.slice (some (Ad gf 0)) fs.length fs.length/\x6=.slice (some (Ad gs 0)) ls.length ls.length/\¬gf=gs/\gW W.heap.size wx gf fs.length fs.length (List.replicate fs.length dx)/\gW W.heap.size wx gs ls.length ls.length (List.replicate ls.length dx)/\Below W.heap.size W wx)
 case first =>
  go_region
  all_goals
   go_wp2_with fail
   go_meet
   case rel=>first | exact⟨_,_,rfl,rfl,by simp,(q1.out.kp (aC.alloc (fun _=>False) _ _) (fun x=>x)).d,q2.out.d,q5.out.drew⟩ | exact⟨_,_,rfl,rfl,by simp,q4.out.d,(q3.out.kp (aC.alloc (fun _=>False) _ _) (fun x=>x)).d,q6.out.drew⟩
 case rest =>
  obtain⟨gf,gs,rfl,rfl,hne,hof,hos,hbx⟩:=hcut;clear q1 q2 q3 q4 q5 q6 e2 e3 d1A d2A d1 d2;have hgf:=hof.lt;have hgs:=hos.lt;have HOF:=ai hof;have HOS:=ai hos;have hmW:=aI HM.o;have hkW:=aI BK2.o;have HMX:=ai (aN HM.o hbx hmW);have BKX:=ai (aN BK2.o hbx hkW);have kX:=ai (ahL.o.trans (hbx.mono ahL.o.size));have adV:=ai (KC hs aS cS mb (.slice aF fs.length cF) (.slice aL ls.length cL) (.slice aP ss.length cP) (I hd) w wc HKS.o HFS.o kX.o akF HMX.o (by omega));clear hof hos hbx HM BK2 ahL;have D8:Hid (∀V,Below w.heap.size w V->(gS hs=false∨hd<0∨(fs.length:Int)<=hd)->P (.returned (.tuple #[.pointer none,I 1])) V):=fun V hV g=>uP.o V hV (by
   rcases g with g | g | g
   · rw[g];rfl
   · rw[je (by omega)];simp
   · rw[je (by omega)];simp)
  obtain⟨RB,hRB⟩:=ex (gS hs);have Mp:=ai hRB;rw[<- hRB] at adV D8;clear hRB;cases RB with
  | false =>
   go_wp2_with (go_at_call 140;refine adV.o.mono ?_;rintro e w2 ⟨rfl,hk2,G,hG,hg⟩;have gP:=ai (hk2.below kX.o kX.o.size (fun b hb=>(by omega)));have BK3:=ai (hk2.keep BKX.o agR);clear hk2 hG hg)
   exact D8.o _ gP.o (.inl trivial)
  | true =>
   rcases(show hd<0∨(0<=hd/\(fs.length:Int)<=hd)∨(0<=hd/\hd<(fs.length:Int)) by omega) with g | ⟨g1,g2⟩ | ⟨g1,g2⟩
   · go_wp2_with (go_at_call 140;refine adV.o.mono ?_;rintro e w2 ⟨rfl,hk2,G,hG,hg⟩;have gP:=ai (hk2.below kX.o kX.o.size (fun b hb=>(by omega)));have BK3:=ai (hk2.keep BKX.o agR);have HGG:=ai hg;have m4:w2.cell? (Ad kb 4)=some (I hd):=aq BK3.o 4 rfl;clear hk2 hG hg)
     exact D8.o _ gP.o (.inr (.inl g))
   · go_wp2_with (go_at_call 140;refine adV.o.mono ?_;rintro e w2 ⟨rfl,hk2,G,hG,hg⟩;have gP:=ai (hk2.below kX.o kX.o.size (fun b hb=>(by omega)));have BK3:=ai (hk2.keep BKX.o agR);have HGG:=ai hg;have m1:w2.cell? (Ad kb 1)=some (.slice aF fs.length cF):=aq BK3.o 1 rfl;have m4:w2.cell? (Ad kb 4)=some (I hd):=aq BK3.o 4 rfl;clear hk2 hG hg)
     exact D8.o _ gP.o (.inr (.inr g2))
   · go_wp2_with (go_at_call 140;refine adV.o.mono ?_;rintro e w2 ⟨rfl,hk2,G,hG,hg⟩;have gP:=ai (hk2.below kX.o kX.o.size (fun b hb=>(by omega)));have BK3:=ai (hk2.keep BKX.o agR);have HG:=ai hG;have HGG:=ai hg;have OF2:=ai (HOF.o.kp hk2 (by omega));have OS2:=ai (HOS.o.kp hk2 (by omega));have m1:w2.cell? (Ad kb 1)=some (.slice aF fs.length cF):=aq BK3.o 1 rfl;have m3:w2.cell? (Ad kb 3)=some (.slice aP ss.length cP):=aq BK3.o 3 rfl;have m4:w2.cell? (Ad kb 4)=some (I hd):=aq BK3.o 4 rfl;clear hk2 hG hg)
     have HG2:Hid (w2.heap[mb]?=some (.cells (mD (.slice aS hs.length cS) (.slice aF fs.length cF) (.slice aL ls.length cL) (.slice aP ss.length cP) (I hd) (lY hs hs.length)) 158 (0,0))):=by
      have:=HG.o;rw[HGG.o trivial] at this;exact this
     clear adV D8 HG HGG HMX BKX kX HOF HOS m4;go_loopw [42] (fun iv wr=>∃k:Nat,k<=ss.length/\iv=I (k:Int)/\nQ hs ss (List.replicate fs.length dx,List.replicate ls.length dx) k=true/\Below w.heap.size w wr/\wr.heap[mb]?=some (.cells (mD (.slice aS hs.length cS) (.slice aF fs.length cF) (.slice aL ls.length cL) (.slice aP ss.length cP) (I hd) (lY hs hs.length)) 158 (0,0))/\wr.heap[kb]?=some (.cells #[.slice aS hs.length cS,.slice aF fs.length cF,.slice aL ls.length cL,.slice aP ss.length cP,I hd] 30 (0,0))/\gW W.heap.size wr gf fs.length fs.length (ky ss (List.replicate fs.length dx,List.replicate ls.length dx) k).1/\gW W.heap.size wr gs ls.length ls.length (ky ss (List.replicate fs.length dx,List.replicate ls.length dx) k).2) (fun iv _=>ss.length-(intOf iv).toNat)
     case atStart=>exact⟨0,by omega,rfl,rfl,gP.o,HG2.o,BK3.o,OF2.o,OS2.o⟩
     case round =>
      obtain⟨k,hk,rfl,IU,hb,hmm,hkk,hof,hos⟩:=hrel;have alS:=ai IU;have HB:=ai hb;have QY:=ai hmm;have HKK:=ai hkk;have HOF:=ai hof;have HOS:=ai hos;have m2:wr.cell? (Ad kb 2)=some (.slice aL ls.length cL):=aq hkk 2 rfl;by_cases hlt:k<ss.length
      · obtain⟨pb,po,hao,hbl,eX⟩:=HKP.o (by omega);subst hao;obtain⟨va,ap,cp,c0,c1,c2,c3,c4,c5⟩:=eX k hlt;obtain⟨aa,ca,IP,_⟩:=id c3;subst IP;have hfit:=Ha.o k hlt;have x0:=(hb.cell (p:=(Ad pb (po+k*3))) hbl).trans c0;have x1:=(hb.cell (p:=(Ad pb (po+k*3+1))) hbl).trans c1;have x2:=(hb.cell (p:=(Ad pb (po+k*3+2))) hbl).trans c2;have hbs:=hb.size;have hbd:=HSB.o k (by omega) IU;have ajN:Hid (∀V,Below w.heap.size w V->nQ hs ss (List.replicate fs.length dx,List.replicate ls.length dx) (k+1)=false->P (.returned (.tuple #[.pointer none,I 1])) V):=fun V hV g=>uP.o V hV (by rw[HSF.o (k+1) ss.length hlt g];simp)
        have HSN:Hid (nQ hs ss (List.replicate fs.length dx,List.replicate ls.length dx) (k+1)=(pF hs (ak ss k)&&jN (ak ss k).aT (ak ss k).bf (ky ss (List.replicate fs.length dx,List.replicate ls.length dx) k) (ak ss k).bf.length)):=by grind [nQ]
        have HUN:Hid (ky ss (List.replicate fs.length dx,List.replicate ls.length dx) (k+1)=jr (ak ss k).aT (ak ss k).bf (ky ss (List.replicate fs.length dx,List.replicate ls.length dx) k) (ak ss k).bf.length):=rfl;have ac4:=aI hmm;have Zf:=ai (Kv hs (ak ss k) (.slice aa (ak ss k).aT.length ca) ap cp mb (wr.alloc (.cells #[.bool (ak ss k).live,.slice aa (ak ss k).aT.length ca,.slice ap (ak ss k).bf.length cp] 99)) (c3.below (hb.alloc hb.size _)) hfit (by simp;omega) (M5 (bl hmm _) Mp.o.symm));have Hi:Hid (∀V,Below w.heap.size w V->gW W.heap.size V gf fs.length fs.length (ky ss (List.replicate fs.length dx,List.replicate ls.length dx) k).1->gW W.heap.size V gs ls.length ls.length (ky ss (List.replicate fs.length dx,List.replicate ls.length dx) k).2->Calls Tryz.prog 142 #[.agg #[.bool (ak ss k).live,.slice aa (ak ss k).aT.length ca,.slice ap (ak ss k).bf.length cp],.slice (some (Ad gf 0)) fs.length fs.length,.slice (some (Ad gs 0)) ls.length ls.length] V fun x w'=>x=.returned (.bool (jN (ak ss k).aT (ak ss k).bf (ky ss (List.replicate fs.length dx,List.replicate ls.length dx) k) (ak ss k).bf.length))/\aC (fun b=>b=gf∨b=gs) V w'/\(jN (ak ss k).aT (ak ss k).bf (ky ss (List.replicate fs.length dx,List.replicate ls.length dx) k) (ak ss k).bf.length=true->gW W.heap.size w' gf fs.length fs.length (jr (ak ss k).aT (ak ss k).bf (ky ss (List.replicate fs.length dx,List.replicate ls.length dx) k) (ak ss k).bf.length).1/\gW W.heap.size w' gs ls.length ls.length (jr (ak ss k).aT (ak ss k).bf (ky ss (List.replicate fs.length dx,List.replicate ls.length dx) k) (ak ss k).bf.length).2)):=fun V hV h1 h2=>Hg (ak ss k) (.slice aa (ak ss k).aT.length ca) ap cp (ky ss (List.replicate fs.length dx,List.replicate ls.length dx) k).1 (ky ss (List.replicate fs.length dx,List.replicate ls.length dx) k).2 W.heap.size gf fs.length fs.length gs ls.length ls.length (255*k) w V c3 c4 hfit hV (by omega) h1 h2 hne hbd.1 hbd.2 (by omega) GU hn3
        obtain⟨RS,hRS⟩:=ex (pF hs (ak ss k));obtain⟨EB,hEB⟩:=ex (jN (ak ss k).aT (ak ss k).bf (ky ss (List.replicate fs.length dx,List.replicate ls.length dx) k) (ak ss k).bf.length);rw[<- hRS] at Zf HSN;rw[<- hEB] at Hi HSN;obtain⟨lv,hlv⟩:=ex ((ak ss k).live);obtain⟨na,qV⟩:=ex ((ak ss k).aT.length);obtain⟨ne,hnE⟩:=ex ((ak ss k).bf.length);rw[<- hlv,<- qV,<- hnE] at Zf;rw[<- hlv,<- qV] at Hi;rw[<- hlv] at x0;rw[<- qV] at x1;rw[<- hnE] at x2;rw[<- hnE] at Hi HUN;have jQ:=ai (hb.alloc hb.size (.cells #[.bool lv,.slice aa na ca,.slice ap ne cp] 99));have MA:=ai (bl hmm (.cells #[.bool lv,.slice aa na ca,.slice ap ne cp] 99));have KA:=ai (bl hkk (.cells #[.bool lv,.slice aa na ca,.slice ap ne cp] 99));have OA:=ai (hof.kp (aC.alloc (fun _=>False) wr (.cells #[.bool lv,.slice aa na ca,.slice ap ne cp] 99)) (fun x=>x));have OB:=ai (hos.kp (aC.alloc (fun _=>False) wr (.cells #[.bool lv,.slice aa na ca,.slice ap ne cp] 99)) (fun x=>x));have SB:=ai (bD wr #[.bool lv,.slice aa na ca,.slice ap ne cp] 99);clear hRS hEB hlv qV hnE c0 c1 c2 c3 c4 c5 eX hfit hbd IU hb hmm hkk hof hos HSB HSF uP ER HUP HKS HKF HKL HKP HFS HFR HSL Ha QY HKK HOF HOS gP HG2 BK3 OF2 OS2 m1 m3 m2;cases RS with
        | false =>
         have HX:=ai (ajN.o);have ahp:Hid (nQ hs ss (List.replicate fs.length dx,List.replicate ls.length dx) (k+1)=false):=HSN;clear HSN Hi;go_wp2_with (go_at_call 141;refine Zf.o.mono ?_;rintro e w3 ⟨rfl,hb3⟩;have m7:=ai (bU jQ.o hb3);have SB3:=ai (aN SB.o hb3 (aI SB.o));clear hb3)
         exact HX.o _ m7.o ahp.o
        | true =>
         cases EB with
         | false =>
          have HX:=ai (ajN.o);have ahp:Hid (nQ hs ss (List.replicate fs.length dx,List.replicate ls.length dx) (k+1)=false):=HSN;clear HSN;go_wp2_with (first | (go_at_call 141;refine Zf.o.mono ?_;rintro e w3 ⟨rfl,hb3⟩;have m7:=ai (bU jQ.o hb3);have M3:=ai (aN MA.o hb3 (aI MA.o));have KB3:=ai (aN KA.o hb3 (aI KA.o));have O3:=ai (OA.o.kp (aC.bY (D:=fun _=>False) hb3) (fun x=>x));have S3:=ai (OB.o.kp (aC.bY (D:=fun _=>False) hb3) (fun x=>x));have SB3:=ai (aN SB.o hb3 (aI SB.o));have v0:w3.cell? (Ad wr.heap.size 0)=some (.bool lv):=aq SB3.o 0 rfl;have v1:w3.cell? (Ad wr.heap.size 1)=some (.slice aa na ca):=aq SB3.o 1 rfl;have v2:w3.cell? (Ad wr.heap.size 2)=some (.slice ap ne cp):=aq SB3.o 2 rfl;clear hb3) | (go_at_call 142;refine(Hi.o _ m7.o O3.o S3.o).mono ?_;rintro e w4 ⟨rfl,hk4,ho4⟩;have sX:=ai (hk4.below m7.o m7.o.size (fun b hb=>(by omega)));clear hk4 ho4))
          exact HX.o _ sX.o ahp.o
         | true =>
          have ahp:Hid (nQ hs ss (List.replicate fs.length dx,List.replicate ls.length dx) (k+1)=true):=HSN;clear HSN ajN;go_wp2_with (first | (go_at_call 141;refine Zf.o.mono ?_;rintro e w3 ⟨rfl,hb3⟩;have m7:=ai (bU jQ.o hb3);have M3:=ai (aN MA.o hb3 (aI MA.o));have KB3:=ai (aN KA.o hb3 (aI KA.o));have O3:=ai (OA.o.kp (aC.bY (D:=fun _=>False) hb3) (fun x=>x));have S3:=ai (OB.o.kp (aC.bY (D:=fun _=>False) hb3) (fun x=>x));have SB3:=ai (aN SB.o hb3 (aI SB.o));have v0:w3.cell? (Ad wr.heap.size 0)=some (.bool lv):=aq SB3.o 0 rfl;have v1:w3.cell? (Ad wr.heap.size 1)=some (.slice aa na ca):=aq SB3.o 1 rfl;have v2:w3.cell? (Ad wr.heap.size 2)=some (.slice ap ne cp):=aq SB3.o 2 rfl;clear hb3) | (go_at_call 142;refine(Hi.o _ m7.o O3.o S3.o).mono ?_;rintro e w4 ⟨rfl,hk4,ho4⟩;have sX:=ai (hk4.below m7.o m7.o.size (fun b hb=>(by omega)));have M4:=ai (hk4.keep M3.o (by omega));have KB4:=ai (hk4.keep KB3.o (by omega));have HO4:=ai ho4;clear hk4 ho4))
          grind [intOf,Hid.o]
      · obtain rfl:k=ss.length:=by omega
        have mB:=hmm;have p1:wr.cell? (Ad mb 1)=some (.slice aF fs.length cF):=aq mB 1 rfl;have p2:wr.cell? (Ad mb 2)=some (.slice aL ls.length cL):=aq mB 2 rfl;have p3:wr.cell? (Ad mb 3)=some (.slice aP ss.length cP):=aq mB 3 rfl;have ac4:=aI hmm;have auG:=aI hkk;have hbd:=HSB.o ss.length (aH _) IU;have Nv:Hid (∀V,Below wr.heap.size wr V->Calls Tryz.prog 143 #[.pointer (some (Ad mb 0))] V fun e w'=>e=.returned (I (dZ ss))/\Below V.heap.size V w'):=fun V hV=>DG ss aP cP mb V (HKP.o.below (hb.trans (hV.mono hb.size))) (fun j hj=>(Ha.o j hj).aT) (by omega) ((hV.cell (p:=(Ad mb 3)) ac4).trans p3)
        have Lg:Hid (∀V,Below wr.heap.size wr V->Calls Tryz.prog 144 #[.pointer (some (Ad mb 0)),.slice (some (Ad gf 0)) fs.length fs.length] V fun e w'=>e=.returned (.bool ((List.range fs.length).all fun i=>jJ hs (aD fs i) (cU (ky ss (List.replicate fs.length dx,List.replicate ls.length dx) ss.length).1 i)))/\Below V.heap.size V w'):=fun V hV=>Jb hs fs _ aF cF mb W.heap.size gf fs.length V (HKF.o.below (hb.trans (hV.mono hb.size))) (hof.kp (aC.bY (D:=fun _=>False) hV) (fun x=>x)) (fV ac4 hV.size) ((hV.cell (p:=(Ad mb 1)) ac4).trans p1) (M5 (aN mB hV ac4) Mp.o.symm) (fun i hi=>HUP.o Mp.o.symm IU i hi) (fun i hi=>(HFR.o i hi).1) (by omega)
        have HRL:Hid (∀V,Below wr.heap.size wr V->Calls Tryz.prog 145 #[.pointer (some (Ad mb 0)),.slice (some (Ad gs 0)) ls.length ls.length] V fun e w'=>e=.returned (.bool ((List.range ls.length).all fun i=>lZ (bE ls i) (cU (ky ss (List.replicate fs.length dx,List.replicate ls.length dx) ss.length).2 i)))/\Below V.heap.size V w'):=fun V hV=>Kw ls _ aL cL mb W.heap.size gs ls.length V (HKL.o.below (hb.trans (hV.mono hb.size))) (hos.kp (aC.bY (D:=fun _=>False) hV) (fun x=>x)) ((hV.cell (p:=(Ad mb 2)) ac4).trans p2) (fun i hi=>(hbd.2.2 i hi).1) (fun i hi=>(HSL.o i hi).1) (by omega)
        have Wm:=uP;have T9:=ER;rw[Mp.o.symm,alS.o,gU (show 0<=hd/\hd<(fs.length:Int) from⟨g1,g2⟩)] at Wm T9;obtain⟨RF,hRF⟩:=ex ((List.range fs.length).all fun i=>jJ hs (aD fs i) (cU (ky ss (List.replicate fs.length dx,List.replicate ls.length dx) ss.length).1 i));obtain⟨RL,hRL⟩:=ex ((List.range ls.length).all fun i=>lZ (bE ls i) (cU (ky ss (List.replicate fs.length dx,List.replicate ls.length dx) ss.length).2 i));obtain⟨RM,hRM⟩:=ex (dZ ss);rw[<- hRF] at Lg Wm T9;rw[<- hRL] at HRL Wm T9;rw[<- hRM] at Nv Wm T9;have Cv:=jh wr;have k2:∀x:dM wr.heap.size wr,x.world.cell? (Ad kb 2)=some (.slice aL ls.length cL):=fun x=>by grind [fH]
        clear hRF hRL hRM hbd IU hb hmm hkk hof hos HSB HSF uP ER HUP HKS HKF HKL HKP HFS HFR HSL Ha HKK HOF HOS gP HG2 BK3 OF2 OS2 m1 m3 m2 p1 p2 p3 mB alS;go_upto_region 13 with fail;by_cases c:RM<=(ls.length:Int)
        · have c2:decide ((ls.length:Int)<RM)=false:=je (by omega);rw[gU c] at Wm T9;cases RF with
          | false =>
           refine di (by rfl) (by kernel_rfl) ?_
           repeat (first | go_big_quiet_step ((first | (go_at_call 143;exact fW _ Nv.o) | (go_at_call 144;exact fW _ Lg.o))) | quiet_step ((first | (go_at_call 143;exact fW _ Nv.o) | (go_at_call 144;exact fW _ Lg.o))))
           refine jd ?_;rintro _ ⟨x,rfl⟩;have kX:=ai (HB.o.trans (x.keeps.mono HB.o.size));clear Nv Lg HRL k2;go_wp2;exact Wm.o _ kX.o (by simp)
          | true =>
           cases RL with
           | false =>
            refine di (by rfl) (by kernel_rfl) ?_
            repeat (first | go_big_quiet_step ((first | (go_at_call 143;exact fW _ Nv.o) | (go_at_call 144;exact fW _ Lg.o) | (go_at_call 145;exact fW _ HRL.o))) | quiet_step ((first | (go_at_call 143;exact fW _ Nv.o) | (go_at_call 144;exact fW _ Lg.o) | (go_at_call 145;exact fW _ HRL.o))))
            refine jd ?_;rintro _ ⟨x,rfl⟩;have kX:=ai (HB.o.trans (x.keeps.mono HB.o.size));clear Nv Lg HRL k2;go_wp2;exact Wm.o _ kX.o (by simp)
           | true =>
            refine di (by rfl) (by kernel_rfl) ?_
            repeat (first | go_big_quiet_step ((first | (go_at_call 143;exact fW _ Nv.o) | (go_at_call 144;exact fW _ Lg.o) | (go_at_call 145;exact fW _ HRL.o))) | quiet_step ((first | (go_at_call 143;exact fW _ Nv.o) | (go_at_call 144;exact fW _ Lg.o) | (go_at_call 145;exact fW _ HRL.o))))
            refine jd ?_;rintro _ ⟨x,rfl⟩;have kX:=ai (HB.o.trans (x.keeps.mono HB.o.size));have MX:=ai (aN QY.o x.keeps (aI QY.o));clear Nv Lg HRL k2;go_wp2;exact T9.o _ mb kX.o (by simp) akF MX.o
        · have c2:decide ((ls.length:Int)<RM)=true:=gU (by omega);rw[je c] at Wm;refine di (by rfl) (by kernel_rfl) ?_
          repeat (first | go_big_quiet_step ((go_at_call 143;exact fW _ Nv.o)) | quiet_step ((go_at_call 143;exact fW _ Nv.o)))
          refine jd ?_;rintro _ ⟨x,rfl⟩;have kX:=ai (HB.o.trans (x.keeps.mono HB.o.size));clear Nv Lg HRL k2;go_wp2;exact Wm.o _ kX.o (by simp)
open Go.RowKit
theorem YB (k:aR) (a:ja) (w:World) (hc:nk k=false):Calls Tryz.prog 87 #[.agg (bc a k)] w (sK w a k):=by
 have hcc:=qB hc;have uP:Hid (∀w',Below w.heap.size w w'->sK w a k (.returned (.tuple #[.pointer none,I 2])) w'):=fun w' hb=>by
  have e:gh k=2:=by grind [gh]
  exact⟨hb,.inr ⟨by omega,by rw[e]⟩⟩
 obtain⟨P,hP⟩:=ex (sK w a k);rw[<- hP] at uP ⊢;clear hP;unfold bc;have HC:Hid (∀V,Calls Tryz.prog 139 #[.agg #[.slice a.aS k.aM.length a.cS,.slice a.aF k.frames.length a.cF,.slice a.aL k.slots.length a.cL,.slice a.aP k.aj.length a.cP,I k.hand]] V fun e w'=>e=.returned (.bool false)/\Below V.heap.size V w'):=fun V=>by
  have:=H0 a.aS a.aF a.aL a.aP k.aM.length a.cS k.frames.length a.cF k.slots.length a.cL k.aj.length a.cP (I k.hand) V;rw[je hcc] at this;exact this
 obtain⟨aS,cS,aF,cF,aL,cL,aP,cP⟩:=a;obtain⟨hs,fs,ls,ss,hd⟩:=k;simp only at HC ⊢;have Om:=ai ((aJ w.heap.size w).alloc (aH _) (.cells #[.slice aS hs.length cS,.slice aF fs.length cF,.slice aL ls.length cL,.slice aP ss.length cP,I hd] 30));clear hc hcc;go_enter Tryz.func87,Tryz.ntmps87;go_wp2_with (go_at_call 139;refine(HC.o _).mono ?_;rintro e w1 ⟨rfl,hb1⟩;have af5:=ai (bU Om.o hb1);clear hb1)
 exact uP.o _ af5.o
theorem M6 (k:aR) (a:ja) (w:World) (hK:jo w a k) (hF:o7 k):Calls Tryz.prog 87 #[.agg (bc a k)] w (sK w a k):=by
 cases hc:nk k with
 | true=>exact Vy k a w hK hF hc
 | false=>exact YB k a w hc
theorem VD (k:aR) (a:ja) (w:World) (hK:jo w a k) (hF:o7 k):Calls Tryz.prog 40 #[.agg (bc a k)] w fun e w'=>e=.returned (I (gh k))/\Below w.heap.size w w':=by
 have HL:Hid (∀V,Below w.heap.size w V->Calls Tryz.prog 87 #[.agg (bc a k)] V fun e w'=>∃v,e=.returned (.tuple #[v,I (gh k)])/\Below V.heap.size V w'):=fun V hV=>(M6 k a V (hK.below hV) hF).mono fun e w' ⟨hb,h⟩=>by
  grind
 obtain⟨C,hC⟩:=ex (gh k);rw[<- hC] at HL ⊢;unfold bc at HL ⊢;obtain⟨aS,cS,aF,cF,aL,cL,aP,cP⟩:=a;obtain⟨hs,fs,ls,ss,hd⟩:=k;simp only at HL ⊢;clear hC hK hF;have Om:=ai ((aJ w.heap.size w).alloc (aH _) (.cells #[.slice aS hs.length cS,.slice aF fs.length cF,.slice aL ls.length cL,.slice aP ss.length cP,I hd] 30));go_enter Tryz.func40,Tryz.ntmps40;go_wp2_with (go_at_call 87;refine(HL.o _ Om.o).mono ?_;rintro e w1 ⟨v,rfl,hb1⟩;have cM:=ai (bU Om.o hb1);clear hb1)
 go_ret;exact⟨rfl,cM.o⟩
open Go.RowKit
def fB (k:aR) (sp:Int):Int:=if gh k=0 then (if 0<=sp/\sp<(k.aj.length:Int)/\(ak k.aj sp.toNat).live=true then 0 else 6) else gh k
def m9 (a:ja) (k:aR):Array Value:=mD (.slice a.aS k.aM.length a.cS) (.slice a.aF k.frames.length a.cF) (.slice a.aL k.slots.length a.cL) (.slice a.aP k.aj.length a.cP) (I k.hand) (lY k.aM k.aM.length)
def wR (w:World) (a:ja) (k:aR) (c:Int) (e:Ending) (w':World):Prop:=Below w.heap.size w w'/\((c=0/\∃mb,e=.returned (.tuple #[.pointer (some (Ad mb 0)),I 0])/\w.heap.size<=mb/\w'.heap[mb]?=some (.cells (m9 a k) 158 (0,0)))∨(c≠0/\e=.returned (.tuple #[.pointer none,I c])))
theorem xX (k:aR) (a:ja) (sp:Int) (w:World) (hK:jo w a k) (hF:o7 k) (hsp:cK sp):Calls Tryz.prog 76 #[.agg (bc a k),I sp] w (wR w a k (fB k sp)):=by
 have HL:=ai (fun V (hV:Below w.heap.size w V)=>M6 k a V (hK.below hV) hF);have HE:Hid (∀V c,Below w.heap.size w V->fB k sp=c->c≠0->wR w a k (fB k sp) (.returned (.tuple #[.pointer none,I c])) V):=fun V c hV e hc=>⟨hV,.inr ⟨by omega,by rw[e]⟩⟩
 have HY:Hid (∀V mb,Below w.heap.size w V->fB k sp=0->w.heap.size<=mb->V.heap[mb]?=some (.cells (m9 a k) 158 (0,0))->wR w a k (fB k sp) (.returned (.tuple #[.pointer (some (Ad mb 0)),I 0])) V):=fun V mb hV e hm hh=>⟨hV,.inl ⟨e,mb,rfl,hm,hh⟩⟩
 obtain⟨P,hP⟩:=ex (wR w a k (fB k sp));rw[<- hP] at HE HY ⊢;clear hP;have HHP:=ai hK.aj;have HKB:=ai (bD w (bc a k) 30);have gG:=ai ((aJ w.heap.size w).alloc (aH _) (.cells (bc a k) 30));have HLK:Hid (fB k sp=if gh k=0 then (if 0<=sp/\sp<(k.aj.length:Int)/\(ak k.aj sp.toNat).live=true then 0 else 6) else gh k):=rfl;have HN4:Hid (gh k=0->k.aj.length<=4):=fun h=>((vU k).1 h).c.2.2.1.2
 clear hK hF;by_cases hc:gh k=0
 · have Bf:Hid (∀V,Below w.heap.size w V->Calls Tryz.prog 87 #[.agg (bc a k)] V fun e w'=>∃mb,e=.returned (.tuple #[.pointer (some (Ad mb 0)),I 0])/\w.heap.size<=mb/\w'.heap[mb]?=some (.cells (m9 a k) 158 (0,0))/\Below V.heap.size V w'):=fun V hV=>(HL.o V hV).mono fun e w' ⟨hb,h⟩=>by
    rcases h with⟨_,mb,h1,h2,h3⟩ | ⟨h1,_⟩
    · exact⟨mb,h1,gT hV.size h2,h3,hb⟩
    omega
   have EM:=HN4.o hc;have Wu:Hid (fB k sp=if 0<=sp/\sp<(k.aj.length:Int)/\(ak k.aj sp.toNat).live=true then 0 else 6):=by grind
   clear HL HLK hc HN4;unfold bc at Bf HKB gG ⊢;obtain⟨aS,cS,aF,cF,aL,cL,aP,cP⟩:=a;obtain⟨hs,fs,ls,ss,hd⟩:=k;simp only at Bf HKB gG HHP Wu HY EM ⊢;rcases(show sp<0∨(0<=sp/\(ss.length:Int)<=sp)∨(0<=sp/\sp<(ss.length:Int)) by omega) with g | ⟨g1,g2⟩ | ⟨g1,g2⟩
   · have HX:=ai (fun V hV=>HE.o V 6 hV (by grind [Hid.o]) (by decide));clear HE HY Wu HHP;go_enter Tryz.func76,Tryz.ntmps76;go_wp2_with (go_at_call 87;refine(Bf.o _ gG.o).mono ?_;rintro e w1 ⟨mb,rfl,nC,hm2,hb1⟩;have cM:=ai (bU gG.o hb1);have K1:=ai (aN HKB.o hb1 (by simp));clear hb1 hm2)
     exact HX.o _ cM.o
   · have HX:=ai (fun V hV=>HE.o V 6 hV (by grind [Hid.o]) (by decide));clear HE HY Wu HHP;go_enter Tryz.func76,Tryz.ntmps76;go_wp2_with (go_at_call 87;refine(Bf.o _ gG.o).mono ?_;rintro e w1 ⟨mb,rfl,nC,hm2,hb1⟩;have cM:=ai (bU gG.o hb1);have K1:=ai (aN HKB.o hb1 (by simp));have c3:w1.cell? (Ad w.heap.size 3)=some (.slice aP ss.length cP):=aq K1.o 3 rfl;clear hb1 hm2)
     exact HX.o _ cM.o
   · obtain⟨j,rfl⟩:∃j:Nat,sp=(j:Int):=⟨sp.toNat,by omega⟩;obtain⟨pb,po,hao,hbl,eX⟩:=HHP.o (by omega);subst hao;obtain⟨va,ap,cp,y0,_,_,_,_,_⟩:=eX j (by omega);rw[lD] at Wu;obtain⟨lv,hlv⟩:=ex ((ak ss j).live);rw[<- hlv] at y0 Wu;clear hlv eX HHP;cases lv with
     | false =>
      have HX:=ai (fun V hV=>HE.o V 6 hV (by rw[Wu.o,au (by simp)]) (by decide));clear HE HY Wu;go_enter Tryz.func76,Tryz.ntmps76;go_wp2_with (go_at_call 87;refine(Bf.o _ gG.o).mono ?_;rintro e w1 ⟨mb,rfl,nC,hm2,hb1⟩;have cM:=ai (bU gG.o hb1);have K1:=ai (aN HKB.o hb1 (by simp));have c3:w1.cell? (Ad w.heap.size 3)=some (.slice (some (Ad pb po)) ss.length cP):=aq K1.o 3 rfl;have l0:w1.cell? (Ad pb (po+j*3))=some (.bool false):=(cM.o.cell (p:=(Ad pb (po+j*3))) hbl).trans y0;clear hb1 hm2)
      exact HX.o _ cM.o
     | true =>
      have HX:=ai (fun V mb hV hm hh=>HY.o V mb hV (by rw[Wu.o,aB ⟨g1,g2,rfl⟩]) hm hh);clear HE HY Wu;go_enter Tryz.func76,Tryz.ntmps76;go_wp2_with (go_at_call 87;refine(Bf.o _ gG.o).mono ?_;rintro e w1 ⟨mb,rfl,nC,hm2,hb1⟩;have Jk:=ai hm2;have cM:=ai (bU gG.o hb1);have K1:=ai (aN HKB.o hb1 (by simp));have c3:w1.cell? (Ad w.heap.size 3)=some (.slice (some (Ad pb po)) ss.length cP):=aq K1.o 3 rfl;have l0:w1.cell? (Ad pb (po+j*3))=some (.bool true):=(cM.o.cell (p:=(Ad pb (po+j*3))) hbl).trans y0;clear hb1 hm2)
      exact HX.o _ mb cM.o nC Jk.o
 · have Bf:Hid (∀V,Below w.heap.size w V->Calls Tryz.prog 87 #[.agg (bc a k)] V fun e w'=>e=.returned (.tuple #[.pointer none,I (gh k)])/\Below V.heap.size V w'):=fun V hV=>(HL.o V hV).mono fun e w' ⟨hb,h⟩=>by
    grind
   have HX:=ai (fun V hV=>HE.o V (gh k) hV (by grind [Hid.o]) hc);obtain⟨C,hC⟩:=ex (gh k);rw[<- hC] at Bf HX hc;have cb:(C != 0)=true:=by grind
   clear HL HLK hC HE HY HN4 HHP;unfold bc at Bf HKB gG ⊢;obtain⟨aS,cS,aF,cF,aL,cL,aP,cP⟩:=a;obtain⟨hs,fs,ls,ss,hd⟩:=k;simp only at Bf HKB gG ⊢;clear hc;go_enter Tryz.func76,Tryz.ntmps76;go_wp2_with (go_at_call 87;refine(Bf.o _ gG.o).mono ?_;rintro e w1 ⟨rfl,hb1⟩;have cM:=ai (bU gG.o hb1);clear hb1)
   exact HX.o _ cM.o
open Go.RowKit
theorem Su (p:Int) (e:bC) (x:Nat) (w:World) (hx:w.cell? (Ad x 0)=some (I p)) :
  Calls Tryz.prog 187 #[.agg #[I e.page,I e.kind,I e.loc],.pointer (some (Ad x 0))] w fun r w'=>r=.returned (.bool (decide (e.page=p)))/\Below w.heap.size w w':=by
 obtain⟨pg,kd,lc⟩:=e;simp only;have hxl:x<w.heap.size:=oJ w _ hx;have xA:(w.alloc (.cells #[I pg,I kd,I lc] 174)).cell? (Ad x 0)=some (I p):=(OP ((aJ w.heap.size w).alloc (aH _) _) (p:=(Ad x 0)) hxl).trans hx;obtain⟨A,hA⟩:=ex (decide (pg=p));have HA:Hid ((pg==p)=A):=by show _=_;grind
 rw[<- hA];clear hA;have ha:=HA.o;clear HA;go_enter Tryz.func187,Tryz.ntmps187;go_wp2;go_ret;simp[aJ,pR]
theorem Jc (F:FuncId) (hF:F=187∨F=298∨F=300) (P:bC->Bool) (es:List bC) (ao:Option Addr) (cap x:Nat) (w:World) (h:dW bw 3 gY w ao es) (hl:es.length<=1000000)
  (hC:∀V e,Below w.heap.size w V->Calls Tryz.prog F #[.agg #[I e.page,I e.kind,I e.loc],.pointer (some (Ad x 0))] V fun r w'=>r=.returned (.bool (P e))/\Below V.heap.size V w') :
  Calls Tryz.prog 186 #[.slice ao es.length cap,.func (.func F) #[] #[.pointer (some (Ad x 0))]] w fun e w' =>
   Below w.heap.size w w'/\((e=.returned (I (-1))/\∀j,j<es.length->P (aV es j)=false)∨∃i:Nat,i<es.length/\e=.returned (I (i:Int))/\P (aV es i)=true/\∀j,j<i->P (aV es j)=false):=by
 have HH:=ai h;have HC:=ai hC;clear h hC;rcases hF with rfl | rfl | rfl
 all_goals
  go_enter Tryz.func186,Tryz.ntmps186;go_wp2;go_loopw [8] (fun iv wr=>∃k:Nat,k<=es.length/\iv=I (k:Int)/\(∀j,j<k->P (aV es j)=false)/\Below w.heap.size w wr) (fun iv _=>es.length-(intOf iv).toNat)
  case atStart=>grind [Below.refl]
  case round =>
   obtain⟨k,hk,rfl,hno,hb⟩:=hrel;have uP:=ai hno;have HB:=ai hb;clear hno;by_cases hlt:k<es.length
   · have JL:(k:Int)<(es.length:Int):=by omega
     obtain⟨eb,eo,hao,hbl,eX⟩:=HH.o (by omega);subst hao;have y0:=(hb.cell (p:=(Ad eb (eo+k*3+0))) hbl).trans (eX k hlt 0 (by omega));have y1:=(hb.cell (p:=(Ad eb (eo+k*3+1))) hbl).trans (eX k hlt 1 (by omega));have y2:=(hb.cell (p:=(Ad eb (eo+k*3+2))) hbl).trans (eX k hlt 2 (by omega));rw[mA] at y0;have yA:=ai (HC.o wr (aV es k) hb);obtain⟨G,hG⟩:=ex (P (aV es k));rw[<- hG] at yA;have HG:=ai hG;obtain⟨E,hE⟩:=ex (aV es k);have x0:wr.cell? (Ad eb (eo+k*3))=some (I E.page):=by rw[hE];exact y0
     have x1:wr.cell? (Ad eb (eo+k*3+1))=some (I E.kind):=by rw[hE];exact y1
     have x2:wr.cell? (Ad eb (eo+k*3+2))=some (I E.loc):=by rw[hE];exact y2
     rw[<- hE] at yA;clear hG hE hb y0 y1 y2 eX;cases G with
     | true =>
      go_wp2_with ((first | go_at_call 187 | go_at_call 298 | go_at_call 300);refine yA.o.mono ?_;rintro e w1 ⟨rfl,hb1⟩;have cM:=ai (HB.o.trans (hb1.mono HB.o.size));clear hb1)
      go_ret;exact⟨cM.o,.inr ⟨k,hlt,rfl,HG.o.symm,uP.o⟩⟩
     | false =>
      go_wp2_with ((first | go_at_call 187 | go_at_call 298 | go_at_call 300);refine yA.o.mono ?_;rintro e w1 ⟨rfl,hb1⟩;have cM:=ai (HB.o.trans (hb1.mono HB.o.size));clear hb1)
      go_roundw
      case rel=>exact⟨k+1,by omega,by go_num,fun j hj=>by
       by_cases q:j=k
       · subst q;exact HG.o.symm
       · exact uP.o j (by omega),cM.o⟩
      case measure=>simp[intOf];omega
   · obtain rfl:k=es.length:=by omega
     clear hb;go_wp2;go_ret;exact⟨HB.o,.inl ⟨rfl,uP.o⟩⟩
open Go.RowKit
theorem Ss (es:List bC) (p:Int) (i:Nat) (hi:i<es.length) (h:(aV es i).page=p) (hno:∀j,j<i->¬(aV es j).page=p):bk es p=some (aV es i):=by
 induction es generalizing i with
 | nil=>cases hi
 | cons a r ih =>
  cases i with
  | zero =>
   have h:a.page=p:=h;show(a::r).find? _=some a
   grind
  | succ i =>
   have h0:¬a.page=p:=hno 0 (by omega);show(a::r).find? _=some (aV r i);rw[List.find?_cons,je h0];exact ih i (Dg hi) h (fun j hj=>hno (j+1) (by omega))
theorem VA (es:List bC) (p:Int) (hno:∀j,j<es.length->¬(aV es j).page=p):bk es p=none:=qy.2 fun e he=>by
 obtain⟨j,hj,rfl⟩:=lu gY he;exact hno j hj
def ng (es:List bC) (p:Int):bC×Bool:=match bk es p with
 | some e=>(e,true)
 | none=>(gY,false)
def sJ (e:bC):Value:=.agg #[I e.page,I e.kind,I e.loc]
theorem VC (es:List bC) (p:Int) (j n mb pb po cP:Nat) (ae:Option Addr) (ce:Nat) (w:World) (hm:w.cell? (Ad mb 3)=some (.slice (some (Ad pb po)) n cP)) (hj:j<n) (hce:w.cell? (Ad pb (po+j*3+2))=some (.slice ae es.length ce)) (he:dW bw 3 gY w ae es) (hl:es.length<=1000000) (hn:n<=1000000) :
  Calls Tryz.prog 129 #[.pointer (some (Ad mb 0)),I (j:Int),I p] w fun e w'=>e=.returned (.tuple #[sJ (ng es p).1,.bool (ng es p).2])/\Below w.heap.size w w':=by
 have MH:=oJ w _ hm;have hpl:=oJ w _ hce;have MH:mb<w.heap.size:=MH;have hpl:pb<w.heap.size:=hpl;have HHE:=ai he;obtain⟨W,hW⟩:=ex ((w.alloc (.cells #[I p] 3)).alloc (.cells #[I 0,I 0,I 0] 174));have gG:Hid (Below w.heap.size w W):=by simp_all [aJ,pR]
 have X0:Hid (W.heap[w.heap.size]?=some (.cells #[I p] 3 (0,0))):=by grind [bl,bD]
 have R0:Hid (W.heap[w.heap.size+1]?=some (.cells #[I 0,I 0,I 0] 174 (0,0))):=by
  grind [bD,World.size_alloc]
 have d3:W.cell? (Ad mb 3)=some (.slice (some (Ad pb po)) n cP):=(gG.o.cell (p:=(Ad mb 3)) MH).trans hm;have d2:W.cell? (Ad pb (po+j*3+2))=some (.slice ae es.length ce):=(gG.o.cell (p:=(Ad pb (po+j*3+2))) hpl).trans hce;have Uc:=ai (Jc 187 (.inl rfl) (fun e=>decide (e.page=p)) es ae ce w.heap.size W (he.below gG.o) hl (fun V e hV=>Su p e w.heap.size V (aq (aN X0.o hV (aI X0.o)) 0 rfl)));have HF:=ai (Ss es p);have HN:=ai (VA es p);have hji:(j:Int)<(n:Int):=by omega
 have Z6:(0:Int)<=(j:Int):=by omega
 have HW:=ai hW;clear hm hce he hW;by_cases hex:∃j,j<es.length/\(aV es j).page=p
 · obtain⟨j0,aos,aor⟩:=hex;have Z9:Hid (Calls Tryz.prog 186 #[.slice ae es.length ce,.func (.func 187) #[] #[.pointer (some (Ad w.heap.size 0))]] W fun e w'=>∃i:Nat,i<es.length/\e=.returned (I (i:Int))/\ng es p=(aV es i,true)/\Below W.heap.size W w'):=Uc.o.mono fun e w' ⟨hb,h⟩=>by
    rcases h with⟨_,hno⟩ | ⟨i,hi,he,akB,hno⟩
    · grind
    · refine⟨i,hi,he,?_,hb⟩;unfold ng;rw[HF.o i hi (by grind) (fun j hj=>by grind)]
   clear Uc HF HN aos aor;go_enter Tryz.func129,Tryz.ntmps129;go_upto_region 1 with fail;rw[<- HW.o];go_upto_region 3 with(go_at_call 186;refine Z9.o.mono ?_;rintro e w1 ⟨i,hi,rfl,hen,hb1⟩;have Aj:=ai hen;have cM:=ai (gG.o.trans (hb1.mono gG.o.size));have R1:=ai (aN R0.o hb1 (aI R0.o));clear hb1 hen)
   obtain⟨eb,eo,hao,hbl,eX⟩:=HHE.o (by omega);subst hao;have y0:=(cM.o.cell (p:=(Ad eb (eo+i*3+0))) hbl).trans (eX i hi 0 (by omega));have y1:=(cM.o.cell (p:=(Ad eb (eo+i*3+1))) hbl).trans (eX i hi 1 (by omega));have y2:=(cM.o.cell (p:=(Ad eb (eo+i*3+2))) hbl).trans (eX i hi 2 (by omega));rw[mA] at y0;obtain⟨E,hE⟩:=ex (aV es i);have x0:w1.cell? (Ad eb (eo+i*3))=some (I E.page):=by rw[hE];exact y0
   have x1:w1.cell? (Ad eb (eo+i*3+1))=some (I E.kind):=by rw[hE];exact y1
   have x2:w1.cell? (Ad eb (eo+i*3+2))=some (I E.loc):=by rw[hE];exact y2
   rw[<- hE] at Aj;obtain⟨r0,r1,r2⟩:=ET R1.o;have f0:=aQ R1.o 0;have f1:=aQ R1.o 1;have f2:=aQ R1.o 2;have hi1:(i:Int)<(es.length:Int):=by omega
   have hi0:(0:Int)<=(i:Int):=by omega
   clear hE y0 y1 y2 eX;go_wp2;have R2:(((w1.setCell (Ad (w.heap.size+1) 0) (I E.page)).setCell (Ad (w.heap.size+1) 1) (I E.kind)).setCell (Ad (w.heap.size+1) 2) (I E.loc)).heap[w.heap.size+1]?=some (.cells #[I E.page,I E.kind,I E.loc] 174 (0,0)):=fF (fF (fF R1.o 0 _) 1 _) 2 _;obtain⟨v0,v1,v2⟩:=ET R2;refine bK (v:=.tuple #[sJ E,.bool true]) (by simp[results,Tryz.results129,go_sem,sJ,v0,v1,v2]) rfl ?_;rw[Aj.o];refine⟨rfl,?_⟩;exact((cM.o.setCell (p:=(Ad (w.heap.size+1) 0)) (by show w.heap.size<=w.heap.size+1;omega) _).setCell (p:=(Ad (w.heap.size+1) 1)) (by show w.heap.size<=w.heap.size+1;omega) _).setCell (p:=(Ad (w.heap.size+1) 2)) (by show w.heap.size<=w.heap.size+1;omega) _
 · have Z9:Hid (Calls Tryz.prog 186 #[.slice ae es.length ce,.func (.func 187) #[] #[.pointer (some (Ad w.heap.size 0))]] W fun e w'=>e=.returned (I (-1))/\Below W.heap.size W w'):=Uc.o.mono fun e w' ⟨hb,h⟩=>by
    grind
   have Aj:Hid (ng es p=(gY,false)):=by
    show _=_;unfold ng;rw[HN.o (fun j hj e=>hex ⟨j,hj,e⟩)]
   clear Uc HF HN hex;go_enter Tryz.func129,Tryz.ntmps129;go_upto_region 1 with fail;rw[<- HW.o];go_upto_region 3 with(go_at_call 186;refine Z9.o.mono ?_;rintro e w1 ⟨rfl,hb1⟩;have cM:=ai (gG.o.trans (hb1.mono gG.o.size));have R1:=ai (aN R0.o hb1 (aI R0.o));clear hb1)
   obtain⟨r0,r1,r2⟩:=ET R1.o;have f0:=aQ R1.o 0;have f1:=aQ R1.o 1;have f2:=aQ R1.o 2;go_wp2;have R2:(((w1.setCell (Ad (w.heap.size+1) 0) (I 0)).setCell (Ad (w.heap.size+1) 1) (I 0)).setCell (Ad (w.heap.size+1) 2) (I 0)).heap[w.heap.size+1]?=some (.cells #[I 0,I 0,I 0] 174 (0,0)):=fF (fF (fF R1.o 0 _) 1 _) 2 _;obtain⟨v0,v1,v2⟩:=ET R2;refine bK (v:=.tuple #[sJ gY,.bool false]) (by simp[results,Tryz.results129,go_sem,sJ,gY,v0,v1,v2]) rfl ?_;rw[Aj.o];refine⟨rfl,?_⟩;exact((cM.o.setCell (p:=(Ad (w.heap.size+1) 0)) (by grind) _).setCell (p:=(Ad (w.heap.size+1) 1)) (by grind) _).setCell (p:=(Ad (w.heap.size+1) 2)) (by grind) _
open Go.RowKit
open Go.RowKit
open Go.RowKit
def iz (n:Int):List Value:=[I n]
def DI (l:List Int) (i:Nat):Int:=l.getD i 0
theorem Sr (l:List Int) (x:Int) (ao:Option Addr) (cap:Nat) (w:World) (h:dW iz 1 0 w ao l) (hl:l.length<=1000000) :
  Calls Tryz.prog 288 #[.slice ao l.length cap,I x] w fun e w'=>w'=w/\((e=.returned (I (-1))/\∀j,j<l.length->DI l j≠x)∨∃i:Nat,i<l.length/\e=.returned (I (i:Int))/\DI l i=x):=by
 have HH:=ai h;clear h;go_enter Tryz.func288,Tryz.ntmps288;go_wp2;go_loopw [8] (fun iv wr=>∃k:Nat,k<=l.length/\iv=I (k:Int)/\(∀j,j<k->DI l j≠x)/\wr=w) (fun iv _=>l.length-(intOf iv).toNat)
 case atStart=>grind
 case round =>
  obtain⟨k,hk,rfl,hno,rfl⟩:=hrel;have uP:=ai hno;clear hno;by_cases hlt:k<l.length
  · have JL:(k:Int)<(l.length:Int):=by omega
    obtain⟨eb,eo,hao,hbl,eX⟩:=HH.o (by omega);subst hao;have y0:=eX k hlt 0 (by omega);rw[mA,OD] at y0;obtain⟨E,hE⟩:=ex (DI l k);have x0:wr.cell? (Ad eb (eo+k))=some (I E):=by rw[hE];exact y0
    have HE:=ai hE;clear hE y0 eX;by_cases c:x=E
    · have cb:(x==E)=true:=by grind
      have HC:=ai c;clear c;go_wp2;go_ret;exact⟨rfl,.inr ⟨k,hlt,rfl,by rw[<- HE.o,HC.o]⟩⟩
    · have cb:(x==E)=false:=by grind
      have HC:=ai c;clear c;go_wp2
      grind [intOf,Hid.o]
  · obtain rfl:k=l.length:=by omega
    go_wp2;go_ret;exact⟨rfl,.inl ⟨rfl,uP.o⟩⟩
theorem M7 (l:List Int) (x:Int):x∈l↔∃i,i<l.length/\DI l i=x:=⟨fun h=>lu 0 h,fun ⟨i,hi,e⟩=>e ▸ jL hi⟩
theorem wQ (l:List Int) (x:Int) (ao:Option Addr) (cap:Nat) (w:World) (h:dW iz 1 0 w ao l) (hl:l.length<=1000000) :
  Calls Tryz.prog 282 #[.slice ao l.length cap,I x] w fun e w'=>e=.returned (.bool (decide (x∈l)))/\w'=w:=by
 have HI:=ai (Sr l x ao cap w h hl);clear h;by_cases c:x∈l
 · have Z9:Hid (Calls Tryz.prog 288 #[.slice ao l.length cap,I x] w fun e w'=>∃i:Nat,i<l.length/\e=.returned (I (i:Int))/\w'=w):=HI.o.mono fun e w' ⟨hw,h⟩=>by
    grind [M7]
   rw[gU c];clear HI c;go_enter Tryz.func282,Tryz.ntmps282;go_wp2_with (go_at_call 288;refine Z9.o.mono ?_;rintro e w1 ⟨i,hi,rfl,rfl⟩;have hi0:(0:Int)<=(i:Int):=(by omega))
   go_ret
   simp_all
 · have Z9:Hid (Calls Tryz.prog 288 #[.slice ao l.length cap,I x] w fun e w'=>e=.returned (I (-1))/\w'=w):=HI.o.mono fun e w' ⟨hw,h⟩=>by
    grind [M7]
   rw[je c];clear HI c;go_enter Tryz.func282,Tryz.ntmps282;go_wp2_with (go_at_call 288;refine Z9.o.mono ?_;rintro e w1 ⟨rfl,rfl⟩)
   go_ret
   simp_all
end Go.Proofs.YtlgoihmkgaaemaaGreat
