import Derived.Test.YtlgoihmkgaaemaaGreatGN13
import Derived.Great.Ranges
set_option maxHeartbeats 20000000
set_option linter.unusedVariables false
set_option maxRecDepth 100000
set_option linter.unusedSimpArgs false
namespace Go.Proofs.YtlgoihmkgaaemaaGreat
open Go.RowKit
def sX (w:World) (a:jc) (k:aT) (e:Ending) (w':World):Prop:=Below w.heap.size w w'/\((gq k=0/\∃mb,e=.returned (.tuple #[.pointer (some (Ad mb 0)),I 0])/\w.heap.size<=mb/\w'.heap[mb]?=some (.cells (mG (.slice a.aS k.aM.length a.cS) (.slice a.aF k.frames.length a.cF) (.slice a.aL k.slots.length a.cL) (.slice a.aP k.aj.length a.cP) (I k.hand) (l8 k.aM k.aM.length)) 158 (0,0)))∨(gq k≠0/\e=.returned (.tuple #[.pointer none,I (gq k)])))
theorem Np {w:World} {mb:Nat} {hs:List bJ} {a b c d e:Value} (h:w.heap[mb]?=some (.cells (mG a b c d e (l8 hs hs.length)) 158 (0,0))) (hr:gX hs=true):∀n:Nat,n<256->w.cell? (Ad mb (5+n))=some (.string (fq hs n)):=fun n hn=>(au h (5+n) (QH a b c d e _ n hn)).trans (by grind [FI])
theorem VT (k:aT) (a:jc) (w:World) (hK:jd w a k) (hF:nu k) (hc:nB k=true):Calls Tryz.prog 87 #[.agg (bg a k)] w (sX w a k):=by
 have hcc:=oP hc;have uZ:Hid (∀w',Below w.heap.size w w'->CY k=false->sX w a k (.returned (.tuple #[.pointer none,I 1])) w'):=fun w' hb hf=>by
  have e:gq k=1:=by grind [gq]
  exact⟨hb,.inr ⟨by omega,by rw[e]⟩⟩
 have E6:Hid (∀w' mb,Below w.heap.size w w'->CY k=true->w.heap.size<=mb->w'.heap[mb]?=some (.cells (mG (.slice a.aS k.aM.length a.cS) (.slice a.aF k.frames.length a.cF) (.slice a.aL k.slots.length a.cL) (.slice a.aP k.aj.length a.cP) (I k.hand) (l8 k.aM k.aM.length)) 158 (0,0))->sX w a k (.returned (.tuple #[.pointer (some (Ad mb 0)),I 0])) w'):=fun w' mb hb hf hm hh=>by
  have e:gq k=0:=by grind [gq]
  exact⟨hb,.inl ⟨e,mb,rfl,hm,hh⟩⟩
 obtain⟨P,hP⟩:=ex (sX w a k);rw[<- hP] at uZ E6 ⊢;clear hP;unfold bg;have HC:Hid (∀V,Calls Tryz.prog 139 #[.agg #[.slice a.aS k.aM.length a.cS,.slice a.aF k.frames.length a.cF,.slice a.aL k.slots.length a.cL,.slice a.aP k.aj.length a.cP,I k.hand]] V fun e w'=>e=.returned (.bool true)/\Below V.heap.size V w'):=fun V=>by
  have:=Ip a.aS a.aF a.aL a.aP k.aM.length a.cS k.frames.length a.cF k.slots.length a.cL k.aj.length a.cP (I k.hand) V;rw[gZ hcc] at this;exact this
 have HUP:=ai (@SV k);have HSB:=ai (Uk k.aM k.aj (List.replicate k.frames.length dC,List.replicate k.slots.length dC) k.frames.length k.slots.length (Uj _) (Uj _));have HSF:=ai (KR k.aM k.aj (List.replicate k.frames.length dC,List.replicate k.slots.length dC));obtain⟨hKS,hKF,hKL,hKP⟩:=hK;obtain⟨fS,fnF,ffr,fnS,fsl,fnP,fsp,fhd⟩:=hF;have HKS:=ai hKS;have HKF:=ai hKF;have HKL:=ai hKL;have HKP:=ai hKP;have HFS:=ai fS;have HFR:=ai ffr;have Uu:=ai fsl;have Hn:=ai fsp;clear hKS hKF hKL hKP fS ffr fsl fsp hc fnF fnS fnP;obtain⟨aS,cS,aF,cF,aL,cL,aP,cP⟩:=a;obtain⟨hs,fs,ls,ss,hd⟩:=k;unfold CY zY at *;simp only at HC hcc uZ E6 HUP HSB HSF HKS HKF HKL HKP HFS HFR Uu Hn fhd ⊢;have BK:=ai (bE w #[.slice aS hs.length cS,.slice aF fs.length cF,.slice aL ls.length cL,.slice aP ss.length cP,I hd] 30);have OI:=ai ((aK w.heap.size w).alloc (aI _) (.cells #[.slice aS hs.length cS,.slice aF fs.length cF,.slice aL ls.length cL,.slice aP ss.length cP,I hd] 30));go_enter Tryz.func87,Tryz.ntmps87;go_upto_region 3 with(go_at_call 139;refine(HC.o _).mono ?_;rintro e w1 ⟨rfl,hb1⟩;have agO:=ai (bX OI.o hb1);have BK1:=ai (aO BK.o hb1 (by simp));clear hb1)
 refine wp_region_lit ?_;refine Dm rfl 30 _ rfl w.heap.size rfl 30 _ (0,0) _ BK1.o Tryz.underlying30 rfl (by rfl) ?_;refine Ow rfl 158 _ rfl (.agg #[.slice aS hs.length cS,.slice aF fs.length cF,.slice aL ls.length cL,.slice aP ss.length cP,I hd]) (by rfl) _ (aea _ _ _ _ _) ?_;have HM:=ai (bE w1 (mG (.slice aS hs.length cS) (.slice aF fs.length cF) (.slice aL ls.length cL) (.slice aP ss.length cP) (I hd) sV) 158);have BK2:=ai (br BK1.o (.cells (mG (.slice aS hs.length cS) (.slice aF fs.length cF) (.slice aL ls.length cL) (.slice aP ss.length cP) (I hd) sV) 158));have aiD:=ai (agO.o.alloc agO.o.size (.cells (mG (.slice aS hs.length cS) (.slice aF fs.length cF) (.slice aL ls.length cL) (.slice aP ss.length cP) (I hd) sV) 158));have rN:w.heap.size<w1.heap.size:=aJ BK1.o;refine Go.Great.wpList_boxTo rfl 158 _ rfl _ rfl w1.heap.size rfl (mG (.slice aS hs.length cS) (.slice aF fs.length cF) (.slice aL ls.length cL) (.slice aP ss.length cP) (I hd) sV) (by rfl) ?_;obtain⟨W,hW⟩:=ex (w1.alloc (.cells (mG (.slice aS hs.length cS) (.slice aF fs.length cF) (.slice aL ls.length cL) (.slice aP ss.length cP) (I hd) sV) 158));rw[<- hW] at HM BK2 aiD ⊢;obtain⟨mb,hmb⟩:=ex w1.heap.size;rw[<- hmb] at HM rN ⊢;obtain⟨kb,hkb⟩:=ex w.heap.size;have al7:w.heap.size<=mb:=by omega
 have avg:w.heap.size<=kb:=by omega
 have ahz:¬kb=mb:=by omega
 rw[<- hkb] at BK2 ⊢;have d1:W.cell? (Ad kb 1)=some (.slice aF fs.length cF):=au BK2.o 1 rfl;have d2:W.cell? (Ad kb 2)=some (.slice aL ls.length cL):=au BK2.o 2 rfl;clear hW hmb hkb BK BK1 HC OI agO;have E3:fs.length<=1000:=by omega
 have hn3:ls.length<=1000:=by omega
 have e2:∀V:World,(Instr.makeSlice 250 (I (fs.length:Int)) (I (fs.length:Int))).run Tryz.prog V=.ok (.slice (some (Ad V.heap.size 0)) fs.length fs.length) (V.alloc (.cells (wX fs.length) 302)):=fun V=>adg V fs.length E3
 have e3:∀V:World,(Instr.makeSlice 250 (I (ls.length:Int)) (I (ls.length:Int))).run Tryz.prog V=.ok (.slice (some (Ad V.heap.size 0)) ls.length ls.length) (V.alloc (.cells (wX ls.length) 302)):=fun V=>adg V ls.length hn3
 have d1A:(W.alloc (.cells (wX ls.length) 302)).cell? (Ad kb 1)=some (.slice aF fs.length cF):=au (br BK2.o _) 1 rfl;have d2A:(W.alloc (.cells (wX fs.length) 302)).cell? (Ad kb 2)=some (.slice aL ls.length cL):=au (br BK2.o _) 2 rfl;have q1:=ai (Hi W.heap.size W fs.length (aI _) E3);have q2:=ai (Hi W.heap.size (W.alloc (.cells (wX fs.length) 302)) ls.length (by simp) hn3);have q3:=ai (Hi W.heap.size W ls.length (aI _) hn3);have q4:=ai (Hi W.heap.size (W.alloc (.cells (wX ls.length) 302)) fs.length (by simp) E3);rw[fF] at q2 q4;have q5:=ai (((aK W.heap.size W).alloc (aI _) (.cells (wX fs.length) 302)).alloc (by simp) (.cells (wX ls.length) 302));have q6:=ai (((aK W.heap.size W).alloc (aI _) (.cells (wX ls.length) 302)).alloc (by simp) (.cells (wX fs.length) 302));go_upto_region 4 with fail;go_cut [5,6] (fun x5 x6 wx=>∃gf gs:Nat,x5=.slice (some (Ad gf 0)) fs.length fs.length/\x6=.slice (some (Ad gs 0)) ls.length ls.length/\¬gf=gs/\ic W.heap.size wx gf fs.length fs.length (List.replicate fs.length dC)/\ic W.heap.size wx gs ls.length ls.length (List.replicate ls.length dC)/\Below W.heap.size W wx)
 case first =>
  go_region
  all_goals
   go_wp2_with fail
   go_meet
   case rel=>first | exact⟨_,_,rfl,rfl,by simp,(q1.out.kp (aD.alloc (fun _=>False) _ _) (fun x=>x)).d,q2.out.d,q5.out.drew⟩ | exact⟨_,_,rfl,rfl,by simp,q4.out.d,(q3.out.kp (aD.alloc (fun _=>False) _ _) (fun x=>x)).d,q6.out.drew⟩
 case rest =>
  obtain⟨gf,gs,rfl,rfl,hne,hof,hos,hbx⟩:=hcut;clear q1 q2 q3 q4 q5 q6 e2 e3 d1A d2A d1 d2;have hgf:=hof.lt;have hgs:=hos.lt;have HOF:=ai hof;have HOS:=ai hos;have hmW:=aJ HM.o;have hkW:=aJ BK2.o;have HMX:=ai (aO HM.o hbx hmW);have BKX:=ai (aO BK2.o hbx hkW);have lh:=ai (aiD.o.trans (hbx.mono aiD.o.size));have aey:=ai (KN hs aS cS mb (.slice aF fs.length cF) (.slice aL ls.length cL) (.slice aP ss.length cP) (I hd) w wc HKS.o HFS.o lh.o al7 HMX.o (by omega));clear hof hos hbx HM BK2 aiD;have Ei:Hid (∀V,Below w.heap.size w V->(gX hs=false∨hd<0∨(fs.length:Int)<=hd)->P (.returned (.tuple #[.pointer none,I 1])) V):=fun V hV g=>uZ.o V hV (by
   rcases g with g | g | g
   · rw[g];rfl
   · rw[jl (by omega)];simp
   · rw[jl (by omega)];simp)
  obtain⟨RB,hRB⟩:=ex (gX hs);have MD:=ai hRB;rw[<- hRB] at aey Ei;clear hRB;cases RB with
  | false =>
   go_wp2_with (go_at_call 140;refine aey.o.mono ?_;rintro e w2 ⟨rfl,hk2,G,hG,hg⟩;have gQ:=ai (hk2.below lh.o lh.o.size (fun b hb=>(by omega)));have BK3:=ai (hk2.keep BKX.o ahz);clear hk2 hG hg)
   exact Ei.o _ gQ.o (.inl trivial)
  | true =>
   rcases(show hd<0∨(0<=hd/\(fs.length:Int)<=hd)∨(0<=hd/\hd<(fs.length:Int)) by omega) with g | ⟨g1,g2⟩ | ⟨g1,g2⟩
   · go_wp2_with (go_at_call 140;refine aey.o.mono ?_;rintro e w2 ⟨rfl,hk2,G,hG,hg⟩;have gQ:=ai (hk2.below lh.o lh.o.size (fun b hb=>(by omega)));have BK3:=ai (hk2.keep BKX.o ahz);have HGG:=ai hg;have m4:w2.cell? (Ad kb 4)=some (I hd):=au BK3.o 4 rfl;clear hk2 hG hg)
     exact Ei.o _ gQ.o (.inr (.inl g))
   · go_wp2_with (go_at_call 140;refine aey.o.mono ?_;rintro e w2 ⟨rfl,hk2,G,hG,hg⟩;have gQ:=ai (hk2.below lh.o lh.o.size (fun b hb=>(by omega)));have BK3:=ai (hk2.keep BKX.o ahz);have HGG:=ai hg;have m1:w2.cell? (Ad kb 1)=some (.slice aF fs.length cF):=au BK3.o 1 rfl;have m4:w2.cell? (Ad kb 4)=some (I hd):=au BK3.o 4 rfl;clear hk2 hG hg)
     exact Ei.o _ gQ.o (.inr (.inr g2))
   · go_wp2_with (go_at_call 140;refine aey.o.mono ?_;rintro e w2 ⟨rfl,hk2,G,hG,hg⟩;have gQ:=ai (hk2.below lh.o lh.o.size (fun b hb=>(by omega)));have BK3:=ai (hk2.keep BKX.o ahz);have HG:=ai hG;have HGG:=ai hg;have OF2:=ai (HOF.o.kp hk2 (by omega));have OS2:=ai (HOS.o.kp hk2 (by omega));have m1:w2.cell? (Ad kb 1)=some (.slice aF fs.length cF):=au BK3.o 1 rfl;have m3:w2.cell? (Ad kb 3)=some (.slice aP ss.length cP):=au BK3.o 3 rfl;have m4:w2.cell? (Ad kb 4)=some (I hd):=au BK3.o 4 rfl;clear hk2 hG hg)
     have HG2:Hid (w2.heap[mb]?=some (.cells (mG (.slice aS hs.length cS) (.slice aF fs.length cF) (.slice aL ls.length cL) (.slice aP ss.length cP) (I hd) (l8 hs hs.length)) 158 (0,0))):=by
      have:=HG.o;rw[HGG.o trivial] at this;exact this
     clear aey Ei HG HGG HMX BKX lh HOF HOS m4;go_loopw [42] (fun iv wr=>∃k:Nat,k<=ss.length/\iv=I (k:Int)/\nY hs ss (List.replicate fs.length dC,List.replicate ls.length dC) k=true/\Below w.heap.size w wr/\wr.heap[mb]?=some (.cells (mG (.slice aS hs.length cS) (.slice aF fs.length cF) (.slice aL ls.length cL) (.slice aP ss.length cP) (I hd) (l8 hs hs.length)) 158 (0,0))/\wr.heap[kb]?=some (.cells #[.slice aS hs.length cS,.slice aF fs.length cF,.slice aL ls.length cL,.slice aP ss.length cP,I hd] 30 (0,0))/\ic W.heap.size wr gf fs.length fs.length (kG ss (List.replicate fs.length dC,List.replicate ls.length dC) k).1/\ic W.heap.size wr gs ls.length ls.length (kG ss (List.replicate fs.length dC,List.replicate ls.length dC) k).2) (fun iv _=>ss.length-(intOf iv).toNat)
     case atStart=>exact⟨0,by omega,rfl,rfl,gQ.o,HG2.o,BK3.o,OF2.o,OS2.o⟩
     case round =>
      obtain⟨k,hk,rfl,Jc,hb,hmm,hkk,hof,hos⟩:=hrel;have anp:=ai Jc;have HB:=ai hb;have Rj:=ai hmm;have HKK:=ai hkk;have HOF:=ai hof;have HOS:=ai hos;have m2:wr.cell? (Ad kb 2)=some (.slice aL ls.length cL):=au hkk 2 rfl;by_cases hlt:k<ss.length
      · obtain⟨pb,po,hao,hbl,eY⟩:=HKP.o (by omega);subst hao;obtain⟨va,ap,cp,c0,c1,c2,c3,c4,c5⟩:=eY k hlt;obtain⟨aa,ca,Ja,_⟩:=id c3;subst Ja;have hfit:=Hn.o k hlt;have x0:=(hb.cell (p:=(Ad pb (po+k*3))) hbl).trans c0;have x1:=(hb.cell (p:=(Ad pb (po+k*3+1))) hbl).trans c1;have x2:=(hb.cell (p:=(Ad pb (po+k*3+2))) hbl).trans c2;have hbs:=hb.size;have hbd:=HSB.o k (by omega) Jc;have ak9:Hid (∀V,Below w.heap.size w V->nY hs ss (List.replicate fs.length dC,List.replicate ls.length dC) (k+1)=false->P (.returned (.tuple #[.pointer none,I 1])) V):=fun V hV g=>uZ.o V hV (by rw[HSF.o (k+1) ss.length hlt g];simp)
        have HSN:Hid (nY hs ss (List.replicate fs.length dC,List.replicate ls.length dC) (k+1)=(pM hs (ak ss k)&&jS (ak ss k).aU (ak ss k).bc (kG ss (List.replicate fs.length dC,List.replicate ls.length dC) k) (ak ss k).bc.length)):=by grind [nY]
        have HUN:Hid (kG ss (List.replicate fs.length dC,List.replicate ls.length dC) (k+1)=jx (ak ss k).aU (ak ss k).bc (kG ss (List.replicate fs.length dC,List.replicate ls.length dC) k) (ak ss k).bc.length):=rfl;have adD:=aJ hmm;have ZJ:=ai (KI hs (ak ss k) (.slice aa (ak ss k).aU.length ca) ap cp mb (wr.alloc (.cells #[.bool (ak ss k).live,.slice aa (ak ss k).aU.length ca,.slice ap (ak ss k).bc.length cp] 99)) (c3.below (hb.alloc hb.size _)) hfit (by simp;omega) (Np (br hmm _) MD.o.symm));have Hv:Hid (∀V,Below w.heap.size w V->ic W.heap.size V gf fs.length fs.length (kG ss (List.replicate fs.length dC,List.replicate ls.length dC) k).1->ic W.heap.size V gs ls.length ls.length (kG ss (List.replicate fs.length dC,List.replicate ls.length dC) k).2->Calls Tryz.prog 142 #[.agg #[.bool (ak ss k).live,.slice aa (ak ss k).aU.length ca,.slice ap (ak ss k).bc.length cp],.slice (some (Ad gf 0)) fs.length fs.length,.slice (some (Ad gs 0)) ls.length ls.length] V fun x w'=>x=.returned (.bool (jS (ak ss k).aU (ak ss k).bc (kG ss (List.replicate fs.length dC,List.replicate ls.length dC) k) (ak ss k).bc.length))/\aD (fun b=>b=gf∨b=gs) V w'/\(jS (ak ss k).aU (ak ss k).bc (kG ss (List.replicate fs.length dC,List.replicate ls.length dC) k) (ak ss k).bc.length=true->ic W.heap.size w' gf fs.length fs.length (jx (ak ss k).aU (ak ss k).bc (kG ss (List.replicate fs.length dC,List.replicate ls.length dC) k) (ak ss k).bc.length).1/\ic W.heap.size w' gs ls.length ls.length (jx (ak ss k).aU (ak ss k).bc (kG ss (List.replicate fs.length dC,List.replicate ls.length dC) k) (ak ss k).bc.length).2)):=fun V hV h1 h2=>Ht (ak ss k) (.slice aa (ak ss k).aU.length ca) ap cp (kG ss (List.replicate fs.length dC,List.replicate ls.length dC) k).1 (kG ss (List.replicate fs.length dC,List.replicate ls.length dC) k).2 W.heap.size gf fs.length fs.length gs ls.length ls.length (255*k) w V c3 c4 hfit hV (by omega) h1 h2 hne hbd.1 hbd.2 (by omega) E3 hn3
        obtain⟨RS,hRS⟩:=ex (pM hs (ak ss k));obtain⟨EB,hEB⟩:=ex (jS (ak ss k).aU (ak ss k).bc (kG ss (List.replicate fs.length dC,List.replicate ls.length dC) k) (ak ss k).bc.length);rw[<- hRS] at ZJ HSN;rw[<- hEB] at Hv HSN;obtain⟨lv,hlv⟩:=ex ((ak ss k).live);obtain⟨na,rz⟩:=ex ((ak ss k).aU.length);obtain⟨ne,hnE⟩:=ex ((ak ss k).bc.length);rw[<- hlv,<- rz,<- hnE] at ZJ;rw[<- hlv,<- rz] at Hv;rw[<- hlv] at x0;rw[<- rz] at x1;rw[<- hnE] at x2;rw[<- hnE] at Hv HUN;have jV:=ai (hb.alloc hb.size (.cells #[.bool lv,.slice aa na ca,.slice ap ne cp] 99));have MA:=ai (br hmm (.cells #[.bool lv,.slice aa na ca,.slice ap ne cp] 99));have KA:=ai (br hkk (.cells #[.bool lv,.slice aa na ca,.slice ap ne cp] 99));have OA:=ai (hof.kp (aD.alloc (fun _=>False) wr (.cells #[.bool lv,.slice aa na ca,.slice ap ne cp] 99)) (fun x=>x));have OB:=ai (hos.kp (aD.alloc (fun _=>False) wr (.cells #[.bool lv,.slice aa na ca,.slice ap ne cp] 99)) (fun x=>x));have SB:=ai (bE wr #[.bool lv,.slice aa na ca,.slice ap ne cp] 99);clear hRS hEB hlv rz hnE c0 c1 c2 c3 c4 c5 eY hfit hbd Jc hb hmm hkk hof hos HSB HSF uZ E6 HUP HKS HKF HKL HKP HFS HFR Uu Hn Rj HKK HOF HOS gQ HG2 BK3 OF2 OS2 m1 m3 m2;cases RS with
        | false =>
         have HX:=ai (ak9.o);have aid:Hid (nY hs ss (List.replicate fs.length dC,List.replicate ls.length dC) (k+1)=false):=HSN;clear HSN Hv;go_wp2_with (go_at_call 141;refine ZJ.o.mono ?_;rintro e w3 ⟨rfl,hb3⟩;have mO:=ai (bX jV.o hb3);have SB3:=ai (aO SB.o hb3 (aJ SB.o));clear hb3)
         exact HX.o _ mO.o aid.o
        | true =>
         cases EB with
         | false =>
          have HX:=ai (ak9.o);have aid:Hid (nY hs ss (List.replicate fs.length dC,List.replicate ls.length dC) (k+1)=false):=HSN;clear HSN;go_wp2_with (first | (go_at_call 141;refine ZJ.o.mono ?_;rintro e w3 ⟨rfl,hb3⟩;have mO:=ai (bX jV.o hb3);have M3:=ai (aO MA.o hb3 (aJ MA.o));have KB3:=ai (aO KA.o hb3 (aJ KA.o));have O3:=ai (OA.o.kp (aD.b9 (D:=fun _=>False) hb3) (fun x=>x));have S3:=ai (OB.o.kp (aD.b9 (D:=fun _=>False) hb3) (fun x=>x));have SB3:=ai (aO SB.o hb3 (aJ SB.o));have v0:w3.cell? (Ad wr.heap.size 0)=some (.bool lv):=au SB3.o 0 rfl;have v1:w3.cell? (Ad wr.heap.size 1)=some (.slice aa na ca):=au SB3.o 1 rfl;have v2:w3.cell? (Ad wr.heap.size 2)=some (.slice ap ne cp):=au SB3.o 2 rfl;clear hb3) | (go_at_call 142;refine(Hv.o _ mO.o O3.o S3.o).mono ?_;rintro e w4 ⟨rfl,hk4,ho4⟩;have tC:=ai (hk4.below mO.o mO.o.size (fun b hb=>(by omega)));clear hk4 ho4))
          exact HX.o _ tC.o aid.o
         | true =>
          have aid:Hid (nY hs ss (List.replicate fs.length dC,List.replicate ls.length dC) (k+1)=true):=HSN;clear HSN ak9;go_wp2_with (first | (go_at_call 141;refine ZJ.o.mono ?_;rintro e w3 ⟨rfl,hb3⟩;have mO:=ai (bX jV.o hb3);have M3:=ai (aO MA.o hb3 (aJ MA.o));have KB3:=ai (aO KA.o hb3 (aJ KA.o));have O3:=ai (OA.o.kp (aD.b9 (D:=fun _=>False) hb3) (fun x=>x));have S3:=ai (OB.o.kp (aD.b9 (D:=fun _=>False) hb3) (fun x=>x));have SB3:=ai (aO SB.o hb3 (aJ SB.o));have v0:w3.cell? (Ad wr.heap.size 0)=some (.bool lv):=au SB3.o 0 rfl;have v1:w3.cell? (Ad wr.heap.size 1)=some (.slice aa na ca):=au SB3.o 1 rfl;have v2:w3.cell? (Ad wr.heap.size 2)=some (.slice ap ne cp):=au SB3.o 2 rfl;clear hb3) | (go_at_call 142;refine(Hv.o _ mO.o O3.o S3.o).mono ?_;rintro e w4 ⟨rfl,hk4,ho4⟩;have tC:=ai (hk4.below mO.o mO.o.size (fun b hb=>(by omega)));have M4:=ai (hk4.keep M3.o (by omega));have KB4:=ai (hk4.keep KB3.o (by omega));have HO4:=ai ho4;clear hk4 ho4))
          grind [intOf,Hid.o]
      · obtain rfl:k=ss.length:=by omega
        have mB:=hmm;have p1:wr.cell? (Ad mb 1)=some (.slice aF fs.length cF):=au mB 1 rfl;have p2:wr.cell? (Ad mb 2)=some (.slice aL ls.length cL):=au mB 2 rfl;have p3:wr.cell? (Ad mb 3)=some (.slice aP ss.length cP):=au mB 3 rfl;have adD:=aJ hmm;have avJ:=aJ hkk;have hbd:=HSB.o ss.length (aI _) Jc;have NL:Hid (∀V,Below wr.heap.size wr V->Calls Tryz.prog 143 #[.pointer (some (Ad mb 0))] V fun e w'=>e=.returned (I (eB ss))/\Below V.heap.size V w'):=fun V hV=>DV ss aP cP mb V (HKP.o.below (hb.trans (hV.mono hb.size))) (fun j hj=>(Hn.o j hj).aU) (by omega) ((hV.cell (p:=(Ad mb 3)) adD).trans p3)
        have Lu:Hid (∀V,Below wr.heap.size wr V->Calls Tryz.prog 144 #[.pointer (some (Ad mb 0)),.slice (some (Ad gf 0)) fs.length fs.length] V fun e w'=>e=.returned (.bool ((List.range fs.length).all fun i=>jN hs (aH fs i) (cX (kG ss (List.replicate fs.length dC,List.replicate ls.length dC) ss.length).1 i)))/\Below V.heap.size V w'):=fun V hV=>Jm hs fs _ aF cF mb W.heap.size gf fs.length V (HKF.o.below (hb.trans (hV.mono hb.size))) (hof.kp (aD.b9 (D:=fun _=>False) hV) (fun x=>x)) (fL adD hV.size) ((hV.cell (p:=(Ad mb 1)) adD).trans p1) (Np (aO mB hV adD) MD.o.symm) (fun i hi=>HUP.o MD.o.symm Jc i hi) (fun i hi=>(HFR.o i hi).1) (by omega)
        have HRL:Hid (∀V,Below wr.heap.size wr V->Calls Tryz.prog 145 #[.pointer (some (Ad mb 0)),.slice (some (Ad gs 0)) ls.length ls.length] V fun e w'=>e=.returned (.bool ((List.range ls.length).all fun i=>l9 (bH ls i) (cX (kG ss (List.replicate fs.length dC,List.replicate ls.length dC) ss.length).2 i)))/\Below V.heap.size V w'):=fun V hV=>KJ ls _ aL cL mb W.heap.size gs ls.length V (HKL.o.below (hb.trans (hV.mono hb.size))) (hos.kp (aD.b9 (D:=fun _=>False) hV) (fun x=>x)) ((hV.cell (p:=(Ad mb 2)) adD).trans p2) (fun i hi=>(hbd.2.2 i hi).1) (fun i hi=>(Uu.o i hi).1) (by omega)
        have WK:=uZ;have Ut:=E6;rw[MD.o.symm,anp.o,gZ (show 0<=hd/\hd<(fs.length:Int) from⟨g1,g2⟩)] at WK Ut;obtain⟨RF,hRF⟩:=ex ((List.range fs.length).all fun i=>jN hs (aH fs i) (cX (kG ss (List.replicate fs.length dC,List.replicate ls.length dC) ss.length).1 i));obtain⟨RL,hRL⟩:=ex ((List.range ls.length).all fun i=>l9 (bH ls i) (cX (kG ss (List.replicate fs.length dC,List.replicate ls.length dC) ss.length).2 i));obtain⟨RM,hRM⟩:=ex (eB ss);rw[<- hRF] at Lu WK Ut;rw[<- hRL] at HRL WK Ut;rw[<- hRM] at NL WK Ut;have CL:=jq wr;have k2:∀x:dV wr.heap.size wr,x.world.cell? (Ad kb 2)=some (.slice aL ls.length cL):=fun x=>by grind [fO]
        clear hRF hRL hRM hbd Jc hb hmm hkk hof hos HSB HSF uZ E6 HUP HKS HKF HKL HKP HFS HFR Uu Hn HKK HOF HOS gQ HG2 BK3 OF2 OS2 m1 m3 m2 p1 p2 p3 mB anp;go_upto_region 13 with fail;by_cases c:RM<=(ls.length:Int)
        · have c2:decide ((ls.length:Int)<RM)=false:=jl (by omega);rw[gZ c] at WK Ut;cases RF with
          | false =>
           refine dx (by rfl) (by kernel_rfl) ?_
           repeat (first | go_big_quiet_step ((first | (go_at_call 143;exact gj _ NL.o) | (go_at_call 144;exact gj _ Lu.o))) | quiet_step ((first | (go_at_call 143;exact gj _ NL.o) | (go_at_call 144;exact gj _ Lu.o))))
           refine jk ?_;rintro _ ⟨x,rfl⟩;have lh:=ai (HB.o.trans (x.keeps.mono HB.o.size));clear NL Lu HRL k2;go_wp2;exact WK.o _ lh.o (by simp)
          | true =>
           cases RL with
           | false =>
            refine dx (by rfl) (by kernel_rfl) ?_
            repeat (first | go_big_quiet_step ((first | (go_at_call 143;exact gj _ NL.o) | (go_at_call 144;exact gj _ Lu.o) | (go_at_call 145;exact gj _ HRL.o))) | quiet_step ((first | (go_at_call 143;exact gj _ NL.o) | (go_at_call 144;exact gj _ Lu.o) | (go_at_call 145;exact gj _ HRL.o))))
            refine jk ?_;rintro _ ⟨x,rfl⟩;have lh:=ai (HB.o.trans (x.keeps.mono HB.o.size));clear NL Lu HRL k2;go_wp2;exact WK.o _ lh.o (by simp)
           | true =>
            refine dx (by rfl) (by kernel_rfl) ?_
            repeat (first | go_big_quiet_step ((first | (go_at_call 143;exact gj _ NL.o) | (go_at_call 144;exact gj _ Lu.o) | (go_at_call 145;exact gj _ HRL.o))) | quiet_step ((first | (go_at_call 143;exact gj _ NL.o) | (go_at_call 144;exact gj _ Lu.o) | (go_at_call 145;exact gj _ HRL.o))))
            refine jk ?_;rintro _ ⟨x,rfl⟩;have lh:=ai (HB.o.trans (x.keeps.mono HB.o.size));have MX:=ai (aO Rj.o x.keeps (aJ Rj.o));clear NL Lu HRL k2;go_wp2;exact Ut.o _ mb lh.o (by simp) al7 MX.o
        · have c2:decide ((ls.length:Int)<RM)=true:=gZ (by omega);rw[jl c] at WK;refine dx (by rfl) (by kernel_rfl) ?_
          repeat (first | go_big_quiet_step ((go_at_call 143;exact gj _ NL.o)) | quiet_step ((go_at_call 143;exact gj _ NL.o)))
          refine jk ?_;rintro _ ⟨x,rfl⟩;have lh:=ai (HB.o.trans (x.keeps.mono HB.o.size));clear NL Lu HRL k2;go_wp2;exact WK.o _ lh.o (by simp)
open Go.RowKit
theorem Y4 (k:aT) (a:jc) (w:World) (hc:nB k=false):Calls Tryz.prog 87 #[.agg (bg a k)] w (sX w a k):=by
 have hcc:=qN hc;have uZ:Hid (∀w',Below w.heap.size w w'->sX w a k (.returned (.tuple #[.pointer none,I 2])) w'):=fun w' hb=>by
  have e:gq k=2:=by grind [gq]
  exact⟨hb,.inr ⟨by omega,by rw[e]⟩⟩
 obtain⟨P,hP⟩:=ex (sX w a k);rw[<- hP] at uZ ⊢;clear hP;unfold bg;have HC:Hid (∀V,Calls Tryz.prog 139 #[.agg #[.slice a.aS k.aM.length a.cS,.slice a.aF k.frames.length a.cF,.slice a.aL k.slots.length a.cL,.slice a.aP k.aj.length a.cP,I k.hand]] V fun e w'=>e=.returned (.bool false)/\Below V.heap.size V w'):=fun V=>by
  have:=Ip a.aS a.aF a.aL a.aP k.aM.length a.cS k.frames.length a.cF k.slots.length a.cL k.aj.length a.cP (I k.hand) V;rw[jl hcc] at this;exact this
 obtain⟨aS,cS,aF,cF,aL,cL,aP,cP⟩:=a;obtain⟨hs,fs,ls,ss,hd⟩:=k;simp only at HC ⊢;have OI:=ai ((aK w.heap.size w).alloc (aI _) (.cells #[.slice aS hs.length cS,.slice aF fs.length cF,.slice aL ls.length cL,.slice aP ss.length cP,I hd] 30));clear hc hcc;go_enter Tryz.func87,Tryz.ntmps87;go_wp2_with (go_at_call 139;refine(HC.o _).mono ?_;rintro e w1 ⟨rfl,hb1⟩;have agO:=ai (bX OI.o hb1);clear hb1)
 exact uZ.o _ agO.o
theorem Nq (k:aT) (a:jc) (w:World) (hK:jd w a k) (hF:nu k):Calls Tryz.prog 87 #[.agg (bg a k)] w (sX w a k):=by
 cases hc:nB k with
 | true=>exact VT k a w hK hF hc
 | false=>exact Y4 k a w hc
theorem VY (k:aT) (a:jc) (w:World) (hK:jd w a k) (hF:nu k):Calls Tryz.prog 40 #[.agg (bg a k)] w fun e w'=>e=.returned (I (gq k))/\Below w.heap.size w w':=by
 have HL:Hid (∀V,Below w.heap.size w V->Calls Tryz.prog 87 #[.agg (bg a k)] V fun e w'=>∃v,e=.returned (.tuple #[v,I (gq k)])/\Below V.heap.size V w'):=fun V hV=>(Nq k a V (hK.below hV) hF).mono fun e w' ⟨hb,h⟩=>by
  grind
 obtain⟨C,hC⟩:=ex (gq k);rw[<- hC] at HL ⊢;unfold bg at HL ⊢;obtain⟨aS,cS,aF,cF,aL,cL,aP,cP⟩:=a;obtain⟨hs,fs,ls,ss,hd⟩:=k;simp only at HL ⊢;clear hC hK hF;have OI:=ai ((aK w.heap.size w).alloc (aI _) (.cells #[.slice aS hs.length cS,.slice aF fs.length cF,.slice aL ls.length cL,.slice aP ss.length cP,I hd] 30));go_enter Tryz.func40,Tryz.ntmps40;go_wp2_with (go_at_call 87;refine(HL.o _ OI.o).mono ?_;rintro e w1 ⟨v,rfl,hb1⟩;have cN:=ai (bX OI.o hb1);clear hb1)
 go_ret;exact⟨rfl,cN.o⟩
open Go.RowKit
def fI (k:aT) (sp:Int):Int:=if gq k=0 then (if 0<=sp/\sp<(k.aj.length:Int)/\(ak k.aj sp.toNat).live=true then 0 else 6) else gq k
def nk (a:jc) (k:aT):Array Value:=mG (.slice a.aS k.aM.length a.cS) (.slice a.aF k.frames.length a.cF) (.slice a.aL k.slots.length a.cL) (.slice a.aP k.aj.length a.cP) (I k.hand) (l8 k.aM k.aM.length)
def xj (w:World) (a:jc) (k:aT) (c:Int) (e:Ending) (w':World):Prop:=Below w.heap.size w w'/\((c=0/\∃mb,e=.returned (.tuple #[.pointer (some (Ad mb 0)),I 0])/\w.heap.size<=mb/\w'.heap[mb]?=some (.cells (nk a k) 158 (0,0)))∨(c≠0/\e=.returned (.tuple #[.pointer none,I c])))
theorem yr (k:aT) (a:jc) (sp:Int) (w:World) (hK:jd w a k) (hF:nu k) (hsp:cO sp):Calls Tryz.prog 76 #[.agg (bg a k),I sp] w (xj w a k (fI k sp)):=by
 have HL:=ai (fun V (hV:Below w.heap.size w V)=>Nq k a V (hK.below hV) hF);have HE:Hid (∀V c,Below w.heap.size w V->fI k sp=c->c≠0->xj w a k (fI k sp) (.returned (.tuple #[.pointer none,I c])) V):=fun V c hV e hc=>⟨hV,.inr ⟨by omega,by rw[e]⟩⟩
 have HY:Hid (∀V mb,Below w.heap.size w V->fI k sp=0->w.heap.size<=mb->V.heap[mb]?=some (.cells (nk a k) 158 (0,0))->xj w a k (fI k sp) (.returned (.tuple #[.pointer (some (Ad mb 0)),I 0])) V):=fun V mb hV e hm hh=>⟨hV,.inl ⟨e,mb,rfl,hm,hh⟩⟩
 obtain⟨P,hP⟩:=ex (xj w a k (fI k sp));rw[<- hP] at HE HY ⊢;clear hP;have HHP:=ai hK.aj;have HKB:=ai (bE w (bg a k) 30);have gK:=ai ((aK w.heap.size w).alloc (aI _) (.cells (bg a k) 30));have HLK:Hid (fI k sp=if gq k=0 then (if 0<=sp/\sp<(k.aj.length:Int)/\(ak k.aj sp.toNat).live=true then 0 else 6) else gq k):=rfl;have HN4:Hid (gq k=0->k.aj.length<=4):=fun h=>((wC k).1 h).c.2.2.1.2
 clear hK hF;by_cases hc:gq k=0
 · have Bv:Hid (∀V,Below w.heap.size w V->Calls Tryz.prog 87 #[.agg (bg a k)] V fun e w'=>∃mb,e=.returned (.tuple #[.pointer (some (Ad mb 0)),I 0])/\w.heap.size<=mb/\w'.heap[mb]?=some (.cells (nk a k) 158 (0,0))/\Below V.heap.size V w'):=fun V hV=>(HL.o V hV).mono fun e w' ⟨hb,h⟩=>by
    rcases h with⟨_,mb,h1,h2,h3⟩ | ⟨h1,_⟩
    · exact⟨mb,h1,gY hV.size h2,h3,hb⟩
    omega
   have Hc:=HN4.o hc;have WZ:Hid (fI k sp=if 0<=sp/\sp<(k.aj.length:Int)/\(ak k.aj sp.toNat).live=true then 0 else 6):=by grind
   clear HL HLK hc HN4;unfold bg at Bv HKB gK ⊢;obtain⟨aS,cS,aF,cF,aL,cL,aP,cP⟩:=a;obtain⟨hs,fs,ls,ss,hd⟩:=k;simp only at Bv HKB gK HHP WZ HY Hc ⊢;rcases(show sp<0∨(0<=sp/\(ss.length:Int)<=sp)∨(0<=sp/\sp<(ss.length:Int)) by omega) with g | ⟨g1,g2⟩ | ⟨g1,g2⟩
   · have HX:=ai (fun V hV=>HE.o V 6 hV (by grind [Hid.o]) (by decide));clear HE HY WZ HHP;go_enter Tryz.func76,Tryz.ntmps76;go_wp2_with (go_at_call 87;refine(Bv.o _ gK.o).mono ?_;rintro e w1 ⟨mb,rfl,nJ,hm2,hb1⟩;have cN:=ai (bX gK.o hb1);have K1:=ai (aO HKB.o hb1 (by simp));clear hb1 hm2)
     exact HX.o _ cN.o
   · have HX:=ai (fun V hV=>HE.o V 6 hV (by grind [Hid.o]) (by decide));clear HE HY WZ HHP;go_enter Tryz.func76,Tryz.ntmps76;go_wp2_with (go_at_call 87;refine(Bv.o _ gK.o).mono ?_;rintro e w1 ⟨mb,rfl,nJ,hm2,hb1⟩;have cN:=ai (bX gK.o hb1);have K1:=ai (aO HKB.o hb1 (by simp));have c3:w1.cell? (Ad w.heap.size 3)=some (.slice aP ss.length cP):=au K1.o 3 rfl;clear hb1 hm2)
     exact HX.o _ cN.o
   · obtain⟨j,rfl⟩:∃j:Nat,sp=(j:Int):=⟨sp.toNat,by omega⟩;obtain⟨pb,po,hao,hbl,eY⟩:=HHP.o (by omega);subst hao;obtain⟨va,ap,cp,y0,_,_,_,_,_⟩:=eY j (by omega);rw[lM] at WZ;obtain⟨lv,hlv⟩:=ex ((ak ss j).live);rw[<- hlv] at y0 WZ;clear hlv eY HHP;cases lv with
     | false =>
      have HX:=ai (fun V hV=>HE.o V 6 hV (by rw[WZ.o,aA (by simp)]) (by decide));clear HE HY WZ;go_enter Tryz.func76,Tryz.ntmps76;go_wp2_with (go_at_call 87;refine(Bv.o _ gK.o).mono ?_;rintro e w1 ⟨mb,rfl,nJ,hm2,hb1⟩;have cN:=ai (bX gK.o hb1);have K1:=ai (aO HKB.o hb1 (by simp));have c3:w1.cell? (Ad w.heap.size 3)=some (.slice (some (Ad pb po)) ss.length cP):=au K1.o 3 rfl;have l0:w1.cell? (Ad pb (po+j*3))=some (.bool false):=(cN.o.cell (p:=(Ad pb (po+j*3))) hbl).trans y0;clear hb1 hm2)
      exact HX.o _ cN.o
     | true =>
      have HX:=ai (fun V mb hV hm hh=>HY.o V mb hV (by rw[WZ.o,aC ⟨g1,g2,rfl⟩]) hm hh);clear HE HY WZ;go_enter Tryz.func76,Tryz.ntmps76;go_wp2_with (go_at_call 87;refine(Bv.o _ gK.o).mono ?_;rintro e w1 ⟨mb,rfl,nJ,hm2,hb1⟩;have Jv:=ai hm2;have cN:=ai (bX gK.o hb1);have K1:=ai (aO HKB.o hb1 (by simp));have c3:w1.cell? (Ad w.heap.size 3)=some (.slice (some (Ad pb po)) ss.length cP):=au K1.o 3 rfl;have l0:w1.cell? (Ad pb (po+j*3))=some (.bool true):=(cN.o.cell (p:=(Ad pb (po+j*3))) hbl).trans y0;clear hb1 hm2)
      exact HX.o _ mb cN.o nJ Jv.o
 · have Bv:Hid (∀V,Below w.heap.size w V->Calls Tryz.prog 87 #[.agg (bg a k)] V fun e w'=>e=.returned (.tuple #[.pointer none,I (gq k)])/\Below V.heap.size V w'):=fun V hV=>(HL.o V hV).mono fun e w' ⟨hb,h⟩=>by
    grind
   have HX:=ai (fun V hV=>HE.o V (gq k) hV (by grind [Hid.o]) hc);obtain⟨C,hC⟩:=ex (gq k);rw[<- hC] at Bv HX hc;have cb:(C != 0)=true:=by grind
   clear HL HLK hC HE HY HN4 HHP;unfold bg at Bv HKB gK ⊢;obtain⟨aS,cS,aF,cF,aL,cL,aP,cP⟩:=a;obtain⟨hs,fs,ls,ss,hd⟩:=k;simp only at Bv HKB gK ⊢;clear hc;go_enter Tryz.func76,Tryz.ntmps76;go_wp2_with (go_at_call 87;refine(Bv.o _ gK.o).mono ?_;rintro e w1 ⟨rfl,hb1⟩;have cN:=ai (bX gK.o hb1);clear hb1)
   exact HX.o _ cN.o
open Go.RowKit
theorem SQ (p:Int) (e:bI) (x:Nat) (w:World) (hx:w.cell? (Ad x 0)=some (I p)) :
  Calls Tryz.prog 187 #[.agg #[I e.page,I e.kind,I e.loc],.pointer (some (Ad x 0))] w fun r w'=>r=.returned (.bool (decide (e.page=p)))/\Below w.heap.size w w':=by
 obtain⟨pg,kd,lc⟩:=e;simp only;have hxl:x<w.heap.size:=oQ w _ hx;have xA:(w.alloc (.cells #[I pg,I kd,I lc] 174)).cell? (Ad x 0)=some (I p):=(O9 ((aK w.heap.size w).alloc (aI _) _) (p:=(Ad x 0)) hxl).trans hx;obtain⟨A,hA⟩:=ex (decide (pg=p));have HA:Hid ((pg==p)=A):=by show _=_;grind
 rw[<- hA];clear hA;have ha:=HA.o;clear HA;go_enter Tryz.func187,Tryz.ntmps187;go_wp2;go_ret;simp[aK,pZ]
theorem Jn (F:FuncId) (hF:F=187∨F=298∨F=300) (P:bI->Bool) (es:List bI) (ao:Option Addr) (cap x:Nat) (w:World) (h:dW bG 3 gV w ao es) (hl:es.length<=1000000)
  (hC:∀V e,Below w.heap.size w V->Calls Tryz.prog F #[.agg #[I e.page,I e.kind,I e.loc],.pointer (some (Ad x 0))] V fun r w'=>r=.returned (.bool (P e))/\Below V.heap.size V w') :
  Calls Tryz.prog 186 #[.slice ao es.length cap,.func (.func F) #[] #[.pointer (some (Ad x 0))]] w fun e w' =>
   Below w.heap.size w w'/\((e=.returned (I (-1))/\∀j,j<es.length->P (aW es j)=false)∨∃i:Nat,i<es.length/\e=.returned (I (i:Int))/\P (aW es i)=true/\∀j,j<i->P (aW es j)=false):=by
 have HH:=ai h;have HC:=ai hC;clear h hC;rcases hF with rfl | rfl | rfl
 all_goals
  go_enter Tryz.func186,Tryz.ntmps186;go_wp2;go_loopw [8] (fun iv wr=>∃k:Nat,k<=es.length/\iv=I (k:Int)/\(∀j,j<k->P (aW es j)=false)/\Below w.heap.size w wr) (fun iv _=>es.length-(intOf iv).toNat)
  case atStart=>grind [Below.refl]
  case round =>
   obtain⟨k,hk,rfl,hno,hb⟩:=hrel;have uZ:=ai hno;have HB:=ai hb;clear hno;by_cases hlt:k<es.length
   · have JI:(k:Int)<(es.length:Int):=by omega
     obtain⟨eb,eo,hao,hbl,eY⟩:=HH.o (by omega);subst hao;have y0:=(hb.cell (p:=(Ad eb (eo+k*3+0))) hbl).trans (eY k hlt 0 (by omega));have y1:=(hb.cell (p:=(Ad eb (eo+k*3+1))) hbl).trans (eY k hlt 1 (by omega));have y2:=(hb.cell (p:=(Ad eb (eo+k*3+2))) hbl).trans (eY k hlt 2 (by omega));rw[kW] at y0;have yP:=ai (HC.o wr (aW es k) hb);obtain⟨G,hG⟩:=ex (P (aW es k));rw[<- hG] at yP;have HG:=ai hG;obtain⟨E,hE⟩:=ex (aW es k);have x0:wr.cell? (Ad eb (eo+k*3))=some (I E.page):=by rw[hE];exact y0
     have x1:wr.cell? (Ad eb (eo+k*3+1))=some (I E.kind):=by rw[hE];exact y1
     have x2:wr.cell? (Ad eb (eo+k*3+2))=some (I E.loc):=by rw[hE];exact y2
     rw[<- hE] at yP;clear hG hE hb y0 y1 y2 eY;cases G with
     | true =>
      go_wp2_with ((first | go_at_call 187 | go_at_call 298 | go_at_call 300);refine yP.o.mono ?_;rintro e w1 ⟨rfl,hb1⟩;have cN:=ai (HB.o.trans (hb1.mono HB.o.size));clear hb1)
      go_ret;exact⟨cN.o,.inr ⟨k,hlt,rfl,HG.o.symm,uZ.o⟩⟩
     | false =>
      go_wp2_with ((first | go_at_call 187 | go_at_call 298 | go_at_call 300);refine yP.o.mono ?_;rintro e w1 ⟨rfl,hb1⟩;have cN:=ai (HB.o.trans (hb1.mono HB.o.size));clear hb1)
      go_roundw
      case rel=>exact⟨k+1,by omega,by go_num,fun j hj=>by
       by_cases q:j=k
       · subst q;exact HG.o.symm
       · exact uZ.o j (by omega),cN.o⟩
      case measure=>simp[intOf];omega
   · obtain rfl:k=es.length:=by omega
     clear hb;go_wp2;go_ret;exact⟨HB.o,.inl ⟨rfl,uZ.o⟩⟩
open Go.RowKit
theorem SP (es:List bI) (p:Int) (i:Nat) (hi:i<es.length) (h:(aW es i).page=p) (hno:∀j,j<i->¬(aW es j).page=p):bu es p=some (aW es i):=by
 induction es generalizing i with
 | nil=>cases hi
 | cons a r ih =>
  cases i with
  | zero =>
   have h:a.page=p:=h;show(a::r).find? _=some a
   grind
  | succ i =>
   have h0:¬a.page=p:=hno 0 (by omega);show(a::r).find? _=some (aW r i);rw[List.find?_cons,jl h0];exact ih i (Ds hi) h (fun j hj=>hno (j+1) (by omega))
theorem VV (es:List bI) (p:Int) (hno:∀j,j<es.length->¬(aW es j).page=p):bu es p=none:=qJ.2 fun e he=>by
 obtain⟨j,hj,rfl⟩:=lG gV he;exact hno j hj
def nt (es:List bI) (p:Int):bI×Bool:=match bu es p with
 | some e=>(e,true)
 | none=>(gV,false)
def sW (e:bI):Value:=.agg #[I e.page,I e.kind,I e.loc]
theorem VX (es:List bI) (p:Int) (j n mb pb po cP:Nat) (ae:Option Addr) (ce:Nat) (w:World) (hm:w.cell? (Ad mb 3)=some (.slice (some (Ad pb po)) n cP)) (hj:j<n) (hce:w.cell? (Ad pb (po+j*3+2))=some (.slice ae es.length ce)) (he:dW bG 3 gV w ae es) (hl:es.length<=1000000) (hn:n<=1000000) :
  Calls Tryz.prog 129 #[.pointer (some (Ad mb 0)),I (j:Int),I p] w fun e w'=>e=.returned (.tuple #[sW (nt es p).1,.bool (nt es p).2])/\Below w.heap.size w w':=by
 have MV:=oQ w _ hm;have hpl:=oQ w _ hce;have MV:mb<w.heap.size:=MV;have hpl:pb<w.heap.size:=hpl;have HHE:=ai he;obtain⟨W,hW⟩:=ex ((w.alloc (.cells #[I p] 3)).alloc (.cells #[I 0,I 0,I 0] 174));have gK:Hid (Below w.heap.size w W):=by simp_all [aK,pZ]
 have X0:Hid (W.heap[w.heap.size]?=some (.cells #[I p] 3 (0,0))):=by grind [br,bE]
 have R0:Hid (W.heap[w.heap.size+1]?=some (.cells #[I 0,I 0,I 0] 174 (0,0))):=by
  grind [bE,World.size_alloc]
 have d3:W.cell? (Ad mb 3)=some (.slice (some (Ad pb po)) n cP):=(gK.o.cell (p:=(Ad mb 3)) MV).trans hm;have d2:W.cell? (Ad pb (po+j*3+2))=some (.slice ae es.length ce):=(gK.o.cell (p:=(Ad pb (po+j*3+2))) hpl).trans hce;have Uy:=ai (Jn 187 (.inl rfl) (fun e=>decide (e.page=p)) es ae ce w.heap.size W (he.below gK.o) hl (fun V e hV=>SQ p e w.heap.size V (au (aO X0.o hV (aJ X0.o)) 0 rfl)));have HF:=ai (SP es p);have HN:=ai (VV es p);have hji:(j:Int)<(n:Int):=by omega
 have hj0:(0:Int)<=(j:Int):=by omega
 have HW:=ai hW;clear hm hce he hW;by_cases hex:∃j,j<es.length/\(aW es j).page=p
 · obtain⟨j0,aqm,aql⟩:=hex;have HI2:Hid (Calls Tryz.prog 186 #[.slice ae es.length ce,.func (.func 187) #[] #[.pointer (some (Ad w.heap.size 0))]] W fun e w'=>∃i:Nat,i<es.length/\e=.returned (I (i:Int))/\nt es p=(aW es i,true)/\Below W.heap.size W w'):=Uy.o.mono fun e w' ⟨hb,h⟩=>by
    rcases h with⟨_,hno⟩ | ⟨i,hi,he,al3,hno⟩
    · grind
    · refine⟨i,hi,he,?_,hb⟩;unfold nt;rw[HF.o i hi (by grind) (fun j hj=>by grind)]
   clear Uy HF HN aqm aql;go_enter Tryz.func129,Tryz.ntmps129;go_upto_region 1 with fail;rw[<- HW.o];go_upto_region 3 with(go_at_call 186;refine HI2.o.mono ?_;rintro e w1 ⟨i,hi,rfl,hen,hb1⟩;have Az:=ai hen;have cN:=ai (gK.o.trans (hb1.mono gK.o.size));have R1:=ai (aO R0.o hb1 (aJ R0.o));clear hb1 hen)
   obtain⟨eb,eo,hao,hbl,eY⟩:=HHE.o (by omega);subst hao;have y0:=(cN.o.cell (p:=(Ad eb (eo+i*3+0))) hbl).trans (eY i hi 0 (by omega));have y1:=(cN.o.cell (p:=(Ad eb (eo+i*3+1))) hbl).trans (eY i hi 1 (by omega));have y2:=(cN.o.cell (p:=(Ad eb (eo+i*3+2))) hbl).trans (eY i hi 2 (by omega));rw[kW] at y0;obtain⟨E,hE⟩:=ex (aW es i);have x0:w1.cell? (Ad eb (eo+i*3))=some (I E.page):=by rw[hE];exact y0
   have x1:w1.cell? (Ad eb (eo+i*3+1))=some (I E.kind):=by rw[hE];exact y1
   have x2:w1.cell? (Ad eb (eo+i*3+2))=some (I E.loc):=by rw[hE];exact y2
   rw[<- hE] at Az;obtain⟨r0,r1,r2⟩:=Ez R1.o;have f0:=aR R1.o 0;have f1:=aR R1.o 1;have f2:=aR R1.o 2;have hi1:(i:Int)<(es.length:Int):=by omega
   have hi0:(0:Int)<=(i:Int):=by omega
   clear hE y0 y1 y2 eY;go_wp2;have R2:(((w1.setCell (Ad (w.heap.size+1) 0) (I E.page)).setCell (Ad (w.heap.size+1) 1) (I E.kind)).setCell (Ad (w.heap.size+1) 2) (I E.loc)).heap[w.heap.size+1]?=some (.cells #[I E.page,I E.kind,I E.loc] 174 (0,0)):=fh (fh (fh R1.o 0 _) 1 _) 2 _;obtain⟨v0,v1,v2⟩:=Ez R2;refine bO (v:=.tuple #[sW E,.bool true]) (by simp[results,Tryz.results129,go_sem,sW,v0,v1,v2]) rfl ?_;rw[Az.o];refine⟨rfl,?_⟩;exact((cN.o.setCell (p:=(Ad (w.heap.size+1) 0)) (by show w.heap.size<=w.heap.size+1;omega) _).setCell (p:=(Ad (w.heap.size+1) 1)) (by show w.heap.size<=w.heap.size+1;omega) _).setCell (p:=(Ad (w.heap.size+1) 2)) (by show w.heap.size<=w.heap.size+1;omega) _
 · have HI2:Hid (Calls Tryz.prog 186 #[.slice ae es.length ce,.func (.func 187) #[] #[.pointer (some (Ad w.heap.size 0))]] W fun e w'=>e=.returned (I (-1))/\Below W.heap.size W w'):=Uy.o.mono fun e w' ⟨hb,h⟩=>by
    grind
   have Az:Hid (nt es p=(gV,false)):=by
    show _=_;unfold nt;rw[HN.o (fun j hj e=>hex ⟨j,hj,e⟩)]
   clear Uy HF HN hex;go_enter Tryz.func129,Tryz.ntmps129;go_upto_region 1 with fail;rw[<- HW.o];go_upto_region 3 with(go_at_call 186;refine HI2.o.mono ?_;rintro e w1 ⟨rfl,hb1⟩;have cN:=ai (gK.o.trans (hb1.mono gK.o.size));have R1:=ai (aO R0.o hb1 (aJ R0.o));clear hb1)
   obtain⟨r0,r1,r2⟩:=Ez R1.o;have f0:=aR R1.o 0;have f1:=aR R1.o 1;have f2:=aR R1.o 2;go_wp2;have R2:(((w1.setCell (Ad (w.heap.size+1) 0) (I 0)).setCell (Ad (w.heap.size+1) 1) (I 0)).setCell (Ad (w.heap.size+1) 2) (I 0)).heap[w.heap.size+1]?=some (.cells #[I 0,I 0,I 0] 174 (0,0)):=fh (fh (fh R1.o 0 _) 1 _) 2 _;obtain⟨v0,v1,v2⟩:=Ez R2;refine bO (v:=.tuple #[sW gV,.bool false]) (by simp[results,Tryz.results129,go_sem,sW,gV,v0,v1,v2]) rfl ?_;rw[Az.o];refine⟨rfl,?_⟩;exact((cN.o.setCell (p:=(Ad (w.heap.size+1) 0)) (by grind) _).setCell (p:=(Ad (w.heap.size+1) 1)) (by grind) _).setCell (p:=(Ad (w.heap.size+1) 2)) (by grind) _
open Go.RowKit
open Go.RowKit
open Go.RowKit
def iE (n:Int):List Value:=[I n]
def DW (l:List Int) (i:Nat):Int:=l.getD i 0
theorem SN (l:List Int) (x:Int) (ao:Option Addr) (cap:Nat) (w:World) (h:dW iE 1 0 w ao l) (hl:l.length<=1000000) :
  Calls Tryz.prog 288 #[.slice ao l.length cap,I x] w fun e w'=>w'=w/\((e=.returned (I (-1))/\∀j,j<l.length->DW l j≠x)∨∃i:Nat,i<l.length/\e=.returned (I (i:Int))/\DW l i=x):=by
 have HH:=ai h;clear h;go_enter Tryz.func288,Tryz.ntmps288;go_wp2;go_loopw [8] (fun iv wr=>∃k:Nat,k<=l.length/\iv=I (k:Int)/\(∀j,j<k->DW l j≠x)/\wr=w) (fun iv _=>l.length-(intOf iv).toNat)
 case atStart=>grind
 case round =>
  obtain⟨k,hk,rfl,hno,rfl⟩:=hrel;have uZ:=ai hno;clear hno;by_cases hlt:k<l.length
  · have JI:(k:Int)<(l.length:Int):=by omega
    obtain⟨eb,eo,hao,hbl,eY⟩:=HH.o (by omega);subst hao;have y0:=eY k hlt 0 (by omega);rw[kW,OW] at y0;obtain⟨E,hE⟩:=ex (DW l k);have x0:wr.cell? (Ad eb (eo+k))=some (I E):=by rw[hE];exact y0
    have HE:=ai hE;clear hE y0 eY;by_cases c:x=E
    · have cb:(x==E)=true:=by grind
      have HC:=ai c;clear c;go_wp2;go_ret;exact⟨rfl,.inr ⟨k,hlt,rfl,by rw[<- HE.o,HC.o]⟩⟩
    · have cb:(x==E)=false:=by grind
      have HC:=ai c;clear c;go_wp2
      grind [intOf,Hid.o]
  · obtain rfl:k=l.length:=by omega
    go_wp2;go_ret;exact⟨rfl,.inl ⟨rfl,uZ.o⟩⟩
theorem Nr (l:List Int) (x:Int):x∈l↔∃i,i<l.length/\DW l i=x:=⟨fun h=>lG 0 h,fun ⟨i,hi,e⟩=>e ▸ jP hi⟩
theorem xh (l:List Int) (x:Int) (ao:Option Addr) (cap:Nat) (w:World) (h:dW iE 1 0 w ao l) (hl:l.length<=1000000) :
  Calls Tryz.prog 282 #[.slice ao l.length cap,I x] w fun e w'=>e=.returned (.bool (decide (x∈l)))/\w'=w:=by
 have HI:=ai (SN l x ao cap w h hl);clear h;by_cases c:x∈l
 · have HI2:Hid (Calls Tryz.prog 288 #[.slice ao l.length cap,I x] w fun e w'=>∃i:Nat,i<l.length/\e=.returned (I (i:Int))/\w'=w):=HI.o.mono fun e w' ⟨hw,h⟩=>by
    grind [Nr]
   rw[gZ c];clear HI c;go_enter Tryz.func282,Tryz.ntmps282;go_wp2_with (go_at_call 288;refine HI2.o.mono ?_;rintro e w1 ⟨i,hi,rfl,rfl⟩;have hi0:(0:Int)<=(i:Int):=(by omega))
   go_ret
   simp_all
 · have HI2:Hid (Calls Tryz.prog 288 #[.slice ao l.length cap,I x] w fun e w'=>e=.returned (I (-1))/\w'=w):=HI.o.mono fun e w' ⟨hw,h⟩=>by
    grind [Nr]
   rw[jl c];clear HI c;go_enter Tryz.func282,Tryz.ntmps282;go_wp2_with (go_at_call 288;refine HI2.o.mono ?_;rintro e w1 ⟨rfl,rfl⟩)
   go_ret
   simp_all
end Go.Proofs.YtlgoihmkgaaemaaGreat
