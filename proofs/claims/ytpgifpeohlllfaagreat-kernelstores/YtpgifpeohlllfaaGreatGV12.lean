import Derived.Test.YtpgifpeohlllfaaGreatGV11
import Derived.Great.Ranges
set_option maxHeartbeats 20000000
set_option linter.unusedVariables false
set_option maxRecDepth 100000
set_option linter.unusedSimpArgs false
namespace Go.Proofs.YtpgifpeohlllfaaGreat
namespace Go.Proofs.YtpgifpeohlllfaaGreat
open Go.RowKit
def rI (w:World) (a:fP) (k:aN) (e:Ending) (w':World):Prop:=Below w.heap.size w w'/\((gG k=0/\∃mb,e=.returned (.tuple #[.pointer (some (Ad mb 0)),I 0])/\w.heap.size<=mb/\w'.heap[mb]?=some (.cells (mz (.slice a.aS k.aA.length a.cS) (.slice a.aF k.frames.length a.cF) (.slice a.aL k.slots.length a.cL) (.slice a.aP k.aj.length a.cP) (I k.hand) (lY k.aA k.aA.length)) 104 (0,0)))∨(gG k≠0/\e=.returned (.tuple #[.pointer none,I (gG k)])))
theorem En {w:World} {mb:Nat} {hs:List bM} {a b c d e:Value} (h:w.heap[mb]?=some (.cells (mz a b c d e (lY hs hs.length)) 104 (0,0))) (hr:fJ hs=true):∀n:Nat,n<256->w.cell? (Ad mb (5+n))=some (.string (fM hs n)):=fun n hn=>(aB h (5+n) (Po a b c d e _ n hn)).trans (by grind [Eo])
theorem UT (k:aN) (a:fP) (w:World) (hK:fT w a k) (hF:gW k) (hc:mi k=true):Calls Tryz.prog 62 #[.agg (aT a k)] w (rI w a k):=by
 have hcc:=jH hc;have pq:Hid (∀w',Below w.heap.size w w'->BG k=false->rI w a k (.returned (.tuple #[.pointer none,I 1])) w'):=fun w' hb hf=>by
  have e:gG k=1:=by grind [gG]
  exact⟨hb,.inr ⟨by omega,by rw[e]⟩⟩
 have vh:Hid (∀w' mb,Below w.heap.size w w'->BG k=true->w.heap.size<=mb->w'.heap[mb]?=some (.cells (mz (.slice a.aS k.aA.length a.cS) (.slice a.aF k.frames.length a.cF) (.slice a.aL k.slots.length a.cL) (.slice a.aP k.aj.length a.cP) (I k.hand) (lY k.aA k.aA.length)) 104 (0,0))->rI w a k (.returned (.tuple #[.pointer (some (Ad mb 0)),I 0])) w'):=fun w' mb hb hf hm hh=>by
  have e:gG k=0:=by grind [gG]
  exact⟨hb,.inl ⟨e,mb,rfl,hm,hh⟩⟩
 obtain⟨P,hP⟩:=ex (rI w a k);rw[<- hP] at pq vh ⊢;clear hP;unfold aT;have HC:Hid (∀V,Calls Tryz.prog 109 #[.agg #[.slice a.aS k.aA.length a.cS,.slice a.aF k.frames.length a.cF,.slice a.aL k.slots.length a.cL,.slice a.aP k.aj.length a.cP,I k.hand]] V fun e w'=>e=.returned (.bool true)/\Below V.heap.size V w'):=fun V=>by
  have:=Gw a.aS a.aF a.aL a.aP k.aA.length a.cS k.frames.length a.cF k.slots.length a.cL k.aj.length a.cP (I k.hand) V;rw[dh hcc] at this;exact this
 have HUP:=ai (@Rv k);have DF:=ai (Tk k.aA k.aj (List.replicate k.frames.length eB,List.replicate k.slots.length eB) k.frames.length k.slots.length (Tj _) (Tj _));have HSF:=ai (JJ k.aA k.aj (List.replicate k.frames.length eB,List.replicate k.slots.length eB));obtain⟨hKS,hKF,hKL,hKP⟩:=hK;obtain⟨fS,fnF,ffr,fnS,fsl,fnP,fsp,fhd⟩:=hF;have HKS:=ai hKS;have HKF:=ai hKF;have HKL:=ai hKL;have Y5:=ai hKP;have HFS:=ai fS;have Wj:=ai ffr;have Qj:=ai fsl;have xJ:=ai fsp;clear hKS hKF hKL hKP fS ffr fsl fsp hc fnF fnS fnP;obtain⟨aS,cS,aF,cF,aL,cL,aP,cP⟩:=a;obtain⟨hs,fs,ls,ss,hd⟩:=k;unfold BG yN at *;simp only at HC hcc pq vh HUP DF HSF HKS HKF HKL Y5 HFS Wj Qj xJ fhd ⊢;have BK:=ai (bG w #[.slice aS hs.length cS,.slice aF fs.length cF,.slice aL ls.length cL,.slice aP ss.length cP,I hd] 27);have Wn:=ai ((aK w.heap.size w).alloc (aM _) (.cells #[.slice aS hs.length cS,.slice aF fs.length cF,.slice aL ls.length cL,.slice aP ss.length cP,I hd] 27));go_enter Tryz.func62,Tryz.ntmps62;go_upto_region 3 with(go_at_call 109;refine(HC.o _).mono ?_;rintro e w1 ⟨rfl,hb1⟩;have afp:=ai (bZ Wn.o hb1);have BK1:=ai (aQ BK.o hb1 (by simp));clear hb1)
 refine wp_region_lit ?_;refine ra rfl 27 _ rfl w.heap.size rfl 27 _ (0,0) _ BK1.o Tryz.underlying27 rfl (by rfl) ?_;refine Ni rfl 104 _ rfl (.agg #[.slice aS hs.length cS,.slice aF fs.length cF,.slice aL ls.length cL,.slice aP ss.length cP,I hd]) (by rfl) _ (ada _ _ _ _ _) ?_;have HM:=ai (bG w1 (mz (.slice aS hs.length cS) (.slice aF fs.length cF) (.slice aL ls.length cL) (.slice aP ss.length cP) (I hd) rH) 104);have BK2:=ai (bE BK1.o (.cells (mz (.slice aS hs.length cS) (.slice aF fs.length cF) (.slice aL ls.length cL) (.slice aP ss.length cP) (I hd) rH) 104));have ahG:=ai (afp.o.alloc afp.o.size (.cells (mz (.slice aS hs.length cS) (.slice aF fs.length cF) (.slice aL ls.length cL) (.slice aP ss.length cP) (I hd) rH) 104));have jn:w.heap.size<w1.heap.size:=aO BK1.o;refine Go.Great.wpList_boxTo rfl 104 _ rfl _ rfl w1.heap.size rfl (mz (.slice aS hs.length cS) (.slice aF fs.length cF) (.slice aL ls.length cL) (.slice aP ss.length cP) (I hd) rH) (by rfl) ?_;obtain⟨W,hW⟩:=ex (w1.alloc (.cells (mz (.slice aS hs.length cS) (.slice aF fs.length cF) (.slice aL ls.length cL) (.slice aP ss.length cP) (I hd) rH) 104));rw[<- hW] at HM BK2 ahG ⊢;obtain⟨mb,hmb⟩:=ex w1.heap.size;rw[<- hmb] at HM jn ⊢;obtain⟨kb,hkb⟩:=ex w.heap.size;have ald:w.heap.size<=mb:=by omega
 have au3:w.heap.size<=kb:=by omega
 have agA:¬kb=mb:=by omega
 rw[<- hkb] at BK2 ⊢;have d1:W.cell? (Ad kb 1)=some (.slice aF fs.length cF):=aB BK2.o 1 rfl;have d2:W.cell? (Ad kb 2)=some (.slice aL ls.length cL):=aB BK2.o 2 rfl;clear hW hmb hkb BK BK1 HC Wn afp;have zR:fs.length<=1000:=by omega
 have hn3:ls.length<=1000:=by omega
 have e2:∀V:World,(Instr.makeSlice 162 (I (fs.length:Int)) (I (fs.length:Int))).run Tryz.prog V=.ok (.slice (some (Ad V.heap.size 0)) fs.length fs.length) (V.alloc (.cells (vq fs.length) 211)):=fun V=>aca V fs.length zR
 have e3:∀V:World,(Instr.makeSlice 162 (I (ls.length:Int)) (I (ls.length:Int))).run Tryz.prog V=.ok (.slice (some (Ad V.heap.size 0)) ls.length ls.length) (V.alloc (.cells (vq ls.length) 211)):=fun V=>aca V ls.length hn3
 have d1A:(W.alloc (.cells (vq ls.length) 211)).cell? (Ad kb 1)=some (.slice aF fs.length cF):=aB (bE BK2.o _) 1 rfl;have d2A:(W.alloc (.cells (vq fs.length) 211)).cell? (Ad kb 2)=some (.slice aL ls.length cL):=aB (bE BK2.o _) 2 rfl;have q1:=ai (FM W.heap.size W fs.length (aM _) zR);have q2:=ai (FM W.heap.size (W.alloc (.cells (vq fs.length) 211)) ls.length (by simp) hn3);have q3:=ai (FM W.heap.size W ls.length (aM _) hn3);have q4:=ai (FM W.heap.size (W.alloc (.cells (vq ls.length) 211)) fs.length (by simp) zR);rw[iJ] at q2 q4;have q5:=ai (((aK W.heap.size W).alloc (aM _) (.cells (vq fs.length) 211)).alloc (by simp) (.cells (vq ls.length) 211));have q6:=ai (((aK W.heap.size W).alloc (aM _) (.cells (vq ls.length) 211)).alloc (by simp) (.cells (vq fs.length) 211));go_upto_region 4 with fail;go_cut [5,6] (fun x5 x6 wx=>∃gf gs:Nat,x5=.slice (some (Ad gf 0)) fs.length fs.length/\x6=.slice (some (Ad gs 0)) ls.length ls.length/\¬gf=gs/\ir W.heap.size wx gf fs.length fs.length (List.replicate fs.length eB)/\ir W.heap.size wx gs ls.length ls.length (List.replicate ls.length eB)/\Below W.heap.size W wx)
 case first =>
  go_region
  all_goals
   go_wp2_with fail
   go_meet
   case rel=>first | exact⟨_,_,rfl,rfl,by simp,(q1.out.kp (aH.alloc (fun _=>False) _ _) (fun x=>x)).d,q2.out.d,q5.out.drew⟩ | exact⟨_,_,rfl,rfl,by simp,q4.out.d,(q3.out.kp (aH.alloc (fun _=>False) _ _) (fun x=>x)).d,q6.out.drew⟩
 case rest =>
  obtain⟨gf,gs,rfl,rfl,hne,hof,hos,QR⟩:=hcut;clear q1 q2 q3 q4 q5 q6 e2 e3 d1A d2A d1 d2;have hgf:=hof.lt;have hgs:=hos.lt;have HOF:=ai hof;have HOS:=ai hos;have hmW:=aO HM.o;have hkW:=aO BK2.o;have HMX:=ai (aQ HM.o QR hmW);have BKX:=ai (aQ BK2.o QR hkW);have oo:=ai (ahG.o.trans (QR.mono ahG.o.size));have adB:=ai (Ju hs aS cS mb (.slice aF fs.length cF) (.slice aL ls.length cL) (.slice aP ss.length cP) (I hd) w wc HKS.o HFS.o oo.o ald HMX.o (by omega));clear hof hos QR HM BK2 ahG;have Dh:Hid (∀V,Below w.heap.size w V->(fJ hs=false∨hd<0∨(fs.length:Int)<=hd)->P (.returned (.tuple #[.pointer none,I 1])) V):=fun V hV g=>pq.o V hV (by
   rcases g with g | g | g
   · rw[g];rfl
   · rw[dE (by omega)];simp
   · rw[dE (by omega)];simp)
  obtain⟨RB,hRB⟩:=ex (fJ hs);have LI:=ai hRB;rw[<- hRB] at adB Dh;clear hRB;cases RB with
  | false =>
   go_wp2_with (go_at_call 110;refine adB.o.mono ?_;rintro e w2 ⟨rfl,hk2,G,hG,hg⟩;have fq:=ai (hk2.below oo.o oo.o.size (fun b hb=>(by omega)));have BK3:=ai (hk2.keep BKX.o agA);clear hk2 hG hg)
   exact Dh.o _ fq.o (.inl trivial)
  | true =>
   rcases(show hd<0∨(0<=hd/\(fs.length:Int)<=hd)∨(0<=hd/\hd<(fs.length:Int)) by omega) with g | ⟨g1,g2⟩ | ⟨g1,g2⟩
   · go_wp2_with (go_at_call 110;refine adB.o.mono ?_;rintro e w2 ⟨rfl,hk2,G,hG,hg⟩;have fq:=ai (hk2.below oo.o oo.o.size (fun b hb=>(by omega)));have BK3:=ai (hk2.keep BKX.o agA);have HGG:=ai hg;have m4:w2.cell? (Ad kb 4)=some (I hd):=aB BK3.o 4 rfl;clear hk2 hG hg)
     exact Dh.o _ fq.o (.inr (.inl g))
   · go_wp2_with (go_at_call 110;refine adB.o.mono ?_;rintro e w2 ⟨rfl,hk2,G,hG,hg⟩;have fq:=ai (hk2.below oo.o oo.o.size (fun b hb=>(by omega)));have BK3:=ai (hk2.keep BKX.o agA);have HGG:=ai hg;have m1:w2.cell? (Ad kb 1)=some (.slice aF fs.length cF):=aB BK3.o 1 rfl;have m4:w2.cell? (Ad kb 4)=some (I hd):=aB BK3.o 4 rfl;clear hk2 hG hg)
     exact Dh.o _ fq.o (.inr (.inr g2))
   · go_wp2_with (go_at_call 110;refine adB.o.mono ?_;rintro e w2 ⟨rfl,hk2,G,hG,hg⟩;have fq:=ai (hk2.below oo.o oo.o.size (fun b hb=>(by omega)));have BK3:=ai (hk2.keep BKX.o agA);have HG:=ai hG;have HGG:=ai hg;have OF2:=ai (HOF.o.kp hk2 (by omega));have OS2:=ai (HOS.o.kp hk2 (by omega));have m1:w2.cell? (Ad kb 1)=some (.slice aF fs.length cF):=aB BK3.o 1 rfl;have m3:w2.cell? (Ad kb 3)=some (.slice aP ss.length cP):=aB BK3.o 3 rfl;have m4:w2.cell? (Ad kb 4)=some (I hd):=aB BK3.o 4 rfl;clear hk2 hG hg)
     have HG2:Hid (w2.heap[mb]?=some (.cells (mz (.slice aS hs.length cS) (.slice aF fs.length cF) (.slice aL ls.length cL) (.slice aP ss.length cP) (I hd) (lY hs hs.length)) 104 (0,0))):=by
      have:=HG.o;rw[HGG.o trivial] at this;exact this
     clear adB Dh HG HGG HMX BKX oo HOF HOS m4;go_loopw [42] (fun iv wr=>∃k:Nat,k<=ss.length/\iv=I (k:Int)/\nT hs ss (List.replicate fs.length eB,List.replicate ls.length eB) k=true/\Below w.heap.size w wr/\wr.heap[mb]?=some (.cells (mz (.slice aS hs.length cS) (.slice aF fs.length cF) (.slice aL ls.length cL) (.slice aP ss.length cP) (I hd) (lY hs hs.length)) 104 (0,0))/\wr.heap[kb]?=some (.cells #[.slice aS hs.length cS,.slice aF fs.length cF,.slice aL ls.length cL,.slice aP ss.length cP,I hd] 27 (0,0))/\ir W.heap.size wr gf fs.length fs.length (kN ss (List.replicate fs.length eB,List.replicate ls.length eB) k).1/\ir W.heap.size wr gs ls.length ls.length (kN ss (List.replicate fs.length eB,List.replicate ls.length eB) k).2) (fun iv _=>ss.length-(intOf iv).toNat)
     case atStart=>exact⟨0,by omega,rfl,rfl,fq.o,HG2.o,BK3.o,OF2.o,OS2.o⟩
     case round =>
      obtain⟨k,hk,rfl,DX,hb,hmm,hkk,hof,hos⟩:=hrel;have amX:=ai DX;have HB:=ai hb;have Ql:=ai hmm;have HKK:=ai hkk;have HOF:=ai hof;have HOS:=ai hos;have m2:wr.cell? (Ad kb 2)=some (.slice aL ls.length cL):=aB hkk 2 rfl;by_cases hlt:k<ss.length
      · obtain⟨pb,po,hao,hbl,fG⟩:=Y5.o (by omega);subst hao;obtain⟨va,ap,cp,c0,c1,c2,c3,c4,c5⟩:=fG k hlt;obtain⟨aa,ca,yt,_⟩:=id c3;subst yt;have hfit:=xJ.o k hlt;have x0:=(hb.cell (p:=(Ad pb (po+k*3))) hbl).trans c0;have x1:=(hb.cell (p:=(Ad pb (po+k*3+1))) hbl).trans c1;have x2:=(hb.cell (p:=(Ad pb (po+k*3+2))) hbl).trans c2;have hbs:=hb.size;have Ox:=DF.o k (by omega) DX;have aj0:Hid (∀V,Below w.heap.size w V->nT hs ss (List.replicate fs.length eB,List.replicate ls.length eB) (k+1)=false->P (.returned (.tuple #[.pointer none,I 1])) V):=fun V hV g=>pq.o V hV (by rw[HSF.o (k+1) ss.length hlt g];simp)
        have QL:Hid (nT hs ss (List.replicate fs.length eB,List.replicate ls.length eB) (k+1)=(pB hs (ak ss k)&&j3 (ak ss k).aZ (ak ss k).aW (kN ss (List.replicate fs.length eB,List.replicate ls.length eB) k) (ak ss k).aW.length)):=by grind [nT]
        have HUN:Hid (kN ss (List.replicate fs.length eB,List.replicate ls.length eB) (k+1)=jK (ak ss k).aZ (ak ss k).aW (kN ss (List.replicate fs.length eB,List.replicate ls.length eB) k) (ak ss k).aW.length):=rfl;have acL:=aO hmm;have Nr:=ai (Jq hs (ak ss k) (.slice aa (ak ss k).aZ.length ca) ap cp mb (wr.alloc (.cells #[.bool (ak ss k).live,.slice aa (ak ss k).aZ.length ca,.slice ap (ak ss k).aW.length cp] 43)) (c3.below (hb.alloc hb.size _)) hfit (by simp;omega) (En (bE hmm _) LI.o.symm));have sS:Hid (∀V,Below w.heap.size w V->ir W.heap.size V gf fs.length fs.length (kN ss (List.replicate fs.length eB,List.replicate ls.length eB) k).1->ir W.heap.size V gs ls.length ls.length (kN ss (List.replicate fs.length eB,List.replicate ls.length eB) k).2->Calls Tryz.prog 112 #[.agg #[.bool (ak ss k).live,.slice aa (ak ss k).aZ.length ca,.slice ap (ak ss k).aW.length cp],.slice (some (Ad gf 0)) fs.length fs.length,.slice (some (Ad gs 0)) ls.length ls.length] V fun x w'=>x=.returned (.bool (j3 (ak ss k).aZ (ak ss k).aW (kN ss (List.replicate fs.length eB,List.replicate ls.length eB) k) (ak ss k).aW.length))/\aH (fun b=>b=gf∨b=gs) V w'/\(j3 (ak ss k).aZ (ak ss k).aW (kN ss (List.replicate fs.length eB,List.replicate ls.length eB) k) (ak ss k).aW.length=true->ir W.heap.size w' gf fs.length fs.length (jK (ak ss k).aZ (ak ss k).aW (kN ss (List.replicate fs.length eB,List.replicate ls.length eB) k) (ak ss k).aW.length).1/\ir W.heap.size w' gs ls.length ls.length (jK (ak ss k).aZ (ak ss k).aW (kN ss (List.replicate fs.length eB,List.replicate ls.length eB) k) (ak ss k).aW.length).2)):=fun V hV h1 h2=>Gf (ak ss k) (.slice aa (ak ss k).aZ.length ca) ap cp (kN ss (List.replicate fs.length eB,List.replicate ls.length eB) k).1 (kN ss (List.replicate fs.length eB,List.replicate ls.length eB) k).2 W.heap.size gf fs.length fs.length gs ls.length ls.length (255*k) w V c3 c4 hfit hV (by omega) h1 h2 hne Ox.1 Ox.2 (by omega) zR hn3
        obtain⟨RS,hRS⟩:=ex (pB hs (ak ss k));obtain⟨EB,hEB⟩:=ex (j3 (ak ss k).aZ (ak ss k).aW (kN ss (List.replicate fs.length eB,List.replicate ls.length eB) k) (ak ss k).aW.length);rw[<- hRS] at Nr QL;rw[<- hEB] at sS QL;obtain⟨lv,hlv⟩:=ex ((ak ss k).live);obtain⟨na,wh⟩:=ex ((ak ss k).aZ.length);obtain⟨ne,hnE⟩:=ex ((ak ss k).aW.length);rw[<- hlv,<- wh,<- hnE] at Nr;rw[<- hlv,<- wh] at sS;rw[<- hlv] at x0;rw[<- wh] at x1;rw[<- hnE] at x2;rw[<- hnE] at sS HUN;have gK:=ai (hb.alloc hb.size (.cells #[.bool lv,.slice aa na ca,.slice ap ne cp] 43));have MA:=ai (bE hmm (.cells #[.bool lv,.slice aa na ca,.slice ap ne cp] 43));have KA:=ai (bE hkk (.cells #[.bool lv,.slice aa na ca,.slice ap ne cp] 43));have OA:=ai (hof.kp (aH.alloc (fun _=>False) wr (.cells #[.bool lv,.slice aa na ca,.slice ap ne cp] 43)) (fun x=>x));have OB:=ai (hos.kp (aH.alloc (fun _=>False) wr (.cells #[.bool lv,.slice aa na ca,.slice ap ne cp] 43)) (fun x=>x));have SB:=ai (bG wr #[.bool lv,.slice aa na ca,.slice ap ne cp] 43);clear hRS hEB hlv wh hnE c0 c1 c2 c3 c4 c5 fG hfit Ox DX hb hmm hkk hof hos DF HSF pq vh HUP HKS HKF HKL Y5 HFS Wj Qj xJ Ql HKK HOF HOS fq HG2 BK3 OF2 OS2 m1 m3 m2;cases RS with
        | false =>
         have HX:=ai (aj0.o);have ahc:Hid (nT hs ss (List.replicate fs.length eB,List.replicate ls.length eB) (k+1)=false):=QL;clear QL sS;go_wp2_with (go_at_call 111;refine Nr.o.mono ?_;rintro e w3 ⟨rfl,hb3⟩;have jo:=ai (bZ gK.o hb3);have SB3:=ai (aQ SB.o hb3 (aO SB.o));clear hb3)
         exact HX.o _ jo.o ahc.o
        | true =>
         cases EB with
         | false =>
          have HX:=ai (aj0.o);have ahc:Hid (nT hs ss (List.replicate fs.length eB,List.replicate ls.length eB) (k+1)=false):=QL;clear QL;go_wp2_with (first | (go_at_call 111;refine Nr.o.mono ?_;rintro e w3 ⟨rfl,hb3⟩;have jo:=ai (bZ gK.o hb3);have M3:=ai (aQ MA.o hb3 (aO MA.o));have KB3:=ai (aQ KA.o hb3 (aO KA.o));have O3:=ai (OA.o.kp (aH.b7 (D:=fun _=>False) hb3) (fun x=>x));have S3:=ai (OB.o.kp (aH.b7 (D:=fun _=>False) hb3) (fun x=>x));have SB3:=ai (aQ SB.o hb3 (aO SB.o));have v0:w3.cell? (Ad wr.heap.size 0)=some (.bool lv):=aB SB3.o 0 rfl;have v1:w3.cell? (Ad wr.heap.size 1)=some (.slice aa na ca):=aB SB3.o 1 rfl;have v2:w3.cell? (Ad wr.heap.size 2)=some (.slice ap ne cp):=aB SB3.o 2 rfl;clear hb3) | (go_at_call 112;refine(sS.o _ jo.o O3.o S3.o).mono ?_;rintro e w4 ⟨rfl,hk4,ho4⟩;have kO:=ai (hk4.below jo.o jo.o.size (fun b hb=>(by omega)));clear hk4 ho4))
          exact HX.o _ kO.o ahc.o
         | true =>
          have ahc:Hid (nT hs ss (List.replicate fs.length eB,List.replicate ls.length eB) (k+1)=true):=QL;clear QL aj0;go_wp2_with (first | (go_at_call 111;refine Nr.o.mono ?_;rintro e w3 ⟨rfl,hb3⟩;have jo:=ai (bZ gK.o hb3);have M3:=ai (aQ MA.o hb3 (aO MA.o));have KB3:=ai (aQ KA.o hb3 (aO KA.o));have O3:=ai (OA.o.kp (aH.b7 (D:=fun _=>False) hb3) (fun x=>x));have S3:=ai (OB.o.kp (aH.b7 (D:=fun _=>False) hb3) (fun x=>x));have SB3:=ai (aQ SB.o hb3 (aO SB.o));have v0:w3.cell? (Ad wr.heap.size 0)=some (.bool lv):=aB SB3.o 0 rfl;have v1:w3.cell? (Ad wr.heap.size 1)=some (.slice aa na ca):=aB SB3.o 1 rfl;have v2:w3.cell? (Ad wr.heap.size 2)=some (.slice ap ne cp):=aB SB3.o 2 rfl;clear hb3) | (go_at_call 112;refine(sS.o _ jo.o O3.o S3.o).mono ?_;rintro e w4 ⟨rfl,hk4,ho4⟩;have kO:=ai (hk4.below jo.o jo.o.size (fun b hb=>(by omega)));have M4:=ai (hk4.keep M3.o (by omega));have KB4:=ai (hk4.keep KB3.o (by omega));have HO4:=ai ho4;clear hk4 ho4))
          grind [intOf,Hid.o]
      · obtain rfl:k=ss.length:=by omega
        have mB:=hmm;have p1:wr.cell? (Ad mb 1)=some (.slice aF fs.length cF):=aB mB 1 rfl;have p2:wr.cell? (Ad mb 2)=some (.slice aL ls.length cL):=aB mB 2 rfl;have p3:wr.cell? (Ad mb 3)=some (.slice aP ss.length cP):=aB mB 3 rfl;have acL:=aO hmm;have avB:=aO hkk;have Ox:=DF.o ss.length (aM _) DX;have MC:Hid (∀V,Below wr.heap.size wr V->Calls Tryz.prog 83 #[.pointer (some (Ad mb 0))] V fun e w'=>e=.returned (I (eW ss))/\Below V.heap.size V w'):=fun V hV=>CP ss aP cP mb V (Y5.o.below (hb.trans (hV.mono hb.size))) (fun j hj=>(xJ.o j hj).aZ) (by omega) ((hV.cell (p:=(Ad mb 3)) acL).trans p3)
        have Hs:Hid (∀V,Below wr.heap.size wr V->Calls Tryz.prog 113 #[.pointer (some (Ad mb 0)),.slice (some (Ad gf 0)) fs.length fs.length] V fun e w'=>e=.returned (.bool ((List.range fs.length).all fun i=>jY hs (au fs i) (dO (kN ss (List.replicate fs.length eB,List.replicate ls.length eB) ss.length).1 i)))/\Below V.heap.size V w'):=fun V hV=>Hf hs fs _ aF cF mb W.heap.size gf fs.length V (HKF.o.below (hb.trans (hV.mono hb.size))) (hof.kp (aH.b7 (D:=fun _=>False) hV) (fun x=>x)) (jt acL hV.size) ((hV.cell (p:=(Ad mb 1)) acL).trans p1) (En (aQ mB hV acL) LI.o.symm) (fun i hi=>HUP.o LI.o.symm DX i hi) (fun i hi=>(Wj.o i hi).1) (by omega)
        have ZH:Hid (∀V,Below wr.heap.size wr V->Calls Tryz.prog 114 #[.pointer (some (Ad mb 0)),.slice (some (Ad gs 0)) ls.length ls.length] V fun e w'=>e=.returned (.bool ((List.range ls.length).all fun i=>l7 (bw ls i) (dO (kN ss (List.replicate fs.length eB,List.replicate ls.length eB) ss.length).2 i)))/\Below V.heap.size V w'):=fun V hV=>Jr ls _ aL cL mb W.heap.size gs ls.length V (HKL.o.below (hb.trans (hV.mono hb.size))) (hos.kp (aH.b7 (D:=fun _=>False) hV) (fun x=>x)) ((hV.cell (p:=(Ad mb 2)) acL).trans p2) (fun i hi=>(Ox.2.2 i hi).1) (fun i hi=>(Qj.o i hi).1) (by omega)
        have Wb:=pq;have Tz:=vh;rw[LI.o.symm,amX.o,dh (show 0<=hd/\hd<(fs.length:Int) from⟨g1,g2⟩)] at Wb Tz;obtain⟨RF,hRF⟩:=ex ((List.range fs.length).all fun i=>jY hs (au fs i) (dO (kN ss (List.replicate fs.length eB,List.replicate ls.length eB) ss.length).1 i));obtain⟨RL,hRL⟩:=ex ((List.range ls.length).all fun i=>l7 (bw ls i) (dO (kN ss (List.replicate fs.length eB,List.replicate ls.length eB) ss.length).2 i));obtain⟨RM,Oa⟩:=ex (eW ss);rw[<- hRF] at Hs Wb Tz;rw[<- hRL] at ZH Wb Tz;rw[<- Oa] at MC Wb Tz;have rB:=gw wr;have k2:∀x:dB wr.heap.size wr,x.world.cell? (Ad kb 2)=some (.slice aL ls.length cL):=fun x=>by grind [gy]
        clear hRF hRL Oa Ox DX hb hmm hkk hof hos DF HSF pq vh HUP HKS HKF HKL Y5 HFS Wj Qj xJ HKK HOF HOS fq HG2 BK3 OF2 OS2 m1 m3 m2 p1 p2 p3 mB amX;go_upto_region 13 with fail;by_cases c:RM<=(ls.length:Int)
        · have c2:decide ((ls.length:Int)<RM)=false:=dE (by omega);rw[dh c] at Wb Tz;cases RF with
          | false =>
           refine cD (by rfl) (by kernel_rfl) ?_
           repeat (first | go_big_quiet_step ((first | (go_at_call 83;exact eV _ MC.o) | (go_at_call 113;exact eV _ Hs.o))) | quiet_step ((first | (go_at_call 83;exact eV _ MC.o) | (go_at_call 113;exact eV _ Hs.o))))
           refine fR ?_;rintro _ ⟨x,rfl⟩;have oo:=ai (HB.o.trans (x.keeps.mono HB.o.size));clear MC Hs ZH k2;go_wp2;exact Wb.o _ oo.o (by simp)
          | true =>
           cases RL with
           | false =>
            refine cD (by rfl) (by kernel_rfl) ?_
            repeat (first | go_big_quiet_step ((first | (go_at_call 83;exact eV _ MC.o) | (go_at_call 113;exact eV _ Hs.o) | (go_at_call 114;exact eV _ ZH.o))) | quiet_step ((first | (go_at_call 83;exact eV _ MC.o) | (go_at_call 113;exact eV _ Hs.o) | (go_at_call 114;exact eV _ ZH.o))))
            refine fR ?_;rintro _ ⟨x,rfl⟩;have oo:=ai (HB.o.trans (x.keeps.mono HB.o.size));clear MC Hs ZH k2;go_wp2;exact Wb.o _ oo.o (by simp)
           | true =>
            refine cD (by rfl) (by kernel_rfl) ?_
            repeat (first | go_big_quiet_step ((first | (go_at_call 83;exact eV _ MC.o) | (go_at_call 113;exact eV _ Hs.o) | (go_at_call 114;exact eV _ ZH.o))) | quiet_step ((first | (go_at_call 83;exact eV _ MC.o) | (go_at_call 113;exact eV _ Hs.o) | (go_at_call 114;exact eV _ ZH.o))))
            refine fR ?_;rintro _ ⟨x,rfl⟩;have oo:=ai (HB.o.trans (x.keeps.mono HB.o.size));have MX:=ai (aQ Ql.o x.keeps (aO Ql.o));clear MC Hs ZH k2;go_wp2;exact Tz.o _ mb oo.o (by simp) ald MX.o
        · have c2:decide ((ls.length:Int)<RM)=true:=dh (by omega);rw[dE c] at Wb;refine cD (by rfl) (by kernel_rfl) ?_
          repeat (first | go_big_quiet_step ((go_at_call 83;exact eV _ MC.o)) | quiet_step ((go_at_call 83;exact eV _ MC.o)))
          refine fR ?_;rintro _ ⟨x,rfl⟩;have oo:=ai (HB.o.trans (x.keeps.mono HB.o.size));clear MC Hs ZH k2;go_wp2;exact Wb.o _ oo.o (by simp)
theorem Yb (k:aN) (a:fP) (w:World) (hc:mi k=false):Calls Tryz.prog 62 #[.agg (aT a k)] w (rI w a k):=by
 have hcc:=NU hc;have pq:Hid (∀w',Below w.heap.size w w'->rI w a k (.returned (.tuple #[.pointer none,I 2])) w'):=fun w' hb=>by
  have e:gG k=2:=by grind [gG]
  exact⟨hb,.inr ⟨by omega,by rw[e]⟩⟩
 obtain⟨P,hP⟩:=ex (rI w a k);rw[<- hP] at pq ⊢;clear hP;unfold aT;have HC:Hid (∀V,Calls Tryz.prog 109 #[.agg #[.slice a.aS k.aA.length a.cS,.slice a.aF k.frames.length a.cF,.slice a.aL k.slots.length a.cL,.slice a.aP k.aj.length a.cP,I k.hand]] V fun e w'=>e=.returned (.bool false)/\Below V.heap.size V w'):=fun V=>by
  have:=Gw a.aS a.aF a.aL a.aP k.aA.length a.cS k.frames.length a.cF k.slots.length a.cL k.aj.length a.cP (I k.hand) V;rw[dE hcc] at this;exact this
 obtain⟨aS,cS,aF,cF,aL,cL,aP,cP⟩:=a;obtain⟨hs,fs,ls,ss,hd⟩:=k;simp only at HC ⊢;have Wn:=ai ((aK w.heap.size w).alloc (aM _) (.cells #[.slice aS hs.length cS,.slice aF fs.length cF,.slice aL ls.length cL,.slice aP ss.length cP,I hd] 27));clear hc hcc;go_enter Tryz.func62,Tryz.ntmps62;go_wp2_with (go_at_call 109;refine(HC.o _).mono ?_;rintro e w1 ⟨rfl,hb1⟩;have afp:=ai (bZ Wn.o hb1);clear hb1)
 exact pq.o _ afp.o
theorem Yc (k:aN) (a:fP) (w:World) (hK:fT w a k) (hF:gW k):Calls Tryz.prog 62 #[.agg (aT a k)] w (rI w a k):=by
 cases hc:mi k with
 | true=>exact UT k a w hK hF hc
 | false=>exact Yb k a w hc
def dM (k:aN) (sp:Int):Int:=if gG k=0 then (if 0<=sp/\sp<(k.aj.length:Int)/\(ak k.aj sp.toNat).live=true then 0 else 6) else gG k
def mv (a:fP) (k:aN):Array Value:=mz (.slice a.aS k.aA.length a.cS) (.slice a.aF k.frames.length a.cF) (.slice a.aL k.slots.length a.cL) (.slice a.aP k.aj.length a.cP) (I k.hand) (lY k.aA k.aA.length)
def vH (w:World) (a:fP) (k:aN) (c:Int) (e:Ending) (w':World):Prop:=Below w.heap.size w w'/\((c=0/\∃mb,e=.returned (.tuple #[.pointer (some (Ad mb 0)),I 0])/\w.heap.size<=mb/\w'.heap[mb]?=some (.cells (mv a k) 104 (0,0)))∨(c≠0/\e=.returned (.tuple #[.pointer none,I c])))
theorem wZ (k:aN) (a:fP) (sp:Int) (w:World) (hK:fT w a k) (hF:gW k) (hsp:dY sp):Calls Tryz.prog 69 #[.agg (aT a k),I sp] w (vH w a k (dM k sp)):=by
 have HL:=ai (fun V (hV:Below w.heap.size w V)=>Yc k a V (hK.below hV) hF);have HE:Hid (∀V c,Below w.heap.size w V->dM k sp=c->c≠0->vH w a k (dM k sp) (.returned (.tuple #[.pointer none,I c])) V):=fun V c hV e hc=>⟨hV,.inr ⟨by omega,by rw[e]⟩⟩
 have HY:Hid (∀V mb,Below w.heap.size w V->dM k sp=0->w.heap.size<=mb->V.heap[mb]?=some (.cells (mv a k) 104 (0,0))->vH w a k (dM k sp) (.returned (.tuple #[.pointer (some (Ad mb 0)),I 0])) V):=fun V mb hV e hm hh=>⟨hV,.inl ⟨e,mb,rfl,hm,hh⟩⟩
 obtain⟨P,hP⟩:=ex (vH w a k (dM k sp));rw[<- hP] at HE HY ⊢;clear hP;have HHP:=ai hK.aj;have TC:=ai (bG w (aT a k) 27);have eO:=ai ((aK w.heap.size w).alloc (aM _) (.cells (aT a k) 27));have HLK:Hid (dM k sp=if gG k=0 then (if 0<=sp/\sp<(k.aj.length:Int)/\(ak k.aj sp.toNat).live=true then 0 else 6) else gG k):=rfl;have HN4:Hid (gG k=0->k.aj.length<=4):=fun h=>((qz k).1 h).c.2.2.1.2
 clear hK hF;by_cases hc:gG k=0
 · have GK:Hid (∀V,Below w.heap.size w V->Calls Tryz.prog 62 #[.agg (aT a k)] V fun e w'=>∃mb,e=.returned (.tuple #[.pointer (some (Ad mb 0)),I 0])/\w.heap.size<=mb/\w'.heap[mb]?=some (.cells (mv a k) 104 (0,0))/\Below V.heap.size V w'):=fun V hV=>(HL.o V hV).mono fun e w' ⟨hb,h⟩=>by
    rcases h with⟨_,mb,h1,h2,h3⟩ | ⟨h1,_⟩
    · exact⟨mb,h1,gJ hV.size h2,h3,hb⟩
    omega
   have hn4:=HN4.o hc;have Wf:Hid (dM k sp=if 0<=sp/\sp<(k.aj.length:Int)/\(ak k.aj sp.toNat).live=true then 0 else 6):=by grind
   clear HL HLK hc HN4;unfold aT at GK TC eO ⊢;obtain⟨aS,cS,aF,cF,aL,cL,aP,cP⟩:=a;obtain⟨hs,fs,ls,ss,hd⟩:=k;simp only at GK TC eO HHP Wf HY hn4 ⊢;rcases(show sp<0∨(0<=sp/\(ss.length:Int)<=sp)∨(0<=sp/\sp<(ss.length:Int)) by omega) with g | ⟨g1,g2⟩ | ⟨g1,g2⟩
   · have HX:=ai (fun V hV=>HE.o V 6 hV (by grind [Hid.o]) (by decide));clear HE HY Wf HHP;go_enter Tryz.func69,Tryz.ntmps69;go_wp2_with (go_at_call 62;refine(GK.o _ eO.o).mono ?_;rintro e w1 ⟨mb,rfl,qP,hm2,hb1⟩;have cT:=ai (bZ eO.o hb1);have K1:=ai (aQ TC.o hb1 (by simp));clear hb1 hm2)
     exact HX.o _ cT.o
   · have HX:=ai (fun V hV=>HE.o V 6 hV (by grind [Hid.o]) (by decide));clear HE HY Wf HHP;go_enter Tryz.func69,Tryz.ntmps69;go_wp2_with (go_at_call 62;refine(GK.o _ eO.o).mono ?_;rintro e w1 ⟨mb,rfl,qP,hm2,hb1⟩;have cT:=ai (bZ eO.o hb1);have K1:=ai (aQ TC.o hb1 (by simp));have c3:w1.cell? (Ad w.heap.size 3)=some (.slice aP ss.length cP):=aB K1.o 3 rfl;clear hb1 hm2)
     exact HX.o _ cT.o
   · obtain⟨j,rfl⟩:∃j:Nat,sp=(j:Int):=⟨sp.toNat,by omega⟩;obtain⟨pb,po,hao,hbl,fG⟩:=HHP.o (by omega);subst hao;obtain⟨va,ap,cp,y0,_,_,_,_,_⟩:=fG j (by omega);rw[iu] at Wf;obtain⟨lv,hlv⟩:=ex ((ak ss j).live);rw[<- hlv] at y0 Wf;clear hlv fG HHP;cases lv with
     | false =>
      have HX:=ai (fun V hV=>HE.o V 6 hV (by rw[Wf.o,bl (by simp)]) (by decide));clear HE HY Wf;go_enter Tryz.func69,Tryz.ntmps69;go_wp2_with (go_at_call 62;refine(GK.o _ eO.o).mono ?_;rintro e w1 ⟨mb,rfl,qP,hm2,hb1⟩;have cT:=ai (bZ eO.o hb1);have K1:=ai (aQ TC.o hb1 (by simp));have c3:w1.cell? (Ad w.heap.size 3)=some (.slice (some (Ad pb po)) ss.length cP):=aB K1.o 3 rfl;have l0:w1.cell? (Ad pb (po+j*3))=some (.bool false):=(cT.o.cell (p:=(Ad pb (po+j*3))) hbl).trans y0;clear hb1 hm2)
      exact HX.o _ cT.o
     | true =>
      have HX:=ai (fun V mb hV hm hh=>HY.o V mb hV (by rw[Wf.o,bf ⟨g1,g2,rfl⟩]) hm hh);clear HE HY Wf;go_enter Tryz.func69,Tryz.ntmps69;go_wp2_with (go_at_call 62;refine(GK.o _ eO.o).mono ?_;rintro e w1 ⟨mb,rfl,qP,hm2,hb1⟩;have Wd:=ai hm2;have cT:=ai (bZ eO.o hb1);have K1:=ai (aQ TC.o hb1 (by simp));have c3:w1.cell? (Ad w.heap.size 3)=some (.slice (some (Ad pb po)) ss.length cP):=aB K1.o 3 rfl;have l0:w1.cell? (Ad pb (po+j*3))=some (.bool true):=(cT.o.cell (p:=(Ad pb (po+j*3))) hbl).trans y0;clear hb1 hm2)
      exact HX.o _ mb cT.o qP Wd.o
 · have GK:Hid (∀V,Below w.heap.size w V->Calls Tryz.prog 62 #[.agg (aT a k)] V fun e w'=>e=.returned (.tuple #[.pointer none,I (gG k)])/\Below V.heap.size V w'):=fun V hV=>(HL.o V hV).mono fun e w' ⟨hb,h⟩=>by
    grind
   have HX:=ai (fun V hV=>HE.o V (gG k) hV (by grind [Hid.o]) hc);obtain⟨C,hC⟩:=ex (gG k);rw[<- hC] at GK HX hc;have cb:(C != 0)=true:=by grind
   clear HL HLK hC HE HY HN4 HHP;unfold aT at GK TC eO ⊢;obtain⟨aS,cS,aF,cF,aL,cL,aP,cP⟩:=a;obtain⟨hs,fs,ls,ss,hd⟩:=k;simp only at GK TC eO ⊢;clear hc;go_enter Tryz.func69,Tryz.ntmps69;go_wp2_with (go_at_call 62;refine(GK.o _ eO.o).mono ?_;rintro e w1 ⟨rfl,hb1⟩;have cT:=ai (bZ eO.o hb1);clear hb1)
   exact HX.o _ cT.o
theorem Ro (p:Int) (e:bC) (x:Nat) (w:World) (hx:w.cell? (Ad x 0)=some (I p)) :
  Calls Tryz.prog 154 #[.agg #[I e.page,I e.kind,I e.loc],.pointer (some (Ad x 0))] w fun r w'=>r=.returned (.bool (decide (e.page=p)))/\Below w.heap.size w w':=by
 obtain⟨pg,kd,lc⟩:=e;simp only;have hxl:x<w.heap.size:=nQ w _ hx;have xA:(w.alloc (.cells #[I pg,I kd,I lc] 45)).cell? (Ad x 0)=some (I p):=(NN ((aK w.heap.size w).alloc (aM _) _) (p:=(Ad x 0)) hxl).trans hx;obtain⟨A,hA⟩:=ex (decide (pg=p));have HA:Hid ((pg==p)=A):=by show _=_;grind
 rw[<- hA];clear hA;have ha:=HA.o;clear HA;go_enter Tryz.func154,Tryz.ntmps154;go_wp2;go_ret;simp[aK,mq]
theorem Hg (F:FuncId) (hF:F=154∨F=191∨F=202) (P:bC->Bool) (es:List bC) (ao:Option Addr) (cap x:Nat) (w:World) (h:dz bk 3 eD w ao es) (hl:es.length<=1000000)
  (hC:∀V e,Below w.heap.size w V->Calls Tryz.prog F #[.agg #[I e.page,I e.kind,I e.loc],.pointer (some (Ad x 0))] V fun r w'=>r=.returned (.bool (P e))/\Below V.heap.size V w') :
  Calls Tryz.prog 153 #[.slice ao es.length cap,.func (.func F) #[] #[.pointer (some (Ad x 0))]] w fun e w' =>
   Below w.heap.size w w'/\((e=.returned (I (-1))/\∀j,j<es.length->P (aI es j)=false)∨∃i:Nat,i<es.length/\e=.returned (I (i:Int))/\P (aI es i)=true/\∀j,j<i->P (aI es j)=false):=by
 have HH:=ai h;have HC:=ai hC;clear h hC;rcases hF with rfl | rfl | rfl
 all_goals
  go_enter Tryz.func153,Tryz.ntmps153;go_wp2;go_loopw [8] (fun iv wr=>∃k:Nat,k<=es.length/\iv=I (k:Int)/\(∀j,j<k->P (aI es j)=false)/\Below w.heap.size w wr) (fun iv _=>es.length-(intOf iv).toNat)
  case atStart=>grind [Below.refl]
  case round =>
   obtain⟨k,hk,rfl,hno,hb⟩:=hrel;have pq:=ai hno;have HB:=ai hb;clear hno;by_cases hlt:k<es.length
   · have MU:(k:Int)<(es.length:Int):=by omega
     obtain⟨eb,eo,hao,hbl,fG⟩:=HH.o (by omega);subst hao;have y0:=(hb.cell (p:=(Ad eb (eo+k*3+0))) hbl).trans (fG k hlt 0 (by omega));have y1:=(hb.cell (p:=(Ad eb (eo+k*3+1))) hbl).trans (fG k hlt 1 (by omega));have y2:=(hb.cell (p:=(Ad eb (eo+k*3+2))) hbl).trans (fG k hlt 2 (by omega));rw[gV] at y0;have vv:=ai (HC.o wr (aI es k) hb);obtain⟨G,hG⟩:=ex (P (aI es k));rw[<- hG] at vv;have HG:=ai hG;obtain⟨E,hE⟩:=ex (aI es k);have x0:wr.cell? (Ad eb (eo+k*3))=some (I E.page):=by rw[hE];exact y0
     have x1:wr.cell? (Ad eb (eo+k*3+1))=some (I E.kind):=by rw[hE];exact y1
     have x2:wr.cell? (Ad eb (eo+k*3+2))=some (I E.loc):=by rw[hE];exact y2
     rw[<- hE] at vv;clear hG hE hb y0 y1 y2 fG;cases G with
     | true =>
      go_wp2_with ((first | go_at_call 154 | go_at_call 191 | go_at_call 202);refine vv.o.mono ?_;rintro e w1 ⟨rfl,hb1⟩;have cT:=ai (HB.o.trans (hb1.mono HB.o.size));clear hb1)
      go_ret;exact⟨cT.o,.inr ⟨k,hlt,rfl,HG.o.symm,pq.o⟩⟩
     | false =>
      go_wp2_with ((first | go_at_call 154 | go_at_call 191 | go_at_call 202);refine vv.o.mono ?_;rintro e w1 ⟨rfl,hb1⟩;have cT:=ai (HB.o.trans (hb1.mono HB.o.size));clear hb1)
      go_roundw
      case rel=>exact⟨k+1,by omega,by go_num,fun j hj=>by
       by_cases q:j=k
       · subst q;exact HG.o.symm
       · exact pq.o j (by omega),cT.o⟩
      case measure=>simp[intOf];omega
   · obtain rfl:k=es.length:=by omega
     clear hb;go_wp2;go_ret;exact⟨HB.o,.inl ⟨rfl,pq.o⟩⟩
theorem Rn (es:List bC) (p:Int) (i:Nat) (hi:i<es.length) (h:(aI es i).page=p) (hno:∀j,j<i->¬(aI es j).page=p):bD es p=some (aI es i):=by
 induction es generalizing i with
 | nil=>cases hi
 | cons a r ih =>
  cases i with
  | zero =>
   have h:a.page=p:=h;show(a::r).find? _=some a
   grind
  | succ i =>
   have h0:¬a.page=p:=hno 0 (by omega);show(a::r).find? _=some (aI r i);rw[TU,dE h0];exact ih i (zP hi) h (fun j hj=>hno (j+1) (by omega))
theorem UY (es:List bC) (p:Int) (hno:∀j,j<es.length->¬(aI es j).page=p):bD es p=none:=ui.2 fun e he=>by
 obtain⟨j,hj,rfl⟩:=jb eD he;exact hno j hj
def jh (es:List bC) (p:Int):bC×Bool:=match bD es p with
 | some e=>(e,true)
 | none=>(eD,false)
def lZ (e:bC):Value:=.agg #[I e.page,I e.kind,I e.loc]
theorem Jv (es:List bC) (p:Int) (j n mb pb po cP:Nat) (ae:Option Addr) (ce:Nat) (w:World) (hm:w.cell? (Ad mb 3)=some (.slice (some (Ad pb po)) n cP)) (hj:j<n) (hce:w.cell? (Ad pb (po+j*3+2))=some (.slice ae es.length ce)) (he:dz bk 3 eD w ae es) (hl:es.length<=1000000) (hn:n<=1000000) :
  Calls Tryz.prog 118 #[.pointer (some (Ad mb 0)),I (j:Int),I p] w fun e w'=>e=.returned (.tuple #[lZ (jh es p).1,.bool (jh es p).2])/\Below w.heap.size w w':=by
 have Bk:=nQ w _ hm;have hpl:=nQ w _ hce;have Bk:mb<w.heap.size:=Bk;have hpl:pb<w.heap.size:=hpl;have HHE:=ai he;obtain⟨W,hW⟩:=ex ((w.alloc (.cells #[I p] 3)).alloc (.cells #[I 0,I 0,I 0] 45));have eO:Hid (Below w.heap.size w W):=by simp_all [aK,mq]
 have X0:Hid (W.heap[w.heap.size]?=some (.cells #[I p] 3 (0,0))):=by grind [bE,bG]
 have R0:Hid (W.heap[w.heap.size+1]?=some (.cells #[I 0,I 0,I 0] 45 (0,0))):=by
  grind [bG,World.size_alloc]
 have d3:W.cell? (Ad mb 3)=some (.slice (some (Ad pb po)) n cP):=(eO.o.cell (p:=(Ad mb 3)) Bk).trans hm;have d2:W.cell? (Ad pb (po+j*3+2))=some (.slice ae es.length ce):=(eO.o.cell (p:=(Ad pb (po+j*3+2))) hpl).trans hce;have TD:=ai (Hg 154 (.inl rfl) (fun e=>decide (e.page=p)) es ae ce w.heap.size W (he.below eO.o) hl (fun V e hV=>Ro p e w.heap.size V (aB (aQ X0.o hV (aO X0.o)) 0 rfl)));have HF:=ai (Rn es p);have HN:=ai (UY es p);have KT:(j:Int)<(n:Int):=by omega
 have Uf:(0:Int)<=(j:Int):=by omega
 have HW:=ai hW;clear hm hce he hW;by_cases hex:∃j,j<es.length/\(aI es j).page=p
 · obtain⟨j0,apC,apB⟩:=hex;have HI2:Hid (Calls Tryz.prog 153 #[.slice ae es.length ce,.func (.func 154) #[] #[.pointer (some (Ad w.heap.size 0))]] W fun e w'=>∃i:Nat,i<es.length/\e=.returned (I (i:Int))/\jh es p=(aI es i,true)/\Below W.heap.size W w'):=TD.o.mono fun e w' ⟨hb,h⟩=>by
    rcases h with⟨_,hno⟩ | ⟨i,hi,he,alb,hno⟩
    · grind
    · refine⟨i,hi,he,?_,hb⟩;unfold jh;rw[HF.o i hi (by grind) (fun j hj=>by grind)]
   clear TD HF HN apC apB;go_enter Tryz.func118,Tryz.ntmps118;go_upto_region 1 with fail;rw[<- HW.o];go_upto_region 3 with(go_at_call 153;refine HI2.o.mono ?_;rintro e w1 ⟨i,hi,rfl,hen,hb1⟩;have px:=ai hen;have cT:=ai (eO.o.trans (hb1.mono eO.o.size));have R1:=ai (aQ R0.o hb1 (aO R0.o));clear hb1 hen)
   obtain⟨eb,eo,hao,hbl,fG⟩:=HHE.o (by omega);subst hao;have y0:=(cT.o.cell (p:=(Ad eb (eo+i*3+0))) hbl).trans (fG i hi 0 (by omega));have y1:=(cT.o.cell (p:=(Ad eb (eo+i*3+1))) hbl).trans (fG i hi 1 (by omega));have y2:=(cT.o.cell (p:=(Ad eb (eo+i*3+2))) hbl).trans (fG i hi 2 (by omega));rw[gV] at y0;obtain⟨E,hE⟩:=ex (aI es i);have x0:w1.cell? (Ad eb (eo+i*3))=some (I E.page):=by rw[hE];exact y0
   have x1:w1.cell? (Ad eb (eo+i*3+1))=some (I E.kind):=by rw[hE];exact y1
   have x2:w1.cell? (Ad eb (eo+i*3+2))=some (I E.loc):=by rw[hE];exact y2
   rw[<- hE] at px;obtain⟨r0,r1,r2⟩:=og R1.o;have f0:=aJ R1.o 0;have f1:=aJ R1.o 1;have f2:=aJ R1.o 2;have hi1:(i:Int)<(es.length:Int):=by omega
   have hi0:(0:Int)<=(i:Int):=by omega
   clear hE y0 y1 y2 fG;go_wp2;have R2:(((w1.setCell (Ad (w.heap.size+1) 0) (I E.page)).setCell (Ad (w.heap.size+1) 1) (I E.kind)).setCell (Ad (w.heap.size+1) 2) (I E.loc)).heap[w.heap.size+1]?=some (.cells #[I E.page,I E.kind,I E.loc] 45 (0,0)):=dG (dG (dG R1.o 0 _) 1 _) 2 _;obtain⟨v0,v1,v2⟩:=og R2;refine bR (v:=.tuple #[lZ E,.bool true]) (by simp[results,Tryz.results118,go_sem,lZ,v0,v1,v2]) rfl ?_;rw[px.o];refine⟨rfl,?_⟩;exact((cT.o.setCell (p:=(Ad (w.heap.size+1) 0)) (by show w.heap.size<=w.heap.size+1;omega) _).setCell (p:=(Ad (w.heap.size+1) 1)) (by show w.heap.size<=w.heap.size+1;omega) _).setCell (p:=(Ad (w.heap.size+1) 2)) (by show w.heap.size<=w.heap.size+1;omega) _
 · have HI2:Hid (Calls Tryz.prog 153 #[.slice ae es.length ce,.func (.func 154) #[] #[.pointer (some (Ad w.heap.size 0))]] W fun e w'=>e=.returned (I (-1))/\Below W.heap.size W w'):=TD.o.mono fun e w' ⟨hb,h⟩=>by
    grind
   have px:Hid (jh es p=(eD,false)):=by
    show _=_;unfold jh;rw[HN.o (fun j hj e=>hex ⟨j,hj,e⟩)]
   clear TD HF HN hex;go_enter Tryz.func118,Tryz.ntmps118;go_upto_region 1 with fail;rw[<- HW.o];go_upto_region 3 with(go_at_call 153;refine HI2.o.mono ?_;rintro e w1 ⟨rfl,hb1⟩;have cT:=ai (eO.o.trans (hb1.mono eO.o.size));have R1:=ai (aQ R0.o hb1 (aO R0.o));clear hb1)
   obtain⟨r0,r1,r2⟩:=og R1.o;have f0:=aJ R1.o 0;have f1:=aJ R1.o 1;have f2:=aJ R1.o 2;go_wp2;have R2:(((w1.setCell (Ad (w.heap.size+1) 0) (I 0)).setCell (Ad (w.heap.size+1) 1) (I 0)).setCell (Ad (w.heap.size+1) 2) (I 0)).heap[w.heap.size+1]?=some (.cells #[I 0,I 0,I 0] 45 (0,0)):=dG (dG (dG R1.o 0 _) 1 _) 2 _;obtain⟨v0,v1,v2⟩:=og R2;refine bR (v:=.tuple #[lZ eD,.bool false]) (by simp[results,Tryz.results118,go_sem,lZ,eD,v0,v1,v2]) rfl ?_;rw[px.o];refine⟨rfl,?_⟩;exact((cT.o.setCell (p:=(Ad (w.heap.size+1) 0)) (by grind) _).setCell (p:=(Ad (w.heap.size+1) 1)) (by grind) _).setCell (p:=(Ad (w.heap.size+1) 2)) (by grind) _
end Go.Proofs.YtpgifpeohlllfaaGreat
end Go.Proofs.YtpgifpeohlllfaaGreat
