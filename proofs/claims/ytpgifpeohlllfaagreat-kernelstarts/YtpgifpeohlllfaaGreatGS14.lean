import Derived.Test.YtpgifpeohlllfaaGreatGS00
import Derived.Test.YtpgifpeohlllfaaGreatGS13
import Derived.Great.Ranges
import Derived.Deep.DeepCutAuto
import Derived.Deep.RegionLaw
set_option maxHeartbeats 20000000
set_option linter.unusedVariables false
set_option maxRecDepth 100000
set_option linter.unusedSimpArgs false
namespace Go.Proofs.YtpgifpeohlllfaaGreat
namespace KW
open Go.RowKit GK
open FW (ai aB)
def nr (w:World) (a:fu) (k:KM.Kn) (e:Ending) (w':World):Prop:=Below w.heap.size w w'/\((KM.dx k=0/\∃mb,e=.returned (.tuple #[.pointer (some (Ad mb 0)),I 0])/\w.heap.size<=mb/\w'.heap[mb]?=some (.cells (mL (.slice a.aS k.ak.length a.cS) (.slice a.aF k.frames.length a.cF) (.slice a.aL k.slots.length a.cL) (.slice a.aP k.aj.length a.cP) (I k.hand) (jU k.ak k.ak.length)) 104 (0,0)))∨(KM.dx k≠0/\e=.returned (.tuple #[.pointer none,I (KM.dx k)])))
theorem yw {w:World} {mb:Nat} {hs:List LM.Sh} {a b c d e:Value} (h:w.heap[mb]?=some (.cells (mL a b c d e (jU hs hs.length)) 104 (0,0))) (hr:LM.cV hs=true):∀n:Nat,n<256->w.cell? (Ad mb (5+n))=some (.string (KM.filled hs n)):=fun n hn=>(B.cell h (5+n) (IW a b c d e _ n hn)).trans (by rw[vT hs hr n])
theorem Kj (k:KM.Kn) (a:fu) (w:World) (hK:cI w a k) (hF:eW k) (hc:KM.counts k=true):Calls Tryz.prog 62 #[.agg (aJ a k)] w (nr w a k):=by
 have hcc:=of_decide_eq_true hc
 have iV:Hid (∀w',Below w.heap.size w w'->KM.tK k=false->nr w a k (.returned (.tuple #[.pointer none,I 1])) w'):=fun w' hb hf=>by
  have e:KM.dx k=1:=by unfold KM.dx;rw[if_neg (by rw[hc];simp),hf];rfl
  exact⟨hb,.inr ⟨by rw[e];decide,by rw[e]⟩⟩
 have py:Hid (∀w' mb,Below w.heap.size w w'->KM.tK k=true->w.heap.size<=mb->w'.heap[mb]?=some (.cells (mL (.slice a.aS k.ak.length a.cS) (.slice a.aF k.frames.length a.cF) (.slice a.aL k.slots.length a.cL) (.slice a.aP k.aj.length a.cP) (I k.hand) (jU k.ak k.ak.length)) 104 (0,0))->nr w a k (.returned (.tuple #[.pointer (some (Ad mb 0)),I 0])) w'):=fun w' mb hb hf hm hh=>by
  have e:KM.dx k=0:=by unfold KM.dx;rw[if_neg (by rw[hc];simp),hf];rfl
  exact⟨hb,.inl ⟨e,mb,rfl,hm,hh⟩⟩
 obtain⟨P,hP⟩:=ex (nr w a k)
 rw[<- hP] at iV py ⊢
 clear hP
 unfold aJ
 have HC:Hid (∀V,Calls Tryz.prog 109 #[.agg #[.slice a.aS k.ak.length a.cS,.slice a.aF k.frames.length a.cF,.slice a.aL k.slots.length a.cL,.slice a.aP k.aj.length a.cP,I k.hand]] V fun e w'=>e=.returned (.bool true)/\Below V.heap.size V w'):=fun V=>by
  have:=za a.aS a.aF a.aL a.aP k.ak.length a.cS k.frames.length a.cF k.slots.length a.cL k.aj.length a.cP (I k.hand) V
  rw[decide_eq_true hcc] at this
  exact this
 have HUP:=ai (@KM.FU k)
 have FJ:=ai (KM.MJ k.ak k.aj (List.replicate k.frames.length KM.gX,List.replicate k.slots.length KM.gX) k.frames.length k.slots.length (KM.My _) (KM.My _))
 have SN:=ai (KM.Av k.ak k.aj (List.replicate k.frames.length KM.gX,List.replicate k.slots.length KM.gX))
 obtain⟨hKS,hKF,hKL,hKP⟩:=hK
 obtain⟨fS,fnF,ffr,fnS,fsl,fnP,fsp,fhd⟩:=hF
 have T9:=ai hKS
 have S8:=ai hKF
 have HKL:=ai hKL
 have Fp:=ai hKP
 have LX:=ai fS
 have LY:=ai ffr
 have BB:=ai fsl
 have pk:=ai fsp
 clear hKS hKF hKL hKP fS ffr fsl fsp hc fnF fnS fnP
 obtain⟨aS,cS,aF,cF,aL,cL,aP,cP⟩:=a
 obtain⟨hs,fs,ls,ss,hd⟩:=k
 unfold KM.tK KM.xx at *
 simp only at HC hcc iV py HUP FJ SN T9 S8 HKL Fp LX LY BB pk fhd ⊢
 have BK:=ai (B.new w #[.slice aS hs.length cS,.slice aF fs.length cF,.slice aL ls.length cL,.slice aP ss.length cP,I hd] 27)
 have uR:=ai ((Below.refl w.heap.size w).alloc (Nat.le_refl _) (.cells #[.slice aS hs.length cS,.slice aF fs.length cF,.slice aL ls.length cL,.slice aP ss.length cP,I hd] 27))
 go_enter Tryz.func62,Tryz.ntmps62
 go_upto_region 3 with(go_at_call 109;refine(HC.o _).mono ?_;rintro e w1 ⟨rfl,hb1⟩;have PT:=ai (aB uR.o hb1);have BK1:=ai (B.below BK.o hb1 (by simp));clear hb1)
 refine wp_region_lit ?_
 refine wpList_load_row rfl 27 _ rfl w.heap.size rfl 27 _ (0,0) _ BK1.o Tryz.underlying27 rfl (by kernel_rfl) ?_
 refine BQ rfl 104 _ rfl (.agg #[.slice aS hs.length cS,.slice aF fs.length cF,.slice aL ls.length cL,.slice aP ss.length cP,I hd]) (by rfl) _ (Vz _ _ _ _ _) ?_
 have HM:=ai (B.new w1 (mL (.slice aS hs.length cS) (.slice aF fs.length cF) (.slice aL ls.length cL) (.slice aP ss.length cP) (I hd) mQ) 104)
 have Tn:=ai (B.alloc BK1.o (.cells (mL (.slice aS hs.length cS) (.slice aF fs.length cF) (.slice aL ls.length cL) (.slice aP ss.length cP) (I hd) mQ) 104))
 have Tj:=ai (PT.o.alloc PT.o.size (.cells (mL (.slice aS hs.length cS) (.slice aF fs.length cF) (.slice aL ls.length cL) (.slice aP ss.length cP) (I hd) mQ) 104))
 have dM:w.heap.size<w1.heap.size:=B.isLt BK1.o
 refine Go.Great.wpList_boxTo rfl 104 _ rfl _ rfl w1.heap.size rfl (mL (.slice aS hs.length cS) (.slice aF fs.length cF) (.slice aL ls.length cL) (.slice aP ss.length cP) (I hd) mQ) (by rfl) ?_
 obtain⟨W,hW⟩:=ex (w1.alloc (.cells (mL (.slice aS hs.length cS) (.slice aF fs.length cF) (.slice aL ls.length cL) (.slice aP ss.length cP) (I hd) mQ) 104))
 rw[<- hW] at HM Tn Tj ⊢
 obtain⟨mb,hmb⟩:=ex w1.heap.size
 rw[<- hmb] at HM dM ⊢
 obtain⟨kb,hkb⟩:=ex w.heap.size
 have XY:w.heap.size<=mb:=by omega
 have ahS:w.heap.size<=kb:=by omega
 have Ri:¬kb=mb:=by omega
 rw[<- hkb] at Tn ⊢
 have d1:W.cell? (Ad kb 1)=some (.slice aF fs.length cF):=B.cell Tn.o 1 rfl
 have d2:W.cell? (Ad kb 2)=some (.slice aL ls.length cL):=B.cell Tn.o 2 rfl
 clear hW hmb hkb BK BK1 HC uR PT
 have q9:fs.length<=1000:=by omega
 have WM:ls.length<=1000:=by omega
 have e2:∀V:World,(Instr.makeSlice 162 (I (fs.length:Int)) (I (fs.length:Int))).run Tryz.prog V=.ok (.slice (some (Ad V.heap.size 0)) fs.length fs.length) (V.alloc (.cells (zu fs.length) 211)):=fun V=>XH V fs.length q9
 have e3:∀V:World,(Instr.makeSlice 162 (I (ls.length:Int)) (I (ls.length:Int))).run Tryz.prog V=.ok (.slice (some (Ad V.heap.size 0)) ls.length ls.length) (V.alloc (.cells (zu ls.length) 211)):=fun V=>XH V ls.length WM
 have d1A:(W.alloc (.cells (zu ls.length) 211)).cell? (Ad kb 1)=some (.slice aF fs.length cF):=B.cell (B.alloc Tn.o _) 1 rfl
 have d2A:(W.alloc (.cells (zu fs.length) 211)).cell? (Ad kb 2)=some (.slice aL ls.length cL):=B.cell (B.alloc Tn.o _) 2 rfl
 have q1:=ai (BJ W.heap.size W fs.length (Nat.le_refl _) q9)
 have q2:=ai (BJ W.heap.size (W.alloc (.cells (zu fs.length) 211)) ls.length (by simp) WM)
 have q3:=ai (BJ W.heap.size W ls.length (Nat.le_refl _) WM)
 have q4:=ai (BJ W.heap.size (W.alloc (.cells (zu ls.length) 211)) fs.length (by simp) q9)
 rw[World.size_alloc] at q2 q4
 have q5:=ai (((Below.refl W.heap.size W).alloc (Nat.le_refl _) (.cells (zu fs.length) 211)).alloc (by simp) (.cells (zu ls.length) 211))
 have q6:=ai (((Below.refl W.heap.size W).alloc (Nat.le_refl _) (.cells (zu ls.length) 211)).alloc (by simp) (.cells (zu fs.length) 211))
 go_upto_region 4 with fail
 go_cut [5,6] (fun x5 x6 wx=>∃gf gs:Nat,x5=.slice (some (Ad gf 0)) fs.length fs.length/\x6=.slice (some (Ad gs 0)) ls.length ls.length/\¬gf=gs/\ir W.heap.size wx gf fs.length fs.length (List.replicate fs.length KM.gX)/\ir W.heap.size wx gs ls.length ls.length (List.replicate ls.length KM.gX)/\Below W.heap.size W wx)
 case first =>
  go_region
  all_goals
   go_wp2_with fail
   go_meet
   case rel=>first | exact⟨_,_,rfl,rfl,by simp,(q1.out.kp (Kp.alloc (fun _=>False) _ _) (fun x=>x)).d,q2.out.d,q5.out.drew⟩ | exact⟨_,_,rfl,rfl,by simp,q4.out.d,(q3.out.kp (Kp.alloc (fun _=>False) _ _) (fun x=>x)).d,q6.out.drew⟩
 case rest =>
  obtain⟨gf,gs,rfl,rfl,hne,hof,hos,lB⟩:=hcut
  clear q1 q2 q3 q4 q5 q6 e2 e3 d1A d2A d1 d2
  have hgf:=hof.lt
  have hgs:=hos.lt
  have Jx:=ai hof
  have Jw:=ai hos
  have hmW:=B.isLt HM.o
  have hkW:=B.isLt Tn.o
  have Qg:=ai (B.below HM.o lB hmW)
  have Xr:=ai (B.below Tn.o lB hkW)
  have nK:=ai (Tj.o.trans (lB.mono Tj.o.size))
  have LZ:=ai (yS hs aS cS mb (.slice aF fs.length cF) (.slice aL ls.length cL) (.slice aP ss.length cP) (I hd) w wc T9.o LX.o nK.o XY Qg.o (by omega))
  have k4:wc.cell? (Ad kb 4)=some (I hd):=B.cell Xr.o 4 rfl
  clear hof hos lB HM Tn Tj
  have oQ:Hid (∀V,Below w.heap.size w V->(LM.cV hs=false∨hd<0∨(fs.length:Int)<=hd)->P (.returned (.tuple #[.pointer none,I 1])) V):=fun V hV g=>iV.o V hV (by
   rcases g with g | g | g
   · rw[g];rfl
   · rw[decide_eq_false (by omega)];simp
   · rw[decide_eq_false (by omega)];simp)
  obtain⟨RB,Y2⟩:=ex (LM.cV hs)
  have uQ:=ai Y2
  rw[<- Y2] at LZ oQ
  clear Y2
  cases RB with
  | false =>
   go_wp2_with (go_at_call 110;refine LZ.o.mono ?_;rintro e w2 ⟨rfl,hk2,G,hG,hg⟩;have ck:=ai (hk2.below nK.o nK.o.size (fun b hb=>(by omega)));have Du:=ai (hk2.keep Xr.o Ri);have HG:=ai hG;have ZT:=ai hg;have Xe:=ai (Jx.o.kp hk2 (by omega));have Xd:=ai (Jw.o.kp hk2 (by omega));have m1:w2.cell? (Ad kb 1)=some (.slice aF fs.length cF):=B.cell Du.o 1 rfl;have m3:w2.cell? (Ad kb 3)=some (.slice aP ss.length cP):=B.cell Du.o 3 rfl;have m4:w2.cell? (Ad kb 4)=some (I hd):=B.cell Du.o 4 rfl;clear hk2 hG hg)
   exact oQ.o _ ck.o (.inl trivial)
  | true =>
   rcases(show hd<0∨(0<=hd/\(fs.length:Int)<=hd)∨(0<=hd/\hd<(fs.length:Int)) by omega) with g | ⟨g1,g2⟩ | ⟨g1,g2⟩
   · go_wp2_with (go_at_call 110;refine LZ.o.mono ?_;rintro e w2 ⟨rfl,hk2,G,hG,hg⟩;have ck:=ai (hk2.below nK.o nK.o.size (fun b hb=>(by omega)));have Du:=ai (hk2.keep Xr.o Ri);have HG:=ai hG;have ZT:=ai hg;have Xe:=ai (Jx.o.kp hk2 (by omega));have Xd:=ai (Jw.o.kp hk2 (by omega));have m1:w2.cell? (Ad kb 1)=some (.slice aF fs.length cF):=B.cell Du.o 1 rfl;have m3:w2.cell? (Ad kb 3)=some (.slice aP ss.length cP):=B.cell Du.o 3 rfl;have m4:w2.cell? (Ad kb 4)=some (I hd):=B.cell Du.o 4 rfl;clear hk2 hG hg)
     exact oQ.o _ ck.o (.inr (.inl g))
   · go_wp2_with (go_at_call 110;refine LZ.o.mono ?_;rintro e w2 ⟨rfl,hk2,G,hG,hg⟩;have ck:=ai (hk2.below nK.o nK.o.size (fun b hb=>(by omega)));have Du:=ai (hk2.keep Xr.o Ri);have HG:=ai hG;have ZT:=ai hg;have Xe:=ai (Jx.o.kp hk2 (by omega));have Xd:=ai (Jw.o.kp hk2 (by omega));have m1:w2.cell? (Ad kb 1)=some (.slice aF fs.length cF):=B.cell Du.o 1 rfl;have m3:w2.cell? (Ad kb 3)=some (.slice aP ss.length cP):=B.cell Du.o 3 rfl;have m4:w2.cell? (Ad kb 4)=some (I hd):=B.cell Du.o 4 rfl;clear hk2 hG hg)
     exact oQ.o _ ck.o (.inr (.inr g2))
   · go_wp2_with (go_at_call 110;refine LZ.o.mono ?_;rintro e w2 ⟨rfl,hk2,G,hG,hg⟩;have ck:=ai (hk2.below nK.o nK.o.size (fun b hb=>(by omega)));have Du:=ai (hk2.keep Xr.o Ri);have HG:=ai hG;have ZT:=ai hg;have Xe:=ai (Jx.o.kp hk2 (by omega));have Xd:=ai (Jw.o.kp hk2 (by omega));have m1:w2.cell? (Ad kb 1)=some (.slice aF fs.length cF):=B.cell Du.o 1 rfl;have m3:w2.cell? (Ad kb 3)=some (.slice aP ss.length cP):=B.cell Du.o 3 rfl;have m4:w2.cell? (Ad kb 4)=some (I hd):=B.cell Du.o 4 rfl;clear hk2 hG hg)
     have HG2:Hid (w2.heap[mb]?=some (.cells (mL (.slice aS hs.length cS) (.slice aF fs.length cF) (.slice aL ls.length cL) (.slice aP ss.length cP) (I hd) (jU hs hs.length)) 104 (0,0))):=by
      have:=HG.o
      rw[ZT.o trivial] at this
      exact this
     clear LZ oQ HG ZT Qg Xr nK Jx Jw k4 m4
     go_loopw [42] (fun iv wr=>∃k:Nat,k<=ss.length/\iv=I (k:Int)/\KM.om hs ss (List.replicate fs.length KM.gX,List.replicate ls.length KM.gX) k=true/\Below w.heap.size w wr/\wr.heap[mb]?=some (.cells (mL (.slice aS hs.length cS) (.slice aF fs.length cF) (.slice aL ls.length cL) (.slice aP ss.length cP) (I hd) (jU hs hs.length)) 104 (0,0))/\wr.heap[kb]?=some (.cells #[.slice aS hs.length cS,.slice aF fs.length cF,.slice aL ls.length cL,.slice aP ss.length cP,I hd] 27 (0,0))/\ir W.heap.size wr gf fs.length fs.length (KM.kS ss (List.replicate fs.length KM.gX,List.replicate ls.length KM.gX) k).1/\ir W.heap.size wr gs ls.length ls.length (KM.kS ss (List.replicate fs.length KM.gX,List.replicate ls.length KM.gX) k).2) (fun iv _=>ss.length-(intOf iv).toNat)
     case atStart=>exact⟨0,by omega,rfl,rfl,ck.o,HG2.o,Du.o,Xe.o,Xd.o⟩
     case round =>
      obtain⟨k,hk,rfl,pR,hb,hmm,hkk,hof,hos⟩:=hrel
      have VO:=ai pR
      have HB:=ai hb
      have Dp:=ai hmm
      have HKK:=ai hkk
      have Jx:=ai hof
      have Jw:=ai hos
      have m2:wr.cell? (Ad kb 2)=some (.slice aL ls.length cL):=B.cell hkk 2 rfl
      by_cases hlt:k<ss.length
      · obtain⟨pb,po,hao,hbl,bM⟩:=Fp.o (by omega)
        subst hao
        obtain⟨va,ap,cp,c0,c1,c2,c3,c4,c5⟩:=bM k hlt
        obtain⟨aa,ca,qP,_⟩:=id c3
        subst qP
        have hfit:=pk.o k hlt
        have x0:=(hb.cell (p:=(Ad pb (po+k*3))) hbl).trans c0
        have x1:=(hb.cell (p:=(Ad pb (po+k*3+1))) hbl).trans c1
        have x2:=(hb.cell (p:=(Ad pb (po+k*3+2))) hbl).trans c2
        have hbs:=hb.size
        have Di:=FJ.o k (by omega) pR
        have V9:Hid (∀V,Below w.heap.size w V->KM.om hs ss (List.replicate fs.length KM.gX,List.replicate ls.length KM.gX) (k+1)=false->P (.returned (.tuple #[.pointer none,I 1])) V):=fun V hV g=>iV.o V hV (by rw[SN.o (k+1) ss.length hlt g];simp)
        have uP:Hid (KM.om hs ss (List.replicate fs.length KM.gX,List.replicate ls.length KM.gX) (k+1)=(KM.kL hs (KM.au ss k)&&KM.il (KM.au ss k).aD (KM.au ss k).aA (KM.kS ss (List.replicate fs.length KM.gX,List.replicate ls.length KM.gX) k) (KM.au ss k).aA.length)):=by show _=_;rw[KM.om,VO.o,Bool.true_and]
        have VJ:Hid (KM.kS ss (List.replicate fs.length KM.gX,List.replicate ls.length KM.gX) (k+1)=KM.gS (KM.au ss k).aD (KM.au ss k).aA (KM.kS ss (List.replicate fs.length KM.gX,List.replicate ls.length KM.gX) k) (KM.au ss k).aA.length):=rfl
        have K7:=B.isLt hmm
        have wU:=ai (xW hs (KM.au ss k) (.slice aa (KM.au ss k).aD.length ca) ap cp mb (wr.alloc (.cells #[.bool (KM.au ss k).live,.slice aa (KM.au ss k).aD.length ca,.slice ap (KM.au ss k).aA.length cp] 43)) (c3.below (hb.alloc hb.size _)) hfit (by simp;omega) (yw (B.alloc hmm _) uQ.o.symm))
        have mJ:Hid (∀V,Below w.heap.size w V->ir W.heap.size V gf fs.length fs.length (KM.kS ss (List.replicate fs.length KM.gX,List.replicate ls.length KM.gX) k).1->ir W.heap.size V gs ls.length ls.length (KM.kS ss (List.replicate fs.length KM.gX,List.replicate ls.length KM.gX) k).2->Calls Tryz.prog 112 #[.agg #[.bool (KM.au ss k).live,.slice aa (KM.au ss k).aD.length ca,.slice ap (KM.au ss k).aA.length cp],.slice (some (Ad gf 0)) fs.length fs.length,.slice (some (Ad gs 0)) ls.length ls.length] V fun x w'=>x=.returned (.bool (KM.il (KM.au ss k).aD (KM.au ss k).aA (KM.kS ss (List.replicate fs.length KM.gX,List.replicate ls.length KM.gX) k) (KM.au ss k).aA.length))/\Kp (fun b=>b=gf∨b=gs) V w'/\(KM.il (KM.au ss k).aD (KM.au ss k).aA (KM.kS ss (List.replicate fs.length KM.gX,List.replicate ls.length KM.gX) k) (KM.au ss k).aA.length=true->ir W.heap.size w' gf fs.length fs.length (KM.gS (KM.au ss k).aD (KM.au ss k).aA (KM.kS ss (List.replicate fs.length KM.gX,List.replicate ls.length KM.gX) k) (KM.au ss k).aA.length).1/\ir W.heap.size w' gs ls.length ls.length (KM.gS (KM.au ss k).aD (KM.au ss k).aA (KM.kS ss (List.replicate fs.length KM.gX,List.replicate ls.length KM.gX) k) (KM.au ss k).aA.length).2)):=fun V hV h1 h2=>um (KM.au ss k) (.slice aa (KM.au ss k).aD.length ca) ap cp (KM.kS ss (List.replicate fs.length KM.gX,List.replicate ls.length KM.gX) k).1 (KM.kS ss (List.replicate fs.length KM.gX,List.replicate ls.length KM.gX) k).2 W.heap.size gf fs.length fs.length gs ls.length ls.length (255*k) w V c3 c4 hfit hV (by omega) h1 h2 hne Di.1 Di.2 (by omega) q9 WM
        obtain⟨RS,hRS⟩:=ex (KM.kL hs (KM.au ss k))
        obtain⟨EB,hEB⟩:=ex (KM.il (KM.au ss k).aD (KM.au ss k).aA (KM.kS ss (List.replicate fs.length KM.gX,List.replicate ls.length KM.gX) k) (KM.au ss k).aA.length)
        rw[<- hRS] at wU uP
        rw[<- hEB] at mJ uP
        obtain⟨lv,hlv⟩:=ex ((KM.au ss k).live)
        obtain⟨na,oH⟩:=ex ((KM.au ss k).aD.length)
        obtain⟨ne,hnE⟩:=ex ((KM.au ss k).aA.length)
        rw[<- hlv,<- oH,<- hnE] at wU
        rw[<- hlv,<- oH] at mJ
        rw[<- hlv] at x0
        rw[<- oH] at x1
        rw[<- hnE] at x2
        rw[<- hnE] at mJ VJ
        have cJ:=ai (hb.alloc hb.size (.cells #[.bool lv,.slice aa na ca,.slice ap ne cp] 43))
        have MA:=ai (B.alloc hmm (.cells #[.bool lv,.slice aa na ca,.slice ap ne cp] 43))
        have KA:=ai (B.alloc hkk (.cells #[.bool lv,.slice aa na ca,.slice ap ne cp] 43))
        have OA:=ai (hof.kp (Kp.alloc (fun _=>False) wr (.cells #[.bool lv,.slice aa na ca,.slice ap ne cp] 43)) (fun x=>x))
        have OB:=ai (hos.kp (Kp.alloc (fun _=>False) wr (.cells #[.bool lv,.slice aa na ca,.slice ap ne cp] 43)) (fun x=>x))
        have SB:=ai (B.new wr #[.bool lv,.slice aa na ca,.slice ap ne cp] 43)
        have ah6:¬pb=wr.heap.size:=by omega
        clear hRS hEB hlv oH hnE c0 c1 c2 c3 c4 c5 bM hfit Di pR hb hmm hkk hof hos FJ SN iV py HUP T9 S8 HKL Fp LX LY BB pk Dp HKK Jx Jw ck HG2 Du Xe Xd m1 m3 m2
        cases RS with
        | false =>
         have HX:=ai (V9.o)
         have PE:Hid (KM.om hs ss (List.replicate fs.length KM.gX,List.replicate ls.length KM.gX) (k+1)=false):=uP
         clear uP mJ
         go_wp2_with (go_at_call 111;refine wU.o.mono ?_;rintro e w3 ⟨rfl,hb3⟩;have cZ:=ai (aB cJ.o hb3);have M3:=ai (B.below MA.o hb3 (B.isLt MA.o));have KB3:=ai (B.below KA.o hb3 (B.isLt KA.o));have O3:=ai (OA.o.kp (Kp.aY (D:=fun _=>False) hb3) (fun x=>x));have S3:=ai (OB.o.kp (Kp.aY (D:=fun _=>False) hb3) (fun x=>x));have Pq:=ai (B.below SB.o hb3 (B.isLt SB.o));have v0:w3.cell? (Ad wr.heap.size 0)=some (.bool lv):=B.cell Pq.o 0 rfl;have v1:w3.cell? (Ad wr.heap.size 1)=some (.slice aa na ca):=B.cell Pq.o 1 rfl;have v2:w3.cell? (Ad wr.heap.size 2)=some (.slice ap ne cp):=B.cell Pq.o 2 rfl;clear hb3)
         exact HX.o _ cZ.o PE.o
        | true =>
         cases EB with
         | false =>
          have HX:=ai (V9.o)
          have PE:Hid (KM.om hs ss (List.replicate fs.length KM.gX,List.replicate ls.length KM.gX) (k+1)=false):=uP
          clear uP
          go_wp2_with (first | (go_at_call 111;refine wU.o.mono ?_;rintro e w3 ⟨rfl,hb3⟩;have cZ:=ai (aB cJ.o hb3);have M3:=ai (B.below MA.o hb3 (B.isLt MA.o));have KB3:=ai (B.below KA.o hb3 (B.isLt KA.o));have O3:=ai (OA.o.kp (Kp.aY (D:=fun _=>False) hb3) (fun x=>x));have S3:=ai (OB.o.kp (Kp.aY (D:=fun _=>False) hb3) (fun x=>x));have Pq:=ai (B.below SB.o hb3 (B.isLt SB.o));have v0:w3.cell? (Ad wr.heap.size 0)=some (.bool lv):=B.cell Pq.o 0 rfl;have v1:w3.cell? (Ad wr.heap.size 1)=some (.slice aa na ca):=B.cell Pq.o 1 rfl;have v2:w3.cell? (Ad wr.heap.size 2)=some (.slice ap ne cp):=B.cell Pq.o 2 rfl;clear hb3) | (go_at_call 112;refine(mJ.o _ cZ.o O3.o S3.o).mono ?_;rintro e w4 ⟨rfl,hk4,Ym⟩;have iF:=ai (hk4.below cZ.o cZ.o.size (fun b hb=>(by omega)));have M4:=ai (hk4.keep M3.o (by omega));have KB4:=ai (hk4.keep KB3.o (by omega));have V6:=ai Ym;clear hk4 Ym))
          exact HX.o _ iF.o PE.o
         | true =>
          have PE:Hid (KM.om hs ss (List.replicate fs.length KM.gX,List.replicate ls.length KM.gX) (k+1)=true):=uP
          clear uP V9
          go_wp2_with (first | (go_at_call 111;refine wU.o.mono ?_;rintro e w3 ⟨rfl,hb3⟩;have cZ:=ai (aB cJ.o hb3);have M3:=ai (B.below MA.o hb3 (B.isLt MA.o));have KB3:=ai (B.below KA.o hb3 (B.isLt KA.o));have O3:=ai (OA.o.kp (Kp.aY (D:=fun _=>False) hb3) (fun x=>x));have S3:=ai (OB.o.kp (Kp.aY (D:=fun _=>False) hb3) (fun x=>x));have Pq:=ai (B.below SB.o hb3 (B.isLt SB.o));have v0:w3.cell? (Ad wr.heap.size 0)=some (.bool lv):=B.cell Pq.o 0 rfl;have v1:w3.cell? (Ad wr.heap.size 1)=some (.slice aa na ca):=B.cell Pq.o 1 rfl;have v2:w3.cell? (Ad wr.heap.size 2)=some (.slice ap ne cp):=B.cell Pq.o 2 rfl;clear hb3) | (go_at_call 112;refine(mJ.o _ cZ.o O3.o S3.o).mono ?_;rintro e w4 ⟨rfl,hk4,Ym⟩;have iF:=ai (hk4.below cZ.o cZ.o.size (fun b hb=>(by omega)));have M4:=ai (hk4.keep M3.o (by omega));have KB4:=ai (hk4.keep KB3.o (by omega));have V6:=ai Ym;clear hk4 Ym))
          have HO5:=ai (V6.o trivial)
          rw[<- VJ.o] at HO5
          go_roundw
          case rel=>exact⟨k+1,by omega,by go_num,PE.o,iF.o,M4.o,KB4.o,HO5.o.1,HO5.o.2⟩
          case measure=>simp[intOf];omega
      · obtain rfl:k=ss.length:=by omega
        have Yt:ss.length<=4:=by omega
        have mB:=hmm
        have p1:wr.cell? (Ad mb 1)=some (.slice aF fs.length cF):=B.cell mB 1 rfl
        have p2:wr.cell? (Ad mb 2)=some (.slice aL ls.length cL):=B.cell mB 2 rfl
        have p3:wr.cell? (Ad mb 3)=some (.slice aP ss.length cP):=B.cell mB 3 rfl
        have K7:=B.isLt hmm
        have acg:=B.isLt hkk
        have Di:=FJ.o ss.length (Nat.le_refl _) pR
        have wY:Hid (∀V,Below wr.heap.size wr V->Calls Tryz.prog 83 #[.pointer (some (Ad mb 0))] V fun e w'=>e=.returned (I (KM.room ss))/\Below V.heap.size V w'):=fun V hV=>lV ss aP cP mb V (Fp.o.below (hb.trans (hV.mono hb.size))) (fun j hj=>(pk.o j hj).aD) (by omega) ((hV.cell (p:=(Ad mb 3)) K7).trans p3)
        have sH:Hid (∀V,Below wr.heap.size wr V->Calls Tryz.prog 113 #[.pointer (some (Ad mb 0)),.slice (some (Ad gf 0)) fs.length fs.length] V fun e w'=>e=.returned (.bool ((List.range fs.length).all fun i=>KM.fM hs (KM.aI fs i) (KM.dh (KM.kS ss (List.replicate fs.length KM.gX,List.replicate ls.length KM.gX) ss.length).1 i)))/\Below V.heap.size V w'):=fun V hV=>wD hs fs _ aF cF mb W.heap.size gf fs.length V (S8.o.below (hb.trans (hV.mono hb.size))) (hof.kp (Kp.aY (D:=fun _=>False) hV) (fun x=>x)) (Nat.lt_of_lt_of_le K7 hV.size) ((hV.cell (p:=(Ad mb 1)) K7).trans p1) (yw (B.below mB hV K7) uQ.o.symm) (fun i hi=>HUP.o uQ.o.symm pR i hi) (fun i hi=>(LY.o i hi).1) (by omega)
        have FL:Hid (∀V,Below wr.heap.size wr V->Calls Tryz.prog 114 #[.pointer (some (Ad mb 0)),.slice (some (Ad gs 0)) ls.length ls.length] V fun e w'=>e=.returned (.bool ((List.range ls.length).all fun i=>KM.ig (KM.bG ls i) (KM.dh (KM.kS ss (List.replicate fs.length KM.gX,List.replicate ls.length KM.gX) ss.length).2 i)))/\Below V.heap.size V w'):=fun V hV=>xX ls _ aL cL mb W.heap.size gs ls.length V (HKL.o.below (hb.trans (hV.mono hb.size))) (hos.kp (Kp.aY (D:=fun _=>False) hV) (fun x=>x)) ((hV.cell (p:=(Ad mb 2)) K7).trans p2) (fun i hi=>(Di.2.2 i hi).1) (fun i hi=>(BB.o i hi).1) (by omega)
        have C6:=iV
        have Bz:=py
        rw[uQ.o.symm,VO.o,decide_eq_true (show 0<=hd/\hd<(fs.length:Int) from⟨g1,g2⟩)] at C6 Bz
        obtain⟨RF,hRF⟩:=ex ((List.range fs.length).all fun i=>KM.fM hs (KM.aI fs i) (KM.dh (KM.kS ss (List.replicate fs.length KM.gX,List.replicate ls.length KM.gX) ss.length).1 i))
        obtain⟨RL,hRL⟩:=ex ((List.range ls.length).all fun i=>KM.ig (KM.bG ls i) (KM.dh (KM.kS ss (List.replicate fs.length KM.gX,List.replicate ls.length KM.gX) ss.length).2 i))
        obtain⟨RM,Je⟩:=ex (KM.room ss)
        rw[<- hRF] at sH C6 Bz
        rw[<- hRL] at FL C6 Bz
        rw[<- Je] at wY C6 Bz
        have mv:=Q.dW wr
        have k2:∀x:Q.fF wr.heap.size wr,x.world.cell? (Ad kb 2)=some (.slice aL ls.length cL):=fun x=>by rw[Q.cH x _ _ acg];exact m2
        clear hRF hRL Je Di pR hb hmm hkk hof hos FJ SN iV py HUP T9 S8 HKL Fp LX LY BB pk HKK Jx Jw ck HG2 Du Xe Xd m1 m3 m2 p1 p2 p3 mB VO
        go_upto_region 13 with fail
        by_cases c:RM<=(ls.length:Int)
        · have c2:decide ((ls.length:Int)<RM)=false:=decide_eq_false (by omega)
          rw[decide_eq_true c] at C6 Bz
          cases RF with
          | false =>
           refine Q.br (by kernel_rfl) (by kernel_rfl) ?_
           repeat (first | go_big_quiet_step ((first | (go_at_call 83;exact fW _ wY.o) | (go_at_call 113;exact fW _ sH.o))) | quiet_step ((first | (go_at_call 83;exact fW _ wY.o) | (go_at_call 113;exact fW _ sH.o))))
           refine wpQuiet_nil ?_
           rintro _ ⟨x,rfl⟩
           have nK:=ai (HB.o.trans (x.keeps.mono HB.o.size))
           have MX:=ai (B.below Dp.o x.keeps (B.isLt Dp.o))
           clear wY sH FL k2
           go_wp2
           exact C6.o _ nK.o (by simp)
          | true =>
           cases RL with
           | false =>
            refine Q.br (by kernel_rfl) (by kernel_rfl) ?_
            repeat (first | go_big_quiet_step ((first | (go_at_call 83;exact fW _ wY.o) | (go_at_call 113;exact fW _ sH.o) | (go_at_call 114;exact fW _ FL.o))) | quiet_step ((first | (go_at_call 83;exact fW _ wY.o) | (go_at_call 113;exact fW _ sH.o) | (go_at_call 114;exact fW _ FL.o))))
            refine wpQuiet_nil ?_
            rintro _ ⟨x,rfl⟩
            have nK:=ai (HB.o.trans (x.keeps.mono HB.o.size))
            have MX:=ai (B.below Dp.o x.keeps (B.isLt Dp.o))
            clear wY sH FL k2
            go_wp2
            exact C6.o _ nK.o (by simp)
           | true =>
            refine Q.br (by kernel_rfl) (by kernel_rfl) ?_
            repeat (first | go_big_quiet_step ((first | (go_at_call 83;exact fW _ wY.o) | (go_at_call 113;exact fW _ sH.o) | (go_at_call 114;exact fW _ FL.o))) | quiet_step ((first | (go_at_call 83;exact fW _ wY.o) | (go_at_call 113;exact fW _ sH.o) | (go_at_call 114;exact fW _ FL.o))))
            refine wpQuiet_nil ?_
            rintro _ ⟨x,rfl⟩
            have nK:=ai (HB.o.trans (x.keeps.mono HB.o.size))
            have MX:=ai (B.below Dp.o x.keeps (B.isLt Dp.o))
            clear wY sH FL k2
            go_wp2
            exact Bz.o _ mb nK.o (by simp) XY MX.o
        · have c2:decide ((ls.length:Int)<RM)=true:=decide_eq_true (by omega)
          rw[decide_eq_false c] at C6
          refine Q.br (by kernel_rfl) (by kernel_rfl) ?_
          repeat (first | go_big_quiet_step ((go_at_call 83;exact fW _ wY.o)) | quiet_step ((go_at_call 83;exact fW _ wY.o)))
          refine wpQuiet_nil ?_
          rintro _ ⟨x,rfl⟩
          have nK:=ai (HB.o.trans (x.keeps.mono HB.o.size))
          have MX:=ai (B.below Dp.o x.keeps (B.isLt Dp.o))
          clear wY sH FL k2
          go_wp2
          exact C6.o _ nK.o (by simp)
theorem ND (k:KM.Kn) (a:fu) (w:World) (hc:KM.counts k=false):Calls Tryz.prog 62 #[.agg (aJ a k)] w (nr w a k):=by
 have hcc:=of_decide_eq_false hc
 have iV:Hid (∀w',Below w.heap.size w w'->nr w a k (.returned (.tuple #[.pointer none,I 2])) w'):=fun w' hb=>by
  have e:KM.dx k=2:=by unfold KM.dx;rw[if_pos hc]
  exact⟨hb,.inr ⟨by rw[e];decide,by rw[e]⟩⟩
 obtain⟨P,hP⟩:=ex (nr w a k)
 rw[<- hP] at iV ⊢
 clear hP
 unfold aJ
 have HC:Hid (∀V,Calls Tryz.prog 109 #[.agg #[.slice a.aS k.ak.length a.cS,.slice a.aF k.frames.length a.cF,.slice a.aL k.slots.length a.cL,.slice a.aP k.aj.length a.cP,I k.hand]] V fun e w'=>e=.returned (.bool false)/\Below V.heap.size V w'):=fun V=>by
  have:=za a.aS a.aF a.aL a.aP k.ak.length a.cS k.frames.length a.cF k.slots.length a.cL k.aj.length a.cP (I k.hand) V
  rw[decide_eq_false hcc] at this
  exact this
 obtain⟨aS,cS,aF,cF,aL,cL,aP,cP⟩:=a
 obtain⟨hs,fs,ls,ss,hd⟩:=k
 simp only at HC ⊢
 have uR:=ai ((Below.refl w.heap.size w).alloc (Nat.le_refl _) (.cells #[.slice aS hs.length cS,.slice aF fs.length cF,.slice aL ls.length cL,.slice aP ss.length cP,I hd] 27))
 clear hc hcc
 go_enter Tryz.func62,Tryz.ntmps62
 go_wp2_with (go_at_call 109;refine(HC.o _).mono ?_;rintro e w1 ⟨rfl,hb1⟩;have PT:=ai (aB uR.o hb1);clear hb1)
 exact iV.o _ PT.o
theorem Eh (k:KM.Kn) (a:fu) (w:World) (hK:cI w a k) (hF:eW k):Calls Tryz.prog 62 #[.agg (aJ a k)] w (nr w a k):=by
 cases hc:KM.counts k with
 | true=>exact Kj k a w hK hF hc
 | false=>exact ND k a w hc
theorem fK (k:KM.Kn) (a:fu) (w:World) (hK:cI w a k) (hF:eW k):Calls Tryz.prog 24 #[.agg (aJ a k)] w fun e w'=>e=.returned (I (KM.dx k))/\Below w.heap.size w w':=by
 have HL:Hid (∀V,Below w.heap.size w V->Calls Tryz.prog 62 #[.agg (aJ a k)] V fun e w'=>∃v,e=.returned (.tuple #[v,I (KM.dx k)])/\Below V.heap.size V w'):=fun V hV=>(Eh k a V (hK.below hV) hF).mono fun e w' ⟨hb,h⟩=>by
  rcases h with⟨h0,mb,he,_,_⟩ | ⟨_,he⟩
  · exact⟨_,by rw[he,h0],hb⟩
  · exact⟨_,he,hb⟩
 obtain⟨C,hC⟩:=ex (KM.dx k)
 rw[<- hC] at HL ⊢
 unfold aJ at HL ⊢
 obtain⟨aS,cS,aF,cF,aL,cL,aP,cP⟩:=a
 obtain⟨hs,fs,ls,ss,hd⟩:=k
 simp only at HL ⊢
 clear hC hK hF
 have uR:=ai ((Below.refl w.heap.size w).alloc (Nat.le_refl _) (.cells #[.slice aS hs.length cS,.slice aF fs.length cF,.slice aL ls.length cL,.slice aP ss.length cP,I hd] 27))
 go_enter Tryz.func24,Tryz.ntmps24
 go_wp2_with (go_at_call 62;refine(HL.o _ uR.o).mono ?_;rintro e w1 ⟨v,rfl,hb1⟩;have bI:=ai (aB uR.o hb1);clear hb1)
 go_ret
 exact⟨rfl,bI.o⟩
def dw (k:KM.Kn) (sp:Int):Int:=if KM.dx k=0 then (if 0<=sp/\sp<(k.aj.length:Int)/\(KM.au k.aj sp.toNat).live=true then 0 else 6) else KM.dx k
def lh (a:fu) (k:KM.Kn):Array Value:=mL (.slice a.aS k.ak.length a.cS) (.slice a.aF k.frames.length a.cF) (.slice a.aL k.slots.length a.cL) (.slice a.aP k.aj.length a.cP) (I k.hand) (jU k.ak k.ak.length)
def iN (w:World) (a:fu) (k:KM.Kn) (c:Int) (e:Ending) (w':World):Prop:=Below w.heap.size w w'/\((c=0/\∃mb,e=.returned (.tuple #[.pointer (some (Ad mb 0)),I 0])/\w.heap.size<=mb/\w'.heap[mb]?=some (.cells (lh a k) 104 (0,0)))∨(c≠0/\e=.returned (.tuple #[.pointer none,I c])))
theorem s9 (k:KM.Kn) (a:fu) (sp:Int) (w:World) (hK:cI w a k) (hF:eW k) (hsp:M.gj sp):Calls Tryz.prog 69 #[.agg (aJ a k),I sp] w (iN w a k (dw k sp)):=by
 have HL:=ai (fun V (hV:Below w.heap.size w V)=>Eh k a V (hK.below hV) hF)
 have HE:Hid (∀V c,Below w.heap.size w V->dw k sp=c->c≠0->iN w a k (dw k sp) (.returned (.tuple #[.pointer none,I c])) V):=fun V c hV e hc=>⟨hV,.inr ⟨by rw[e];exact hc,by rw[e]⟩⟩
 have HY:Hid (∀V mb,Below w.heap.size w V->dw k sp=0->w.heap.size<=mb->V.heap[mb]?=some (.cells (lh a k) 104 (0,0))->iN w a k (dw k sp) (.returned (.tuple #[.pointer (some (Ad mb 0)),I 0])) V):=fun V mb hV e hm hh=>⟨hV,.inl ⟨e,mb,rfl,hm,hh⟩⟩
 obtain⟨P,hP⟩:=ex (iN w a k (dw k sp))
 rw[<- hP] at HE HY ⊢
 clear hP
 have Xl:=ai hK.aj
 have BG:=ai (B.new w (aJ a k) 27)
 have bW:=ai ((Below.refl w.heap.size w).alloc (Nat.le_refl _) (.cells (aJ a k) 27))
 have S0:Hid (dw k sp=if KM.dx k=0 then (if 0<=sp/\sp<(k.aj.length:Int)/\(KM.au k.aj sp.toNat).live=true then 0 else 6) else KM.dx k):=rfl
 have HN4:Hid (KM.dx k=0->k.aj.length<=4):=fun h=>((KM.kz k).1 h).c.2.2.1.2
 clear hK hF
 by_cases hc:KM.dx k=0
 · have Fm:Hid (∀V,Below w.heap.size w V->Calls Tryz.prog 62 #[.agg (aJ a k)] V fun e w'=>∃mb,e=.returned (.tuple #[.pointer (some (Ad mb 0)),I 0])/\w.heap.size<=mb/\w'.heap[mb]?=some (.cells (lh a k) 104 (0,0))/\Below V.heap.size V w'):=fun V hV=>(HL.o V hV).mono fun e w' ⟨hb,h⟩=>by
    rcases h with⟨_,mb,h1,h2,h3⟩ | ⟨h1,_⟩
    · exact⟨mb,h1,Nat.le_trans hV.size h2,h3,hb⟩
    · exact absurd hc h1
   have hn4:=HN4.o hc
   have zF:Hid (dw k sp=if 0<=sp/\sp<(k.aj.length:Int)/\(KM.au k.aj sp.toNat).live=true then 0 else 6):=by show _=_;rw[S0.o,if_pos hc]
   clear HL S0 hc HN4
   unfold aJ at Fm BG bW ⊢
   obtain⟨aS,cS,aF,cF,aL,cL,aP,cP⟩:=a
   obtain⟨hs,fs,ls,ss,hd⟩:=k
   simp only at Fm BG bW Xl zF HY hn4 ⊢
   have CALL:True:=trivial
   rcases(show sp<0∨(0<=sp/\(ss.length:Int)<=sp)∨(0<=sp/\sp<(ss.length:Int)) by omega) with g | ⟨g1,g2⟩ | ⟨g1,g2⟩
   · have HX:=ai (fun V hV=>HE.o V 6 hV (by rw[zF.o,if_neg (by omega)]) (by decide))
     clear HE HY zF Xl
     go_enter Tryz.func69,Tryz.ntmps69
     go_wp2_with (go_at_call 62;refine(Fm.o _ bW.o).mono ?_;rintro e w1 ⟨mb,rfl,kj,hm2,hb1⟩;have bI:=ai (aB bW.o hb1);have K1:=ai (B.below BG.o hb1 (by simp));have c3:w1.cell? (Ad w.heap.size 3)=some (.slice aP ss.length cP):=B.cell K1.o 3 rfl;clear hb1 hm2)
     exact HX.o _ bI.o
   · have HX:=ai (fun V hV=>HE.o V 6 hV (by rw[zF.o,if_neg (by omega)]) (by decide))
     clear HE HY zF Xl
     go_enter Tryz.func69,Tryz.ntmps69
     go_wp2_with (go_at_call 62;refine(Fm.o _ bW.o).mono ?_;rintro e w1 ⟨mb,rfl,kj,hm2,hb1⟩;have bI:=ai (aB bW.o hb1);have K1:=ai (B.below BG.o hb1 (by simp));have c3:w1.cell? (Ad w.heap.size 3)=some (.slice aP ss.length cP):=B.cell K1.o 3 rfl;clear hb1 hm2)
     exact HX.o _ bI.o
   · obtain⟨j,rfl⟩:∃j:Nat,sp=(j:Int):=⟨sp.toNat,by omega⟩
     obtain⟨pb,po,hao,hbl,bM⟩:=Xl.o (by omega)
     subst hao
     obtain⟨va,ap,cp,y0,_,_,_,_,_⟩:=bM j (by omega)
     rw[Int.toNat_natCast] at zF
     obtain⟨lv,hlv⟩:=ex ((KM.au ss j).live)
     rw[<- hlv] at y0 zF
     clear hlv bM Xl
     cases lv with
     | false =>
      have HX:=ai (fun V hV=>HE.o V 6 hV (by rw[zF.o,if_neg (by simp)]) (by decide))
      clear HE HY zF
      go_enter Tryz.func69,Tryz.ntmps69
      go_wp2_with (go_at_call 62;refine(Fm.o _ bW.o).mono ?_;rintro e w1 ⟨mb,rfl,kj,hm2,hb1⟩;have bI:=ai (aB bW.o hb1);have K1:=ai (B.below BG.o hb1 (by simp));have c3:w1.cell? (Ad w.heap.size 3)=some (.slice (some (Ad pb po)) ss.length cP):=B.cell K1.o 3 rfl;have l0:w1.cell? (Ad pb (po+j*3))=some (.bool false):=(bI.o.cell (p:=(Ad pb (po+j*3))) hbl).trans y0;clear hb1 hm2)
      exact HX.o _ bI.o
     | true =>
      have HX:=ai (fun V mb hV hm hh=>HY.o V mb hV (by rw[zF.o,if_pos ⟨g1,g2,rfl⟩]) hm hh)
      clear HE HY zF
      go_enter Tryz.func69,Tryz.ntmps69
      go_wp2_with (go_at_call 62;refine(Fm.o _ bW.o).mono ?_;rintro e w1 ⟨mb,rfl,kj,hm2,hb1⟩;have FO:=ai hm2;have bI:=ai (aB bW.o hb1);have K1:=ai (B.below BG.o hb1 (by simp));have c3:w1.cell? (Ad w.heap.size 3)=some (.slice (some (Ad pb po)) ss.length cP):=B.cell K1.o 3 rfl;have l0:w1.cell? (Ad pb (po+j*3))=some (.bool true):=(bI.o.cell (p:=(Ad pb (po+j*3))) hbl).trans y0;clear hb1 hm2)
      exact HX.o _ mb bI.o kj FO.o
 · have Fm:Hid (∀V,Below w.heap.size w V->Calls Tryz.prog 62 #[.agg (aJ a k)] V fun e w'=>e=.returned (.tuple #[.pointer none,I (KM.dx k)])/\Below V.heap.size V w'):=fun V hV=>(HL.o V hV).mono fun e w' ⟨hb,h⟩=>by
    rcases h with⟨h1,_⟩ | ⟨_,h1⟩
    · exact absurd h1 hc
    · exact⟨h1,hb⟩
   have HX:=ai (fun V hV=>HE.o V (KM.dx k) hV (by rw[S0.o,if_neg hc]) hc)
   obtain⟨C,hC⟩:=ex (KM.dx k)
   rw[<- hC] at Fm HX hc
   have cb:(C != 0)=true:=by simpa using hc
   clear HL S0 hC HE HY HN4 Xl
   unfold aJ at Fm BG bW ⊢
   obtain⟨aS,cS,aF,cF,aL,cL,aP,cP⟩:=a
   obtain⟨hs,fs,ls,ss,hd⟩:=k
   simp only at Fm BG bW ⊢
   clear hc
   go_enter Tryz.func69,Tryz.ntmps69
   go_wp2_with (go_at_call 62;refine(Fm.o _ bW.o).mono ?_;rintro e w1 ⟨rfl,hb1⟩;have bI:=ai (aB bW.o hb1);clear hb1)
   exact HX.o _ bI.o
theorem Hn (p:Int) (e:KM.En) (x:Nat) (w:World) (hx:w.cell? (Ad x 0)=some (I p)) :
  Calls Tryz.prog 154 #[.agg #[I e.page,I e.kind,I e.loc],.pointer (some (Ad x 0))] w fun r w'=>r=.returned (.bool (decide (e.page=p)))/\Below w.heap.size w w':=by
 obtain⟨pg,kd,lc⟩:=e
 simp only
 have hxl:x<w.heap.size:=World.block_lt_of_cell? w _ hx
 have xA:(w.alloc (.cells #[I pg,I kd,I lc] 45)).cell? (Ad x 0)=some (I p):=(Below.cell ((Below.refl w.heap.size w).alloc (Nat.le_refl _) _) (p:=(Ad x 0)) hxl).trans hx
 obtain⟨A,hA⟩:=ex (decide (pg=p))
 have HA:Hid ((pg==p)=A):=by show _=_;rw[hA];rfl
 rw[<- hA]
 clear hA
 have ha:=HA.o
 clear HA
 go_enter Tryz.func154,Tryz.ntmps154
 go_wp2
 go_ret
 exact⟨by simp,(Below.refl _ _).alloc (Nat.le_refl _) _⟩
theorem CB (F:FuncId) (hF:F=154∨F=191∨F=202) (P:KM.En->Bool) (es:List KM.En) (ao:Option Addr) (cap x:Nat) (w:World) (h:aZ aK 3 KM.jI w ao es) (hl:es.length<=1000000)
  (hC:∀V e,Below w.heap.size w V->Calls Tryz.prog F #[.agg #[I e.page,I e.kind,I e.loc],.pointer (some (Ad x 0))] V fun r w'=>r=.returned (.bool (P e))/\Below V.heap.size V w') :
  Calls Tryz.prog 153 #[.slice ao es.length cap,.func (.func F) #[] #[.pointer (some (Ad x 0))]] w fun e w' =>
   Below w.heap.size w w'/\((e=.returned (I (-1))/\∀j,j<es.length->P (KM.aN es j)=false)∨∃i:Nat,i<es.length/\e=.returned (I (i:Int))/\P (KM.aN es i)=true/\∀j,j<i->P (KM.aN es j)=false):=by
 have HH:=ai h
 have HC:=ai hC
 clear h hC
 rcases hF with rfl | rfl | rfl
 all_goals
  go_enter Tryz.func153,Tryz.ntmps153
  go_wp2
  go_loopw [8] (fun iv wr=>∃k:Nat,k<=es.length/\iv=I (k:Int)/\(∀j,j<k->P (KM.aN es j)=false)/\Below w.heap.size w wr) (fun iv _=>es.length-(intOf iv).toNat)
  case atStart=>exact⟨0,by omega,rfl,fun j hj=>by omega,Below.refl _ _⟩
  case round =>
   obtain⟨k,hk,rfl,hno,hb⟩:=hrel
   have iV:=ai hno
   have HB:=ai hb
   clear hno
   by_cases hlt:k<es.length
   · have Ba:(k:Int)<(es.length:Int):=by omega
     obtain⟨eb,eo,hao,hbl,bM⟩:=HH.o (by omega)
     subst hao
     have y0:=(hb.cell (p:=(Ad eb (eo+k*3+0))) hbl).trans (bM k hlt 0 (by omega))
     have y1:=(hb.cell (p:=(Ad eb (eo+k*3+1))) hbl).trans (bM k hlt 1 (by omega))
     have y2:=(hb.cell (p:=(Ad eb (eo+k*3+2))) hbl).trans (bM k hlt 2 (by omega))
     rw[Nat.add_zero] at y0
     have j6:=ai (HC.o wr (KM.aN es k) hb)
     obtain⟨G,hG⟩:=ex (P (KM.aN es k))
     rw[<- hG] at j6
     have HG:=ai hG
     obtain⟨E,hE⟩:=ex (KM.aN es k)
     have x0:wr.cell? (Ad eb (eo+k*3))=some (I E.page):=by rw[hE];exact y0
     have x1:wr.cell? (Ad eb (eo+k*3+1))=some (I E.kind):=by rw[hE];exact y1
     have x2:wr.cell? (Ad eb (eo+k*3+2))=some (I E.loc):=by rw[hE];exact y2
     rw[<- hE] at j6
     clear hG hE hb y0 y1 y2 bM
     cases G with
     | true =>
      go_wp2_with ((first | go_at_call 154 | go_at_call 191 | go_at_call 202);refine j6.o.mono ?_;rintro e w1 ⟨rfl,hb1⟩;have bI:=ai (HB.o.trans (hb1.mono HB.o.size));clear hb1)
      go_ret
      exact⟨bI.o,.inr ⟨k,hlt,rfl,HG.o.symm,iV.o⟩⟩
     | false =>
      go_wp2_with ((first | go_at_call 154 | go_at_call 191 | go_at_call 202);refine j6.o.mono ?_;rintro e w1 ⟨rfl,hb1⟩;have bI:=ai (HB.o.trans (hb1.mono HB.o.size));clear hb1)
      go_roundw
      case rel=>exact⟨k+1,by omega,by go_num,fun j hj=>by
       by_cases q:j=k
       · subst q;exact HG.o.symm
       · exact iV.o j (by omega),bI.o⟩
      case measure=>simp[intOf];omega
   · obtain rfl:k=es.length:=by omega
     clear hb
     go_wp2
     go_ret
     exact⟨HB.o,.inl ⟨rfl,iV.o⟩⟩
end KW
end Go.Proofs.YtpgifpeohlllfaaGreat
