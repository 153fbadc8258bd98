import Derived.Test.YtkdigjpejnebkaaGreatGU00
import Derived.Test.YtkdigjpejnebkaaGreatGU33
import Derived.Test.YtkdigjpejnebkaaGreatGU06
set_option maxHeartbeats 20000000
set_option linter.unusedVariables false
set_option maxRecDepth 100000
set_option linter.unusedSimpArgs false
namespace Go.Proofs.YtkdigjpejnebkaaGreat
namespace GO
open Go.RowKit GK GH
open GF (Lc blk)
open FW (ai aB)
def Hk (mb b1:Nat) (wr:World) (g:FM.Fl) (a1 a2 a3:Option Addr):Prop:=∀V,Kp (fun b=>b=mb∨b<=b1) wr V->FW.fK V g a1 a2 a3
theorem Mb {f g:FM.Fl} {picks:List Int} {n:Nat} (h:GG.ez GM.aQ picks n (some (aZ f))=some (aZ g)):GG.ez GM.aQ picks (n+1) (some (aZ f))=if FW.gu g.procs g.out.length (picks.getD n 0)=2 then none else some (aZ (GR.di g (picks.getD n 0))):=by
 rw[GG.ez,h]
 dsimp only
 rw[GT.LP]
 rfl
theorem L5 {f:FM.Fl} {picks:List Int} {n:Nat} (e:GG.ez GM.aQ picks n (some (aZ f))=none):∀m,n<=m->GG.ez GM.aQ picks m (some (aZ f))=none:=fun m hm=>by
 induction m with
 | zero => obtain rfl:n=0 := by omega
           exact e
 | succ m ih =>
  by_cases c:n=m+1
  · subst c;exact e
  · rw[GG.ez,ih (by omega)]
theorem Hz {f:FM.Fl} {picks:List Int} (h:¬FM.cT f=0):l6 f picks=(oL,FM.cT f):=by
 unfold l6 mD
 rw[if_pos h]
theorem CQ {f:FM.Fl} {picks:List Int} (h:FM.cT f=0) (hn:2000<picks.length):l6 f picks=(oL,2):=by
 unfold l6 mD GG.tV
 rw[if_neg (fun g=>g h),if_pos hn]
 rfl
theorem Ma {f:FM.Fl} {picks:List Int} (h:FM.cT f=0) (hn:¬2000<picks.length) (e:GG.ez GM.aQ picks picks.length (some (aZ f))=none):l6 f picks=(oL,2):=by
 unfold l6 mD GG.tV
 rw[if_neg (fun g=>g h),if_neg hn,e]
 rfl
theorem Hy {f g:FM.Fl} {picks:List Int} (h:FM.cT f=0) (hn:¬2000<picks.length) (e:GG.ez GM.aQ picks picks.length (some (aZ f))=some (aZ g)):l6 f picks=(g,0):=by
 unfold l6 mD GG.tV
 rw[if_neg (fun g=>g h),if_neg hn,e]
 rfl
theorem PH {g:FM.Fl} {pick:Int} (h2:¬FW.gu g.procs g.out.length pick=2) (h0:¬FW.gu g.procs g.out.length pick=0):GR.di g pick=g:=by
 unfold FW.gu at h2 h0
 unfold GR.di GG.stepG
 by_cases d:0<=pick/\pick<(g.procs.length:Int)
 · rw[if_pos d] at h2 h0
   split at h2
   · exact absurd rfl h2
   · rename_i c
     rw[if_neg c] at h0
     exact absurd rfl h0
 · rw[if_pos (show ¬(0<=pick/\pick<((aZ g).ps.length:Int)) from d)]
   rfl
theorem go_of {g:FM.Fl} {pick:Int} (h0:FW.gu g.procs g.out.length pick=0):∃k:Nat,pick=(k:Int)/\k<g.procs.length/\((FM.au g.procs k).st=1->g.out.length<2000):=by
 unfold FW.gu at h0
 by_cases a:0<=pick/\pick<(g.procs.length:Int)
 · rw[if_pos a] at h0
   refine⟨pick.toNat,by omega,by omega,fun hs=>?_⟩
   by_cases o:2000<=g.out.length
   · rw[if_pos ⟨hs,o⟩] at h0
     cases h0
   · omega
 · rw[if_neg a] at h0
   cases h0
theorem Jx {g:FM.Fl} {pick:Int} (h0:FW.gu g.procs g.out.length pick=0) (hok:GG.lZ GM.qy (aZ g)) (az ar ao:Option Addr) (cs cr co:Nat) (w:World) (h:FW.fK w g az ar ao):Calls Tryz.prog 16 #[.agg (FW.bw g az ar ao cs cr co),I pick] w (qx w (GR.di g pick)):=by
 obtain⟨k,rfl,h6,h7⟩:=go_of h0
 by_cases hs:(FM.au g.procs k).st=1
 · exact Jw g k az ar ao cs cr co w h hok h6 hs (h7 hs)
 · exact EX g k az ar ao cs cr co w h hok h6 hs
theorem Bx {w W:World} {er:Int} {b1:Nat} (hb:Below w.heap.size w W) (h1:w.heap.size<=b1):ny w (oL,er) (.returned (.tuple #[.agg #[I 0,Nl,Nl,Nl],I er])) ((((W.setCell ⟨b1,0,none⟩ (I 0)).setCell ⟨b1,1,none⟩ Nl).setCell ⟨b1,2,none⟩ Nl).setCell ⟨b1,3,none⟩ Nl) :=
 ⟨none,0,none,0,none,0,rfl,fun V _=>vZ V,Kp.below hb (Ug W b1 _ _ _ _) hb.size (fun b e=>by omega)⟩
theorem Mc (f:FM.Fl) (picks:List Int) (ap:Option Addr) (cp:Nat) (az ar ao:Option Addr) (cs cr co:Nat) (w:World) (h:FW.fK w f az ar ao) (hp:qR f.procs) (hn:GW.rS w ap picks)
  (qa:∀V,Below w.heap.size w V->Calls Tryz.prog 13 #[.agg (FW.bw f az ar ao cs cr co)] V fun e w'=>e=.returned (I (FM.cT f))/\Below V.heap.size V w') :
  Calls Tryz.prog 18 #[.agg (FW.bw f az ar ao cs cr co),.slice ap picks.length cp] w (ny w (l6 f picks)):=by
 have HH:=ai h
 have VL:=ai qa
 have HHN:=ai hn
 have HPP:=ai hp
 obtain⟨np,fB⟩:=ex picks.length
 obtain⟨ns,hns⟩:=ex f.ak.length
 obtain⟨nr,fh⟩:=ex f.procs.length
 obtain⟨no,hno⟩:=ex f.out.length
 obtain⟨sl,hsl⟩:=ex f.slots
 have HOW:Hid (FM.cT f=0->∀V,Below w.heap.size w V->Calls Tryz.prog 47 #[.agg #[I sl,.slice az ns cs,.slice ar nr cr,.slice ao no co]] V (KN V f)):=fun hc V hV=>by
  have hok:=Bo hc hp
  have h4:f.ak.length<=4:=hok.mem.few.2
  have hl:=ub hok
  have:=vX f az ar ao cs cr co V (h.below hV) (by omega) (sM hok) (by omega) (by have:f.out.length<=2000:=hok.out;omega)
  unfold FW.bw at this
  rw[<- hns,<- fh,<- hno,<- hsl] at this
  exact this
 obtain⟨R,hR⟩:=ex (l6 f picks)
 obtain⟨C,hC⟩:=ex (FM.cT f)
 have Tk:Hid (¬C=0->R=(oL,C)):=fun g=>by rw[hR,hC];exact Hz (by rw[<- hC];exact g)
 have lu:Hid (C=0->2000<np->R=(oL,2)):=fun g1 g2=>by rw[hR];exact CQ (by rw[<- hC];exact g1) (by rw[<- fB];exact g2)
 have Hb:Hid (C=0->¬2000<np->∀n,n<=np->GG.ez GM.aQ picks n (some (aZ f))=none->R=(oL,2)):=fun g1 g2 n g3 g4=>by rw[hR];exact Ma (by rw[<- hC];exact g1) (by rw[<- fB];exact g2) (L5 g4 _ (by rw[<- fB];exact g3))
 have Zm:Hid (C=0->¬2000<np->∀g,GG.ez GM.aQ picks np (some (aZ f))=some (aZ g)->R=(g,0)):=fun g1 g2 g g3=>by rw[hR];exact Hy (by rw[<- hC];exact g1) (by rw[<- fB];exact g2) (by rw[<- fB];exact g3)
 have tH:Hid (C=0->∀n g,GG.ez GM.aQ picks n (some (aZ f))=some (aZ g)->GG.lZ GM.qy (aZ g)):=fun g1 n g e=>GG.sk GM.Br (Bo (by rw[<- hC];exact g1) hp) picks n _ e
 rw[<- hR]
 rw[<- hC] at VL HOW
 unfold FW.bw at VL ⊢
 rw[<- hns,<- fh,<- hno,<- hsl] at VL ⊢
 rw[<- fB]
 have uv:=ai fB
 obtain⟨P,hP⟩:=ex (ny w R)
 have HP:Hid (∀e w',ny w R e w'->P e w'):=fun e w' g=>by rw[hP];exact g
 rw[<- hP]
 have cY:=ai (((Below.refl w.heap.size w).alloc (Nat.le_refl _) (.cells #[I sl,.slice az ns cs,.slice ar nr cr,.slice ao no co] 30)).alloc (by simp) (.cells #[I 0,Nl,Nl,Nl] 30))
 have BZ:=ai (B.new (w.alloc (.cells #[I sl,.slice az ns cs,.slice ar nr cr,.slice ao no co] 30)) #[I 0,Nl,Nl,Nl] 30)
 have BX:=ai (B.alloc (B.new w #[I sl,.slice az ns cs,.slice ar nr cr,.slice ao no co] 30) (.cells #[I 0,Nl,Nl,Nl] 30))
 rw[World.size_alloc] at BZ
 clear h hp hn qa hR hC hP hns fh hno hsl fB
 by_cases hc:C=0
 case neg =>
  have Gc:(C==0)=false:=by rw[beq_eq_false_iff_ne];exact hc
  have Av:=ai (Tk.o hc)
  go_enter Tryz.func18,Tryz.ntmps18
  go_wp2_with (go_at_call 13;refine(VL.o _ cY.o).mono ?_;rintro e w1 ⟨rfl,hb1⟩;have bj:=ai (cY.o.trans (hb1.mono (by simp;omega)));have Jf:=ai (B.below BZ.o hb1 (B.isLt BZ.o));have SF:=ai (B.below BX.o hb1 (B.isLt BX.o));have hw1:w.heap.size+1<w1.heap.size:=B.isLt Jf.o;obtain⟨z0,z1,z2,z3⟩:=B.c4 Jf.o;have zf:∀j,w1.frozen? ⟨w.heap.size+1,j,none⟩=false:=fun j=>B.free Jf.o j;obtain⟨x0,x1,x2,x3⟩:=B.c4 SF.o;clear hb1)
  refine bodyPost_ret (v:=.tuple #[.agg #[I 0,Nl,Nl,Nl],I C]) (by simp[results,Tryz.results18,go_sem,z0,z1,z2,z3]) rfl ?_
  refine HP.o _ _ ?_
  rw[Av.o]
  exact Bx bj.o (by omega)
 subst hc
 have yA:=ai (HOW.o rfl)
 have Zo:=ai (lu.o rfl)
 have Zn:=ai (Hb.o rfl)
 have Zl:=ai (Zm.o rfl)
 have Vp:=ai (tH.o rfl)
 clear HOW Tk lu Hb Zm tH
 by_cases hbig:2000<np
 · have ED:(2000:Int)<(np:Int):=by omega
   have Av:=ai (Zo.o hbig)
   go_enter Tryz.func18,Tryz.ntmps18
   go_wp2_with (go_at_call 13;refine(VL.o _ cY.o).mono ?_;rintro e w1 ⟨rfl,hb1⟩;have bj:=ai (cY.o.trans (hb1.mono (by simp;omega)));have Jf:=ai (B.below BZ.o hb1 (B.isLt BZ.o));have SF:=ai (B.below BX.o hb1 (B.isLt BX.o));have hw1:w.heap.size+1<w1.heap.size:=B.isLt Jf.o;obtain⟨z0,z1,z2,z3⟩:=B.c4 Jf.o;have zf:∀j,w1.frozen? ⟨w.heap.size+1,j,none⟩=false:=fun j=>B.free Jf.o j;obtain⟨x0,x1,x2,x3⟩:=B.c4 SF.o;clear hb1)
   refine bodyPost_ret (v:=.tuple #[.agg #[I 0,Nl,Nl,Nl],I 2]) (by simp[results,Tryz.results18,go_sem,z0,z1,z2,z3]) rfl ?_
   refine HP.o _ _ ?_
   rw[Av.o]
   exact Bx bj.o (by omega)
 · have ED:¬(2000:Int)<(np:Int):=by omega
   go_enter Tryz.func18,Tryz.ntmps18
   go_wp2_with (go_at_call 13;refine(VL.o _ cY.o).mono ?_;rintro e w1 ⟨rfl,hb1⟩;have bj:=ai (cY.o.trans (hb1.mono (by simp;omega)));have Jf:=ai (B.below BZ.o hb1 (B.isLt BZ.o));have SF:=ai (B.below BX.o hb1 (B.isLt BX.o));have hw1:w.heap.size+1<w1.heap.size:=B.isLt Jf.o;obtain⟨z0,z1,z2,z3⟩:=B.c4 Jf.o;have zf:∀j,w1.frozen? ⟨w.heap.size+1,j,none⟩=false:=fun j=>B.free Jf.o j;obtain⟨x0,x1,x2,x3⟩:=B.c4 SF.o;clear hb1)
   go_at_call 47
   refine(yA.o _ bj.o).mono ?_
   rintro e w3 ⟨ob,v,L,vr,vo,rfl,Ct,hF,hb3⟩
   obtain⟨a1,a2,a3,c1,c2,c3,rfl,rfl,rfl,_⟩:=hF.has
   have VJ:=ai hF
   have fH:=ai (bj.o.trans (hb3.mono bj.o.size))
   have Et:=ai (B.below Jf.o hb3 (B.isLt Jf.o))
   have K9:w.heap.size+1<ob:=by omega
   have hw3:w.heap.size+1<w3.heap.size:=B.isLt Et.o
   have mU:=ai (fH.o.alloc fH.o.size (.cells #[I f.slots,.slice a1 f.ak.length c1,.slice a2 f.procs.length c2,.slice a3 f.out.length c3] 30))
   have B4:=ai (B.new w3 #[I f.slots,.slice a1 f.ak.length c1,.slice a2 f.procs.length c2,.slice a3 f.out.length c3] 30)
   have TA:=ai (B.alloc Et.o (.cells #[I f.slots,.slice a1 f.ak.length c1,.slice a2 f.procs.length c2,.slice a3 f.out.length c3] 30))
   have Hi:Hid (Hk w3.heap.size (w.heap.size+1) (w3.alloc (.cells #[I f.slots,.slice a1 f.ak.length c1,.slice a2 f.procs.length c2,.slice a3 f.out.length c3] 30)) f a1 a2 a3):=fun V hV=>by
    have k:=(Kp.alloc (fun b=>b=w3.heap.size∨b<=w.heap.size+1) w3 (.cells #[I f.slots,.slice a1 f.ak.length c1,.slice a2 f.procs.length c2,.slice a3 f.out.length c3] 30)).trans hV (fun _ _ g=>g)
    obtain⟨b1,b2,b3,d1,d2,d3,e1,e2,e3,hh⟩:=(VJ.o.kp k (fun b e=>by omega)).has
    injection e1 with e1
    injection e2 with e2
    injection e3 with e3
    rw[e1,e2,e3]
    exact hh
   clear hF hb3 z0 z1 z2 z3 zf x0 x1 x2 x3 hw1
   have adz:=ai (Zn.o hbig)
   have ady:=ai (Zl.o hbig)
   go_wp2_with fail
   obtain⟨W4,hW4⟩:=ex (w3.alloc (.cells #[I f.slots,.slice a1 f.ak.length c1,.slice a2 f.procs.length c2,.slice a3 f.out.length c3] 30))
   obtain⟨mb,hmb⟩:=ex w3.heap.size
   obtain⟨r1,hr1⟩:=ex (w.heap.size+1)
   rw[<- hW4] at mU B4 TA Hi ⊢
   rw[<- hmb] at B4 Hi ⊢
   rw[<- hr1] at TA Hi ⊢
   have Ez:r1<mb:=by omega
   have hwr:w.heap.size<=r1:=by omega
   have KR:Hid (GG.ez GM.aQ picks 0 (some (aZ f))=some (aZ f)):=rfl
   clear hW4 hmb hr1 K9 hw3 fH Et VJ bj Jf SF Ct cY BZ BX VL yA Zo Zn Zl
   go_loopw [8] (fun iv wr=>∃(j:Nat) (g:FM.Fl) (b1 b2 b3:Option Addr) (d1 d2 d3:Nat),j<=np/\iv=I (j:Int)/\GG.ez GM.aQ picks j (some (aZ f))=some (aZ g)/\Hk mb r1 wr g b1 b2 b3/\wr.heap[mb]?=some (.cells (FW.bw g b1 b2 b3 d1 d2 d3) 30 (0,0))/\wr.heap[r1]?=some (.cells #[I 0,Nl,Nl,Nl] 30 (0,0))/\Below w.heap.size w wr) (fun iv _=>np-(intOf iv).toNat)
   case atStart=>exact⟨0,f,a1,a2,a3,c1,c2,c3,by omega,rfl,KR.o,Hi.o,B4.o,TA.o,mU.o⟩
   case round =>
    obtain⟨j,g,b1,b2,b3,d1,d2,d3,hj,rfl,hrun,hhk,hbm,hbr,hbl⟩:=hrel
    have Tj:=ai hrun
    have Aw:=ai hhk
    have Sv:=ai hbm
    have CA:=ai hbr
    have Pw:=ai hbl
    have Tw:=ai (Vp.o j g hrun)
    have ZJ:Hid (∀V,Below wr.heap.size wr V->FW.fK V g b1 b2 b3):=fun V hV=>Aw.o V (Kp.aF hV)
    have V8:mb<wr.heap.size:=B.isLt hbm
    have hrl:r1<wr.heap.size:=B.isLt hbr
    obtain⟨gs,S3⟩:=ex g.slots
    obtain⟨n1,pZ⟩:=ex g.ak.length
    obtain⟨n2,kJ⟩:=ex g.procs.length
    obtain⟨n3,Ix⟩:=ex g.out.length
    have Si:=ai S3
    have Cj:=ai pZ
    have vg:=ai kJ
    have Cx:=ai Ix
    unfold FW.bw at Sv
    rw[<- S3,<- pZ,<- kJ,<- Ix] at Sv
    clear hrun hhk hbm hbr hbl mU B4 TA Hi KR S3 pZ kJ Ix
    by_cases hlt:j<np
    · obtain⟨pb,off,hao,hpl,hcell⟩:=HHN.o (by rw[<- uv.o];omega)
      subst hao
      obtain⟨pk,hpk⟩:=ex (picks.getD j 0)
      have dI:Hid (∀V,Below wr.heap.size wr V->V.cell? ⟨pb,off+j,none⟩=some (I pk)):=fun V hV=>by
       rw[hpk]
       have hb:=Pw.o.trans (hV.mono Pw.o.size)
       exact(M.aA hb hpl).trans (hcell j (by rw[<- uv.o];exact hlt))
      obtain⟨SE,Wf⟩:=ex (FW.gu g.procs g.out.length pk)
      have uu:Hid (∀x:Q.dA wr.heap.size wr,Calls Tryz.prog 15 #[.slice b2 n2 d2,.slice b3 n3 d3,I pk] x.world fun e w'=>e=.returned (I SE)/\∃y:Q.dA wr.heap.size wr,w'=y.world):=fun x=>by
       have:=FW.yI g.procs g.out.length pk b2 b3 d2 d3 x.world (ZJ.o _ x.keeps).procs (by have h4:g.ak.length<=4:=Tw.o.mem.few.2;have:=ub Tw.o;omega)
       rw[<- vg.o,<- Cx.o] at this
       rw[Wf]
       rw[<- Cx.o]
       exact this.mono fun e w' ⟨he,hw⟩=>⟨he,x,hw.symm⟩
      have kG:Hid (GG.ez GM.aQ picks (j+1) (some (aZ f))=if SE=2 then none else some (aZ (GR.di g pk))):=by
       show _=_
       rw[Mb Tj.o,<- hpk,<- Wf]
      have WC:Hid (SE=0->FW.gu g.procs g.out.length pk=0):=fun e=>by rw[<- Wf];exact e
      have HE6:Hid (¬SE=2->¬SE=0->GR.di g pk=g):=fun e1 e2=>PH (by rw[<- Wf];exact e1) (by rw[<- Wf];exact e2)
      have hji:(j:Int)<(np:Int):=by omega
      have oG:=Q.dS wr
      have e2:∀x:Q.dA wr.heap.size wr,x.world.cell? ⟨mb,2,none⟩=some (.slice b2 n2 d2):=fun x=>B.cell (B.below Sv.o x.keeps (B.isLt Sv.o)) 2 rfl
      have e3:∀x:Q.dA wr.heap.size wr,x.world.cell? ⟨mb,3,none⟩=some (.slice b3 n3 d3):=fun x=>B.cell (B.below Sv.o x.keeps (B.isLt Sv.o)) 3 rfl
      have e4:∀x:Q.dA wr.heap.size wr,x.world.cell? ⟨pb,off+j,none⟩=some (I pk):=fun x=>dI.o _ x.keeps
      clear hpk Wf hcell
      go_wp2_with fail
      refine Q.aW (by kernel_rfl) (by kernel_rfl) ?_
      repeat (first | go_big_quiet_step ((first | (go_at_call 15;exact uu.o _))) | quiet_step ((first | (go_at_call 15;exact uu.o _))))
      refine wpQuiet_nil ?_
      intro _ hw'
      obtain⟨x,hw''⟩:=hw'
      subst hw''
      obtain⟨W2,hW2⟩:=ex x.world
      have bW:Hid (Below wr.heap.size wr W2):=by show Below _ _ _;rw[hW2];exact x.keeps
      rw[<- hW2]
      have KZ:=ai (Pw.o.trans (bW.o.mono Pw.o.size))
      have ER:=ai (B.below Sv.o bW.o (B.isLt Sv.o))
      have oJ:=ai (B.below CA.o bW.o (B.isLt CA.o))
      have hm2:mb<W2.heap.size:=B.isLt ER.o
      clear hW2 x e2 e3 e4 oG uu
      by_cases h2:SE=2
      case pos =>
       subst h2
       have Av:=ai (adz.o (j+1) (by omega) (by rw[kG.o];exact if_pos rfl))
       obtain⟨z0,z1,z2,z3⟩:=B.c4 oJ.o
       have zf:∀i,W2.frozen? ⟨r1,i,none⟩=false:=fun i=>B.free oJ.o i
       go_wp2
       refine bodyPost_ret (v:=.tuple #[.agg #[I 0,Nl,Nl,Nl],I 2]) (by simp[results,Tryz.results18,go_sem,z0,z1,z2,z3]) rfl ?_
       refine HP.o _ _ ?_
       rw[Av.o]
       exact Bx KZ.o hwr
      have Ld:(SE==2)=false:=by rw[beq_eq_false_iff_ne];exact h2
      have HN5:Hid (GG.ez GM.aQ picks (j+1) (some (aZ f))=some (aZ (GR.di g pk))):=by rw[kG.o,if_neg h2];exact rfl
      by_cases h0:SE=0
      case neg =>
       have h0i:(SE==0)=false:=by rw[beq_eq_false_iff_ne];exact h0
       have RP:=ai (HE6.o h2 h0)
       clear kG WC HE6 h2 h0
       go_wp2_with fail
       go_roundw
       case rel=>exact⟨j+1,g,b1,b2,b3,d1,d2,d3,by omega,by go_num,by have:=HN5.o;rw[RP.o] at this;exact this,fun V hV=>Aw.o V ((Kp.aF bW.o).trans hV (fun _ _ g=>g)),by unfold FW.bw;rw[<- Si.o,<- Cj.o,<- vg.o,<- Cx.o];exact ER.o,oJ.o,KZ.o⟩
       case measure=>simp[intOf];omega
      subst h0
      have HFS:Hid (Calls Tryz.prog 16 #[.agg #[I gs,.slice b1 n1 d1,.slice b2 n2 d2,.slice b3 n3 d3],I pk] W2.drew (qx W2.drew (GR.di g pk))):=by
       have:=Jx (WC.o rfl) Tw.o b1 b2 b3 d1 d2 d3 W2.drew (ZJ.o _ bW.o.drew)
       unfold FW.bw at this
       rw[<- Si.o,<- Cj.o,<- vg.o,<- Cx.o] at this
       exact this
      obtain⟨g',hg'⟩:=ex (GR.di g pk)
      rw[<- hg'] at HFS HN5
      have cw:Hid (Below W2.heap.size W2 W2.drew):=(Below.refl _ _).drew
      have cI:Hid (∀V,Below W2.heap.size W2 V->V.cell? ⟨mb,0,none⟩=some (I gs)/\V.cell? ⟨mb,1,none⟩=some (.slice b1 n1 d1)/\V.cell? ⟨mb,2,none⟩=some (.slice b2 n2 d2)/\V.cell? ⟨mb,3,none⟩=some (.slice b3 n3 d3)/\V.cell? ⟨pb,off+j,none⟩=some (I pk)):=fun V hV=>by
       have hx:=B.below ER.o hV (B.isLt ER.o)
       exact⟨B.cell hx 0 rfl,B.cell hx 1 rfl,B.cell hx 2 rfl,B.cell hx 3 rfl,dI.o V (bW.o.trans (hV.mono bW.o.size))⟩
      clear hg' kG WC HE6 h2
      go_wp2_with fail
      refine GZ.lV (S:=fun V=>Below W2.heap.size W2 V) (z:=6) (by kernel_rfl) ?_
      refine GZ.tk 0 cw.o ?_ ?_ ?_
      rotate_left 1
      · intro V h
        obtain⟨k0,k1,k2,k3,k4⟩:=cI.o V h
        go_simp
        try with_reducible rfl
      refine GZ.tk 1 cw.o ?_ ?_ ?_
      rotate_left 1
      · intro V h
        obtain⟨k0,k1,k2,k3,k4⟩:=cI.o V h
        go_simp
        try with_reducible rfl
      refine GZ.tk 2 cw.o ?_ ?_ ?_
      rotate_left 1
      · intro V h
        obtain⟨k0,k1,k2,k3,k4⟩:=cI.o V h
        go_simp
        try with_reducible rfl
      refine GZ.tk 3 cw.o ?_ ?_ ?_
      rotate_left 1
      · intro V h
        obtain⟨k0,k1,k2,k3,k4⟩:=cI.o V h
        go_simp
        try with_reducible rfl
      refine GZ.tk 4 cw.o ?_ ?_ ?_
      rotate_left 1
      · intro V h
        obtain⟨k0,k1,k2,k3,k4⟩:=cI.o V h
        go_simp
        try with_reducible rfl
      refine GZ.all (rs:=[5]) (by kernel_rfl) (by simp) ?_
      refine GZ.bI.cons rfl (fun K hK=>?_) GZ.bI.nil
      go_simp;go_at_call 16;refine HFS.o.mono ?_;rintro e w6 ⟨f1,t1,f2,t2,f3,t3,rfl,hfl,Ge⟩;unfold FW.bw;obtain⟨gs6,UD⟩:=ex g'.slots;obtain⟨m1,z6⟩:=ex g'.ak.length;obtain⟨m2,UA⟩:=ex g'.procs.length;obtain⟨m3,Wa⟩:=ex g'.out.length;rw[<- UD,<- z6,<- UA,<- Wa];have adV:=ai UD;have Vy:=ai z6;have I8:=ai UA;have HM3:=ai Wa;have ad0:=ai hfl;have ux:Hid (Below W2.heap.size W2 w6):=cw.o.trans Ge;have BM6:=ai (B.below ER.o ux.o (B.isLt ER.o));obtain⟨y0,y1,y2,y3⟩:=B.c4 BM6.o;have yf:∀i,w6.frozen? ⟨mb,i,none⟩=false:=fun i=>B.free BM6.o i;clear UD z6 UA Wa hfl Ge;go_simp
      refine hK.out _ _ (fun _=>?_) ?_
      · exact ux.o
      clear hK K
      try simp only[Act.put,List.setIfInBounds_toArray,List.set_cons_zero,List.set_cons_succ]
      refine GZ.all (rs:=[6]) (by kernel_rfl) (by simp) ?_
      refine GZ.bI.cons rfl (fun K hK=>?_) GZ.bI.nil
      go_simp
      refine hK.out _ _ (fun g=>absurd rfl g) ?_
      refine GZ.done (by kernel_rfl) ?_ _
      go_wp2_with fail
      go_roundw
      case rel =>
       refine⟨j+1,g',f1,f2,f3,t1,t2,t3,by omega,by go_num,HN5.o,fun V hV=>ad0.o V (((Ug w6 mb _ _ _ _).mono (fun b _ e=>by rw[e];exact hm2)).trans (hV.mono (fun b _ e=>by show b<W2.heap.size;omega)) (fun _ _ g=>g)),?_,(Ug w6 mb _ _ _ _).keep (B.below oJ.o ux.o (B.isLt oJ.o)) (by omega),Kp.below (KZ.o.trans (ux.o.mono KZ.o.size)) (Ug w6 mb _ _ _ _) (KZ.o.trans (ux.o.mono KZ.o.size)).size (fun b e=>by omega)⟩
       unfold FW.bw
       rw[<- adV.o,<- Vy.o,<- I8.o,<- HM3.o]
       have:=B.set (B.set (B.set (B.set BM6.o 0 (I gs6)) 1 (.slice f1 m1 t1)) 2 (.slice f2 m2 t2)) 3 (.slice f3 m3 t3)
       simpa using this
      case measure=>simp[intOf];omega
    · obtain rfl:j=np:=by omega
      have Av:=ai (ady.o g Tj.o)
      have HM:=Sv.o
      obtain⟨m0,m1,m2,m3⟩:=B.c4 HM
      obtain⟨z0,z1,z2,z3⟩:=B.c4 CA.o
      have zf:∀i,wr.frozen? ⟨r1,i,none⟩=false:=fun i=>B.free CA.o i
      clear HM
      go_wp2
      refine bodyPost_ret (v:=.tuple #[.agg #[I gs,.slice b1 n1 d1,.slice b2 n2 d2,.slice b3 n3 d3],I 0]) (by simp[results,Tryz.results18,go_sem,z0,z1,z2,z3]) rfl ?_
      refine HP.o _ _ ?_
      rw[Av.o]
      refine⟨b1,d1,b2,d2,b3,d3,by unfold FW.bw;rw[<- Si.o,<- Cj.o,<- vg.o,<- Cx.o],fun V hV=>Aw.o V (((Ug wr r1 _ _ _ _).mono (fun b _ e=>.inr (by omega))).trans (hV.mono (fun b _ e=>.inr (by omega))) (fun _ _ g=>g)),Kp.below Pw.o (Ug wr r1 _ _ _ _) Pw.o.size (fun b e=>by omega)⟩
end GO
namespace GT
open Go.RowKit GK GH
open FW (ai aB)
theorem PT {f:FM.Fl} {picks:List Int} (hp:qR f.procs):FW.pP (l6 f picks).1:=by
 by_cases c:FM.cT f=0
 · by_cases hn:2000<picks.length
   · rw[GO.CQ c hn];exact U1
   · cases e:GG.ez GM.aQ picks picks.length (some (aZ f)) with
     | none=>rw[GO.Ma c hn e];exact U1
     | some s =>
      have hk:=GG.sk GM.Br (Bo c hp) picks _ s e
      rw[GO.Hy (g:=AB s) c hn e]
      exact U0 hk
 · rw[GO.Hz c];exact U1
theorem L4 (f:FM.Fl) (picks:List Int) (ap:Option Addr) (cp:Nat) (az ar ao:Option Addr) (cs cr co:Nat) (w:World) (h:FW.fK w f az ar ao) (hf:FW.pP f) (hp:qR f.procs) (hn:GW.rS w ap picks) (hpl:picks.length<=140737488351232)
  (qa:∀V,Below w.heap.size w V->Calls Tryz.prog 13 #[.agg (FW.bw f az ar ao cs cr co)] V fun e w'=>e=.returned (I (FM.cT f))/\Below V.heap.size V w')
  (hbg:∀V,Calls Tryz.prog 10 #[] V fun e w'=>e=.returned (.bool true)/\Below V.heap.size V w') :
  Calls Tryz.prog 5 #[.agg (FW.bw f az ar ao cs cr co),.slice ap picks.length cp] w fun e w'=>e=.returned (.bool true)/\Below w.heap.size w w':=by
 have HN:Hid (∀V,Below w.heap.size w V->GW.rS V ap picks):=fun V hV h0=>by
  obtain⟨b,off,e1,e2,e3⟩:=hn h0
  exact⟨b,off,e1,Nat.lt_of_lt_of_le e2 hV.size,fun i hi=>(M.aA hV e2).trans (e3 i hi)⟩
 have HST:=ai (fun V (hV:Below w.heap.size w V)=>vU f picks ap cp az ar ao cs cr co V (h.below hV) hf hp (HN.o V hV) (fun h0 b e=>by
  obtain⟨b',off,e1,e2,_⟩:=HN.o V hV h0
  rw[e1] at e
  injection e with e
  rw[<- e]
  exact e2) hpl)
 have gQ:=ai (fun V (hV:Below w.heap.size w V)=>GO.Mc f picks ap cp az ar ao cs cr co V (h.below hV) hp (HN.o V hV) (fun U hU=>qa U (hV.trans (hU.mono hV.size))))
 have Tz:=ai hbg
 have oC:=ai (PT (picks:=picks) hp)
 obtain⟨R,hR⟩:=ex (l6 f picks)
 rw[<- hR] at HST gQ oC
 unfold FW.bw at HST gQ ⊢
 obtain⟨np,fB⟩:=ex picks.length
 obtain⟨ns,hns⟩:=ex f.ak.length
 obtain⟨nr,fh⟩:=ex f.procs.length
 obtain⟨no,hno⟩:=ex f.out.length
 obtain⟨sl,hsl⟩:=ex f.slots
 rw[<- hns,<- fh,<- hno,<- hsl,<- fB] at HST gQ ⊢
 clear h hf hp hn hpl qa hbg hR fB hns fh hno hsl HN
 obtain⟨g,er⟩:=R
 have dJ:=ai ((Below.refl w.heap.size w).alloc (Nat.le_refl _) (.cells #[I sl,.slice az ns cs,.slice ar nr cr,.slice ao no co] 30))
 have XA:=ai (B.new w #[I sl,.slice az ns cs,.slice ar nr cr,.slice ao no co] 30)
 go_enter Tryz.func5,Tryz.ntmps5
 go_wp2_with fail
 obtain⟨WA,gw⟩:=ex (w.alloc (.cells #[I sl,.slice az ns cs,.slice ar nr cr,.slice ao no co] 30))
 obtain⟨x,hx⟩:=ex w.heap.size
 rw[<- gw] at dJ XA ⊢
 rw[<- hx] at XA ⊢
 clear hx gw
 go_at_call 17
 refine(HST.o _ dJ.o).mono ?_
 rintro e w1 ⟨a1,c1,a2,c2,a3,c3,rfl,hfl,hb1⟩
 have KY:=ai hfl
 have bj:=ai (dJ.o.trans (hb1.mono dJ.o.size))
 have X1:=ai (B.below XA.o hb1 (B.isLt XA.o))
 unfold FW.bw
 obtain⟨gs,S3⟩:=ex g.slots
 obtain⟨n1,pZ⟩:=ex g.ak.length
 obtain⟨n2,kJ⟩:=ex g.procs.length
 obtain⟨n3,Ix⟩:=ex g.out.length
 have HSF:Hid (∀V b1 b2 b3 d1 d2 d3,FW.fK V g a1 a2 a3->FW.fK V g b1 b2 b3->Calls Tryz.prog 11 #[.agg #[I gs,.slice a1 n1 c1,.slice a2 n2 c2,.slice a3 n3 c3],.agg #[I gs,.slice b1 n1 d1,.slice b2 n2 d2,.slice b3 n3 d3]] V fun e w'=>e=.returned (.bool true)/\Below V.heap.size V w'):=fun V b1 b2 b3 d1 d2 d3 h1 h2=>by
  have:=FW.yM g a1 a2 a3 b1 b2 b3 c1 c2 c3 d1 d2 d3 V h1 h2 oC.o
  unfold FW.bw at this
  rw[<- S3,<- pZ,<- kJ,<- Ix] at this
  exact this
 dsimp only
 rw[<- S3,<- pZ,<- kJ,<- Ix]
 have Si:=ai S3
 have Cj:=ai pZ
 have vg:=ai kJ
 have Cx:=ai Ix
 obtain⟨x0,x1,x2,x3⟩:=B.c4 X1.o
 have hw1:x<w1.heap.size:=B.isLt X1.o
 have hxn:¬x=w1.heap.size:=by omega
 have Ls:=ai (bj.o.alloc bj.o.size (.cells #[I gs,.slice a1 n1 c1,.slice a2 n2 c2,.slice a3 n3 c3] 30))
 have NN:=ai (B.new w1 #[I gs,.slice a1 n1 c1,.slice a2 n2 c2,.slice a3 n3 c3] 30)
 have Cy:=ai ((Below.refl w1.heap.size w1).alloc (Nat.le_refl _) (.cells #[I gs,.slice a1 n1 c1,.slice a2 n2 c2,.slice a3 n3 c3] 30))
 clear hfl hb1 HST dJ XA S3 pZ kJ Ix
 go_wp2_with fail
 go_at_call 18
 refine(gQ.o _ Ls.o).mono ?_
 rintro e w2 ⟨b1,d1,b2,d2,b3,d3,rfl,Yo,hb2⟩
 unfold FW.bw
 dsimp only
 rw[<- Si.o,<- Cj.o,<- vg.o,<- Cx.o]
 have ad1:=ai Yo
 have bW:=ai (Ls.o.trans (hb2.mono Ls.o.size))
 have je:=ai (Cy.o.trans (hb2.mono Cy.o.size))
 have N2:=ai (B.below NN.o hb2 (B.isLt NN.o))
 obtain⟨nb,hnb⟩:=ex w1.heap.size
 rw[<- hnb] at N2
 rw[<- hnb]
 have hnl:nb<w2.heap.size:=B.isLt N2.o
 have HBZ:=ai (bW.o.alloc bW.o.size (.cells #[I gs,.slice b1 n1 d1,.slice b2 n2 d2,.slice b3 n3 d3] 30))
 have NZ:=ai (B.alloc N2.o (.cells #[I gs,.slice b1 n1 d1,.slice b2 n2 d2,.slice b3 n3 d3] 30))
 have ZZ:=ai (B.new w2 #[I gs,.slice b1 n1 d1,.slice b2 n2 d2,.slice b3 n3 d3] 30)
 have adu:Hid (∀V,Below w2.heap.size w2 V->Calls Tryz.prog 11 #[.agg #[I gs,.slice a1 n1 c1,.slice a2 n2 c2,.slice a3 n3 c3],.agg #[I gs,.slice b1 n1 d1,.slice b2 n2 d2,.slice b3 n3 d3]] V fun e w'=>e=.returned (.bool true)/\Below V.heap.size V w'):=fun V hV=>HSF.o V b1 b2 b3 d1 d2 d3 (KY.o V (Kp.aF (je.o.trans (hV.mono je.o.size)))) (ad1.o V (Kp.aF hV))
 have HKZ:=ai ((Below.refl w2.heap.size w2).alloc (Nat.le_refl _) (.cells #[I gs,.slice b1 n1 d1,.slice b2 n2 d2,.slice b3 n3 d3] 30))
 clear Yo hb2 Ls Cy NN x0 x1 x2 x3 hw1 hxn gQ HSF hnb
 go_wp2_with (first
  | (go_at_call 10;refine(Tz.o _).mono ?_;rintro e w4 ⟨rfl,hb4⟩;have mU:=ai (HBZ.o.trans (hb4.mono HBZ.o.size));have Hi:=ai (HKZ.o.trans (hb4.mono HKZ.o.size));have N4:=B.below NZ.o hb4 (B.isLt NZ.o);have V4:=B.below ZZ.o hb4 (B.isLt ZZ.o);obtain⟨q0,q1,q2,q3⟩:=B.c4 N4;obtain⟨v0,v1,v2,v3⟩:=B.c4 V4;clear hb4 N4 V4)
  | (go_at_call 11;refine(adu.o _ Hi.o).mono ?_;rintro e w5 ⟨rfl,ot⟩;have jg:=ai (mU.o.trans (ot.mono mU.o.size));clear ot))
 go_ret
 exact⟨rfl,jg.o⟩
end GT
namespace FW
open Go.RowKit
theorem yG (o:List FM.Wd) (n:Nat) (ao:Option Addr) (co:Nat) (w:World) (h:yt w ao o) (hno:o.length<=140737488351232) (hn:n<=140737488351232) :
  Calls Tryz.prog 43 #[.slice ao o.length co,I (n:Int)] w fun e w'=>e=.returned (.bool (FM.dh o n o.length))/\Below w.heap.size w w':=by
 have HO:=ai h
 have EF:Hid (∀k,k<=o.length->FM.dh o n k=false->FM.dh o n o.length=false):=fun k hk e=>FM.oN e _ hk
 have Tf:=ai (fun x V=>AW.iD x 0 ((n:Int)-1) V)
 obtain⟨A,hA⟩:=ex (FM.dh o n o.length)
 rw[<- hA] at EF ⊢
 have HA:=ai hA
 clear h hA
 go_enter Tryz.func43,Tryz.ntmps43
 go_wp2
 go_loopw [5] (fun iv wr=>∃j:Nat,j<=o.length/\iv=I (j:Int)/\FM.dh o n j=true/\Below w.heap.size w wr) (fun iv _=>o.length-(intOf iv).toNat)
 case atStart=>exact⟨0,by omega,rfl,rfl,Below.refl _ _⟩
 case round =>
  obtain⟨j,hj,rfl,hall,hb⟩:=hrel
  have HB:=ai hb
  have VS:=ai hall
  clear hall
  by_cases hlt:j<o.length
  · obtain⟨b,off,hao,hbl,bP⟩:=(HO.o.below hb) (by omega)
    subst hao
    obtain⟨c0,c1⟩:=bP j hlt
    have Te:Hid (FM.dh o n (j+1)=decide (0<=(FM.lA o j).proc/\(FM.lA o j).proc<=(n:Int)-1)):=by
     show(FM.dh o n j&&FM.wu (FM.lA o j) n)=_
     rw[VS.o,Bool.true_and]
     unfold FM.wu
     rw[decide_eq_decide]
     omega
    have G7:=ai (EF.o (j+1) (by omega))
    have RO:=ai (Tf.o (FM.lA o j).proc)
    obtain⟨wp,hq⟩:∃q,q=(FM.lA o j).proc:=⟨_,rfl⟩
    rw[<- hq] at Te c0 RO
    obtain⟨T,hT⟩:=ex (decide (0<=wp/\wp<=(n:Int)-1))
    rw[<- hT] at Te RO
    clear hq hT bP hb VS c1
    cases T with
    | false =>
     have vg:=ai (G7.o Te.o)
     go_wp2_with (go_at_call 27;refine(RO.o _).mono ?_;rintro e w1 ⟨rfl,rfl⟩)
     go_ret
     exact⟨aY vg.o.symm,HB.o⟩
    | true =>
     go_wp2_with (go_at_call 27;refine(RO.o _).mono ?_;rintro e w1 ⟨rfl,rfl⟩)
     go_roundw
     case rel=>exact⟨j+1,by omega,by go_num,Te.o,HB.o⟩
     case measure=>simp[intOf];omega
  · obtain rfl:j=o.length:=by omega
    clear hb
    have fL:Hid (A=true):=HA.o.trans VS.o
    go_wp2
    go_ret
    exact⟨aY fL.o.symm,HB.o⟩
end FW
end Go.Proofs.YtkdigjpejnebkaaGreat
