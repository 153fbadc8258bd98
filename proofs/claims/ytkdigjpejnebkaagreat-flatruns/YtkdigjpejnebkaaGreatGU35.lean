import Derived.Test.YtkdigjpejnebkaaGreatGU00
import Derived.Test.YtkdigjpejnebkaaGreatGU24
import Derived.Test.YtkdigjpejnebkaaGreatGU34
import Derived.Test.YtkdigjpejnebkaaGreatGU27
import Derived.Deep.RegionLaw
import Derived.Deep.DeepCutAuto
import Derived.Test.YtkdigjpejnebkaaGreatGU14
import Derived.Test.YtkdigjpejnebkaaGreatGU17
set_option maxHeartbeats 20000000
set_option linter.unusedVariables false
set_option maxRecDepth 100000
set_option linter.unusedSimpArgs false
namespace Go.Proofs.YtkdigjpejnebkaaGreat
namespace GR
open Go.RowKit
open FW (ai aB)
def tE (T lv:Bool) (na np:Nat) (C TT:Int):Bool:=!T || (!lv&&(decide (0<na) || decide (0<np))) || !(decide (C=0)) || !(decide ((np:Int)=TT))
def Aj (F R:Bool) (z:Nat):Bool:=!F || !R || !(decide (z=16))
theorem Ql {f:FM.Fl} (h:¬((1<=(f.ak.length:Int)/\(f.ak.length:Int)<=4)/\(f.procs.length:Int)=(f.ak.length:Int)/\(0<=f.slots/\f.slots<=512)/\(f.out.length:Int)<=2000)):FM.cT f=2:=by
 apply N1
 cases e:FM.ct f with
 | false=>rfl
 | true =>
  exfalso
  apply h
  unfold FM.ct at e
  simp only[Bool.and_eq_true,decide_eq_true_eq] at e
  omega
theorem MH {f:FM.Fl} (h:(1<=(f.ak.length:Int)/\(f.ak.length:Int)<=4)/\(f.procs.length:Int)=(f.ak.length:Int)/\(0<=f.slots/\f.slots<=512)/\(f.out.length:Int)<=2000):FM.ct f=true:=by
 unfold FM.ct
 simp only[Bool.and_eq_true,decide_eq_true_eq]
 omega
theorem KJ {f:FM.Fl} (hc:FM.ct f=true) {k:Nat} (hk:k<f.ak.length) (h:tE (FM.eW (FM.au f.procs k) (FM.ax f.ak k).live) (FM.ax f.ak k).live (FM.ax f.ak k).aw.length (FM.ax f.ak k).aj.length (AM.aD (FM.ax f.ak k).aw) (AM.br (FM.ax f.ak k).aw)=true):FM.cT f=1:=by
 apply IY hc hk
 cases e:FM.eW (FM.au f.procs k) (FM.ax f.ak k).live with
 | false=>exact .inl rfl
 | true =>
  right
  rintro⟨h1,h2,h3,h4⟩
  rw[e] at h
  unfold tE at h
  rw[decide_eq_true h2,decide_eq_true h3] at h
  cases hl:(FM.ax f.ak k).live with
  | true=>rw[hl] at h;cases h
  | false =>
   obtain⟨g1,g2⟩:=h1 hl
   rw[hl,g1,g2] at h
   cases h
theorem Rp {s:FM.Sp} {T:Bool} (h:tE T s.live s.aw.length s.aj.length (AM.aD s.aw) (AM.br s.aw)=false):T=true/\(s.live=false->s.aw.length=0/\s.aj.length=0)/\AM.aD s.aw=0/\(s.aj.length:Int)=AM.br s.aw:=by
 unfold tE at h
 simp only[Bool.or_eq_false_iff,Bool.not_eq_false',decide_eq_true_eq,Bool.and_eq_false_iff,decide_eq_false_iff_not] at h
 refine⟨h.1.1.1,fun e=>?_,h.1.2,h.2⟩
 rcases h.1.1.2 with g | g
 · rw[g] at e;cases e
 · omega
theorem Gy (f:FM.Fl) (az ar ao:Option Addr) (cs cr co:Nat) (w:World) (h:FW.fK w f az ar ao) (hf:FW.pP f) :
  Calls Tryz.prog 13 #[.agg (FW.bw f az ar ao cs cr co)] w fun e w'=>e=.returned (I (FM.cT f))/\Below w.heap.size w w':=by
 have HH:=ai h
 have HF:=ai hf
 have EI:=ai (Ql (f:=f))
 have OG:=ai (MH (f:=f))
 have rV:Hid (FM.ct f=true->∀k,k<f.ak.length->tE (FM.eW (FM.au f.procs k) (FM.ax f.ak k).live) (FM.ax f.ak k).live (FM.ax f.ak k).aw.length (FM.ax f.ak k).aj.length (AM.aD (FM.ax f.ak k).aw) (AM.br (FM.ax f.ak k).aw)=true->FM.cT f=1):=fun hc k hk=>KJ hc hk
 have Pv:Hid (FM.ct f=true->∀k,k<f.ak.length->¬FM.gh (FM.ax f.ak k)->FM.cT f=1):=fun hc k hk g=>IY hc hk (.inr g)
 have qq:=ai (Q6 (f:=f))
 have Tt:=ai (Qp hf.ak)
 have OI:Hid (∀k,FM.jz f.ak (k+1)=FM.jz f.ak k+((FM.ax f.ak k).aj.length:Int)):=fun k=>rfl
 have EF:Hid (f.procs.length<=4->∀V,Below w.heap.size w V->Calls Tryz.prog 43 #[.slice ao f.out.length co,I (f.procs.length:Int)] V fun e w'=>e=.returned (.bool (FM.dh f.out f.procs.length f.out.length))/\Below V.heap.size V w'):=fun hn V hV=>FW.yG f.out f.procs.length ao co V (h.out.below hV) hf.out (by omega)
 have ur:=ai (fun V=>AW.iD (f.ak.length:Int) 1 4 V)
 have Cv:=ai (fun V=>AW.iD f.slots 0 512 V)
 unfold FW.bw
 obtain⟨sl,ss,ps,os⟩:=f
 simp only at EI OG rV Pv qq Tt OI EF ur Cv ⊢
 obtain⟨A,hA⟩:=ex (FM.cT ⟨sl,ss,ps,os⟩)
 rw[<- hA] at EI rV Pv qq ⊢
 obtain⟨RC,UT⟩:=ex (FM.ct ⟨sl,ss,ps,os⟩)
 rw[<- UT] at OG rV Pv qq
 obtain⟨WO,hWO⟩:=ex (FM.dh os ps.length os.length)
 rw[<- hWO] at qq EF
 obtain⟨ns,hns⟩:=ex ss.length
 obtain⟨nr,fh⟩:=ex ps.length
 obtain⟨no,hno⟩:=ex os.length
 have Bj:no<=140737488351232:=by rw[hno];exact hf.out
 have J8:nr<=140737488351232:=by rw[fh];exact hf.procs
 have ab8:ns<=140737488351232:=by rw[hns];exact hf.ak.1
 rw[<- hns] at EI OG rV Pv qq Tt ur ⊢
 rw[<- fh] at EI OG EF ⊢
 rw[<- hno] at EI OG EF ⊢
 have qP:=ai hns
 have Tp:=ai fh
 clear h hf hA UT hWO hns fh hno
 have cM:=ai ((Below.refl w.heap.size w).alloc (Nat.le_refl _) (.cells #[I sl,.slice az ns cs,.slice ar nr cr,.slice ao no co] 30))
 have X0:=ai (B.new w #[I sl,.slice az ns cs,.slice ar nr cr,.slice ao no co] 30)
 by_cases h0:1<=(ns:Int)/\(ns:Int)<=4
 case neg =>
  rw[decide_eq_false h0] at ur
  have fL:Hid (A=2):=EI.o (by omega)
  clear EI OG rV Pv qq Tt OI EF
  go_enter Tryz.func13,Tryz.ntmps13
  go_wp2_with (first | (have _:=FIRST;go_at_call 27;refine(Cv.o _).mono ?_;rintro e w1 ⟨rfl,rfl⟩) | (go_at_call 27;refine(ur.o _).mono ?_;rintro e w1 ⟨rfl,rfl⟩;have FIRST:=trivial))
  go_ret
  exact⟨by rw[fL.o];rfl,cM.o⟩
 rw[decide_eq_true h0] at ur
 by_cases h2:(nr:Int)=(ns:Int)
 case neg =>
  have Ld:((nr:Int)==(ns:Int))=false:=by rw[beq_eq_false_iff_ne];exact h2
  have h2j:((nr:Int) != (ns:Int))=true:=by rw[bne,Ld];rfl
  have fL:Hid (A=2):=EI.o (by omega)
  clear EI OG rV Pv qq Tt OI EF
  go_enter Tryz.func13,Tryz.ntmps13
  go_wp2_with (first | (have _:=FIRST;go_at_call 27;refine(Cv.o _).mono ?_;rintro e w1 ⟨rfl,rfl⟩) | (go_at_call 27;refine(ur.o _).mono ?_;rintro e w1 ⟨rfl,rfl⟩;have FIRST:=trivial))
  go_ret
  exact⟨by rw[fL.o];rfl,cM.o⟩
 by_cases h3:0<=sl/\sl<=512
 case neg =>
  rw[decide_eq_false h3] at Cv
  have Ld:((nr:Int)==(ns:Int))=true:=by rw[beq_iff_eq];exact h2
  have fL:Hid (A=2):=EI.o (by omega)
  clear EI OG rV Pv qq Tt OI EF
  go_enter Tryz.func13,Tryz.ntmps13
  go_wp2_with (first | (have _:=FIRST;go_at_call 27;refine(Cv.o _).mono ?_;rintro e w1 ⟨rfl,rfl⟩) | (go_at_call 27;refine(ur.o _).mono ?_;rintro e w1 ⟨rfl,rfl⟩;have FIRST:=trivial))
  go_ret
  exact⟨by rw[fL.o];rfl,cM.o⟩
 rw[decide_eq_true h3] at Cv
 by_cases h5:(no:Int)<=2000
 case neg =>
  have Ld:((nr:Int)==(ns:Int))=true:=by rw[beq_iff_eq];exact h2
  have fL:Hid (A=2):=EI.o (by omega)
  clear EI OG rV Pv qq Tt OI EF
  go_enter Tryz.func13,Tryz.ntmps13
  go_wp2_with (first | (have _:=FIRST;go_at_call 27;refine(Cv.o _).mono ?_;rintro e w1 ⟨rfl,rfl⟩) | (go_at_call 27;refine(ur.o _).mono ?_;rintro e w1 ⟨rfl,rfl⟩;have FIRST:=trivial))
  go_ret
  exact⟨by rw[fL.o];rfl,cM.o⟩
 have UT:RC=true:=OG.o ⟨h0,h2,h3,h5⟩
 have h2n:nr=ns:=by omega
 subst h2n
 have VP:=ai (rV.o UT)
 have VN:=ai (Pv.o UT)
 have VK:=ai (qq.o UT)
 have Vd:=ai (EF.o (by omega))
 clear EI OG rV Pv qq EF h2 UT
 go_enter Tryz.func13,Tryz.ntmps13
 go_wp2_with (first | (have _:=FIRST;go_at_call 27;refine(Cv.o _).mono ?_;rintro e w1 ⟨rfl,rfl⟩) | (go_at_call 27;refine(ur.o _).mono ?_;rintro e w1 ⟨rfl,rfl⟩;have FIRST:=trivial))
 clear ur Cv
 go_loopw [3,4] (fun tv iv wr=>∃k:Nat,k<=nr/\iv=I (k:Int)/\tv=I (FM.jz ss k)/\(∀j,j<k->FM.eW (FM.au ps j) (FM.ax ss j).live=true/\FM.gh (FM.ax ss j))/\wr.heap[w.heap.size]?=some (.cells #[I sl,.slice az nr cs,.slice ar nr cr,.slice ao no co] 30 (0,0))/\Below w.heap.size w wr) (fun _ iv _=>nr-(intOf iv).toNat)
 case atStart=>exact⟨0,by omega,rfl,rfl,fun j hj=>by omega,X0.o,cM.o⟩
 case round =>
  obtain⟨k,hk,rfl,rfl,hall,hx,hb⟩:=hrel
  have HB:=ai hb
  have HX:=ai hx
  have nD:=ai hall
  have hlb:=Tt.o k hk
  obtain⟨x0,x1,x2,x3⟩:=B.c4 hx
  have Xu:=B.isLt hx
  clear hall hx X0 cM
  by_cases hlt:k<nr
  · obtain⟨b,off,hao,hbl,bP⟩:=(HH.o.below hb).ak (show 0<ss.length by rw[<- qP.o];omega)
    obtain⟨b2,l7,Gg,Nj,uO⟩:=(HH.o.below hb).procs (show 0<ps.length by rw[<- Tp.o];omega)
    subst hao
    subst Gg
    obtain⟨va,ap,cp,c0,c1,c2,c3,c4,c5⟩:=bP k (by rw[<- qP.o];exact hlt)
    obtain⟨d0,d1,d2,d3,d4,d5,d6,d7,d8,d9,d10,d11,d12⟩:=uO k (by rw[<- Tp.o];exact hlt)
    have sU:FW.Hq (FM.ax ss k):=HF.o.ak.2 k (by show k<ss.length;rw[<- qP.o];exact hlt)
    have uw:=ai (VP.o k hlt)
    have OZ:=ai (VN.o k hlt)
    have Hf:=ai (OI.o k)
    have Es:Hid (FM.eW (FM.au ps k) (FM.ax ss k).live=true->FM.gh (FM.ax ss k)->∀j,j<k+1->FM.eW (FM.au ps j) (FM.ax ss j).live=true/\FM.gh (FM.ax ss j)):=fun g1 g2 j hj=>by
     by_cases e:j=k
     · subst e;exact⟨g1,g2⟩
     · exact nD.o j (by omega)
    obtain⟨s,hs⟩:=ex (FM.ax ss k)
    obtain⟨q,hq⟩:=ex (FM.au ps k)
    rw[<- hs] at c0 c2 c3 c4 c5 sU uw OZ Hf Es
    rw[<- hq] at d0 d1 d2 d3 d4 d5 d6 d7 d8 d9 d10 d11 d12 uw Es
    obtain⟨aa,ca,sQ⟩:∃ao cap,va=.slice ao s.aw.length cap:=by
     obtain⟨ao,cap,h,_⟩:=c3
     exact⟨ao,cap,h⟩
    subst sQ
    obtain⟨WR,hWR⟩:=ex wr
    subst hWR
    have HP:Hid (∀V,Calls Tryz.prog 40 #[.agg #[I (q.r 0),I (q.r 1),I (q.r 2),I (q.r 3),I (q.r 4),I (q.r 5),I (q.r 6),I (q.r 7),I q.pc,I q.st,I q.cd,I q.fk,I q.fa],.bool s.live] V fun e w'=>e=.returned (.bool (FM.eW q s.live))/\Below V.heap.size V w'):=fun V=>FW.A1 q s.live V
    have HC:Hid (∀V,Below WR.heap.size WR V->Calls Tryz.prog 41 #[.slice aa s.aw.length ca] V fun e w'=>e=.returned (I (AM.aD s.aw))/\Below V.heap.size V w'):=fun V hV=>AW.fV _ _ _ (c3.below hV) sU.aw
    have HT:Hid (AM.aD s.aw=0->∀V,Below WR.heap.size WR V->Calls Tryz.prog 28 #[.slice aa s.aw.length ca] V fun e w'=>e=.returned (I (AM.br s.aw))/\Below V.heap.size V w'):=fun hc V hV=>AW.JN _ _ _ (c3.below hV) hc
    have K0:Hid (AM.aD s.aw=0->∀p V,Below WR.heap.size WR V->Calls Tryz.prog 42 #[.slice aa s.aw.length ca,I p] V fun e w'=>(∃g1 g2 g3 g4,e=.returned (.tuple #[.agg #[I g1,I g2,I g3,.bool g4],.bool (AM.aX s.aw p).2]))/\Below V.heap.size V w'):=fun hc p V hV=>(AW.rR _ _ p _ (c3.below hV) hc).mono fun e w' ⟨h1,h2⟩=>⟨⟨_,_,_,_,h1⟩,h2⟩
    have Tn:=ai c4
    have yB:Hid (∀m,m<s.aj.length->(FM.aN s.aj m).data.size<=140737488351232):=fun m hm=>(sU.page m hm).2
    have K7:s.aj.length<=140737488351232:=sU.aj
    have EB:s.aw.length<=140737488351232:=sU.aw.2
    have mS:=ai (fun T=>Rp (s:=s) (T:=T))
    have qB:=ai (QQ (s:=s))
    have kj:Hid (¬(∀j,j<s.aj.length->(AM.aX s.aw (FM.aN s.aj j).page).2=true/\(0<j->(FM.aN s.aj (j-1)).page<(FM.aN s.aj j).page)/\(FM.aN s.aj j).data.size=16)->¬FM.gh s):=fun g e=>g e.2.2.2
    obtain⟨na,eF⟩:=ex s.aw.length
    obtain⟨np,fB⟩:=ex s.aj.length
    obtain⟨lv,hlv⟩:=ex s.live
    obtain⟨C,hC⟩:=ex (AM.aD s.aw)
    obtain⟨TT,EE⟩:=ex (AM.br s.aw)
    rw[<- hlv] at c0 uw Es HP mS qB
    obtain⟨T,hT⟩:=ex (FM.eW q lv)
    rw[<- eF] at uw mS qB HC HT K0 EB c1
    rw[<- fB] at c2 c5 uw mS qB Hf yB kj K7
    rw[<- hC] at uw mS qB HC HT K0
    rw[<- EE] at uw mS qB HT
    rw[<- hT] at uw Es HP
    have uv:=ai fB
    clear hs hq eF fB hlv hC EE hT sU c3 c4 bP uO VP VN OI hb nD VK Vd
    obtain⟨LK,hLK⟩:=ex (FM.jz ss k)
    rw[<- hLK] at Hf hlb ⊢
    clear hLK
    go_wp2_with fail
    have jm:=ai ((Below.refl WR.heap.size WR).alloc (Nat.le_refl _) (.cells #[.bool lv,.slice aa na ca,.slice ap np cp] 53))
    have XS:=ai (B.new WR #[.bool lv,.slice aa na ca,.slice ap np cp] 53)
    obtain⟨W,hW⟩:=ex (WR.alloc (.cells #[.bool lv,.slice aa na ca,.slice ap np cp] 53))
    rw[<- hW] at jm XS ⊢
    obtain⟨sb,jN⟩:=ex WR.heap.size
    have Au:=ai jN
    rw[<- jN] at XS ⊢
    clear jN
    have hsl:=B.isLt XS.o
    have hsz:=jm.o.size
    have oG:=Q.dS W
    have vh:=ai (@Q.cA W)
    have Wn:=ai (B.below HX.o jm.o (B.isLt HX.o))
    have oI:=ai (HB.o.trans (jm.o.mono HB.o.size))
    clear hW
    obtain⟨BD,hBD⟩:=ex (tE T lv na np C TT)
    have qQ:=ai hBD
    rw[<- hBD] at uw
    clear hBD
    go_cut [87] (fun c wx=>c=.bool BD/\Below W.heap.size W wx)
    case first =>
     have e2:∀x:Q.dA W.heap.size W,x.world.cell? (Ad w.heap.size 2)=some (.slice (some (Ad b2 l7)) nr cr):=fun x=>(vh.o x _ _ (by omega)).trans ((M.aA jm.o (by omega)).trans x2)
     have f0:∀x:Q.dA W.heap.size W,x.world.cell? (Ad b2 (l7+k*13))=some (I (q.r 0)):=fun x=>(vh.o x _ _ (by omega)).trans ((M.aA jm.o (by omega)).trans d0)
     have f1:∀x:Q.dA W.heap.size W,x.world.cell? (Ad b2 (l7+k*13+1))=some (I (q.r 1)):=fun x=>(vh.o x _ _ (by omega)).trans ((M.aA jm.o (by omega)).trans d1)
     have f2:∀x:Q.dA W.heap.size W,x.world.cell? (Ad b2 (l7+k*13+2))=some (I (q.r 2)):=fun x=>(vh.o x _ _ (by omega)).trans ((M.aA jm.o (by omega)).trans d2)
     have f3:∀x:Q.dA W.heap.size W,x.world.cell? (Ad b2 (l7+k*13+3))=some (I (q.r 3)):=fun x=>(vh.o x _ _ (by omega)).trans ((M.aA jm.o (by omega)).trans d3)
     have f4:∀x:Q.dA W.heap.size W,x.world.cell? (Ad b2 (l7+k*13+4))=some (I (q.r 4)):=fun x=>(vh.o x _ _ (by omega)).trans ((M.aA jm.o (by omega)).trans d4)
     have f5:∀x:Q.dA W.heap.size W,x.world.cell? (Ad b2 (l7+k*13+5))=some (I (q.r 5)):=fun x=>(vh.o x _ _ (by omega)).trans ((M.aA jm.o (by omega)).trans d5)
     have f6:∀x:Q.dA W.heap.size W,x.world.cell? (Ad b2 (l7+k*13+6))=some (I (q.r 6)):=fun x=>(vh.o x _ _ (by omega)).trans ((M.aA jm.o (by omega)).trans d6)
     have f7:∀x:Q.dA W.heap.size W,x.world.cell? (Ad b2 (l7+k*13+7))=some (I (q.r 7)):=fun x=>(vh.o x _ _ (by omega)).trans ((M.aA jm.o (by omega)).trans d7)
     have f8:∀x:Q.dA W.heap.size W,x.world.cell? (Ad b2 (l7+k*13+8))=some (I q.pc):=fun x=>(vh.o x _ _ (by omega)).trans ((M.aA jm.o (by omega)).trans d8)
     have f9:∀x:Q.dA W.heap.size W,x.world.cell? (Ad b2 (l7+k*13+9))=some (I q.st):=fun x=>(vh.o x _ _ (by omega)).trans ((M.aA jm.o (by omega)).trans d9)
     have f10:∀x:Q.dA W.heap.size W,x.world.cell? (Ad b2 (l7+k*13+10))=some (I q.cd):=fun x=>(vh.o x _ _ (by omega)).trans ((M.aA jm.o (by omega)).trans d10)
     have f11:∀x:Q.dA W.heap.size W,x.world.cell? (Ad b2 (l7+k*13+11))=some (I q.fk):=fun x=>(vh.o x _ _ (by omega)).trans ((M.aA jm.o (by omega)).trans d11)
     have f12:∀x:Q.dA W.heap.size W,x.world.cell? (Ad b2 (l7+k*13+12))=some (I q.fa):=fun x=>(vh.o x _ _ (by omega)).trans ((M.aA jm.o (by omega)).trans d12)
     have s0:∀x:Q.dA W.heap.size W,x.world.cell? (Ad sb 0)=some (.bool lv):=fun x=>(vh.o x _ _ hsl).trans (B.cell XS.o 0 rfl)
     have s1:∀x:Q.dA W.heap.size W,x.world.cell? (Ad sb 1)=some (.slice aa na ca):=fun x=>(vh.o x _ _ hsl).trans (B.cell XS.o 1 rfl)
     have s2:∀x:Q.dA W.heap.size W,x.world.cell? (Ad sb 2)=some (.slice ap np cp):=fun x=>(vh.o x _ _ hsl).trans (B.cell XS.o 2 rfl)
     have mR:Hid (∀x:Q.dA W.heap.size W,Calls Tryz.prog 40 #[.agg #[I (q.r 0),I (q.r 1),I (q.r 2),I (q.r 3),I (q.r 4),I (q.r 5),I (q.r 6),I (q.r 7),I q.pc,I q.st,I q.cd,I q.fk,I q.fa],.bool lv] x.world fun e w'=>e=.returned (.bool T)/\∃y:Q.dA W.heap.size W,w'=y.world):=fun x=>Q.bM HP.o x
     have nC:Hid (∀x:Q.dA W.heap.size W,Calls Tryz.prog 41 #[.slice aa na ca] x.world fun e w'=>e=.returned (I C)/\∃y:Q.dA W.heap.size W,w'=y.world):=fun x=>(HC.o x.world (jm.o.trans (x.keeps.mono jm.o.size))).mono fun e w'' ⟨he,hb⟩=>⟨he,⟨w'',x.keeps.trans (hb.mono x.keeps.size)⟩,rfl⟩
     have Wq:Hid (C=0->∀x:Q.dA W.heap.size W,Calls Tryz.prog 28 #[.slice aa na ca] x.world fun e w'=>e=.returned (I TT)/\∃y:Q.dA W.heap.size W,w'=y.world):=fun hc x=>(HT.o hc x.world (jm.o.trans (x.keeps.mono jm.o.size))).mono fun e w'' ⟨he,hb⟩=>⟨he,⟨w'',x.keeps.trans (hb.mono x.keeps.size)⟩,rfl⟩
     clear HP HC HT K0 Tn yB mS qB kj uw OZ Hf Es Wn oI vh c0 c1 c2 c5 d0 d1 d2 d3 d4 d5 d6 d7 d8 d9 d10 d11 d12 x0 x1 x2 x3 HX HB HH HF h0 h3 h5 Bj ab8 hlb hbl Nj Xu hsz
     cases T with
     | false =>
      as_aux_lemma =>
       refine Q.aW (by kernel_rfl) (by kernel_rfl) ?_
       repeat (first | go_big_quiet_step ((first | (go_at_call 40;exact mR.o _) | (go_at_call 41;exact nC.o _))) | quiet_step ((first | (go_at_call 40;exact mR.o _) | (go_at_call 41;exact nC.o _))))
       refine wpQuiet_nil ?_
       intro _ hw'
       obtain⟨x,hw''⟩:=hw'
       subst hw''
       go_wp2
       go_meet
       exact⟨by rw[qQ.o];rfl,x.keeps⟩
     | true =>
      cases lv with
      | true =>
       by_cases hC:C=0
       case neg =>
        have hCi:(C==0)=false:=by rw[beq_eq_false_iff_ne];exact hC
        as_aux_lemma =>
         refine Q.aW (by kernel_rfl) (by kernel_rfl) ?_
         repeat (first | go_big_quiet_step ((first | (go_at_call 40;exact mR.o _) | (go_at_call 41;exact nC.o _))) | quiet_step ((first | (go_at_call 40;exact mR.o _) | (go_at_call 41;exact nC.o _))))
         refine wpQuiet_nil ?_
         intro _ hw'
         obtain⟨x,hw''⟩:=hw'
         subst hw''
         go_wp2
         go_meet
         exact⟨by rw[qQ.o];simp[tE,hC],x.keeps⟩
       have Lh:=ai (Wq.o hC)
       subst hC
       by_cases EE:(np:Int)=TT
       · have hTi:((np:Int)==TT)=true:=by rw[beq_iff_eq];exact EE
         have Ce:=ai EE
         clear EE
         as_aux_lemma =>
          refine Q.aW (by kernel_rfl) (by kernel_rfl) ?_
          repeat (first | go_big_quiet_step ((first | (go_at_call 40;exact mR.o _) | (go_at_call 41;exact nC.o _) | (go_at_call 28;exact Lh.o _))) | quiet_step ((first | (go_at_call 40;exact mR.o _) | (go_at_call 41;exact nC.o _) | (go_at_call 28;exact Lh.o _))))
          refine wpQuiet_nil ?_
          intro _ hw'
          obtain⟨x,hw''⟩:=hw'
          subst hw''
          go_wp2
          go_meet
          exact⟨by rw[qQ.o];simp[tE,Ce.o],x.keeps⟩
       · have hTi:((np:Int)==TT)=false:=by rw[beq_eq_false_iff_ne];exact EE
         have Ce:=ai EE
         clear EE
         as_aux_lemma =>
          refine Q.aW (by kernel_rfl) (by kernel_rfl) ?_
          repeat (first | go_big_quiet_step ((first | (go_at_call 40;exact mR.o _) | (go_at_call 41;exact nC.o _) | (go_at_call 28;exact Lh.o _))) | quiet_step ((first | (go_at_call 40;exact mR.o _) | (go_at_call 41;exact nC.o _) | (go_at_call 28;exact Lh.o _))))
          refine wpQuiet_nil ?_
          intro _ hw'
          obtain⟨x,hw''⟩:=hw'
          subst hw''
          go_wp2
          go_meet
          exact⟨by rw[qQ.o];simp[tE,Ce.o],x.keeps⟩
      | false =>
       by_cases eF:(0:Int)<(na:Int)
       · have acf:0<na:=by omega
         as_aux_lemma =>
          refine Q.aW (by kernel_rfl) (by kernel_rfl) ?_
          repeat (first | go_big_quiet_step ((first | (go_at_call 40;exact mR.o _) | (go_at_call 41;exact nC.o _))) | quiet_step ((first | (go_at_call 40;exact mR.o _) | (go_at_call 41;exact nC.o _))))
          refine wpQuiet_nil ?_
          intro _ hw'
          obtain⟨x,hw''⟩:=hw'
          subst hw''
          go_wp2
          go_meet
          exact⟨by rw[qQ.o];simp[tE,acf],x.keeps⟩
       have ace:¬0<na:=by omega
       by_cases fB:(0:Int)<(np:Int)
       · have acb:0<np:=by omega
         as_aux_lemma =>
          refine Q.aW (by kernel_rfl) (by kernel_rfl) ?_
          repeat (first | go_big_quiet_step ((first | (go_at_call 40;exact mR.o _) | (go_at_call 41;exact nC.o _))) | quiet_step ((first | (go_at_call 40;exact mR.o _) | (go_at_call 41;exact nC.o _))))
          refine wpQuiet_nil ?_
          intro _ hw'
          obtain⟨x,hw''⟩:=hw'
          subst hw''
          go_wp2
          go_meet
          exact⟨by rw[qQ.o];simp[tE,acb],x.keeps⟩
       have aca:¬0<np:=by omega
       by_cases hC:C=0
       case neg =>
        have hCi:(C==0)=false:=by rw[beq_eq_false_iff_ne];exact hC
        as_aux_lemma =>
         refine Q.aW (by kernel_rfl) (by kernel_rfl) ?_
         repeat (first | go_big_quiet_step ((first | (go_at_call 40;exact mR.o _) | (go_at_call 41;exact nC.o _))) | quiet_step ((first | (go_at_call 40;exact mR.o _) | (go_at_call 41;exact nC.o _))))
         refine wpQuiet_nil ?_
         intro _ hw'
         obtain⟨x,hw''⟩:=hw'
         subst hw''
         go_wp2
         go_meet
         exact⟨by rw[qQ.o];simp[tE,hC],x.keeps⟩
       have Lh:=ai (Wq.o hC)
       subst hC
       by_cases EE:(np:Int)=TT
       · have hTi:((np:Int)==TT)=true:=by rw[beq_iff_eq];exact EE
         have Ce:=ai EE
         clear EE
         as_aux_lemma =>
          refine Q.aW (by kernel_rfl) (by kernel_rfl) ?_
          repeat (first | go_big_quiet_step ((first | (go_at_call 40;exact mR.o _) | (go_at_call 41;exact nC.o _) | (go_at_call 28;exact Lh.o _))) | quiet_step ((first | (go_at_call 40;exact mR.o _) | (go_at_call 41;exact nC.o _) | (go_at_call 28;exact Lh.o _))))
          refine wpQuiet_nil ?_
          intro _ hw'
          obtain⟨x,hw''⟩:=hw'
          subst hw''
          go_wp2
          go_meet
          exact⟨by rw[qQ.o];simp[tE,Ce.o,ace,aca],x.keeps⟩
       · have hTi:((np:Int)==TT)=false:=by rw[beq_eq_false_iff_ne];exact EE
         have Ce:=ai EE
         clear EE
         as_aux_lemma =>
          refine Q.aW (by kernel_rfl) (by kernel_rfl) ?_
          repeat (first | go_big_quiet_step ((first | (go_at_call 40;exact mR.o _) | (go_at_call 41;exact nC.o _) | (go_at_call 28;exact Lh.o _))) | quiet_step ((first | (go_at_call 40;exact mR.o _) | (go_at_call 41;exact nC.o _) | (go_at_call 28;exact Lh.o _))))
          refine wpQuiet_nil ?_
          intro _ hw'
          obtain⟨x,hw''⟩:=hw'
          subst hw''
          go_wp2
          go_meet
          exact⟨by rw[qQ.o];simp[tE,Ce.o],x.keeps⟩
    case rest =>
     obtain⟨rfl,hbc⟩:=hcut
     have l9:=ai hbc
     have Y9:=ai (B.below Wn.o hbc (B.isLt Wn.o))
     have XSC:=ai (B.below XS.o hbc hsl)
     have Av:=ai (jm.o.trans (hbc.mono jm.o.size))
     have Ay:=ai (oI.o.trans (hbc.mono oI.o.size))
     clear HP HC HT hbc
     cases BD with
     | true =>
      have fL:Hid (A=1):=uw.o rfl
      clear K0 Tn yB mS qB kj uw OZ Hf Es Wn oI vh c0 c1 c2 c5 d0 d1 d2 d3 d4 d5 d6 d7 d8 d9 d10 d11 d12 HX HB HH HF
      go_wp2
      go_ret
      exact⟨by rw[fL.o];rfl,Ay.o⟩
     | false =>
      obtain⟨hT1,Yc,hC1,YI⟩:=mS.o T qQ.o.symm
      have ZW:=ai (K0.o hC1)
      have VG:=ai (qB.o Yc hC1 YI)
      have VR:=ai (Es.o hT1)
      clear K0 mS qB Es uw Wn oI vh c0 c1 c2 d0 d1 d2 d3 d4 d5 d6 d7 d8 d9 d10 d11 d12 HX HH HF hT1 Yc hC1 YI qQ x0 x1 x2 x3
      have y2:wc.cell? (Ad sb 2)=some (.slice ap np cp):=B.cell XSC.o 2 rfl
      go_wp2
      clear y2
      go_loopw [6] (fun iv wi=>∃m:Nat,m<=np/\iv=I (m:Int)/\bN s m/\wi.heap[sb]?=some (.cells #[.bool lv,.slice aa na ca,.slice ap np cp] 53 (0,0))/\wi.heap[w.heap.size]?=some (.cells #[I sl,.slice (some (Ad b off)) nr cs,.slice (some (Ad b2 l7)) nr cr,.slice ao no co] 30 (0,0))/\Below WR.heap.size WR wi) (fun iv _=>np-(intOf iv).toNat)
      case atStart=>exact⟨0,by omega,rfl,(fun j hj=>absurd hj (Nat.not_lt_zero _)),XSC.o,Y9.o,Av.o⟩
      case round =>
       obtain⟨m,hm,rfl,hpt,hxs,hxf,ED⟩:=hrel
       have Hc:=ai hpt
       have Vb:=ai hxs
       have HXF:=ai hxf
       have VO:=ai ED
       have pO:=ai (HB.o.trans (ED.mono HB.o.size))
       have z1:wr.cell? (Ad sb 1)=some (.slice aa na ca):=B.cell hxs 1 rfl
       have z2:wr.cell? (Ad sb 2)=some (.slice ap np cp):=B.cell hxs 2 rfl
       have Dq:=B.isLt hxs
       clear hpt hxs hxf XSC Y9 Av l9 Ay
       by_cases V7:m<np
       · obtain⟨bp,JT,hap,acL,M7⟩:=(Tn.o.below ED) (show 0<s.aj.length by rw[<- uv.o];omega)
         subst hap
         obtain⟨p0,p1⟩:=M7 m (by rw[<- uv.o];exact V7)
         have HPV:Hid (∀m',m=m'+1->wr.cell? (Ad bp (JT+m'*2))=some (I (FM.aN s.aj (m-1)).page)):=fun m' g=>by
          subst g
          exact(M7 m' (by rw[<- uv.o];omega)).1
         have hzs:=yB.o m V7
         have O1:=ai (ZW.o (FM.aN s.aj m).page)
         have Tg:=ai (fun g1 g2 g3=>iZ (s:=s) (k:=m) Hc.o g1 g2 g3)
         have Er:Hid (¬((AM.aX s.aw (FM.aN s.aj m).page).2=true/\(0<m->(FM.aN s.aj (m-1)).page<(FM.aN s.aj m).page)/\(FM.aN s.aj m).data.size=16)->A=1):=fun g=>OZ.o (kj.o (fun e=>g (e m V7)))
         obtain⟨TU,XQ⟩:=ex ((FM.aN s.aj m).page)
         obtain⟨dt,Dw⟩:=ex ((FM.aN s.aj m).data)
         obtain⟨VW,XO⟩:=ex ((FM.aN s.aj (m-1)).page)
         rw[<- XQ] at p0 O1 Tg Er
         rw[<- Dw] at p1 hzs Tg Er
         rw[<- XO] at HPV Tg Er
         obtain⟨FF,hFF⟩:=ex ((AM.aX s.aw TU).2)
         rw[<- hFF] at O1 Tg Er
         have hmi:(m:Int)<(np:Int):=by omega
         clear XQ Dw XO hFF M7 ZW kj Hc OZ VG VR Hf ED Tn yB
         go_upto_region 14 with fail
         have jI:=ai (VO.o.trans ((Below.refl wr.heap.size wr).drew.mono VO.o.size))
         have qp:=ai (VO.o.trans (((Below.refl wr.heap.size wr).alloc (Nat.le_refl _) (.cells #[I 0,I 0,I 0,.bool false] 59)).drew.mono VO.o.size))
         have I9:=ai (Below.refl wr.heap.size wr).drew
         have HKB:=ai ((Below.refl wr.heap.size wr).alloc (Nat.le_refl _) (.cells #[I 0,I 0,I 0,.bool false] 59)).drew
         have Pj:Hid (((wr.alloc (.cells #[I 0,I 0,I 0,.bool false] 59)).drew).heap[wr.heap.size]?=some (.cells #[I 0,I 0,I 0,.bool false] 59 (0,0))):=B.new wr #[I 0,I 0,I 0,.bool false] 59
         go_cut [7,8] (fun x7 x8 wx=>(∃g,x7=.pointer (some (Ad g 0)))/\x8=.bool FF/\Below wr.heap.size wr wx)
         case first =>
          go_region_law (go_simp;go_at_call 42;first | (refine(O1.o _ jI.o).mono ?_;rintro e w1 ⟨⟨g1,g2,g3,g4,rfl⟩,hb1⟩;have bj:=ai (I9.o.trans (hb1.mono I9.o.size));clear hb1;go_simp) | (refine(O1.o _ qp.o).mono ?_;rintro e w1 ⟨⟨g1,g2,g3,g4,rfl⟩,hb1⟩;have bj:=ai (HKB.o.trans (hb1.mono HKB.o.size));have hz:=B.below Pj.o hb1 (B.isLt Pj.o);obtain⟨k0,k1,k2,k3⟩:=B.c4 hz;have kf:=B.free hz;clear hz hb1;go_simp))
          all_goals
           go_wp2_with fail
           go_meet
           case rel=>exact⟨⟨_,rfl⟩,rfl,by first | exact bj.o.alloc bj.o.size _ | exact(((bj.o.setCell (p:=(Ad wr.heap.size 0)) (Nat.le_refl _) _).setCell (p:=(Ad wr.heap.size 1)) (Nat.le_refl _) _).setCell (p:=(Ad wr.heap.size 2)) (Nat.le_refl _) _).setCell (p:=(Ad wr.heap.size 3)) (Nat.le_refl _) _⟩
         case rest =>
          obtain⟨⟨ga,rfl⟩,rfl,xK⟩:=hcut
          have aei:=ai xK
          have oG:=Q.dS wc
          have vh:=ai (@Q.cA wc)
          have aif:=xK.size
          have z2':∀x:Q.dA wc.heap.size wc,x.world.cell? (Ad sb 2)=some (.slice (some (Ad bp JT)) np cp):=fun x=>(vh.o x _ _ (by omega)).trans ((M.aA xK (by omega)).trans z2)
          have p0':∀x:Q.dA wc.heap.size wc,x.world.cell? (Ad bp (JT+m*2))=some (I TU):=fun x=>(vh.o x _ _ (by omega)).trans ((M.aA xK (by omega)).trans p0)
          have p1':∀x:Q.dA wc.heap.size wc,x.world.cell? (Ad bp (JT+m*2+1))=some (.string dt):=fun x=>(vh.o x _ _ (by omega)).trans ((M.aA xK (by omega)).trans p1)
          have Zr:Hid (0<m->∀x:Q.dA wc.heap.size wc,x.world.cell? ⟨bp,JT+(m-1)*2,none⟩=some (I VW)):=fun g x=>(vh.o x _ _ (by omega)).trans ((M.aA xK (by omega)).trans (HPV.o (m-1) (by omega)))
          have HBU:=ai (pO.o.trans (xK.mono pO.o.size))
          have Sw:=ai (VO.o.trans (xK.mono VO.o.size))
          have RL:=ai (B.below Vb.o xK (B.isLt Vb.o))
          have RM:=ai (B.below HXF.o xK (B.isLt HXF.o))
          clear O1 jI qp I9 HKB Pj HPV xK vh p0 p1 z1 z2 VO Vb HXF pO
          obtain⟨BE,hBE⟩:=ex (Aj FF (decide (0<m->VW<TU)) dt.size)
          have EO:=ai hBE
          clear hBE
          go_upto_region 15 with fail
          go_cut [143] (fun c wx=>c=.bool BE/\Below wc.heap.size wc wx)
          case first =>
           clear Tg Er HBU Sw RL RM aei
           cases FF with
           | false =>
            as_aux_lemma =>
             refine Q.aW (by kernel_rfl) (by kernel_rfl) ?_
             repeat (first | go_big_quiet_step (fail) | quiet_step (fail))
             refine wpQuiet_nil ?_
             intro _ hw'
             obtain⟨x,hw''⟩:=hw'
             subst hw''
             go_wp2
             go_meet
             exact⟨by rw[EO.o];rfl,x.keeps⟩
           | true =>
            by_cases hm0:0<m
            · have ack:(0:Int)<(m:Int):=by omega
              have p2':=Zr.o hm0
              by_cases hq:TU<=VW
              · have Qx:decide (0<m->VW<TU)=false:=decide_eq_false (fun g=>by have:=g hm0;omega)
                as_aux_lemma =>
                 refine Q.aW (by kernel_rfl) (by kernel_rfl) ?_
                 repeat (first | go_big_quiet_step (fail) | quiet_step (fail))
                 refine wpQuiet_nil ?_
                 intro _ hw'
                 obtain⟨x,hw''⟩:=hw'
                 subst hw''
                 go_wp2
                 go_meet
                 exact⟨by rw[EO.o,Qx];rfl,x.keeps⟩
              · have Qx:decide (0<m->VW<TU)=true:=decide_eq_true (fun _=>by omega)
                by_cases hz:dt.size=16
                · have VY:((dt.size:Int)==16)=true:=by rw[beq_iff_eq];omega
                  as_aux_lemma =>
                   refine Q.aW (by kernel_rfl) (by kernel_rfl) ?_
                   repeat (first | go_big_quiet_step (fail) | quiet_step (fail))
                   refine wpQuiet_nil ?_
                   intro _ hw'
                   obtain⟨x,hw''⟩:=hw'
                   subst hw''
                   go_wp2
                   go_meet
                   exact⟨by rw[EO.o,Qx];simp[Aj,hz],x.keeps⟩
                · have VY:((dt.size:Int)==16)=false:=by rw[beq_eq_false_iff_ne];omega
                  as_aux_lemma =>
                   refine Q.aW (by kernel_rfl) (by kernel_rfl) ?_
                   repeat (first | go_big_quiet_step (fail) | quiet_step (fail))
                   refine wpQuiet_nil ?_
                   intro _ hw'
                   obtain⟨x,hw''⟩:=hw'
                   subst hw''
                   go_wp2
                   go_meet
                   exact⟨by rw[EO.o,Qx];simp[Aj,hz];omega,x.keeps⟩
            · have ack:¬(0:Int)<(m:Int):=by omega
              have Qx:decide (0<m->VW<TU)=true:=decide_eq_true (fun g=>by omega)
              by_cases hz:dt.size=16
              · have VY:((dt.size:Int)==16)=true:=by rw[beq_iff_eq];omega
                as_aux_lemma =>
                 refine Q.aW (by kernel_rfl) (by kernel_rfl) ?_
                 repeat (first | go_big_quiet_step (fail) | quiet_step (fail))
                 refine wpQuiet_nil ?_
                 intro _ hw'
                 obtain⟨x,hw''⟩:=hw'
                 subst hw''
                 go_wp2
                 go_meet
                 exact⟨by rw[EO.o,Qx];simp[Aj,hz],x.keeps⟩
              · have VY:((dt.size:Int)==16)=false:=by rw[beq_eq_false_iff_ne];omega
                as_aux_lemma =>
                 refine Q.aW (by kernel_rfl) (by kernel_rfl) ?_
                 repeat (first | go_big_quiet_step (fail) | quiet_step (fail))
                 refine wpQuiet_nil ?_
                 intro _ hw'
                 obtain⟨x,hw''⟩:=hw'
                 subst hw''
                 go_wp2
                 go_meet
                 exact⟨by rw[EO.o,Qx];simp[Aj,hz];omega,x.keeps⟩
          case rest =>
           obtain⟨rfl,Nk⟩:=hcut
           have VM:=ai (HBU.o.trans (Nk.mono HBU.o.size))
           have aef:=ai (Sw.o.trans (Nk.mono Sw.o.size))
           have adl:=ai (B.below RL.o Nk (B.isLt RL.o))
           have adm:=ai (B.below RM.o Nk (B.isLt RM.o))
           have ze:=EO.o
           unfold Aj at ze
           clear Nk EO z2' p0' p1' Zr oG HBU Sw RL RM
           cases BE with
           | true =>
            have fL:Hid (A=1):=Er.o (fun ⟨g1,g2,g3⟩=>by rw[g1,decide_eq_true g2,decide_eq_true g3] at ze;cases ze)
            clear ze Er Tg
            go_wp2
            go_ret
            exact⟨by rw[fL.o];rfl,VM.o⟩
           | false =>
            have Vm:Hid (bN s (m+1)):=by
             have e1:=ze.symm
             simp only[Bool.or_eq_false_iff,Bool.not_eq_false',decide_eq_true_eq] at e1
             exact Tg.o e1.1.1 e1.1.2 e1.2
            clear ze Er Tg
            go_wp2
            go_roundw
            case rel=>exact⟨m+1,by omega,by go_num,Vm.o,adl.o,adm.o,aef.o⟩
            case measure=>simp[intOf];omega
       · obtain rfl:m=np:=by omega
         have aem:=ai (VR.o (VG.o Hc.o))
         clear ED VR VG Hc
         go_wp2
         go_roundw
         case rel=>exact⟨k+1,by omega,by go_num,by rw[Hf.o],aem.o,HXF.o,pO.o⟩
         case measure=>simp[intOf];omega
  · obtain rfl:k=nr:=by omega
    have Ja:=ai (VK.o nD.o)
    obtain⟨LT,hLT⟩:=ex (FM.jz ss k)
    rw[<- hLT] at Ja hlb ⊢
    have Ve:=ai (Vd.o _ hb)
    clear hb hLT nD VK VP VN OI Tt Vd
    by_cases hq:sl<LT
    · have fL:Hid (A=1):=by
       show _=_
       rw[Ja.o,decide_eq_false (by omega)]
       rfl
      clear Ja
      go_wp2
      go_ret
      exact⟨by rw[fL.o];rfl,HB.o⟩
    · have Qx:decide (LT<=sl)=true:=decide_eq_true (by omega)
      rw[Qx,Bool.true_and] at Ja
      cases WO with
      | true =>
       have fL:Hid (A=0):=Ja
       clear Ja
       go_wp2_with (go_at_call 43;refine Ve.o.mono ?_;rintro e w1 ⟨rfl,hb1⟩;have bj:=ai (aB HB.o hb1);clear hb1)
       go_ret
       exact⟨by rw[fL.o];rfl,bj.o⟩
      | false =>
       have fL:Hid (A=1):=Ja
       clear Ja
       go_wp2_with (go_at_call 43;refine Ve.o.mono ?_;rintro e w1 ⟨rfl,hb1⟩;have bj:=ai (aB HB.o hb1);clear hb1)
       go_ret
       exact⟨by rw[fL.o];rfl,bj.o⟩
end GR
namespace LM
open Go.RowKit
def WK (l:List M.Sy) (s:ByteArray):Option Nat:=l.findIdx? (fun y=>decide (y.name=s))
def abo (o:Ob) (s:ByteArray):Option Int:=match WK o.i.syms s with
 | none=>none
 | some k=>some (ve o (M.PF o.i.syms k).pos)
def SJ (l:List Ob) (s:ByteArray):Nat->Option Int
 | 0=>none
 | k+1=>match SJ l s k with
  | some t=>some t
  | none=>abo (dP l k) s
def TE (l:List Ob) (o:Ob) (s:ByteArray):Option Int:=if s=⟨#[]⟩ then some (ve o 0) else SJ l s l.length
theorem zL {i:M.Im} (hc:M.ji i=0):M.vW i=true:=by
 unfold M.ji at hc
 split at hc
 · simp at hc
 · split at hc
   · simp at hc
   · split at hc
     · simp at hc
     · split at hc
       · simp at hc
       · split at hc
         · simp at hc
         · rename_i h
           simpa using h
theorem zE:∀{l:List M.Sg} {a:Int} {s:M.Sg},M.lC l a=some s->(∃k,k<l.length/\M.dB l k=s)/\M.mz s a=true
 | [],a,s,h=>by cases h
 | x::r,a,s,h=>by
  simp only[M.lC] at h
  split at h
  · rename_i hi
    injection h with h
    subst h
    exact⟨⟨0,by simp,rfl⟩,hi⟩
  · obtain⟨⟨k,hk,e⟩,hi⟩:=zE h
    exact⟨⟨k+1,by simpa using hk,by simpa [M.dB] using e⟩,hi⟩
theorem gY {i:M.Im} (hc:M.ji i=0) {a:Int} (h:M.dQ i.cW a=true):0<=a/\a<4080:=by
 unfold M.dQ at h
 obtain⟨s,hs⟩:=Option.isSome_iff_exists.1 h
 obtain⟨⟨k,hk,e⟩,hi⟩:=zE hs
 have hb:=nJ hc k hk
 rw[e] at hb
 unfold M.mz at hi
 have:=of_decide_eq_true hi
 omega
theorem zH (i:M.Im):∀n,M.AX i n=true->∀k,k<n->M.H5 i k=true
 | 0,_,k,hk=>by omega
 | n+1,h,k,hk=>by
  simp only[M.AX,Bool.and_eq_true] at h
  by_cases e:k=n
  · subst e;exact h.2
  · exact zH i n h.1 k (by omega)
theorem TS {i:M.Im} (hc:M.ji i=0) (k:Nat) (hk:k<i.fu.length):M.H5 i k=true:=by
 have h:=zL hc
 unfold M.vW at h
 simp only[Bool.and_eq_true] at h
 exact zH i i.fu.length h.2.1 k hk
theorem Fa {i:M.Im} (hc:M.ji i=0) (k:Nat) (hk:k<i.fu.length):0<=(M.qw i.fu k).pos/\(M.qw i.fu k).pos+7<4080:=by
 have h:=TS hc k hk
 unfold M.H5 M.LC at h
 simp only[Bool.and_eq_true] at h
 have h0:=gY hc h.2.1
 have h7:=gY hc h.2.2.2.2.2.2.2.2
 omega
theorem Bz {i:M.Im} (hc:M.ji i=0):0<=i.entry/\i.entry<4080:=by
 have h:=zL hc
 unfold M.vW at h
 simp only[Bool.and_eq_true] at h
 have he:=h.2.2
 unfold M.ug at he
 refine gY hc ?_
 unfold M.dQ
 cases e:M.lC i.cW i.entry with
 | none=>rw[e] at he;cases he
 | some s=>rfl
def abt (o:Ob) (r:M.Rl) (t:Int):Pt:=⟨ve o r.pos,⟨(Lib.leBytes 8 (CM.low (t+r.add))).toArray⟩⟩
def qE (l:List Ob) (o:Ob):Nat->Option (List Pt)
 | 0=>some []
 | k+1=>match qE l o k with
  | none=>none
  | some ps=>match TE l o (M.qw o.i.fu k).name with
   | none=>none
   | some t=>some (ps++[abt o (M.qw o.i.fu k) t])
def wY (l:List Ob) (o:Ob):Option (List Pt):=qE l o o.i.fu.length
theorem zP {l:List Ob} {o:Ob}:∀{k:Nat} {ps:List Pt},qE l o k=some ps->ps.length=k
 | 0,ps,h=>by simp only[qE] at h;injection h with h;subst h;rfl
 | k+1,ps,h=>by
  simp only[qE] at h
  cases e:qE l o k with
  | none=>rw[e] at h;cases h
  | some qs =>
   rw[e] at h
   simp only at h
   cases g:TE l o (M.qw o.i.fu k).name with
   | none=>rw[g] at h;cases h
   | some t =>
    rw[g] at h
    simp only at h
    injection h with h
    subst h
    rw[List.length_append,zP e]
    rfl
end LM
namespace LW
open Go.RowKit
open W (ai)
structure Oi (l:List LM.Ob) (ao:Option Addr) (w:World):Prop where
 has:LM.Ox w ao l
 few:l.length<=1000
 YS:∀k,k<l.length->M.ji (LM.dP l k).i=0
 fit:∀k,k<l.length->M.Fit (LM.dP l k).i
 base:∀k,k<l.length->1<=(LM.dP l k).base/\(LM.dP l k).base<=2000
theorem Oi.below {l:List LM.Ob} {ao:Option Addr} {w w':World} (h:Oi l ao w) (hb:Below w.heap.size w w'):Oi l ao w':=⟨h.has.below hb,h.few,h.YS,h.fit,h.base⟩
def Ao (R:Option (List LM.Pt)) (w:World) (e:Ending) (w':World):Prop:=Below w.heap.size w w'/\match R with
 | none=>e=.returned (.tuple #[Nl,.bool false])
 | some ps=>∃v,e=.returned (.tuple #[v,.bool true])/\w'.ownsRow w.heap.size 228 2 v ps.length (ps.flatMap LM.IZ)
end LW
namespace LM
open Go.RowKit
structure Sp where
 page:Int
 data:ByteArray
 ik:List Fx
def plain (s:Sh):Sp:=⟨s.page,s.data,s.ik⟩
def pgN (o:Ob) (ps:List Pt) (s:M.Sg) (m:Nat):Sp:=⟨o.base+s.page+(m:Int),sG s m,gq (o.base+s.page+(m:Int)) ps⟩
def wX (o:Ob) (ps:List Pt) (s:M.Sg) (n:Nat):List Sp:=(List.range n).map (pgN o ps s)
def uD (o:Ob) (ps:List Pt):Nat->List Sp
 | 0=>[]
 | k+1=>uD o ps k++wX o ps (M.dB o.i.cW k) (M.dB o.i.cW k).aj.toNat
def qF (l:List Ob):Nat->Option (List Sp)
 | 0=>some []
 | k+1=>match qF l k with
  | none=>none
  | some E=>match wY l (dP l k) with
   | none=>none
   | some ps=>some (E++uD (dP l k) ps (dP l k).i.cW.length)
def kP (l:List Ob):Option (List Sp):=qF l l.length
theorem Fj (o:Ob) (ps:List Pt) (s:M.Sg) (n:Nat):wX o ps s (n+1)=wX o ps s n++[pgN o ps s n]:=by
 unfold wX
 rw[List.range_succ,List.map_append]
 rfl
theorem xh {l:List Ob} {k:Nat} (h:qF l k=none):∀n,k<=n->qF l n=none
 | 0, hn => by obtain rfl:k=0 := by omega
               exact h
 | n+1,hn=>by
  by_cases e:k=n+1
  · subst e;exact h
  · simp only[qF]
    rw[xh h n (by omega)]
theorem Ib {l:List Ob} {o:Ob} (hc:M.ji o.i=0) (h0:1<=o.base) (h1:o.base<=2000):∀(k:Nat) (ps:List Pt),k<=o.i.fu.length->qE l o k=some ps->∀j,j<ps.length->oc (yQ ps j)
 | 0,ps,_,h,j,hj=>by simp only[qE] at h;injection h with h;subst h;simp at hj
 | k+1,ps,hk,h,j,hj=>by
  simp only[qE] at h
  cases e:qE l o k with
  | none=>rw[e] at h;cases h
  | some qs =>
   rw[e] at h
   simp only at h
   cases g:TE l o (M.qw o.i.fu k).name with
   | none=>rw[g] at h;cases h
   | some t =>
    rw[g] at h
    simp only at h
    injection h with h
    subst h
    rw[List.length_append] at hj
    by_cases hjq:j<qs.length
    · have:=Ib hc h0 h1 k qs (by omega) e j hjq
      unfold yQ at this ⊢
      rw[List.getD_eq_getElem?_getD,List.getElem?_append_left hjq,<- List.getD_eq_getElem?_getD]
      exact this
    · have hje:j=qs.length:=by simp at hj;omega
      subst hje
      unfold yQ
      rw[List.getD_eq_getElem?_getD,List.getElem?_append_right (Nat.le_refl _),Nat.sub_self]
      have hb:=Fa hc k (by omega)
      refine⟨?_,?_,?_⟩
      · show 0<=o.base*16+(M.qw o.i.fu k).pos
        omega
      · show o.base*16+(M.qw o.i.fu k).pos<=1000000
        omega
      · show(⟨(Lib.leBytes 8 (CM.low (t+(M.qw o.i.fu k).add))).toArray⟩:ByteArray).size=8
        rw[Lib.size_eq]
        simp[Lib.leBytes]
def pL (rb:Option Nat) (w:World) (ao:Option Addr) (l:List Fx):Prop:=0<l.length->∃b off,ao=some (Ad b off)/\b<w.heap.size/\some b≠rb/\G5 w b off l
theorem pL.has {rb:Option Nat} {w:World} {ao:Option Addr} {l:List Fx} (h:pL rb w ao l):Cc w ao l:=fun hl=>by
 obtain⟨b,off,h1,h2,_,h3⟩:=h hl
 exact⟨b,off,h1,h2,h3⟩
theorem pL.below {rb:Option Nat} {w w':World} {ao:Option Addr} {l:List Fx} (h:pL rb w ao l) (hb:Below w.heap.size w w'):pL rb w' ao l:=fun hl=>by
 obtain⟨b,off,h1,h2,h3,h4⟩:=h hl
 exact⟨b,off,h1,Nat.lt_of_lt_of_le h2 hb.size,h3,Xj hb h2 h4⟩
theorem FJ {w w':World} {b off:Nat} {l:List Fx} (h:G5 w b off l) (hb:w'.heap[b]?=w.heap[b]?):G5 w' b off l:=fun i hi=>by
 obtain⟨c0,c1⟩:=h i hi
 exact⟨(World.cell?_of_block hb).trans c0,(World.cell?_of_block hb).trans c1⟩
theorem pL.grown {rb:Option Nat} {w w':World} {ao:Option Addr} {l:List Fx} {g:Nat} (h:pL rb w ao l) (hg:w.grownBy w' rb) (hs:w.heap.size<=w'.heap.size) (hat:rb=some g∨g=w.heap.size):pL (some g) w' ao l:=fun hl=>by
 obtain⟨b,off,h1,h2,h3,h4⟩:=h hl
 refine⟨b,off,h1,Nat.lt_of_lt_of_le h2 hs,fun e=>?_,FJ h4 (hg.block b h2 h3)⟩
 injection e with e
 rcases hat with hat | hat
 · exact h3 (by rw[hat,e])
 · omega
def Z6 (rb:Option Nat) (w:World) (hs:List Sh):Prop:=∀k,k<hs.length->pL rb w (gm hs k).ao (gm hs k).ik
def D5 (s:Sh):List Value:=[I s.page,.string s.data,.slice s.ao s.ik.length s.cap]
theorem JC (l:List Sh) (x:Sh) (k:Nat) (h:k<l.length):gm (l++[x]) k=gm l k:=by
 unfold gm
 rw[List.getD_eq_getElem?_getD,List.getElem?_append_left h,<- List.getD_eq_getElem?_getD]
theorem JD (l:List Sh) (x:Sh):gm (l++[x]) l.length=x:=by
 unfold gm
 rw[List.getD_eq_getElem?_getD,List.getElem?_append_right (Nat.le_refl _)]
 simp
end LM
end Go.Proofs.YtkdigjpejnebkaaGreat
