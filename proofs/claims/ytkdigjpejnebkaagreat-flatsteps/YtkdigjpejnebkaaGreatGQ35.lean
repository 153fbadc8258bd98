import Derived.Test.YtkdigjpejnebkaaGreatGQ00
import Derived.Test.YtkdigjpejnebkaaGreatGQ24
import Derived.Test.YtkdigjpejnebkaaGreatGQ34
import Derived.Test.YtkdigjpejnebkaaGreatGQ27
import Derived.Deep.RegionLaw
import Derived.Deep.DeepCutAuto
import Derived.Test.YtkdigjpejnebkaaGreatGQ14
import Derived.Test.YtkdigjpejnebkaaGreatGQ17
set_option maxHeartbeats 20000000
set_option linter.unusedVariables false
set_option maxRecDepth 100000
set_option linter.unusedSimpArgs false
namespace Go.Proofs.YtkdigjpejnebkaaGreat
namespace GR
open Go.RowKit
open FW (ai aB)
def tH (T lv:Bool) (na np:Nat) (C TT:Int):Bool:=!T || (!lv&&(decide (0<na) || decide (0<np))) || !(decide (C=0)) || !(decide ((np:Int)=TT))
def Al (F R:Bool) (z:Nat):Bool:=!F || !R || !(decide (z=16))
theorem Qu {f:FM.Fl} (h:¬((1<=(f.ak.length:Int)/\(f.ak.length:Int)<=4)/\(f.procs.length:Int)=(f.ak.length:Int)/\(0<=f.slots/\f.slots<=512)/\(f.out.length:Int)<=2000)):FM.bV f=2:=by
 apply NV
 cases e:FM.cu f with
 | false=>rfl
 | true =>
  exfalso
  apply h
  unfold FM.cu at e
  simp only[Bool.and_eq_true,decide_eq_true_eq] at e
  omega
theorem ME {f:FM.Fl} (h:(1<=(f.ak.length:Int)/\(f.ak.length:Int)<=4)/\(f.procs.length:Int)=(f.ak.length:Int)/\(0<=f.slots/\f.slots<=512)/\(f.out.length:Int)<=2000):FM.cu f=true:=by
 unfold FM.cu
 simp only[Bool.and_eq_true,decide_eq_true_eq]
 omega
theorem KT {f:FM.Fl} (hc:FM.cu f=true) {k:Nat} (hk:k<f.ak.length) (h:tH (FM.eV (FM.au f.procs k) (FM.ax f.ak k).live) (FM.ax f.ak k).live (FM.ax f.ak k).aw.length (FM.ax f.ak k).aj.length (AM.aD (FM.ax f.ak k).aw) (AM.br (FM.ax f.ak k).aw)=true):FM.bV f=1:=by
 apply I4 hc hk
 cases e:FM.eV (FM.au f.procs k) (FM.ax f.ak k).live with
 | false=>exact .inl rfl
 | true =>
  right
  rintro⟨h1,h2,h3,h4⟩
  rw[e] at h
  unfold tH at h
  rw[decide_eq_true h2,decide_eq_true h3] at h
  cases hl:(FM.ax f.ak k).live with
  | true=>rw[hl] at h;cases h
  | false =>
   obtain⟨g1,g2⟩:=h1 hl
   rw[hl,g1,g2] at h
   cases h
theorem RA {s:FM.Sp} {T:Bool} (h:tH T s.live s.aw.length s.aj.length (AM.aD s.aw) (AM.br s.aw)=false):T=true/\(s.live=false->s.aw.length=0/\s.aj.length=0)/\AM.aD s.aw=0/\(s.aj.length:Int)=AM.br s.aw:=by
 unfold tH at h
 simp only[Bool.or_eq_false_iff,Bool.not_eq_false',decide_eq_true_eq,Bool.and_eq_false_iff,decide_eq_false_iff_not] at h
 refine⟨h.1.1.1,fun e=>?_,h.1.2,h.2⟩
 rcases h.1.1.2 with g | g
 · rw[g] at e;cases e
 · omega
theorem GU (f:FM.Fl) (az ar ao:Option Addr) (cs cr co:Nat) (w:World) (h:FW.fJ w f az ar ao) (hf:FW.mL f) :
  Calls Tryz.prog 13 #[.agg (FW.bC f az ar ao cs cr co)] w fun e w'=>e=.returned (I (FM.bV f))/\Below w.heap.size w w':=by
 have HH:=ai h
 have HF:=ai hf
 have EL:=ai (Qu (f:=f))
 have OO:=ai (ME (f:=f))
 have rV:Hid (FM.cu f=true->∀k,k<f.ak.length->tH (FM.eV (FM.au f.procs k) (FM.ax f.ak k).live) (FM.ax f.ak k).live (FM.ax f.ak k).aw.length (FM.ax f.ak k).aj.length (AM.aD (FM.ax f.ak k).aw) (AM.br (FM.ax f.ak k).aw)=true->FM.bV f=1):=fun hc k hk=>KT hc hk
 have PH:Hid (FM.cu f=true->∀k,k<f.ak.length->¬FM.gm (FM.ax f.ak k)->FM.bV f=1):=fun hc k hk g=>I4 hc hk (.inr g)
 have qq:=ai (Re (f:=f))
 have Tu:=ai (Qy hf.ak)
 have OQ:Hid (∀k,FM.jD f.ak (k+1)=FM.jD f.ak k+((FM.ax f.ak k).aj.length:Int)):=fun k=>rfl
 have EJ:Hid (f.procs.length<=4->∀V,Below w.heap.size w V->Calls Tryz.prog 43 #[.slice ao f.out.length co,I (f.procs.length:Int)] V fun e w'=>e=.returned (.bool (FM.dh f.out f.procs.length f.out.length))/\Below V.heap.size V w'):=fun hn V hV=>FW.yF f.out f.procs.length ao co V (h.out.below hV) hf.out (by omega)
 have ur:=ai (fun V=>AW.iF (f.ak.length:Int) 1 4 V)
 have CA:=ai (fun V=>AW.iF f.slots 0 512 V)
 unfold FW.bC
 obtain⟨sl,ss,ps,os⟩:=f
 simp only at EL OO rV PH qq Tu OQ EJ ur CA ⊢
 obtain⟨A,hA⟩:=ex (FM.bV ⟨sl,ss,ps,os⟩)
 rw[<- hA] at EL rV PH qq ⊢
 obtain⟨RC,UM⟩:=ex (FM.cu ⟨sl,ss,ps,os⟩)
 rw[<- UM] at OO rV PH qq
 obtain⟨WO,hWO⟩:=ex (FM.dh os ps.length os.length)
 rw[<- hWO] at qq EJ
 obtain⟨ns,hns⟩:=ex ss.length
 obtain⟨nr,fw⟩:=ex ps.length
 obtain⟨no,hno⟩:=ex os.length
 have Bq:no<=140737488351232:=by rw[hno];exact hf.out
 have Ki:nr<=140737488351232:=by rw[fw];exact hf.procs
 have abY:ns<=140737488351232:=by rw[hns];exact hf.ak.1
 rw[<- hns] at EL OO rV PH qq Tu ur ⊢
 rw[<- fw] at EL OO EJ ⊢
 rw[<- hno] at EL OO EJ ⊢
 have qQ:=ai hns
 have Tq:=ai fw
 clear h hf hA UM hWO hns fw hno
 have cP:=ai ((Below.refl w.heap.size w).alloc (Nat.le_refl _) (.cells #[I sl,.slice az ns cs,.slice ar nr cr,.slice ao no co] 30))
 have X0:=ai (B.new w #[I sl,.slice az ns cs,.slice ar nr cr,.slice ao no co] 30)
 by_cases h0:1<=(ns:Int)/\(ns:Int)<=4
 case neg =>
  rw[decide_eq_false h0] at ur
  have fL:Hid (A=2):=EL.o (by omega)
  clear EL OO rV PH qq Tu OQ EJ
  go_enter Tryz.func13,Tryz.ntmps13
  go_wp2_with (first | (have _:=FIRST;go_at_call 27;refine(CA.o _).mono ?_;rintro e w1 ⟨rfl,rfl⟩) | (go_at_call 27;refine(ur.o _).mono ?_;rintro e w1 ⟨rfl,rfl⟩;have FIRST:=trivial))
  go_ret
  exact⟨by rw[fL.o];rfl,cP.o⟩
 rw[decide_eq_true h0] at ur
 by_cases h2:(nr:Int)=(ns:Int)
 case neg =>
  have Ns:((nr:Int)==(ns:Int))=false:=by rw[beq_eq_false_iff_ne];exact h2
  have h2j:((nr:Int) != (ns:Int))=true:=by rw[bne,Ns];rfl
  have fL:Hid (A=2):=EL.o (by omega)
  clear EL OO rV PH qq Tu OQ EJ
  go_enter Tryz.func13,Tryz.ntmps13
  go_wp2_with (first | (have _:=FIRST;go_at_call 27;refine(CA.o _).mono ?_;rintro e w1 ⟨rfl,rfl⟩) | (go_at_call 27;refine(ur.o _).mono ?_;rintro e w1 ⟨rfl,rfl⟩;have FIRST:=trivial))
  go_ret
  exact⟨by rw[fL.o];rfl,cP.o⟩
 by_cases h3:0<=sl/\sl<=512
 case neg =>
  rw[decide_eq_false h3] at CA
  have Ns:((nr:Int)==(ns:Int))=true:=by rw[beq_iff_eq];exact h2
  have fL:Hid (A=2):=EL.o (by omega)
  clear EL OO rV PH qq Tu OQ EJ
  go_enter Tryz.func13,Tryz.ntmps13
  go_wp2_with (first | (have _:=FIRST;go_at_call 27;refine(CA.o _).mono ?_;rintro e w1 ⟨rfl,rfl⟩) | (go_at_call 27;refine(ur.o _).mono ?_;rintro e w1 ⟨rfl,rfl⟩;have FIRST:=trivial))
  go_ret
  exact⟨by rw[fL.o];rfl,cP.o⟩
 rw[decide_eq_true h3] at CA
 by_cases h5:(no:Int)<=2000
 case neg =>
  have Ns:((nr:Int)==(ns:Int))=true:=by rw[beq_iff_eq];exact h2
  have fL:Hid (A=2):=EL.o (by omega)
  clear EL OO rV PH qq Tu OQ EJ
  go_enter Tryz.func13,Tryz.ntmps13
  go_wp2_with (first | (have _:=FIRST;go_at_call 27;refine(CA.o _).mono ?_;rintro e w1 ⟨rfl,rfl⟩) | (go_at_call 27;refine(ur.o _).mono ?_;rintro e w1 ⟨rfl,rfl⟩;have FIRST:=trivial))
  go_ret
  exact⟨by rw[fL.o];rfl,cP.o⟩
 have UM:RC=true:=OO.o ⟨h0,h2,h3,h5⟩
 have h2n:nr=ns:=by omega
 subst h2n
 have VI:=ai (rV.o UM)
 have VG:=ai (PH.o UM)
 have VC:=ai (qq.o UM)
 have U6:=ai (EJ.o (by omega))
 clear EL OO rV PH qq EJ h2 UM
 go_enter Tryz.func13,Tryz.ntmps13
 go_wp2_with (first | (have _:=FIRST;go_at_call 27;refine(CA.o _).mono ?_;rintro e w1 ⟨rfl,rfl⟩) | (go_at_call 27;refine(ur.o _).mono ?_;rintro e w1 ⟨rfl,rfl⟩;have FIRST:=trivial))
 clear ur CA
 go_loopw [3,4] (fun tv iv wr=>∃k:Nat,k<=nr/\iv=I (k:Int)/\tv=I (FM.jD ss k)/\(∀j,j<k->FM.eV (FM.au ps j) (FM.ax ss j).live=true/\FM.gm (FM.ax ss j))/\wr.heap[w.heap.size]?=some (.cells #[I sl,.slice az nr cs,.slice ar nr cr,.slice ao no co] 30 (0,0))/\Below w.heap.size w wr) (fun _ iv _=>nr-(intOf iv).toNat)
 case atStart=>exact⟨0,by omega,rfl,rfl,fun j hj=>by omega,X0.o,cP.o⟩
 case round =>
  obtain⟨k,hk,rfl,rfl,hall,hx,hb⟩:=hrel
  have HB:=ai hb
  have HX:=ai hx
  have nE:=ai hall
  have hlb:=Tu.o k hk
  obtain⟨x0,x1,x2,x3⟩:=B.c4 hx
  have Xk:=B.isLt hx
  clear hall hx X0 cP
  by_cases hlt:k<nr
  · obtain⟨b,off,hao,hbl,bQ⟩:=(HH.o.below hb).ak (show 0<ss.length by rw[<- qQ.o];omega)
    obtain⟨b2,l9,Gp,Nf,uL⟩:=(HH.o.below hb).procs (show 0<ps.length by rw[<- Tq.o];omega)
    subst hao
    subst Gp
    obtain⟨va,ap,cp,c0,c1,c2,c3,c4,c5⟩:=bQ k (by rw[<- qQ.o];exact hlt)
    obtain⟨d0,d1,d2,d3,d4,d5,d6,d7,d8,d9,d10,d11,d12⟩:=uL k (by rw[<- Tq.o];exact hlt)
    have sX:FW.Hz (FM.ax ss k):=HF.o.ak.2 k (by show k<ss.length;rw[<- qQ.o];exact hlt)
    have uu:=ai (VI.o k hlt)
    have O9:=ai (VG.o k hlt)
    have Hm:=ai (OQ.o k)
    have Ey:Hid (FM.eV (FM.au ps k) (FM.ax ss k).live=true->FM.gm (FM.ax ss k)->∀j,j<k+1->FM.eV (FM.au ps j) (FM.ax ss j).live=true/\FM.gm (FM.ax ss j)):=fun g1 g2 j hj=>by
     by_cases e:j=k
     · subst e;exact⟨g1,g2⟩
     · exact nE.o j (by omega)
    obtain⟨s,hs⟩:=ex (FM.ax ss k)
    obtain⟨q,hq⟩:=ex (FM.au ps k)
    rw[<- hs] at c0 c2 c3 c4 c5 sX uu O9 Hm Ey
    rw[<- hq] at d0 d1 d2 d3 d4 d5 d6 d7 d8 d9 d10 d11 d12 uu Ey
    obtain⟨aa,ca,sV⟩:∃ao cap,va=.slice ao s.aw.length cap:=by
     obtain⟨ao,cap,h,_⟩:=c3
     exact⟨ao,cap,h⟩
    subst sV
    obtain⟨WR,hWR⟩:=ex wr
    subst hWR
    have HP:Hid (∀V,Calls Tryz.prog 40 #[.agg #[I (q.r 0),I (q.r 1),I (q.r 2),I (q.r 3),I (q.r 4),I (q.r 5),I (q.r 6),I (q.r 7),I q.pc,I q.st,I q.cd,I q.fk,I q.fa],.bool s.live] V fun e w'=>e=.returned (.bool (FM.eV q s.live))/\Below V.heap.size V w'):=fun V=>FW.A3 q s.live V
    have HC:Hid (∀V,Below WR.heap.size WR V->Calls Tryz.prog 41 #[.slice aa s.aw.length ca] V fun e w'=>e=.returned (I (AM.aD s.aw))/\Below V.heap.size V w'):=fun V hV=>AW.fW _ _ _ (c3.below hV) sX.aw
    have HT:Hid (AM.aD s.aw=0->∀V,Below WR.heap.size WR V->Calls Tryz.prog 28 #[.slice aa s.aw.length ca] V fun e w'=>e=.returned (I (AM.br s.aw))/\Below V.heap.size V w'):=fun hc V hV=>AW.JZ _ _ _ (c3.below hV) hc
    have K7:Hid (AM.aD s.aw=0->∀p V,Below WR.heap.size WR V->Calls Tryz.prog 42 #[.slice aa s.aw.length ca,I p] V fun e w'=>(∃g1 g2 g3 g4,e=.returned (.tuple #[.agg #[I g1,I g2,I g3,.bool g4],.bool (AM.aW s.aw p).2]))/\Below V.heap.size V w'):=fun hc p V hV=>(AW.rP _ _ p _ (c3.below hV) hc).mono fun e w' ⟨h1,h2⟩=>⟨⟨_,_,_,_,h1⟩,h2⟩
    have Tm:=ai c4
    have yz:Hid (∀m,m<s.aj.length->(FM.aN s.aj m).data.size<=140737488351232):=fun m hm=>(sX.page m hm).2
    have Lg:s.aj.length<=140737488351232:=sX.aj
    have EG:s.aw.length<=140737488351232:=sX.aw.2
    have mh:=ai (fun T=>RA (s:=s) (T:=T))
    have qB:=ai (QZ (s:=s))
    have kq:Hid (¬(∀j,j<s.aj.length->(AM.aW s.aw (FM.aN s.aj j).page).2=true/\(0<j->(FM.aN s.aj (j-1)).page<(FM.aN s.aj j).page)/\(FM.aN s.aj j).data.size=16)->¬FM.gm s):=fun g e=>g e.2.2.2
    obtain⟨na,eD⟩:=ex s.aw.length
    obtain⟨np,fE⟩:=ex s.aj.length
    obtain⟨lv,hlv⟩:=ex s.live
    obtain⟨C,hC⟩:=ex (AM.aD s.aw)
    obtain⟨TT,EI⟩:=ex (AM.br s.aw)
    rw[<- hlv] at c0 uu Ey HP mh qB
    obtain⟨T,hT⟩:=ex (FM.eV q lv)
    rw[<- eD] at uu mh qB HC HT K7 EG c1
    rw[<- fE] at c2 c5 uu mh qB Hm yz kq Lg
    rw[<- hC] at uu mh qB HC HT K7
    rw[<- EI] at uu mh qB HT
    rw[<- hT] at uu Ey HP
    have vd:=ai fE
    clear hs hq eD fE hlv hC EI hT sX c3 c4 bQ uL VI VG OQ hb nE VC U6
    obtain⟨LK,hLK⟩:=ex (FM.jD ss k)
    rw[<- hLK] at Hm hlb ⊢
    clear hLK
    go_wp2_with fail
    have jq:=ai ((Below.refl WR.heap.size WR).alloc (Nat.le_refl _) (.cells #[.bool lv,.slice aa na ca,.slice ap np cp] 53))
    have XS:=ai (B.new WR #[.bool lv,.slice aa na ca,.slice ap np cp] 53)
    obtain⟨W,hW⟩:=ex (WR.alloc (.cells #[.bool lv,.slice aa na ca,.slice ap np cp] 53))
    rw[<- hW] at jq XS ⊢
    obtain⟨sb,jQ⟩:=ex WR.heap.size
    have Aw:=ai jQ
    rw[<- jQ] at XS ⊢
    clear jQ
    have hsl:=B.isLt XS.o
    have hsz:=jq.o.size
    have qx:=Q.dZ W
    have ve:=ai (@Q.cD W)
    have We:=ai (B.below HX.o jq.o (B.isLt HX.o))
    have oL:=ai (HB.o.trans (jq.o.mono HB.o.size))
    clear hW
    obtain⟨BD,hBD⟩:=ex (tH T lv na np C TT)
    have qR:=ai hBD
    rw[<- hBD] at uu
    clear hBD
    go_cut [87] (fun c wx=>c=.bool BD/\Below W.heap.size W wx)
    case first =>
     have e2:∀x:Q.dG W.heap.size W,x.world.cell? (Ad w.heap.size 2)=some (.slice (some (Ad b2 l9)) nr cr):=fun x=>(ve.o x _ _ (by omega)).trans ((M.aA jq.o (by omega)).trans x2)
     have f0:∀x:Q.dG W.heap.size W,x.world.cell? (Ad b2 (l9+k*13))=some (I (q.r 0)):=fun x=>(ve.o x _ _ (by omega)).trans ((M.aA jq.o (by omega)).trans d0)
     have f1:∀x:Q.dG W.heap.size W,x.world.cell? (Ad b2 (l9+k*13+1))=some (I (q.r 1)):=fun x=>(ve.o x _ _ (by omega)).trans ((M.aA jq.o (by omega)).trans d1)
     have f2:∀x:Q.dG W.heap.size W,x.world.cell? (Ad b2 (l9+k*13+2))=some (I (q.r 2)):=fun x=>(ve.o x _ _ (by omega)).trans ((M.aA jq.o (by omega)).trans d2)
     have f3:∀x:Q.dG W.heap.size W,x.world.cell? (Ad b2 (l9+k*13+3))=some (I (q.r 3)):=fun x=>(ve.o x _ _ (by omega)).trans ((M.aA jq.o (by omega)).trans d3)
     have f4:∀x:Q.dG W.heap.size W,x.world.cell? (Ad b2 (l9+k*13+4))=some (I (q.r 4)):=fun x=>(ve.o x _ _ (by omega)).trans ((M.aA jq.o (by omega)).trans d4)
     have f5:∀x:Q.dG W.heap.size W,x.world.cell? (Ad b2 (l9+k*13+5))=some (I (q.r 5)):=fun x=>(ve.o x _ _ (by omega)).trans ((M.aA jq.o (by omega)).trans d5)
     have f6:∀x:Q.dG W.heap.size W,x.world.cell? (Ad b2 (l9+k*13+6))=some (I (q.r 6)):=fun x=>(ve.o x _ _ (by omega)).trans ((M.aA jq.o (by omega)).trans d6)
     have f7:∀x:Q.dG W.heap.size W,x.world.cell? (Ad b2 (l9+k*13+7))=some (I (q.r 7)):=fun x=>(ve.o x _ _ (by omega)).trans ((M.aA jq.o (by omega)).trans d7)
     have f8:∀x:Q.dG W.heap.size W,x.world.cell? (Ad b2 (l9+k*13+8))=some (I q.pc):=fun x=>(ve.o x _ _ (by omega)).trans ((M.aA jq.o (by omega)).trans d8)
     have f9:∀x:Q.dG W.heap.size W,x.world.cell? (Ad b2 (l9+k*13+9))=some (I q.st):=fun x=>(ve.o x _ _ (by omega)).trans ((M.aA jq.o (by omega)).trans d9)
     have f10:∀x:Q.dG W.heap.size W,x.world.cell? (Ad b2 (l9+k*13+10))=some (I q.cd):=fun x=>(ve.o x _ _ (by omega)).trans ((M.aA jq.o (by omega)).trans d10)
     have f11:∀x:Q.dG W.heap.size W,x.world.cell? (Ad b2 (l9+k*13+11))=some (I q.fk):=fun x=>(ve.o x _ _ (by omega)).trans ((M.aA jq.o (by omega)).trans d11)
     have f12:∀x:Q.dG W.heap.size W,x.world.cell? (Ad b2 (l9+k*13+12))=some (I q.fa):=fun x=>(ve.o x _ _ (by omega)).trans ((M.aA jq.o (by omega)).trans d12)
     have s0:∀x:Q.dG W.heap.size W,x.world.cell? (Ad sb 0)=some (.bool lv):=fun x=>(ve.o x _ _ hsl).trans (B.cell XS.o 0 rfl)
     have s1:∀x:Q.dG W.heap.size W,x.world.cell? (Ad sb 1)=some (.slice aa na ca):=fun x=>(ve.o x _ _ hsl).trans (B.cell XS.o 1 rfl)
     have s2:∀x:Q.dG W.heap.size W,x.world.cell? (Ad sb 2)=some (.slice ap np cp):=fun x=>(ve.o x _ _ hsl).trans (B.cell XS.o 2 rfl)
     have mV:Hid (∀x:Q.dG W.heap.size W,Calls Tryz.prog 40 #[.agg #[I (q.r 0),I (q.r 1),I (q.r 2),I (q.r 3),I (q.r 4),I (q.r 5),I (q.r 6),I (q.r 7),I q.pc,I q.st,I q.cd,I q.fk,I q.fa],.bool lv] x.world fun e w'=>e=.returned (.bool T)/\∃y:Q.dG W.heap.size W,w'=y.world):=fun x=>Q.bN HP.o x
     have mi:Hid (∀x:Q.dG W.heap.size W,Calls Tryz.prog 41 #[.slice aa na ca] x.world fun e w'=>e=.returned (I C)/\∃y:Q.dG W.heap.size W,w'=y.world):=fun x=>(HC.o x.world (jq.o.trans (x.keeps.mono jq.o.size))).mono fun e w'' ⟨he,hb⟩=>⟨he,⟨w'',x.keeps.trans (hb.mono x.keeps.size)⟩,rfl⟩
     have Wi:Hid (C=0->∀x:Q.dG W.heap.size W,Calls Tryz.prog 28 #[.slice aa na ca] x.world fun e w'=>e=.returned (I TT)/\∃y:Q.dG W.heap.size W,w'=y.world):=fun hc x=>(HT.o hc x.world (jq.o.trans (x.keeps.mono jq.o.size))).mono fun e w'' ⟨he,hb⟩=>⟨he,⟨w'',x.keeps.trans (hb.mono x.keeps.size)⟩,rfl⟩
     clear HP HC HT K7 Tm yz mh qB kq uu O9 Hm Ey We oL ve c0 c1 c2 c5 d0 d1 d2 d3 d4 d5 d6 d7 d8 d9 d10 d11 d12 x0 x1 x2 x3 HX HB HH HF h0 h3 h5 Bq abY hlb hbl Nf Xk hsz
     cases T with
     | false =>
      as_aux_lemma =>
       refine Q.aX (by kernel_rfl) (by kernel_rfl) ?_
       repeat (first | go_big_quiet_step ((first | (go_at_call 40;exact mV.o _) | (go_at_call 41;exact mi.o _))) | quiet_step ((first | (go_at_call 40;exact mV.o _) | (go_at_call 41;exact mi.o _))))
       refine wpQuiet_nil ?_
       intro _ hw'
       obtain⟨x,hw''⟩:=hw'
       subst hw''
       go_wp2
       go_meet
       exact⟨by rw[qR.o];rfl,x.keeps⟩
     | true =>
      cases lv with
      | true =>
       by_cases hC:C=0
       case neg =>
        have hCi:(C==0)=false:=by rw[beq_eq_false_iff_ne];exact hC
        as_aux_lemma =>
         refine Q.aX (by kernel_rfl) (by kernel_rfl) ?_
         repeat (first | go_big_quiet_step ((first | (go_at_call 40;exact mV.o _) | (go_at_call 41;exact mi.o _))) | quiet_step ((first | (go_at_call 40;exact mV.o _) | (go_at_call 41;exact mi.o _))))
         refine wpQuiet_nil ?_
         intro _ hw'
         obtain⟨x,hw''⟩:=hw'
         subst hw''
         go_wp2
         go_meet
         exact⟨by rw[qR.o];simp[tH,hC],x.keeps⟩
       have Lt:=ai (Wi.o hC)
       subst hC
       by_cases EI:(np:Int)=TT
       · have hTi:((np:Int)==TT)=true:=by rw[beq_iff_eq];exact EI
         have Ch:=ai EI
         clear EI
         as_aux_lemma =>
          refine Q.aX (by kernel_rfl) (by kernel_rfl) ?_
          repeat (first | go_big_quiet_step ((first | (go_at_call 40;exact mV.o _) | (go_at_call 41;exact mi.o _) | (go_at_call 28;exact Lt.o _))) | quiet_step ((first | (go_at_call 40;exact mV.o _) | (go_at_call 41;exact mi.o _) | (go_at_call 28;exact Lt.o _))))
          refine wpQuiet_nil ?_
          intro _ hw'
          obtain⟨x,hw''⟩:=hw'
          subst hw''
          go_wp2
          go_meet
          exact⟨by rw[qR.o];simp[tH,Ch.o],x.keeps⟩
       · have hTi:((np:Int)==TT)=false:=by rw[beq_eq_false_iff_ne];exact EI
         have Ch:=ai EI
         clear EI
         as_aux_lemma =>
          refine Q.aX (by kernel_rfl) (by kernel_rfl) ?_
          repeat (first | go_big_quiet_step ((first | (go_at_call 40;exact mV.o _) | (go_at_call 41;exact mi.o _) | (go_at_call 28;exact Lt.o _))) | quiet_step ((first | (go_at_call 40;exact mV.o _) | (go_at_call 41;exact mi.o _) | (go_at_call 28;exact Lt.o _))))
          refine wpQuiet_nil ?_
          intro _ hw'
          obtain⟨x,hw''⟩:=hw'
          subst hw''
          go_wp2
          go_meet
          exact⟨by rw[qR.o];simp[tH,Ch.o],x.keeps⟩
      | false =>
       by_cases eD:(0:Int)<(na:Int)
       · have ab4:0<na:=by omega
         as_aux_lemma =>
          refine Q.aX (by kernel_rfl) (by kernel_rfl) ?_
          repeat (first | go_big_quiet_step ((first | (go_at_call 40;exact mV.o _) | (go_at_call 41;exact mi.o _))) | quiet_step ((first | (go_at_call 40;exact mV.o _) | (go_at_call 41;exact mi.o _))))
          refine wpQuiet_nil ?_
          intro _ hw'
          obtain⟨x,hw''⟩:=hw'
          subst hw''
          go_wp2
          go_meet
          exact⟨by rw[qR.o];simp[tH,ab4],x.keeps⟩
       have ab3:¬0<na:=by omega
       by_cases fE:(0:Int)<(np:Int)
       · have ab1:0<np:=by omega
         as_aux_lemma =>
          refine Q.aX (by kernel_rfl) (by kernel_rfl) ?_
          repeat (first | go_big_quiet_step ((first | (go_at_call 40;exact mV.o _) | (go_at_call 41;exact mi.o _))) | quiet_step ((first | (go_at_call 40;exact mV.o _) | (go_at_call 41;exact mi.o _))))
          refine wpQuiet_nil ?_
          intro _ hw'
          obtain⟨x,hw''⟩:=hw'
          subst hw''
          go_wp2
          go_meet
          exact⟨by rw[qR.o];simp[tH,ab1],x.keeps⟩
       have ab0:¬0<np:=by omega
       by_cases hC:C=0
       case neg =>
        have hCi:(C==0)=false:=by rw[beq_eq_false_iff_ne];exact hC
        as_aux_lemma =>
         refine Q.aX (by kernel_rfl) (by kernel_rfl) ?_
         repeat (first | go_big_quiet_step ((first | (go_at_call 40;exact mV.o _) | (go_at_call 41;exact mi.o _))) | quiet_step ((first | (go_at_call 40;exact mV.o _) | (go_at_call 41;exact mi.o _))))
         refine wpQuiet_nil ?_
         intro _ hw'
         obtain⟨x,hw''⟩:=hw'
         subst hw''
         go_wp2
         go_meet
         exact⟨by rw[qR.o];simp[tH,hC],x.keeps⟩
       have Lt:=ai (Wi.o hC)
       subst hC
       by_cases EI:(np:Int)=TT
       · have hTi:((np:Int)==TT)=true:=by rw[beq_iff_eq];exact EI
         have Ch:=ai EI
         clear EI
         as_aux_lemma =>
          refine Q.aX (by kernel_rfl) (by kernel_rfl) ?_
          repeat (first | go_big_quiet_step ((first | (go_at_call 40;exact mV.o _) | (go_at_call 41;exact mi.o _) | (go_at_call 28;exact Lt.o _))) | quiet_step ((first | (go_at_call 40;exact mV.o _) | (go_at_call 41;exact mi.o _) | (go_at_call 28;exact Lt.o _))))
          refine wpQuiet_nil ?_
          intro _ hw'
          obtain⟨x,hw''⟩:=hw'
          subst hw''
          go_wp2
          go_meet
          exact⟨by rw[qR.o];simp[tH,Ch.o,ab3,ab0],x.keeps⟩
       · have hTi:((np:Int)==TT)=false:=by rw[beq_eq_false_iff_ne];exact EI
         have Ch:=ai EI
         clear EI
         as_aux_lemma =>
          refine Q.aX (by kernel_rfl) (by kernel_rfl) ?_
          repeat (first | go_big_quiet_step ((first | (go_at_call 40;exact mV.o _) | (go_at_call 41;exact mi.o _) | (go_at_call 28;exact Lt.o _))) | quiet_step ((first | (go_at_call 40;exact mV.o _) | (go_at_call 41;exact mi.o _) | (go_at_call 28;exact Lt.o _))))
          refine wpQuiet_nil ?_
          intro _ hw'
          obtain⟨x,hw''⟩:=hw'
          subst hw''
          go_wp2
          go_meet
          exact⟨by rw[qR.o];simp[tH,Ch.o],x.keeps⟩
    case rest =>
     obtain⟨rfl,hbc⟩:=hcut
     have kO:=ai hbc
     have Y4:=ai (B.below We.o hbc (B.isLt We.o))
     have XSC:=ai (B.below XS.o hbc hsl)
     have Lv:=ai (jq.o.trans (hbc.mono jq.o.size))
     have Az:=ai (oL.o.trans (hbc.mono oL.o.size))
     clear HP HC HT hbc
     cases BD with
     | true =>
      have fL:Hid (A=1):=uu.o rfl
      clear K7 Tm yz mh qB kq uu O9 Hm Ey We oL ve c0 c1 c2 c5 d0 d1 d2 d3 d4 d5 d6 d7 d8 d9 d10 d11 d12 HX HB HH HF
      go_wp2
      go_ret
      exact⟨by rw[fL.o];rfl,Az.o⟩
     | false =>
      obtain⟨hT1,XU,hC1,YB⟩:=mh.o T qR.o.symm
      have ZL:=ai (K7.o hC1)
      have Vy:=ai (qB.o XU hC1 YB)
      have VK:=ai (Ey.o hT1)
      clear K7 mh qB Ey uu We oL ve c0 c1 c2 d0 d1 d2 d3 d4 d5 d6 d7 d8 d9 d10 d11 d12 HX HH HF hT1 XU hC1 YB qR x0 x1 x2 x3
      have y2:wc.cell? (Ad sb 2)=some (.slice ap np cp):=B.cell XSC.o 2 rfl
      go_wp2
      clear y2
      go_loopw [6] (fun iv wi=>∃m:Nat,m<=np/\iv=I (m:Int)/\bO s m/\wi.heap[sb]?=some (.cells #[.bool lv,.slice aa na ca,.slice ap np cp] 53 (0,0))/\wi.heap[w.heap.size]?=some (.cells #[I sl,.slice (some (Ad b off)) nr cs,.slice (some (Ad b2 l9)) nr cr,.slice ao no co] 30 (0,0))/\Below WR.heap.size WR wi) (fun iv _=>np-(intOf iv).toNat)
      case atStart=>exact⟨0,by omega,rfl,(fun j hj=>absurd hj (Nat.not_lt_zero _)),XSC.o,Y4.o,Lv.o⟩
      case round =>
       obtain⟨m,hm,rfl,hpt,hxs,hxf,IE⟩:=hrel
       have Hj:=ai hpt
       have U5:=ai hxs
       have HXF:=ai hxf
       have VH:=ai IE
       have pR:=ai (HB.o.trans (IE.mono HB.o.size))
       have z1:wr.cell? (Ad sb 1)=some (.slice aa na ca):=B.cell hxs 1 rfl
       have z2:wr.cell? (Ad sb 2)=some (.slice ap np cp):=B.cell hxs 2 rfl
       have Du:=B.isLt hxs
       clear hpt hxs hxf XSC Y4 Lv kO Az
       by_cases VW:m<np
       · obtain⟨bp,J4,hap,acA,M3⟩:=(Tm.o.below IE) (show 0<s.aj.length by rw[<- vd.o];omega)
         subst hap
         obtain⟨p0,p1⟩:=M3 m (by rw[<- vd.o];exact VW)
         have HPV:Hid (∀m',m=m'+1->wr.cell? (Ad bp (J4+m'*2))=some (I (FM.aN s.aj (m-1)).page)):=fun m' g=>by
          subst g
          exact(M3 m' (by rw[<- vd.o];omega)).1
         have hzs:=yz.o m VW
         have Pb:=ai (ZL.o (FM.aN s.aj m).page)
         have Ti:=ai (fun g1 g2 g3=>je (s:=s) (k:=m) Hj.o g1 g2 g3)
         have Ex:Hid (¬((AM.aW s.aw (FM.aN s.aj m).page).2=true/\(0<m->(FM.aN s.aj (m-1)).page<(FM.aN s.aj m).page)/\(FM.aN s.aj m).data.size=16)->A=1):=fun g=>O9.o (kq.o (fun e=>g (e m VW)))
         obtain⟨TR,XH⟩:=ex ((FM.aN s.aj m).page)
         obtain⟨dt,DA⟩:=ex ((FM.aN s.aj m).data)
         obtain⟨VP,XG⟩:=ex ((FM.aN s.aj (m-1)).page)
         rw[<- XH] at p0 Pb Ti Ex
         rw[<- DA] at p1 hzs Ti Ex
         rw[<- XG] at HPV Ti Ex
         obtain⟨FF,hFF⟩:=ex ((AM.aW s.aw TR).2)
         rw[<- hFF] at Pb Ti Ex
         have hmi:(m:Int)<(np:Int):=by omega
         clear XH DA XG hFF M3 ZL kq Hj O9 Vy VK Hm IE Tm yz
         go_upto_region 14 with fail
         have jL:=ai (VH.o.trans ((Below.refl wr.heap.size wr).drew.mono VH.o.size))
         have qp:=ai (VH.o.trans (((Below.refl wr.heap.size wr).alloc (Nat.le_refl _) (.cells #[I 0,I 0,I 0,.bool false] 59)).drew.mono VH.o.size))
         have Jj:=ai (Below.refl wr.heap.size wr).drew
         have HKB:=ai ((Below.refl wr.heap.size wr).alloc (Nat.le_refl _) (.cells #[I 0,I 0,I 0,.bool false] 59)).drew
         have Pz:Hid (((wr.alloc (.cells #[I 0,I 0,I 0,.bool false] 59)).drew).heap[wr.heap.size]?=some (.cells #[I 0,I 0,I 0,.bool false] 59 (0,0))):=B.new wr #[I 0,I 0,I 0,.bool false] 59
         go_cut [7,8] (fun x7 x8 wx=>(∃g,x7=.pointer (some (Ad g 0)))/\x8=.bool FF/\Below wr.heap.size wr wx)
         case first =>
          go_region_law (go_simp;go_at_call 42;first | (refine(Pb.o _ jL.o).mono ?_;rintro e w1 ⟨⟨g1,g2,g3,g4,rfl⟩,hb1⟩;have bh:=ai (Jj.o.trans (hb1.mono Jj.o.size));clear hb1;go_simp) | (refine(Pb.o _ qp.o).mono ?_;rintro e w1 ⟨⟨g1,g2,g3,g4,rfl⟩,hb1⟩;have bh:=ai (HKB.o.trans (hb1.mono HKB.o.size));have hz:=B.below Pz.o hb1 (B.isLt Pz.o);obtain⟨k0,k1,k2,k3⟩:=B.c4 hz;have kf:=B.free hz;clear hz hb1;go_simp))
          all_goals
           go_wp2_with fail
           go_meet
           case rel=>exact⟨⟨_,rfl⟩,rfl,by first | exact bh.o.alloc bh.o.size _ | exact(((bh.o.setCell (p:=(Ad wr.heap.size 0)) (Nat.le_refl _) _).setCell (p:=(Ad wr.heap.size 1)) (Nat.le_refl _) _).setCell (p:=(Ad wr.heap.size 2)) (Nat.le_refl _) _).setCell (p:=(Ad wr.heap.size 3)) (Nat.le_refl _) _⟩
         case rest =>
          obtain⟨⟨ga,rfl⟩,rfl,xI⟩:=hcut
          have adY:=ai xI
          have qx:=Q.dZ wc
          have ve:=ai (@Q.cD wc)
          have ahS:=xI.size
          have z2':∀x:Q.dG wc.heap.size wc,x.world.cell? (Ad sb 2)=some (.slice (some (Ad bp J4)) np cp):=fun x=>(ve.o x _ _ (by omega)).trans ((M.aA xI (by omega)).trans z2)
          have p0':∀x:Q.dG wc.heap.size wc,x.world.cell? (Ad bp (J4+m*2))=some (I TR):=fun x=>(ve.o x _ _ (by omega)).trans ((M.aA xI (by omega)).trans p0)
          have p1':∀x:Q.dG wc.heap.size wc,x.world.cell? (Ad bp (J4+m*2+1))=some (.string dt):=fun x=>(ve.o x _ _ (by omega)).trans ((M.aA xI (by omega)).trans p1)
          have Zj:Hid (0<m->∀x:Q.dG wc.heap.size wc,x.world.cell? ⟨bp,J4+(m-1)*2,none⟩=some (I VP)):=fun g x=>(ve.o x _ _ (by omega)).trans ((M.aA xI (by omega)).trans (HPV.o (m-1) (by omega)))
          have HBU:=ai (pR.o.trans (xI.mono pR.o.size))
          have SA:=ai (VH.o.trans (xI.mono VH.o.size))
          have RU:=ai (B.below U5.o xI (B.isLt U5.o))
          have RV:=ai (B.below HXF.o xI (B.isLt HXF.o))
          clear Pb jL qp Jj HKB Pz HPV xI ve p0 p1 z1 z2 VH U5 HXF pR
          obtain⟨BE,hBE⟩:=ex (Al FF (decide (0<m->VP<TR)) dt.size)
          have ET:=ai hBE
          clear hBE
          go_upto_region 15 with fail
          go_cut [143] (fun c wx=>c=.bool BE/\Below wc.heap.size wc wx)
          case first =>
           clear Ti Ex HBU SA RU RV adY
           cases FF with
           | false =>
            as_aux_lemma =>
             refine Q.aX (by kernel_rfl) (by kernel_rfl) ?_
             repeat (first | go_big_quiet_step (fail) | quiet_step (fail))
             refine wpQuiet_nil ?_
             intro _ hw'
             obtain⟨x,hw''⟩:=hw'
             subst hw''
             go_wp2
             go_meet
             exact⟨by rw[ET.o];rfl,x.keeps⟩
           | true =>
            by_cases hm0:0<m
            · have ab9:(0:Int)<(m:Int):=by omega
              have p2':=Zj.o hm0
              by_cases hq:TR<=VP
              · have QG:decide (0<m->VP<TR)=false:=decide_eq_false (fun g=>by have:=g hm0;omega)
                as_aux_lemma =>
                 refine Q.aX (by kernel_rfl) (by kernel_rfl) ?_
                 repeat (first | go_big_quiet_step (fail) | quiet_step (fail))
                 refine wpQuiet_nil ?_
                 intro _ hw'
                 obtain⟨x,hw''⟩:=hw'
                 subst hw''
                 go_wp2
                 go_meet
                 exact⟨by rw[ET.o,QG];rfl,x.keeps⟩
              · have QG:decide (0<m->VP<TR)=true:=decide_eq_true (fun _=>by omega)
                by_cases hz:dt.size=16
                · have VR:((dt.size:Int)==16)=true:=by rw[beq_iff_eq];omega
                  as_aux_lemma =>
                   refine Q.aX (by kernel_rfl) (by kernel_rfl) ?_
                   repeat (first | go_big_quiet_step (fail) | quiet_step (fail))
                   refine wpQuiet_nil ?_
                   intro _ hw'
                   obtain⟨x,hw''⟩:=hw'
                   subst hw''
                   go_wp2
                   go_meet
                   exact⟨by rw[ET.o,QG];simp[Al,hz],x.keeps⟩
                · have VR:((dt.size:Int)==16)=false:=by rw[beq_eq_false_iff_ne];omega
                  as_aux_lemma =>
                   refine Q.aX (by kernel_rfl) (by kernel_rfl) ?_
                   repeat (first | go_big_quiet_step (fail) | quiet_step (fail))
                   refine wpQuiet_nil ?_
                   intro _ hw'
                   obtain⟨x,hw''⟩:=hw'
                   subst hw''
                   go_wp2
                   go_meet
                   exact⟨by rw[ET.o,QG];simp[Al,hz];omega,x.keeps⟩
            · have ab9:¬(0:Int)<(m:Int):=by omega
              have QG:decide (0<m->VP<TR)=true:=decide_eq_true (fun g=>by omega)
              by_cases hz:dt.size=16
              · have VR:((dt.size:Int)==16)=true:=by rw[beq_iff_eq];omega
                as_aux_lemma =>
                 refine Q.aX (by kernel_rfl) (by kernel_rfl) ?_
                 repeat (first | go_big_quiet_step (fail) | quiet_step (fail))
                 refine wpQuiet_nil ?_
                 intro _ hw'
                 obtain⟨x,hw''⟩:=hw'
                 subst hw''
                 go_wp2
                 go_meet
                 exact⟨by rw[ET.o,QG];simp[Al,hz],x.keeps⟩
              · have VR:((dt.size:Int)==16)=false:=by rw[beq_eq_false_iff_ne];omega
                as_aux_lemma =>
                 refine Q.aX (by kernel_rfl) (by kernel_rfl) ?_
                 repeat (first | go_big_quiet_step (fail) | quiet_step (fail))
                 refine wpQuiet_nil ?_
                 intro _ hw'
                 obtain⟨x,hw''⟩:=hw'
                 subst hw''
                 go_wp2
                 go_meet
                 exact⟨by rw[ET.o,QG];simp[Al,hz];omega,x.keeps⟩
          case rest =>
           obtain⟨rfl,Ng⟩:=hcut
           have VE:=ai (HBU.o.trans (Ng.mono HBU.o.size))
           have adV:=ai (SA.o.trans (Ng.mono SA.o.size))
           have ac7:=ai (B.below RU.o Ng (B.isLt RU.o))
           have ac8:=ai (B.below RV.o Ng (B.isLt RV.o))
           have ze:=ET.o
           unfold Al at ze
           clear Ng ET z2' p0' p1' Zj qx HBU SA RU RV
           cases BE with
           | true =>
            have fL:Hid (A=1):=Ex.o (fun ⟨g1,g2,g3⟩=>by rw[g1,decide_eq_true g2,decide_eq_true g3] at ze;cases ze)
            clear ze Ex Ti
            go_wp2
            go_ret
            exact⟨by rw[fL.o];rfl,VE.o⟩
           | false =>
            have Vg:Hid (bO s (m+1)):=by
             have e1:=ze.symm
             simp only[Bool.or_eq_false_iff,Bool.not_eq_false',decide_eq_true_eq] at e1
             exact Ti.o e1.1.1 e1.1.2 e1.2
            clear ze Ex Ti
            go_wp2
            go_roundw
            case rel=>exact⟨m+1,by omega,by go_num,Vg.o,ac7.o,ac8.o,adV.o⟩
            case measure=>simp[intOf];omega
       · obtain rfl:m=np:=by omega
         have ad2:=ai (VK.o (Vy.o Hj.o))
         clear IE VK Vy Hj
         go_wp2
         go_roundw
         case rel=>exact⟨k+1,by omega,by go_num,by rw[Hm.o],ad2.o,HXF.o,pR.o⟩
         case measure=>simp[intOf];omega
  · obtain rfl:k=nr:=by omega
    have Jk:=ai (VC.o nE.o)
    obtain⟨LT,hLT⟩:=ex (FM.jD ss k)
    rw[<- hLT] at Jk hlb ⊢
    have U7:=ai (U6.o _ hb)
    clear hb hLT nE VC VI VG OQ Tu U6
    by_cases hq:sl<LT
    · have fL:Hid (A=1):=by
       show _=_
       rw[Jk.o,decide_eq_false (by omega)]
       rfl
      clear Jk
      go_wp2
      go_ret
      exact⟨by rw[fL.o];rfl,HB.o⟩
    · have QG:decide (LT<=sl)=true:=decide_eq_true (by omega)
      rw[QG,Bool.true_and] at Jk
      cases WO with
      | true =>
       have fL:Hid (A=0):=Jk
       clear Jk
       go_wp2_with (go_at_call 43;refine U7.o.mono ?_;rintro e w1 ⟨rfl,hb1⟩;have bh:=ai (aB HB.o hb1);clear hb1)
       go_ret
       exact⟨by rw[fL.o];rfl,bh.o⟩
      | false =>
       have fL:Hid (A=1):=Jk
       clear Jk
       go_wp2_with (go_at_call 43;refine U7.o.mono ?_;rintro e w1 ⟨rfl,hb1⟩;have bh:=ai (aB HB.o hb1);clear hb1)
       go_ret
       exact⟨by rw[fL.o];rfl,bh.o⟩
end GR
namespace LM
open Go.RowKit
def Wy (l:List M.Sy) (s:ByteArray):Option Nat:=l.findIdx? (fun y=>decide (y.name=s))
def abc (o:Ob) (s:ByteArray):Option Int:=match Wy o.i.syms s with
 | none=>none
 | some k=>some (u7 o (M.PX o.i.syms k).pos)
def SL (l:List Ob) (s:ByteArray):Nat->Option Int
 | 0=>none
 | k+1=>match SL l s k with
  | some t=>some t
  | none=>abc (dO l k) s
def TC (l:List Ob) (o:Ob) (s:ByteArray):Option Int:=if s=⟨#[]⟩ then some (u7 o 0) else SL l s l.length
theorem zM {i:M.Im} (hc:M.jm i=0):M.vT i=true:=by
 unfold M.jm at hc
 split at hc
 · simp at hc
 · split at hc
   · simp at hc
   · split at hc
     · simp at hc
     · split at hc
       · simp at hc
       · split at hc
         · simp at hc
         · rename_i h
           simpa using h
theorem zF:∀{l:List M.Sg} {a:Int} {s:M.Sg},M.lD l a=some s->(∃k,k<l.length/\M.dz l k=s)/\M.mC s a=true
 | [],a,s,h=>by cases h
 | x::r,a,s,h=>by
  simp only[M.lD] at h
  split at h
  · rename_i hi
    injection h with h
    subst h
    exact⟨⟨0,by simp,rfl⟩,hi⟩
  · obtain⟨⟨k,hk,e⟩,hi⟩:=zF h
    exact⟨⟨k+1,by simpa using hk,by simpa [M.dz] using e⟩,hi⟩
theorem gY {i:M.Im} (hc:M.jm i=0) {a:Int} (h:M.dP i.cX a=true):0<=a/\a<4080:=by
 unfold M.dP at h
 obtain⟨s,hs⟩:=Option.isSome_iff_exists.1 h
 obtain⟨⟨k,hk,e⟩,hi⟩:=zF hs
 have hb:=nL hc k hk
 rw[e] at hb
 unfold M.mC at hi
 have:=of_decide_eq_true hi
 omega
theorem zI (i:M.Im):∀n,M.AZ i n=true->∀k,k<n->M.Ib i k=true
 | 0,_,k,hk=>by omega
 | n+1,h,k,hk=>by
  simp only[M.AZ,Bool.and_eq_true] at h
  by_cases e:k=n
  · subst e;exact h.2
  · exact zI i n h.1 k (by omega)
theorem TQ {i:M.Im} (hc:M.jm i=0) (k:Nat) (hk:k<i.fh.length):M.Ib i k=true:=by
 have h:=zM hc
 unfold M.vT at h
 simp only[Bool.and_eq_true] at h
 exact zI i i.fh.length h.2.1 k hk
theorem Fi {i:M.Im} (hc:M.jm i=0) (k:Nat) (hk:k<i.fh.length):0<=(M.qw i.fh k).pos/\(M.qw i.fh k).pos+7<4080:=by
 have h:=TQ hc k hk
 unfold M.Ib M.LJ at h
 simp only[Bool.and_eq_true] at h
 have h0:=gY hc h.2.1
 have h7:=gY hc h.2.2.2.2.2.2.2.2
 omega
theorem BG {i:M.Im} (hc:M.jm i=0):0<=i.entry/\i.entry<4080:=by
 have h:=zM hc
 unfold M.vT at h
 simp only[Bool.and_eq_true] at h
 have he:=h.2.2
 unfold M.uh at he
 refine gY hc ?_
 unfold M.dP
 cases e:M.lD i.cX i.entry with
 | none=>rw[e] at he;cases he
 | some s=>rfl
def abg (o:Ob) (r:M.Rl) (t:Int):Pt:=⟨u7 o r.pos,⟨(Lib.leBytes 8 (CM.low (t+r.add))).toArray⟩⟩
def qE (l:List Ob) (o:Ob):Nat->Option (List Pt)
 | 0=>some []
 | k+1=>match qE l o k with
  | none=>none
  | some ps=>match TC l o (M.qw o.i.fh k).name with
   | none=>none
   | some t=>some (ps++[abg o (M.qw o.i.fh k) t])
def wW (l:List Ob) (o:Ob):Option (List Pt):=qE l o o.i.fh.length
theorem zQ {l:List Ob} {o:Ob}:∀{k:Nat} {ps:List Pt},qE l o k=some ps->ps.length=k
 | 0,ps,h=>by simp only[qE] at h;injection h with h;subst h;rfl
 | k+1,ps,h=>by
  simp only[qE] at h
  cases e:qE l o k with
  | none=>rw[e] at h;cases h
  | some qs =>
   rw[e] at h
   simp only at h
   cases g:TC l o (M.qw o.i.fh k).name with
   | none=>rw[g] at h;cases h
   | some t =>
    rw[g] at h
    simp only at h
    injection h with h
    subst h
    rw[List.length_append,zQ e]
    rfl
end LM
namespace LW
open Go.RowKit
open W (ai)
structure Oi (l:List LM.Ob) (ao:Option Addr) (w:World):Prop where
 has:LM.Oy w ao l
 few:l.length<=1000
 YM:∀k,k<l.length->M.jm (LM.dO l k).i=0
 fit:∀k,k<l.length->M.Fit (LM.dO l k).i
 base:∀k,k<l.length->1<=(LM.dO l k).base/\(LM.dO l k).base<=2000
theorem Oi.below {l:List LM.Ob} {ao:Option Addr} {w w':World} (h:Oi l ao w) (hb:Below w.heap.size w w'):Oi l ao w':=⟨h.has.below hb,h.few,h.YM,h.fit,h.base⟩
def Au (R:Option (List LM.Pt)) (w:World) (e:Ending) (w':World):Prop:=Below w.heap.size w w'/\match R with
 | none=>e=.returned (.tuple #[Nl,.bool false])
 | some ps=>∃v,e=.returned (.tuple #[v,.bool true])/\w'.ownsRow w.heap.size 228 2 v ps.length (ps.flatMap LM.I6)
end LW
namespace LM
open Go.RowKit
structure Sp where
 page:Int
 data:ByteArray
 ik:List Fx
def plain (s:Sh):Sp:=⟨s.page,s.data,s.ik⟩
def pgN (o:Ob) (ps:List Pt) (s:M.Sg) (m:Nat):Sp:=⟨o.base+s.page+(m:Int),sK s m,gv (o.base+s.page+(m:Int)) ps⟩
def wV (o:Ob) (ps:List Pt) (s:M.Sg) (n:Nat):List Sp:=(List.range n).map (pgN o ps s)
def uA (o:Ob) (ps:List Pt):Nat->List Sp
 | 0=>[]
 | k+1=>uA o ps k++wV o ps (M.dz o.i.cX k) (M.dz o.i.cX k).aj.toNat
def qF (l:List Ob):Nat->Option (List Sp)
 | 0=>some []
 | k+1=>match qF l k with
  | none=>none
  | some E=>match wW l (dO l k) with
   | none=>none
   | some ps=>some (E++uA (dO l k) ps (dO l k).i.cX.length)
def kQ (l:List Ob):Option (List Sp):=qF l l.length
theorem Fu (o:Ob) (ps:List Pt) (s:M.Sg) (n:Nat):wV o ps s (n+1)=wV o ps s n++[pgN o ps s n]:=by
 unfold wV
 rw[List.range_succ,List.map_append]
 rfl
theorem xg {l:List Ob} {k:Nat} (h:qF l k=none):∀n,k<=n->qF l n=none
 | 0, hn => by obtain rfl:k=0 := by omega
               exact h
 | n+1,hn=>by
  by_cases e:k=n+1
  · subst e;exact h
  · simp only[qF]
    rw[xg h n (by omega)]
theorem Ih {l:List Ob} {o:Ob} (hc:M.jm o.i=0) (h0:1<=o.base) (h1:o.base<=2000):∀(k:Nat) (ps:List Pt),k<=o.i.fh.length->qE l o k=some ps->∀j,j<ps.length->ot (yR ps j)
 | 0,ps,_,h,j,hj=>by simp only[qE] at h;injection h with h;subst h;simp at hj
 | k+1,ps,hk,h,j,hj=>by
  simp only[qE] at h
  cases e:qE l o k with
  | none=>rw[e] at h;cases h
  | some qs =>
   rw[e] at h
   simp only at h
   cases g:TC l o (M.qw o.i.fh k).name with
   | none=>rw[g] at h;cases h
   | some t =>
    rw[g] at h
    simp only at h
    injection h with h
    subst h
    rw[List.length_append] at hj
    by_cases hjq:j<qs.length
    · have:=Ih hc h0 h1 k qs (by omega) e j hjq
      unfold yR at this ⊢
      rw[List.getD_eq_getElem?_getD,List.getElem?_append_left hjq,<- List.getD_eq_getElem?_getD]
      exact this
    · have hje:j=qs.length:=by simp at hj;omega
      subst hje
      unfold yR
      rw[List.getD_eq_getElem?_getD,List.getElem?_append_right (Nat.le_refl _),Nat.sub_self]
      have hb:=Fi hc k (by omega)
      refine⟨?_,?_,?_⟩
      · show 0<=o.base*16+(M.qw o.i.fh k).pos
        omega
      · show o.base*16+(M.qw o.i.fh k).pos<=1000000
        omega
      · show(⟨(Lib.leBytes 8 (CM.low (t+(M.qw o.i.fh k).add))).toArray⟩:ByteArray).size=8
        rw[Lib.size_eq]
        simp[Lib.leBytes]
def pO (rb:Option Nat) (w:World) (ao:Option Addr) (l:List Fx):Prop:=0<l.length->∃b off,ao=some (Ad b off)/\b<w.heap.size/\some b≠rb/\Hc w b off l
theorem pO.has {rb:Option Nat} {w:World} {ao:Option Addr} {l:List Fx} (h:pO rb w ao l):Cg w ao l:=fun hl=>by
 obtain⟨b,off,h1,h2,_,h3⟩:=h hl
 exact⟨b,off,h1,h2,h3⟩
theorem pO.below {rb:Option Nat} {w w':World} {ao:Option Addr} {l:List Fx} (h:pO rb w ao l) (hb:Below w.heap.size w w'):pO rb w' ao l:=fun hl=>by
 obtain⟨b,off,h1,h2,h3,h4⟩:=h hl
 exact⟨b,off,h1,Nat.lt_of_lt_of_le h2 hb.size,h3,Xa hb h2 h4⟩
theorem FR {w w':World} {b off:Nat} {l:List Fx} (h:Hc w b off l) (hb:w'.heap[b]?=w.heap[b]?):Hc w' b off l:=fun i hi=>by
 obtain⟨c0,c1⟩:=h i hi
 exact⟨(World.cell?_of_block hb).trans c0,(World.cell?_of_block hb).trans c1⟩
theorem pO.grown {rb:Option Nat} {w w':World} {ao:Option Addr} {l:List Fx} {g:Nat} (h:pO rb w ao l) (hg:w.grownBy w' rb) (hs:w.heap.size<=w'.heap.size) (hat:rb=some g∨g=w.heap.size):pO (some g) w' ao l:=fun hl=>by
 obtain⟨b,off,h1,h2,h3,h4⟩:=h hl
 refine⟨b,off,h1,Nat.lt_of_lt_of_le h2 hs,fun e=>?_,FR h4 (hg.block b h2 h3)⟩
 injection e with e
 rcases hat with hat | hat
 · exact h3 (by rw[hat,e])
 · omega
def ZU (rb:Option Nat) (w:World) (hs:List Sh):Prop:=∀k,k<hs.length->pO rb w (gu hs k).ao (gu hs k).ik
def Ea (s:Sh):List Value:=[I s.page,.string s.data,.slice s.ao s.ik.length s.cap]
theorem JM (l:List Sh) (x:Sh) (k:Nat) (h:k<l.length):gu (l++[x]) k=gu l k:=by
 unfold gu
 rw[List.getD_eq_getElem?_getD,List.getElem?_append_left h,<- List.getD_eq_getElem?_getD]
theorem JN (l:List Sh) (x:Sh):gu (l++[x]) l.length=x:=by
 unfold gu
 rw[List.getD_eq_getElem?_getD,List.getElem?_append_right (Nat.le_refl _)]
 simp
end LM
end Go.Proofs.YtkdigjpejnebkaaGreat
