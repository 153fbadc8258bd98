import Derived.Test.YtkdigjpejnebkaaGreatGU00
import Derived.Test.YtkdigjpejnebkaaGreatGU02
import Derived.Test.YtkdigjpejnebkaaGreatGU05
import Derived.Deep.RegionHeld3
set_option maxHeartbeats 20000000
set_option linter.unusedVariables false
set_option maxRecDepth 100000
set_option linter.unusedSimpArgs false
namespace Go.Proofs.YtkdigjpejnebkaaGreat
namespace FW
open Go.RowKit
def Cb (w:World) (b off:Nat) (l:List PM.Pr):Prop:=∀i,i<l.length->w.cell? (Ad b (off+i*13))=some (I ((FM.au l i).r 0))/\w.cell? (Ad b (off+i*13+1))=some (I ((FM.au l i).r 1))/\w.cell? (Ad b (off+i*13+2))=some (I ((FM.au l i).r 2))/\w.cell? (Ad b (off+i*13+3))=some (I ((FM.au l i).r 3))/\w.cell? (Ad b (off+i*13+4))=some (I ((FM.au l i).r 4))/\w.cell? (Ad b (off+i*13+5))=some (I ((FM.au l i).r 5))/\w.cell? (Ad b (off+i*13+6))=some (I ((FM.au l i).r 6))/\w.cell? (Ad b (off+i*13+7))=some (I ((FM.au l i).r 7))/\w.cell? (Ad b (off+i*13+8))=some (I (FM.au l i).pc)/\w.cell? (Ad b (off+i*13+9))=some (I (FM.au l i).st)/\w.cell? (Ad b (off+i*13+10))=some (I (FM.au l i).cd)/\w.cell? (Ad b (off+i*13+11))=some (I (FM.au l i).fk)/\w.cell? (Ad b (off+i*13+12))=some (I (FM.au l i).fa)
theorem Uf {w w':World} {b off:Nat} {l:List PM.Pr} (hb:Below w.heap.size w w') (hlt:b<w.heap.size) (h:Cb w b off l):Cb w' b off l:=fun i hi=>by
 obtain⟨c0,c1,c2,c3,c4,c5,c6,c7,c8,c9,c10,c11,c12⟩:=h i hi
 exact⟨(M.aA hb hlt).trans c0,(M.aA hb hlt).trans c1,(M.aA hb hlt).trans c2,(M.aA hb hlt).trans c3,(M.aA hb hlt).trans c4,(M.aA hb hlt).trans c5,(M.aA hb hlt).trans c6,(M.aA hb hlt).trans c7,(M.aA hb hlt).trans c8,(M.aA hb hlt).trans c9,(M.aA hb hlt).trans c10,(M.aA hb hlt).trans c11,(M.aA hb hlt).trans c12⟩
def yu (w:World) (ao:Option Addr) (l:List PM.Pr):Prop:=M.dU Cb w ao l
theorem yu.below {w w':World} {ao:Option Addr} {l:List PM.Pr} (h:yu w ao l) (hb:Below w.heap.size w w'):yu w' ao l:=M.dU.below (lie:=Cb) (fun hb hlt h=>Uf hb hlt h) h hb
def RH (w:World) (b off:Nat) (l:List FM.Wd):Prop:=∀i,i<l.length->w.cell? (Ad b (off+i*2))=some (I (FM.lA l i).proc)/\w.cell? (Ad b (off+i*2+1))=some (I (FM.lA l i).value)
theorem abF {w w':World} {b off:Nat} {l:List FM.Wd} (hb:Below w.heap.size w w') (hlt:b<w.heap.size) (h:RH w b off l):RH w' b off l:=fun i hi=>by
 obtain⟨c0,c1⟩:=h i hi
 exact⟨(M.aA hb hlt).trans c0,(M.aA hb hlt).trans c1⟩
def yt (w:World) (ao:Option Addr) (l:List FM.Wd):Prop:=M.dU RH w ao l
theorem yt.below {w w':World} {ao:Option Addr} {l:List FM.Wd} (h:yt w ao l) (hb:Below w.heap.size w w'):yt w' ao l:=M.dU.below (lie:=RH) (fun hb hlt h=>abF hb hlt h) h hb
theorem CX (l:List PM.Pr) (o:List FM.Wd) (lv:Nat->Bool) (ar ao:Option Addr) (cr co P:Nat) (w:World) (h:yu w ar l) (ho:yt w ao o) (hn:l.length<=140737488351232) (hno:o.length<=140737488351232)
  (hlv:∀k,k<l.length->∀V,Below w.heap.size w V->Calls Tryz.prog 39 #[I (k:Int),.pointer (some (Ad P 0))] V fun e w'=>e=.returned (.bool (lv k))/\Below V.heap.size V w') :
  Calls Tryz.prog 38 #[.slice ar l.length cr,.slice ao o.length co,.func (.func 39) #[] #[.pointer (some (Ad P 0))]] w fun e w'=>e=.returned (.bool (FM.eV l o lv))/\Below w.heap.size w w':=by
 have HH:=ai h
 have HO:=ai ho
 have qA:=ai hlv
 have RU:Hid (∀k,FM.fG l lv (k+1)=(FM.fG l lv k&&FM.tX l lv k)):=fun k=>rfl
 have Vn:Hid (∀k,k<=l.length->FM.fG l lv k=false->FM.eV l o lv=false):=fun k hk e=>by
  unfold FM.eV
  rw[FM.uE e _ hk,Bool.false_and]
 have EF:Hid (∀k,k<=o.length->FM.dh o l.length k=false->FM.eV l o lv=false):=fun k hk e=>by
  unfold FM.eV
  rw[FM.oN e _ hk,Bool.and_false]
 have KO:Hid (FM.fG l lv l.length=true->FM.dh o l.length o.length=true->FM.eV l o lv=true):=fun h1 h2=>by
  unfold FM.eV
  rw[h1,h2]
  rfl
 obtain⟨A,hA⟩:=ex (FM.eV l o lv)
 rw[<- hA] at Vn EF KO ⊢
 clear h ho hlv hA
 go_enter Tryz.func38,Tryz.ntmps38
 go_wp2
 go_loopw [13] (fun iv wr=>∃k:Nat,k<=l.length/\iv=I (k:Int)/\FM.fG l lv k=true/\Below w.heap.size w wr) (fun iv _=>l.length-(intOf iv).toNat)
 case atStart=>exact⟨0,by omega,rfl,rfl,Below.refl _ _⟩
 case round =>
  obtain⟨k,hk,rfl,hall,hb⟩:=hrel
  have HB:=ai hb
  have nD:=ai hall
  clear hall
  by_cases hlt:k<l.length
  · obtain⟨b,off,hao,hbl,bP⟩:=(HH.o.below hb) (by omega)
    subst hao
    obtain⟨c0,c1,c2,c3,c4,c5,c6,c7,c8,c9,c10,c11,c12⟩:=bP k hlt
    have yz:Hid (FM.fG l lv (k+1)=(FM.bT (FM.au l k)&&lv k==((FM.au l k).st==1))):=by
     show _=_
     rw[RU.o,nD.o,Bool.true_and]
     unfold FM.tX
     congr 2
    have El:=ai (Vn.o (k+1) (by omega))
    obtain⟨q,hq⟩:=ex (FM.au l k)
    rw[<- hq] at yz c0 c1 c2 c3 c4 c5 c6 c7 c8 c9 c10 c11 c12
    have HRP:Hid (∀V,Calls Tryz.prog 75 #[.agg #[I (q.r 0),I (q.r 1),I (q.r 2),I (q.r 3),I (q.r 4),I (q.r 5),I (q.r 6),I (q.r 7),I q.pc,I q.st,I q.cd,I q.fk,I q.fa]] V fun e w'=>e=.returned (.bool (FM.bT q))/\Below V.heap.size V w'):=fun V=>yN q V
    have VC:=ai (qA.o k hlt)
    obtain⟨L,hL⟩:=ex (lv k)
    rw[<- hL] at yz VC
    obtain⟨T,hT⟩:=ex (FM.bT q)
    rw[<- hT] at yz HRP
    clear hq hL hT bP hb
    have dJ:=ai (HB.o.alloc HB.o.size (.cells #[I (q.r 0),I (q.r 1),I (q.r 2),I (q.r 3),I (q.r 4),I (q.r 5),I (q.r 6),I (q.r 7),I q.pc,I q.st,I q.cd,I q.fk,I q.fa] 70))
    go_wp2_with fail
    obtain⟨W,hW⟩:=ex (wr.alloc (.cells #[I (q.r 0),I (q.r 1),I (q.r 2),I (q.r 3),I (q.r 4),I (q.r 5),I (q.r 6),I (q.r 7),I q.pc,I q.st,I q.cd,I q.fk,I q.fa] 70))
    have HW:=ai hW
    have hs:W.heap.size=wr.heap.size+1:=by rw[hW];simp
    have oG:=Q.dS W
    have hkc:=@Q.cA W
    have e0:∀x:Q.dA W.heap.size W,x.world.cell? (Ad wr.heap.size 0)=some (I (q.r 0)):=fun x=>by rw[hkc x _ _ (by omega),hW];simp
    have e1:∀x:Q.dA W.heap.size W,x.world.cell? (Ad wr.heap.size 1)=some (I (q.r 1)):=fun x=>by rw[hkc x _ _ (by omega),hW];simp
    have e2:∀x:Q.dA W.heap.size W,x.world.cell? (Ad wr.heap.size 2)=some (I (q.r 2)):=fun x=>by rw[hkc x _ _ (by omega),hW];simp
    have e3:∀x:Q.dA W.heap.size W,x.world.cell? (Ad wr.heap.size 3)=some (I (q.r 3)):=fun x=>by rw[hkc x _ _ (by omega),hW];simp
    have e4:∀x:Q.dA W.heap.size W,x.world.cell? (Ad wr.heap.size 4)=some (I (q.r 4)):=fun x=>by rw[hkc x _ _ (by omega),hW];simp
    have e5:∀x:Q.dA W.heap.size W,x.world.cell? (Ad wr.heap.size 5)=some (I (q.r 5)):=fun x=>by rw[hkc x _ _ (by omega),hW];simp
    have e6:∀x:Q.dA W.heap.size W,x.world.cell? (Ad wr.heap.size 6)=some (I (q.r 6)):=fun x=>by rw[hkc x _ _ (by omega),hW];simp
    have e7:∀x:Q.dA W.heap.size W,x.world.cell? (Ad wr.heap.size 7)=some (I (q.r 7)):=fun x=>by rw[hkc x _ _ (by omega),hW];simp
    have e8:∀x:Q.dA W.heap.size W,x.world.cell? (Ad wr.heap.size 8)=some (I q.pc):=fun x=>by rw[hkc x _ _ (by omega),hW];simp
    have e9:∀x:Q.dA W.heap.size W,x.world.cell? (Ad wr.heap.size 9)=some (I q.st):=fun x=>by rw[hkc x _ _ (by omega),hW];simp
    have e10:∀x:Q.dA W.heap.size W,x.world.cell? (Ad wr.heap.size 10)=some (I q.cd):=fun x=>by rw[hkc x _ _ (by omega),hW];simp
    have e11:∀x:Q.dA W.heap.size W,x.world.cell? (Ad wr.heap.size 11)=some (I q.fk):=fun x=>by rw[hkc x _ _ (by omega),hW];simp
    have e12:∀x:Q.dA W.heap.size W,x.world.cell? (Ad wr.heap.size 12)=some (I q.fa):=fun x=>by rw[hkc x _ _ (by omega),hW];simp
    have oI:Hid (Below w.heap.size w W):=by show Below _ _ _;rw[hW];exact dJ.o
    clear hW hs hkc c0 c1 c2 c3 c4 c5 c6 c7 c8 c9 c10 c11 c12
    rw[<- HW.o]
    have lu:Hid (∀x:Q.dA W.heap.size W,Calls Tryz.prog 75 #[.agg #[I (q.r 0),I (q.r 1),I (q.r 2),I (q.r 3),I (q.r 4),I (q.r 5),I (q.r 6),I (q.r 7),I q.pc,I q.st,I q.cd,I q.fk,I q.fa]] x.world fun e w'=>e=.returned (.bool T)/\∃y:Q.dA W.heap.size W,w'=y.world):=fun x=>Q.bM HRP.o x
    have oa:Hid (∀x:Q.dA W.heap.size W,Calls Tryz.prog 39 #[I (k:Int),.pointer (some (Ad P 0))] x.world fun e w'=>e=.returned (.bool L)/\∃y:Q.dA W.heap.size W,w'=y.world):=fun x=>(VC.o x.world (aB oI.o x.keeps)).mono fun e w'' ⟨he,hb⟩=>⟨he,⟨w'',x.keeps.trans (hb.mono x.keeps.size)⟩,rfl⟩
    clear HRP VC
    cases T with
    | false =>
     have vg:=ai (El.o (by rw[yz.o,Bool.false_and]))
     clear yz El
     refine Q.aW (by kernel_rfl) (by kernel_rfl) ?_
     repeat (first | go_big_quiet_step ((first | (go_at_call 75;exact lu.o _) | (go_at_call 39;exact oa.o _))) | quiet_step ((first | (go_at_call 75;exact lu.o _) | (go_at_call 39;exact oa.o _))))
     refine wpQuiet_nil ?_
     intro _ hw'
     obtain⟨x,hw''⟩:=hw'
     subst hw''
     go_wp2
     go_ret
     exact⟨aY vg.o.symm,aB oI.o x.keeps⟩
    | true =>
     rw[Bool.true_and] at yz
     obtain⟨S,hS⟩:∃S,(q.st==1)=S:=⟨_,rfl⟩
     rw[hS] at yz
     cases L with
     | false =>
      cases S with
      | false =>
       have yw:Hid (FM.fG l lv (k+1)=true):=yz
       clear yz El
       refine Q.aW (by kernel_rfl) (by kernel_rfl) ?_
       repeat (first | go_big_quiet_step ((first | (go_at_call 75;exact lu.o _) | (go_at_call 39;exact oa.o _))) | quiet_step ((first | (go_at_call 75;exact lu.o _) | (go_at_call 39;exact oa.o _))))
       refine wpQuiet_nil ?_
       intro _ hw'
       obtain⟨x,hw''⟩:=hw'
       subst hw''
       go_wp2
       go_roundw
       case rel=>exact⟨k+1,by omega,by go_num,yw.o,aB oI.o x.keeps⟩
       case measure=>simp[intOf];omega
      | true =>
       have vg:=ai (El.o yz.o)
       clear yz El
       refine Q.aW (by kernel_rfl) (by kernel_rfl) ?_
       repeat (first | go_big_quiet_step ((first | (go_at_call 75;exact lu.o _) | (go_at_call 39;exact oa.o _))) | quiet_step ((first | (go_at_call 75;exact lu.o _) | (go_at_call 39;exact oa.o _))))
       refine wpQuiet_nil ?_
       intro _ hw'
       obtain⟨x,hw''⟩:=hw'
       subst hw''
       go_wp2
       go_ret
       exact⟨aY vg.o.symm,aB oI.o x.keeps⟩
     | true =>
      cases S with
      | true =>
       have yw:Hid (FM.fG l lv (k+1)=true):=yz
       clear yz El
       refine Q.aW (by kernel_rfl) (by kernel_rfl) ?_
       repeat (first | go_big_quiet_step ((first | (go_at_call 75;exact lu.o _) | (go_at_call 39;exact oa.o _))) | quiet_step ((first | (go_at_call 75;exact lu.o _) | (go_at_call 39;exact oa.o _))))
       refine wpQuiet_nil ?_
       intro _ hw'
       obtain⟨x,hw''⟩:=hw'
       subst hw''
       go_wp2
       go_roundw
       case rel=>exact⟨k+1,by omega,by go_num,yw.o,aB oI.o x.keeps⟩
       case measure=>simp[intOf];omega
      | false =>
       have vg:=ai (El.o yz.o)
       clear yz El
       refine Q.aW (by kernel_rfl) (by kernel_rfl) ?_
       repeat (first | go_big_quiet_step ((first | (go_at_call 75;exact lu.o _) | (go_at_call 39;exact oa.o _))) | quiet_step ((first | (go_at_call 75;exact lu.o _) | (go_at_call 39;exact oa.o _))))
       refine wpQuiet_nil ?_
       intro _ hw'
       obtain⟨x,hw''⟩:=hw'
       subst hw''
       go_wp2
       go_ret
       exact⟨aY vg.o.symm,aB oI.o x.keeps⟩
  · obtain rfl:k=l.length:=by omega
    have adk:=ai (KO.o nD.o)
    clear hb KO Vn RU qA nD
    go_wp2
    go_loopw [33] (fun iv wq=>∃j:Nat,j<=o.length/\iv=I (j:Int)/\FM.dh o l.length j=true/\Below w.heap.size w wq) (fun iv _=>o.length-(intOf iv).toNat)
    case atStart=>exact⟨0,by omega,rfl,rfl,HB.o⟩
    case round =>
     obtain⟨j,hj,rfl,hall,hbj⟩:=hrel
     have HBJ:=ai hbj
     have VS:=ai hall
     clear hall HB
     by_cases yZ:j<o.length
     · obtain⟨b,off,hao,hbl,bP⟩:=(HO.o.below hbj) (by omega)
       subst hao
       obtain⟨c0,c1⟩:=bP j yZ
       have Te:Hid (FM.dh o l.length (j+1)=decide (0<=(FM.lA o j).proc/\(FM.lA o j).proc<(l.length:Int))):=by
        show(FM.dh o l.length j&&_)=_
        rw[VS.o,Bool.true_and]
        rfl
       have G7:=ai (EF.o (j+1) (by omega))
       obtain⟨⟨wp,wv⟩,hq⟩:∃q,q=FM.lA o j:=⟨_,rfl⟩
       rw[<- hq] at Te c0 c1
       simp only at c0 c1
       have KP:Hid (FM.dh o l.length (j+1)=decide (0<=wp/\wp<(l.length:Int))):=Te
       clear hq bP hbj VS Te
       have dJ:=ai (HBJ.o.alloc HBJ.o.size (.cells #[I wp,I wv] 78))
       by_cases h0:wp<0
       · have vg:=ai (G7.o (by rw[KP.o];simp;omega))
         clear KP G7
         go_wp2
         go_ret
         exact⟨aY vg.o.symm,dJ.o⟩
       · by_cases h1:(l.length:Int)<=wp
         · have vg:=ai (G7.o (by rw[KP.o];simp;omega))
           clear KP G7
           go_wp2
           go_ret
           exact⟨aY vg.o.symm,dJ.o⟩
         · have yw:Hid (FM.dh o l.length (j+1)=true):=by show _=_;rw[KP.o];simp;omega
           clear KP G7
           go_wp2
           go_roundw
           case rel=>exact⟨j+1,by omega,by go_num,yw.o,dJ.o⟩
           case measure=>simp[intOf];omega
     · obtain rfl:j=o.length:=by omega
       have yw:=ai (adk.o VS.o)
       clear hbj
       go_wp2
       go_ret
       exact⟨aY yw.o.symm,HBJ.o⟩
theorem Gz (l:List FM.Sp) (az:Option Addr) (cs P k:Nat) (w:World) (h:vN w az l) (hk:k<l.length) (hn:l.length<=140737488351232) (hP:w.cell? (Ad P 1)=some (.slice az l.length cs)) :
  Calls Tryz.prog 39 #[I (k:Int),.pointer (some (Ad P 0))] w fun e w'=>e=.returned (.bool (FM.ax l k).live)/\Below w.heap.size w w':=by
 obtain⟨b,off,hao,hbl,bP⟩:=h (by omega)
 subst hao
 obtain⟨va,ap,cp,c0,c1,c2,c3,c4,c5⟩:=bP k hk
 clear bP c1 c2 c3 c4 c5 h
 obtain⟨lv,hlv⟩:=ex ((FM.ax l k).live)
 rw[<- hlv] at c0 ⊢
 clear hlv
 go_enter Tryz.func39,Tryz.ntmps39
 go_wp2
 go_ret
 exact⟨rfl,Below.refl _ _⟩
structure fK (w:World) (f:FM.Fl) (az ar ao:Option Addr):Prop where
 ak:vN w az f.ak
 procs:yu w ar f.procs
 out:yt w ao f.out
theorem fK.below {w w':World} {f:FM.Fl} {az ar ao:Option Addr} (h:fK w f az ar ao) (hb:Below w.heap.size w w'):fK w' f az ar ao:=⟨h.ak.below hb,h.procs.below hb,h.out.below hb⟩
structure pP (f:FM.Fl):Prop where
 slots:M.dF f.slots
 ak:yD f.ak
 procs:M.bD f.procs.length
 out:M.bD f.out.length
def bw (f:FM.Fl) (az ar ao:Option Addr) (cs cr co:Nat):Array Value:=#[I f.slots,.slice az f.ak.length cs,.slice ar f.procs.length cr,.slice ao f.out.length co]
theorem dx (f:FM.Fl) (az ar ao:Option Addr) (cs cr co:Nat) (w:World) (h:fK w f az ar ao) (hf:pP f) :
  Calls Tryz.prog 12 #[.agg (bw f az ar ao cs cr co)] w fun e w'=>e=.returned (I (FM.cT f))/\Below w.heap.size w w':=by
 have HH:=ai h
 have HF:=ai hf
 obtain⟨sl,ss,ps,os⟩:=f
 unfold bw
 simp only
 have HK:Hid (FM.cT ⟨sl,ss,ps,os⟩=if (decide (1<=ss.length/\ss.length<=4)&&(decide (ps.length=ss.length)&&(decide (0<=sl/\sl<=512)&&decide (os.length<=2000))))=false then 2 else if (ss.all FM.aU&&decide (FM.room ss<=sl))&&FM.eV ps os (fun k=>(FM.ax ss k).live) then 0 else 1):=by
  show _=_
  rw[<- FM.E9 ⟨sl,ss,ps,os⟩]
  rfl
 obtain⟨A,hA⟩:=ex (FM.cT ⟨sl,ss,ps,os⟩)
 rw[<- hA] at HK ⊢
 clear hA
 have EL:=ai (fun V=>Gu sl az ar ao ss.length ps.length os.length cs cr co V)
 have qN:Hid (ss.length<=4->∀V,Below w.heap.size w V->Calls Tryz.prog 37 #[.agg #[I sl,.slice az ss.length cs,.slice ar ps.length cr,.slice ao os.length co]] V fun e w'=>e=.returned (.bool (ss.all FM.aU&&decide (FM.room ss<=sl)))/\Below V.heap.size V w'):=fun hn V hV=>vw ss sl az ar ao ps.length os.length cs cr co V (h.ak.below hV) hf.ak (by omega)
 have qm:Hid (ps.length=ss.length->∀P V,Below w.heap.size w V->V.heap[P]?=some (.cells #[I sl,.slice az ss.length cs,.slice ar ps.length cr,.slice ao os.length co] 30 (0,0))->Calls Tryz.prog 38 #[.slice ar ps.length cr,.slice ao os.length co,.func (.func 39) #[] #[.pointer (some (Ad P 0))]] V fun e w'=>e=.returned (.bool (FM.eV ps os (fun k=>(FM.ax ss k).live)))/\Below V.heap.size V w'):=fun hn P V hV hP =>
  CX ps os (fun k=>(FM.ax ss k).live) ar ao cr co P V (h.procs.below hV) (h.out.below hV) hf.procs hf.out (fun k hk U hU=>Gz ss az cs P k U (h.ak.below (aB hV hU)) (by omega) hf.ak.1 ((hU.cell (p:=(Ad P 1)) (B.isLt hP)).trans (B.cell hP 1 rfl)))
 have cM:=ai ((Below.refl w.heap.size w).alloc (Nat.le_refl _) (.cells #[I sl,.slice az ss.length cs,.slice ar ps.length cr,.slice ao os.length co] 30))
 have X0:=ai (B.new w #[I sl,.slice az ss.length cs,.slice ar ps.length cr,.slice ao os.length co] 30)
 have HQ:Hid ((decide (1<=ss.length/\ss.length<=4)&&(decide (ps.length=ss.length)&&(decide (0<=sl/\sl<=512)&&decide (os.length<=2000))))=true->ss.length<=4/\ps.length=ss.length):=fun g=>by
  simp only[Bool.and_eq_true,decide_eq_true_eq] at g
  exact⟨g.1.2,g.2.1⟩
 obtain⟨C,hC⟩:=ex ((decide (1<=ss.length/\ss.length<=4)&&(decide (ps.length=ss.length)&&(decide (0<=sl/\sl<=512)&&decide (os.length<=2000)))))
 rw[<- hC] at HK EL HQ
 obtain⟨D,hD⟩:=ex ((ss.all FM.aU&&decide (FM.room ss<=sl)))
 rw[<- hD] at HK qN
 obtain⟨E,hE⟩:=ex (FM.eV ps os (fun k=>(FM.ax ss k).live))
 rw[<- hE] at HK qm
 clear hC hD hE h hf HH HF
 obtain⟨ns,hns⟩:=ex ss.length
 obtain⟨nr,fh⟩:=ex ps.length
 obtain⟨no,hno⟩:=ex os.length
 rw[<- hns] at EL qN qm cM X0 HQ ⊢
 rw[<- fh] at EL qN qm cM X0 HQ ⊢
 rw[<- hno] at EL qN qm cM X0 ⊢
 clear hns fh hno
 cases C with
 | false =>
  have fL:Hid (A=2):=HK
  clear HK qN qm HQ
  go_enter Tryz.func12,Tryz.ntmps12
  go_wp2_with (go_at_call 36;refine(EL.o _).mono ?_;rintro e w1 ⟨rfl,hb1⟩;have bj:=ai (aB cM.o hb1);clear hb1)
  go_ret
  exact⟨by rw[fL.o];rfl,bj.o⟩
 | true =>
  have Vg:=ai (qN.o (HQ.o rfl).1)
  have Vl:=ai (qm.o (HQ.o rfl).2)
  clear qN qm HQ
  cases D with
  | false =>
   have fL:Hid (A=1):=HK
   clear HK Vl
   go_enter Tryz.func12,Tryz.ntmps12
   go_wp2_with (first
    | (go_at_call 36;refine(EL.o _).mono ?_;rintro e w1 ⟨rfl,hb1⟩;have bj:=ai (aB cM.o hb1);have X1:=ai (B.below X0.o hb1 (B.isLt X0.o));clear hb1;obtain⟨x0,x1,x2,x3⟩:=B.c4 X1.o)
    | (go_at_call 37;refine(Vg.o _ bj.o).mono ?_;rintro e w2 ⟨rfl,hb2⟩;have bW:=ai (aB bj.o hb2);clear hb2))
   go_ret
   exact⟨by rw[fL.o];rfl,bW.o⟩
  | true =>
   cases E with
   | false =>
    have fL:Hid (A=1):=HK
    clear HK
    go_enter Tryz.func12,Tryz.ntmps12
    go_wp2_with (first
    | (go_at_call 36;refine(EL.o _).mono ?_;rintro e w1 ⟨rfl,hb1⟩;have bj:=ai (aB cM.o hb1);have X1:=ai (B.below X0.o hb1 (B.isLt X0.o));clear hb1;obtain⟨x0,x1,x2,x3⟩:=B.c4 X1.o)
    | (go_at_call 37;refine(Vg.o _ bj.o).mono ?_;rintro e w2 ⟨rfl,hb2⟩;have bW:=ai (aB bj.o hb2);have X2:=ai (B.below X1.o hb2 (B.isLt X1.o));clear hb2;obtain⟨y0,y1,y2,y3⟩:=B.c4 X2.o)
    | (go_at_call 38;refine(Vl.o _ _ bW.o X2.o).mono ?_;rintro e w3 ⟨rfl,hb3⟩;have fH:=ai (aB bW.o hb3);clear hb3))
    go_ret
    exact⟨by rw[fL.o];rfl,fH.o⟩
   | true =>
    have fL:Hid (A=0):=HK
    clear HK
    go_enter Tryz.func12,Tryz.ntmps12
    go_wp2_with (first
    | (go_at_call 36;refine(EL.o _).mono ?_;rintro e w1 ⟨rfl,hb1⟩;have bj:=ai (aB cM.o hb1);have X1:=ai (B.below X0.o hb1 (B.isLt X0.o));clear hb1;obtain⟨x0,x1,x2,x3⟩:=B.c4 X1.o)
    | (go_at_call 37;refine(Vg.o _ bj.o).mono ?_;rintro e w2 ⟨rfl,hb2⟩;have bW:=ai (aB bj.o hb2);have X2:=ai (B.below X1.o hb2 (B.isLt X1.o));clear hb2;obtain⟨y0,y1,y2,y3⟩:=B.c4 X2.o)
    | (go_at_call 38;refine(Vl.o _ _ bW.o X2.o).mono ?_;rintro e w3 ⟨rfl,hb3⟩;have fH:=ai (aB bW.o hb3);clear hb3))
    go_ret
    exact⟨by rw[fL.o];rfl,fH.o⟩
end FW
namespace GF
open Go.RowKit GK
open FW (ai aB)
def aH (p:FM.Pg):List Value:=[I p.page,.string p.data]
structure Lc where
 lv:Bool
 va:Value
 vp:Value
def bH (l:Lc):List Value:=[.bool l.lv,l.va,l.vp]
def vY:Lc:=⟨false,Nl,Nl⟩
def bu (l:List Lc) (k:Nat):Lc:=l.getD k vY
def blk (v:Value) (b:Nat):Prop:=v.ownBlock=some b
structure eP (lo:Nat) (w:World) (l:Lc) (s:FM.Sp):Prop where
 live:l.lv=s.live
 aw:AW.Own lo w l.va s.aw
 aj:w.ownsRow lo 65 2 l.vp s.aj.length (s.aj.flatMap aH)
theorem eP.kp {lo:Nat} {w w':World} {D:Nat->Prop} {l:Lc} {s:FM.Sp} (h:eP lo w l s) (hk:Kp D w w') (ha:∀b,blk l.va b->¬D b) (hp:∀b,blk l.vp b->¬D b):eP lo w' l s:=⟨h.live,hk.row h.aw ha,hk.row h.aj hp⟩
theorem eP.mono {lo lo':Nat} {w:World} {l:Lc} {s:FM.Sp} (h:eP lo w l s) (hl:lo'<=lo):eP lo' w l s:=⟨h.live,h.aw.mono hl,lD h.aj (fun g hg=>Nat.le_trans hl (h.aj.lt g hg).1)⟩
theorem Aa {α:Type} {w:World} (f:α->List Value) (k:Nat) (hf:∀x,(f x).length=k) (d:α) (l:List α) (b off:Nat) (h:∀i,i<l.length->∀j,j<k->w.cell? (Ad b (off+i*k+j))=(f (l.getD i d))[j]?):From w (some (Ad b off)) l.length (l.flatMap f):=fun hm=>by
 refine⟨_,rfl,fun j u hu=>?_⟩
 have hlt:j<l.length*k:=by
  rw[<- bC f k hf l]
  rcases Nat.lt_or_ge j (l.flatMap f).length with g | g
  · exact g
  · rw[List.getElem?_eq_none g] at hu
    cases hu
 have hk:0<k:=by
  rcases Nat.eq_zero_or_pos k with g | g
  · subst g;omega
  · exact g
 have e:j=j/k*k+j%k:=by rw[Nat.mul_comm];exact(Nat.div_add_mod j k).symm
 have h1:j/k<l.length:=(Nat.div_lt_iff_lt_mul hk).2 hlt
 have h2:j%k<k:=Nat.mod_lt _ hk
 have hg:=jW f k hf d l (j/k) (j%k) h1 h2
 rw[<- e] at hg
 rw[hg] at hu
 rw[Addr.add_lit,<- hu,<- h (j/k) h1 (j%k) h2]
 congr 2
 rw[Nat.add_assoc,<- e]
theorem nY {w:World} {ao:Option Addr} {n c:Nat} {l:List AM.Ar} (h:AW.Has w (.slice ao n c) l):n=l.length/\From w ao n (AM.aT l):=by
 obtain⟨ov,cap,e,h⟩:=h
 injection e with e1 e2 e3
 subst e1 e2 e3
 refine⟨rfl,fun hm=>?_⟩
 rcases h with h | ⟨b,off,rfl,hl⟩
 · subst h;simp at hm
 · have:=Aa (w:=w) AM.four 4 (fun _=>rfl) AM.nil l b off (fun i hi j hj=>by
    obtain⟨c0,c1,c2,c3⟩:=hl i hi
    match j,hj with
    | 0,_=>exact c0
    | 1,_=>exact c1
    | 2,_=>exact c2
    | 3,_=>exact c3)
   have e:AM.aT l=l.flatMap AM.four:=by
    clear this hl hm
    induction l with
    | nil=>rfl
    | cons a r ih=>rw[List.flatMap_cons,<- ih];rfl
   rw[e]
   exact this hm
theorem xd {w:World} {ap:Option Addr} {l:List FM.Pg} (h:FW.iL w ap l):From w ap l.length (l.flatMap aH):=fun hm=>by
 obtain⟨b,off,rfl,hb,hl⟩:=h hm
 exact Aa (w:=w) aH 2 (fun _=>rfl) FM.yE l b off (fun i hi j hj=>by
   obtain⟨c0,c1⟩:=hl i hi
   match j,hj with
   | 0,_=>exact c0
   | 1,_=>exact c1) hm
theorem jE:∀(l:List FM.Pg),∀u∈l.flatMap aH,u.oneCell'=true:=fun l u hu=>by
 obtain⟨y,_,hy⟩:=List.mem_flatMap.1 hu
 simp[aH] at hy
 rcases hy with rfl | rfl <;> rfl
def I3 (w:World) (s:FM.Sp) (e:Ending) (w':World):Prop:=∃va vp,e=.returned (.agg #[.bool s.live,va,vp])/\eP w.heap.size w' ⟨s.live,va,vp⟩ s/\(∀b,blk vp b->¬blk va b)/\Below w.heap.size w w'
theorem xY (s:FM.Sp) (aa ap:Option Addr) (na ca cp:Nat) (w:World) (ha:AW.Has w (.slice aa na ca) s.aw) (hp:FW.iL w ap s.aj) (eF:s.aw.length<=1000000) (fB:s.aj.length<=1000000) :
  Calls Tryz.prog 107 #[.agg #[.bool s.live,.slice aa na ca,.slice ap s.aj.length cp]] w (I3 w s):=by
 obtain⟨hn,hfa⟩:=nY ha
 have jk:=ai hfa
 have kj:=ai (xd hp)
 obtain⟨lv,Ru,ky⟩:=s
 simp only at hn jk kj eF fB ⊢
 subst hn
 have OM:=ai (AM.gN Ru)
 have Vz:=ai (bC aH 2 (fun _=>rfl) ky)
 have H1A:=ai (AM.gj Ru)
 have Py:=ai (jE ky)
 have dz:Hid (∀va vp (w':World),AW.Own w.heap.size w' va Ru->w'.ownsRow w.heap.size 65 2 vp ky.length (ky.flatMap aH)->(∀b,blk vp b->¬blk va b)->Below w.heap.size w w'->I3 w ⟨lv,Ru,ky⟩ (.returned (.agg #[.bool lv,va,vp])) w'):=fun va vp w' h1 h2 h3 h4=>⟨va,vp,rfl,⟨rfl,h1,h2⟩,h3,h4⟩
 obtain⟨XA,hXA⟩:=ex (AM.aT Ru)
 obtain⟨XP,hXP⟩:=ex (ky.flatMap aH)
 unfold AW.Own at dz
 rw[<- hXA] at jk OM H1A dz
 rw[<- hXP] at kj Vz Py dz
 obtain⟨na,XY⟩:=ex Ru.length
 obtain⟨np,XX⟩:=ex ky.length
 rw[<- XY] at jk OM dz eF ⊢
 rw[<- XX] at kj Vz dz fB ⊢
 clear hfa ha hp hXA hXP XY XX
 have cM:=ai (((Below.refl w.heap.size w).alloc (Nat.le_refl _) (.cells #[.bool lv,.slice aa na ca,.slice ap np cp] 53)).alloc (by simp) (.cells #[.bool false,Nl,Nl] 53))
 have X0:=ai (B.alloc (B.new w #[.bool lv,.slice aa na ca,.slice ap np cp] 53) (.cells #[.bool false,Nl,Nl] 53))
 have Y0:Hid (((w.alloc (.cells #[.bool lv,.slice aa na ca,.slice ap np cp] 53)).alloc (.cells #[.bool false,Nl,Nl] 53)).heap[w.heap.size+1]?=some (.cells #[.bool false,Nl,Nl] 53 (0,0))):=by
  have:=B.new (w.alloc (.cells #[.bool lv,.slice aa na ca,.slice ap np cp] 53)) #[.bool false,Nl,Nl] 53
  rw[World.size_alloc] at this
  exact this
 go_enter Tryz.func107,Tryz.ntmps107
 go_wp2
 obtain⟨WA,gw⟩:=ex ((w.alloc (.cells #[.bool lv,.slice aa na ca,.slice ap np cp] 53)).alloc (.cells #[.bool false,Nl,Nl] 53))
 rw[<- gw] at cM X0 Y0 ⊢
 clear gw
 have Ho:=ai cM.o
 obtain⟨xb,nA⟩:=ex w.heap.size
 rw[<- nA] at X0 Y0 cM dz ⊢
 have tL:=ai nA
 clear nA
 have HS:Hid (∀V,Below WA.heap.size WA V->V.cell? (Ad xb 0)=some (.bool lv)/\V.cell? (Ad xb 1)=some (.slice aa na ca)/\V.cell? (Ad xb 2)=some (.slice ap np cp)):=fun V hb=>by
  have h1:=B.below X0.o hb (B.isLt X0.o)
  exact⟨B.cell h1 0 rfl,B.cell h1 1 rfl,B.cell h1 2 rfl⟩
 have Sq:Hid (∀V,Below WA.heap.size WA V->Calls Tryz.prog 23 #[.slice aa na ca] V fun e w'=>∃a c,e=.returned (.slice a na c)/\w'.ownsRow V.heap.size 59 4 (.slice a na c) na XA/\Below V.heap.size V w'):=fun V hV=>(IV aa na ca XA V OM.o (jk.o.below (Ho.o.trans (hV.mono Ho.o.size))) H1A.o eF).mono fun e w' ⟨v,h1,h2,h3⟩=>by
   obtain⟨a,c,rfl,_⟩:=aL h2
   exact⟨a,c,h1,h2,h3⟩
 have HCP:Hid (∀V,Below WA.heap.size WA V->Calls Tryz.prog 123 #[.slice ap np cp] V fun e w'=>∃a c,e=.returned (.slice a np c)/\w'.ownsRow V.heap.size 65 2 (.slice a np c) np XP/\Below V.heap.size V w'):=fun V hV=>(Q4 ap np cp XP V Vz.o (kj.o.below (Ho.o.trans (hV.mono Ho.o.size))) Py.o fB).mono fun e w' ⟨v,h1,h2,h3⟩=>by
   obtain⟨a,c,rfl,_⟩:=aL h2
   exact⟨a,c,h1,h2,h3⟩
 have I5:Hid (∀V:World,(V.cell? (Ad xb 0)=some (.bool lv)/\V.cell? (Ad xb 1)=some (.slice aa na ca)/\V.cell? (Ad xb 2)=some (.slice ap np cp))->∀v0 v1 v2,(((V.setCell (Ad (xb+1) 0) v0).setCell (Ad (xb+1) 1) v1).setCell (Ad (xb+1) 2) v2).cell? (Ad xb 0)=some (.bool lv)/\(((V.setCell (Ad (xb+1) 0) v0).setCell (Ad (xb+1) 1) v1).setCell (Ad (xb+1) 2) v2).cell? (Ad xb 1)=some (.slice aa na ca)/\(((V.setCell (Ad (xb+1) 0) v0).setCell (Ad (xb+1) 1) v1).setCell (Ad (xb+1) 2) v2).cell? (Ad xb 2)=some (.slice ap np cp)):=fun V ⟨h0,h1,h2⟩ v0 v1 v2=>by
  have hne:xb≠xb+1:=by omega
  rw[bQ _ _ _ _ _ _ hne,bQ _ _ _ _ _ _ hne,bQ _ _ _ _ _ _ hne,bQ _ _ _ _ _ _ hne,bQ _ _ _ _ _ _ hne,bQ _ _ _ _ _ _ hne,bQ _ _ _ _ _ _ hne,bQ _ _ _ _ _ _ hne,bQ _ _ _ _ _ _ hne]
  exact⟨h0,h1,h2⟩
 have jI:=ai (Below.refl WA.heap.size WA).drew
 have cw:=ai (HS.o _ jI.o)
 go_region_held3 (fun V=>V.cell? (Ad xb 0)=some (.bool lv)/\V.cell? (Ad xb 1)=some (.slice aa na ca)/\V.cell? (Ad xb 2)=some (.slice ap np cp)) (first | exact yx.o | exact ql.o | exact cw.o | exact tG.o _ _ _)
  (first
   | (go_at_call 23;refine(Sq.o _ jI.o).mono ?_;rintro e w2 ⟨a2,c2,rfl,hr2,hb2⟩;have je:=ai (jI.o.trans (hb2.mono jI.o.size));have ql:=ai (HS.o _ je.o);have lu:=ai hr2;clear hb2 hr2)
   | (go_at_call 123;refine(HCP.o _ je.o).mono ?_;rintro e w3 ⟨a3,c3,rfl,hr3,hb3⟩;have qo:=ai (je.o.trans (hb3.mono je.o.size));have yx:=ai (HS.o _ qo.o);have Hb:=ai hr3;have fH:=ai hb3;have y0:w3.cell? (Ad (xb+1) 0)=some (.bool false):=B.cell (B.below Y0.o qo.o (B.isLt Y0.o)) 0 rfl;have z0:w3.frozen? (Ad (xb+1) 0)=false:=B.free (B.below Y0.o qo.o (B.isLt Y0.o)) 0;have y1:w3.cell? (Ad (xb+1) 1)=some Nl:=B.cell (B.below Y0.o qo.o (B.isLt Y0.o)) 1 rfl;have z1:w3.frozen? (Ad (xb+1) 1)=false:=B.free (B.below Y0.o qo.o (B.isLt Y0.o)) 1;have y2:w3.cell? (Ad (xb+1) 2)=some Nl:=B.cell (B.below Y0.o qo.o (B.isLt Y0.o)) 2 rfl;have z2:w3.frozen? (Ad (xb+1) 2)=false:=B.free (B.below Y0.o qo.o (B.isLt Y0.o)) 2;have tG:=ai (fun v0 v1 v2=>I5.o w3 yx.o v0 v1 v2);clear hb3 hr3))
 all_goals clear tG I5 HS cw ql yx Sq HCP
 all_goals go_wp2
 · refine bodyPost_ret (v:=.agg #[.bool lv,.slice a2 na c2,.slice a3 np c3]) (by simp[results,Tryz.results107,go_sem,y0,y1,y2]) rfl ?_
   have k3:Kp (fun b=>b=xb+1) w3 _:=sO w3 (xb+1) 0 1 2 (.bool lv) (.slice a2 na c2) (.slice a3 np c3) rfl
   have l1:=B.isLt Y0.o
   have l2:=Ho.o.size
   have l3:=je.o.size
   have hx:=tL.o
   have e2:∀g,(Value.slice a2 na c2).ownBlock=some g->WA.heap.size<=g/\g<w2.heap.size:=fun g hg=>lu.o.lt g hg
   have e3:∀g,(Value.slice a3 np c3).ownBlock=some g->w2.heap.size<=g/\g<w3.heap.size:=fun g hg=>Hb.o.lt g hg
   have r2:=(Kp.aF (D:=fun _=>False) fH.o).row lu.o (fun _ _ g=>g)
   refine dz.o _ _ _ (k3.row (lD r2 (fun g hg=>by have:=e2 g hg;omega)) (fun g hg e=>by have:=e2 g hg;omega)) (k3.row (lD Hb.o (fun g hg=>by have:=e3 g hg;omega)) (fun g hg e=>by have:=e3 g hg;omega)) (fun b h1 h2=>by have:=e2 b h2;have:=e3 b h1;omega) ?_
   exact Kp.below (cM.o.trans (qo.o.mono (by omega))) k3 (by have:=qo.o.size;omega) (fun b e=>by omega)
structure Mem (lo mb:Nat) (w:World) (D:Nat->Prop) (sl:Int) (v:Value) (L:List Lc) (ss:List FM.Sp):Prop where
 len:L.length=ss.length
 head:w.heap[mb]?=some (.cells #[I sl,v] 153 (0,0))
 row:w.ownsRow lo 53 3 v L.length (L.flatMap bH)
 each:∀k,k<L.length->eP lo w (bu L k) (FM.ax ss k)
 base:lo<=mb
 n1:¬blk v mb
 n2:∀k,k<L.length->¬blk (bu L k).va mb/\¬blk (bu L k).vp mb
 n3:∀k,k<L.length->∀b,blk v b->¬blk (bu L k).va b/\¬blk (bu L k).vp b
 n4:∀j k,j<L.length->k<L.length->∀b,blk (bu L j).vp b->¬blk (bu L k).va b/\(j≠k->¬blk (bu L k).vp b)
 d1:D mb
 d2:∀b,blk v b->D b
 d3:∀k,k<L.length->∀b,blk (bu L k).va b∨blk (bu L k).vp b->D b
theorem Mem.kp {lo mb:Nat} {w w':World} {D E:Nat->Prop} {sl:Int} {v:Value} {L:List Lc} {ss:List FM.Sp} (h:Mem lo mb w D sl v L ss) (hk:Kp E w w') (hd:∀b,D b->¬E b):Mem lo mb w' D sl v L ss :=
 ⟨h.len,hk.keep h.head (hd _ h.d1),hk.row h.row (fun g hg=>hd _ (h.d2 g hg)),fun k hl=>(h.each k hl).kp hk (fun b hb=>hd _ (h.d3 k hl b (.inl hb))) (fun b hb=>hd _ (h.d3 k hl b (.inr hb))),h.base,h.n1,h.n2,h.n3,h.n4,h.d1,h.d2,h.d3⟩
theorem Mem.below {lo mb:Nat} {w w':World} {D:Nat->Prop} {sl:Int} {v:Value} {L:List Lc} {ss:List FM.Sp} (h:Mem lo mb w D sl v L ss) (hb:Below w.heap.size w w'):Mem lo mb w' D sl v L ss:=h.kp (Kp.aF (D:=fun _=>False) hb) (fun _ _ g=>g)
theorem Mem.lt {lo mb:Nat} {w:World} {D:Nat->Prop} {sl:Int} {v:Value} {L:List Lc} {ss:List FM.Sp} (h:Mem lo mb w D sl v L ss) (k:Nat) (hk:k<L.length) (b:Nat) (hb:blk (bu L k).va b∨blk (bu L k).vp b):lo<=b/\b<w.heap.size:=by
 rcases hb with g | g
 · exact(h.each k hk).aw.lt b g
 · exact(h.each k hk).aj.lt b g
theorem eT (L:List Lc) (l:Lc) (k:Nat):bu (L++[l]) k=if k<L.length then bu L k else if k=L.length then l else vY:=by
 unfold bu
 rw[List.getD_eq_getElem?_getD,List.getD_eq_getElem?_getD]
 by_cases h:k<L.length
 · rw[if_pos h,List.getElem?_append_left h]
 · rw[if_neg h,List.getElem?_append_right (by omega)]
   by_cases h2:k=L.length
   · rw[if_pos h2,h2,Nat.sub_self];rfl
   · rw[if_neg h2]
     obtain⟨d,hd⟩:∃d,k-L.length=d+1:=⟨k-L.length-1,by omega⟩
     rw[hd];rfl
theorem eQ (L:List FM.Sp) (l:FM.Sp) (k:Nat):FM.ax (L++[l]) k=if k<L.length then FM.ax L k else if k=L.length then l else FM.E0:=by
 unfold FM.ax
 rw[List.getD_eq_getElem?_getD,List.getD_eq_getElem?_getD]
 by_cases h:k<L.length
 · rw[if_pos h,List.getElem?_append_left h]
 · rw[if_neg h,List.getElem?_append_right (by omega)]
   by_cases h2:k=L.length
   · rw[if_pos h2,h2,Nat.sub_self];rfl
   · rw[if_neg h2]
     obtain⟨d,hd⟩:∃d,k-L.length=d+1:=⟨k-L.length-1,by omega⟩
     rw[hd];rfl
theorem Mem.snoc {lo mb:Nat} {w w2:World} {D D':Nat->Prop} {sl:Int} {v v':Value} {L:List Lc} {ss:List FM.Sp} {l:Lc} {s:FM.Sp} (h:Mem lo mb w D sl v L ss) (hk:Kp (blk v) w w2)
  (hrow:w2.ownsRow lo 53 3 v' (L.length+1) ((L++[l]).flatMap bH)) (hat:∀b,blk v' b->blk v b∨w.heap.size<=b) (hs:eP lo w2 l s) (hl:∀b,blk l.va b∨blk l.vp b->w.heap.size<=b)
  (ha:∀b,blk l.vp b->¬blk l.va b) (hv:∀b,blk v' b->¬blk l.va b/\¬blk l.vp b) (hd:∀b,D b->D' b) (hd2:∀b,w.heap.size<=b->b<w2.heap.size->D' b) :
  Mem lo mb (w2.setCell (Ad mb 1) v') D' sl v' (L++[l]) (ss++[s]):=by
 have hmb:=B.isLt h.head
 have hle:(L++[l]).length=L.length+1:=by simp
 have kE:Kp (fun b=>b=mb) w2 (w2.setCell (Ad mb 1) v'):=Kp.set _ _ _ _ rfl
 have Dp:¬blk v' mb:=fun g=>by
  rcases hat _ g with g | g
  · exact h.n1 g
  · omega
 have F5:¬blk l.va mb/\¬blk l.vp mb:=⟨fun g=>by have:=hl _ (.inl g);omega,fun g=>by have:=hl _ (.inr g);omega⟩
 have hold:∀k,k<L.length->eP lo w2 (bu L k) (FM.ax ss k):=fun k hk'=>(h.each k hk').kp hk (fun b hb g=>(h.n3 k hk' b g).1 hb) (fun b hb g=>(h.n3 k hk' b g).2 hb)
 have hk1:∀k,k<(L++[l]).length->k<L.length∨k=L.length:=fun k hk'=>by omega
 have old:∀k,k<L.length->bu (L++[l]) k=bu L k:=fun k hk'=>by rw[eT,if_pos hk']
 have new:bu (L++[l]) L.length=l:=by rw[eT,if_neg (by omega),if_pos rfl]
 have T4:∀k,k<L.length->FM.ax (ss++[s]) k=FM.ax ss k:=fun k hk'=>by rw[eQ,if_pos (by rw[<- h.len];exact hk')]
 have JU:FM.ax (ss++[s]) L.length=s:=by rw[eQ,if_neg (by rw[h.len];omega),if_pos h.len]
 refine⟨by simp[h.len],?_,?_,?_,h.base,Dp,?_,?_,?_,hd _ h.d1,?_,?_⟩
 · exact B.set (hk.keep h.head h.n1) 1 v'
 · rw[hle]
   exact kE.row hrow (fun g hg e=>Dp (e ▸ hg))
 · intro k hk'
   rcases hk1 k hk' with g | g
   · rw[old k g,T4 k g]
     exact(hold k g).kp kE (fun b hb e=>(h.n2 k g).1 (e ▸ hb)) (fun b hb e=>(h.n2 k g).2 (e ▸ hb))
   · subst g
     rw[new,JU]
     exact hs.kp kE (fun b hb e=>F5.1 (e ▸ hb)) (fun b hb e=>F5.2 (e ▸ hb))
 · intro k hk'
   rcases hk1 k hk' with g | g
   · rw[old k g];exact h.n2 k g
   · subst g;rw[new];exact F5
 · intro k hk' b hb
   rcases hk1 k hk' with g | g
   · rw[old k g]
     rcases hat b hb with e | e
     · exact h.n3 k g b e
     · exact⟨fun x=>by have:=h.lt k g b (.inl x);omega,fun x=>by have:=h.lt k g b (.inr x);omega⟩
   · subst g;rw[new];exact hv b hb
 · intro j k hj hk' b hb
   rcases hk1 j hj with g | g
   · rw[old j g] at hb
     rcases hk1 k hk' with g2 | g2
     · rw[old k g2];exact h.n4 j k g g2 b hb
     · subst g2;rw[new]
       have:=h.lt j g b (.inr hb)
       exact⟨fun x=>by have:=hl b (.inl x);omega,fun _ x=>by have:=hl b (.inr x);omega⟩
   · subst g
     rw[new] at hb
     rcases hk1 k hk' with g2 | g2
     · rw[old k g2]
       have:=hl b (.inr hb)
       exact⟨fun x=>by have:=h.lt k g2 b (.inl x);omega,fun _ x=>by have:=h.lt k g2 b (.inr x);omega⟩
     · subst g2;rw[new]
       exact⟨ha b hb,fun e=>(e rfl).elim⟩
 · intro b hb
   rcases hat b hb with e | e
   · exact hd _ (h.d2 b e)
   · exact hd2 b e (hrow.lt b hb).2
 · intro k hk' b hb
   rcases hk1 k hk' with g | g
   · rw[old k g] at hb;exact hd _ (h.d3 k g b hb)
   · subst g;rw[new] at hb
     refine hd2 b (hl b hb) ?_
     rcases hb with x | x
     · exact(hs.aw.lt b x).2
     · exact(hs.aj.lt b x).2
theorem Mem.push {lo mb:Nat} {w w2 w4:World} {D D':Nat->Prop} {sl:Int} {v v':Value} {L:List Lc} {ss:List FM.Sp} {l:Lc} {s:FM.Sp} {O:Obj} (h:Mem lo mb w D sl v L ss) (hlo:lo<=w.heap.size) (hb2:Below w.heap.size w w2)
  (J6:eP w.heap.size w2 l s) (hne:∀b,blk l.vp b->¬blk l.va b) (hgr:(w2.alloc O).grownBy w4 v.ownBlock) (hown:w4.ownsRow lo 53 3 v' (L.length+1) (L.flatMap bH++bH l))
  (hat:v'.ownBlock=v.ownBlock∨v'.ownBlock=some (w2.alloc O).heap.size) (hd:∀b,D b->D' b) (hd2:∀b,w.heap.size<=b->b<w4.heap.size->D' b) :
  Mem lo mb (w4.setCell (Ad mb 1) v') D' sl v' (L++[l]) (ss++[s])/\Kp (fun b=>b=mb∨blk v b) w (w4.setCell (Ad mb 1) v'):=by
 have s1:=hb2.size
 have s2:=hgr.size
 have hz:(w2.alloc O).heap.size=w2.heap.size+1:=World.size_alloc _ _
 rw[hz] at s2 hat
 have kA:Kp (blk v) w w2:=Kp.aF hb2
 have kB:Kp (blk v) w2 (w2.alloc O):=Kp.alloc _ w2 O
 have kC:Kp (blk v) (w2.alloc O) w4:=Kp.grown hgr (fun _ e=>e)
 have kD:=kA.trans (kB.trans kC (fun _ _ g=>g)) (fun _ _ g=>g)
 have eA:∀b,blk l.va b∨blk l.vp b->w.heap.size<=b/\b<w2.heap.size:=fun b hb=>by
  rcases hb with g | g
  · exact J6.aw.lt b g
  · exact J6.aj.lt b g
 have hvb:∀b,blk v b->b<w.heap.size:=fun b hb=>(h.row.lt b hb).2
 have hv4:∀b,blk v' b->blk v b∨b=w2.heap.size+1:=fun b hb=>by
  unfold blk at hb ⊢
  rcases hat with e | e
  · exact .inl (by rw[<- e];exact hb)
  · right
    rw[e] at hb
    injection hb with hb
    exact hb.symm
 refine⟨h.snoc kD ?_ (fun b hb=>?_) ?_ (fun b hb=>(eA b hb).1) hne (fun b hb=>?_) hd hd2,?_⟩
 · rw[List.flatMap_append]
   simpa using hown
 · rcases hv4 b hb with g | g
   · exact .inl g
   · exact .inr (by omega)
 · refine(J6.mono hlo).kp (kB.trans kC (fun _ _ g=>g)) (fun b hb g=>?_) (fun b hb g=>?_)
   · have:=hvb b g;have:=eA b (.inl hb);omega
   · have:=hvb b g;have:=eA b (.inr hb);omega
 · rcases hv4 b hb with g | g
   · have:=hvb b g
     exact⟨fun x=>by have:=eA b (.inl x);omega,fun x=>by have:=eA b (.inr x);omega⟩
   · exact⟨fun x=>by have:=eA b (.inl x);omega,fun x=>by have:=eA b (.inr x);omega⟩
 · exact(kD.mono (fun b _ g=>.inr g)).trans (Kp.set (fun b=>b=mb∨blk v b) w4 (Ad mb 1) v' (.inl rfl)) (fun _ _ g=>g)
theorem dw (l:Lc):(bH l).length=3:=rfl
theorem bl (l:FM.Pg):(aH l).length=2:=rfl
theorem Mem.has {lo mb:Nat} {w:World} {D:Nat->Prop} {sl:Int} {v:Value} {L:List Lc} {ss:List FM.Sp} (h:Mem lo mb w D sl v L ss):∃ao cap,v=.slice ao ss.length cap/\FW.vN w ao ss:=by
 obtain⟨ao,cap,rfl,hle,hg⟩:=aL h.row
 have hlen:=h.len
 refine⟨ao,cap,by rw[hlen],fun hl=>?_⟩
 obtain⟨g,rfl,hg1,hg2⟩:=hg (by omega)
 refine⟨g,0,rfl,hg2,fun k hk=>?_⟩
 have hk':k<L.length:=by omega
 have hs:=h.each k hk'
 have hc:∀j,j<3->w.cell? (Ad g (k*3+j))=(bH (bu L k))[j]?:=fun j hj=>cZ bH dw vY h.row k j hk' hj
 obtain⟨ap,cp,hvp,K7,K8⟩:=aL hs.aj
 have hc0:=hc 0 (by omega)
 have hc1:=hc 1 (by omega)
 have hc2:=hc 2 (by omega)
 rw[Nat.zero_add]
 refine⟨(bu L k).va,ap,cp,?_,hc1,?_,hs.aw.has,?_,K7⟩
 · rw[<- hs.live];exact hc0
 · rw[<- hvp];exact hc2
 · intro hp
   obtain⟨q,rfl,hq1,hq2⟩:=K8 hp
   refine⟨q,0,rfl,hq2,fun i hi=>?_⟩
   have hr:=hs.aj
   rw[hvp] at hr
   have Gc:∀j,j<2->w.cell? (Ad q (i*2+j))=(aH (FM.aN (FM.ax ss k).aj i))[j]?:=fun j hj=>cZ aH bl FM.yE hr i j hi hj
   rw[Nat.zero_add]
   exact⟨Gc 0 (by omega),Gc 1 (by omega)⟩
end GF
end Go.Proofs.YtkdigjpejnebkaaGreat
