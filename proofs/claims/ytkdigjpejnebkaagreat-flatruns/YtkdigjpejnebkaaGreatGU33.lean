import Derived.Test.YtkdigjpejnebkaaGreatGU00
import Derived.Test.YtkdigjpejnebkaaGreatGU07
import Derived.ChangeKeysEq
import Derived.Test.YtkdigjpejnebkaaGreatGU27
import Derived.Deep.RegionLaw
import Derived.Deep.DeepCutAuto
import Derived.Test.YtkdigjpejnebkaaGreatGU23
import Derived.Test.YtkdigjpejnebkaaGreatGU32
set_option maxHeartbeats 20000000
set_option linter.unusedVariables false
set_option maxRecDepth 100000
set_option linter.unusedSimpArgs false
namespace Go.Proofs.YtkdigjpejnebkaaGreat
namespace FW
open Go.RowKit
theorem U4 (a b:Int) (V:World):(Op.equalIn 10000 78 (.agg #[I a,I b]) (.agg #[I a,I b])).run Tryz.prog V=.ok true V:=by
 simp[go_sem]
theorem yK (o:List FM.Wd) (a1 a2:Option Addr) (c1 c2:Nat) (w:World) (h1:yt w a1 o) (h2:yt w a2 o) (hn:o.length<=140737488351232) :
  Calls Tryz.prog 34 #[.slice a1 o.length c1,.slice a2 o.length c2] w fun e w'=>e=.returned (.bool true)/\Below w.heap.size w w':=by
 have H1:=ai h1
 have H2:=ai h2
 clear h1 h2
 go_enter Tryz.func34,Tryz.ntmps34
 go_wp2
 go_loopw [5] (fun iv wr=>∃j:Nat,j<=o.length/\iv=I (j:Int)/\Below w.heap.size w wr) (fun iv _=>o.length-(intOf iv).toNat)
 case atStart=>exact⟨0,by omega,rfl,Below.refl _ _⟩
 case round =>
  obtain⟨j,hj,rfl,hb⟩:=hrel
  have HB:=ai hb
  by_cases hlt:j<o.length
  · obtain⟨b,off,hao,hbl,bP⟩:=(H1.o.below hb) (by omega)
    obtain⟨b',off',hao',Yv,uP⟩:=(H2.o.below hb) (by omega)
    subst hao
    subst hao'
    obtain⟨d0,d1⟩:=bP j hlt
    obtain⟨e0,e1⟩:=uP j hlt
    obtain⟨⟨wp,wv⟩,hq⟩:∃q,q=FM.lA o j:=⟨_,rfl⟩
    rw[<- hq] at d0 d1 e0 e1
    simp only at d0 d1 e0 e1
    have hEQ:=U4 wp wv
    clear hq bP uP hb
    go_wp2
    go_quiet (fail)
    go_wp2
    go_roundw
    case rel=>exact⟨j+1,by omega,by go_num,below_drewN HB.o _⟩
    case measure=>simp[intOf];omega
  · obtain rfl:j=o.length:=by omega
    clear hb
    go_wp2
    go_ret
    exact⟨rfl,HB.o⟩
theorem info3:(Tryz.prog.info? 3).map (fun i=>i.size)=some 1:=by kernel_rfl
theorem U3 (a0 a1 a2 a3 a4 a5 a6 a7:Int) (V:World):(Op.equalIn 9999 66 (.agg #[I a0,I a1,I a2,I a3,I a4,I a5,I a6,I a7]) (.agg #[I a0,I a1,I a2,I a3,I a4,I a5,I a6,I a7])).run Tryz.prog V=.ok true V:=by
 obtain⟨i,hi,hs⟩:∃i,Tryz.prog.info? 3=some i/\i.size=1:=by
  have h:=info3
  cases hq:Tryz.prog.info? 3 with
  | none=>rw[hq] at h;cases h
  | some i=>rw[hq] at h;exact⟨i,rfl,Option.some.inj h⟩
 rw[run_equalIn_array (w:=V) 9998 _ _ Tryz.underlying66 hi]
 have hc:Tryz.prog.cellsOf 3=1:=by kernel_rfl
 have hpt:∀(xs:Array Value) (o:Nat) (v:Value) (U:World),xs[o]?=some v->(part 3 xs o).run Tryz.prog U=.ok v U:=fun xs o v U h=>by simp[part,go_sem,h]
 have hei:∀(x:Int) (U:World),(Op.equalIn 9998 3 (I x) (I x)).run Tryz.prog U=.ok true U:=fun x U=>by simpa using run_equalIn_int U 9997 3 .i64 .i64 x x Tryz.underlying3
 rw[hc]
 simp[Op.eqItems,hpt,hei,List.range_succ]
theorem yL (o:List PM.Pr) (a1 a2:Option Addr) (c1 c2:Nat) (w:World) (h1:yu w a1 o) (h2:yu w a2 o) (hn:o.length<=140737488351232) :
  Calls Tryz.prog 33 #[.slice a1 o.length c1,.slice a2 o.length c2] w fun e w'=>e=.returned (.bool true)/\Below w.heap.size w w':=by
 have H1:=ai h1
 have H2:=ai h2
 clear h1 h2
 go_enter Tryz.func33,Tryz.ntmps33
 go_wp2
 go_loopw [5] (fun iv wr=>∃j:Nat,j<=o.length/\iv=I (j:Int)/\Below w.heap.size w wr) (fun iv _=>o.length-(intOf iv).toNat)
 case atStart=>exact⟨0,by omega,rfl,Below.refl _ _⟩
 case round =>
  obtain⟨j,hj,rfl,hb⟩:=hrel
  have HB:=ai hb
  by_cases hlt:j<o.length
  · obtain⟨b,off,hao,hbl,bP⟩:=(H1.o.below hb) (by omega)
    obtain⟨b',off',hao',Yv,uP⟩:=(H2.o.below hb) (by omega)
    subst hao
    subst hao'
    obtain⟨d0,d1,d2,d3,d4,d5,d6,d7,d8,d9,d10,d11,d12⟩:=bP j hlt
    obtain⟨e0,e1,e2,e3,e4,e5,e6,e7,e8,e9,e10,e11,e12⟩:=uP j hlt
    obtain⟨q,hq⟩:=ex (FM.au o j)
    rw[<- hq] at d0 d1 d2 d3 d4 d5 d6 d7 d8 d9 d10 d11 d12 e0 e1 e2 e3 e4 e5 e6 e7 e8 e9 e10 e11 e12
    have hE8:=U3 (q.r 0) (q.r 1) (q.r 2) (q.r 3) (q.r 4) (q.r 5) (q.r 6) (q.r 7)
    clear hq bP uP hb
    go_wp2
    go_quiet (fail)
    go_wp2
    go_roundw
    case rel=>exact⟨j+1,by omega,by go_num,below_drewN HB.o _⟩
    case measure=>simp[intOf];omega
  · obtain rfl:j=o.length:=by omega
    clear hb
    go_wp2
    go_ret
    exact⟨rfl,HB.o⟩
theorem U5 (a:Int) (d:ByteArray) (V:World):(Op.equalIn 10000 65 (.agg #[I a,.string d]) (.agg #[I a,.string d])).run Tryz.prog V=.ok true V:=by
 simp[go_sem]
theorem yM (f:FM.Fl) (a1 r1 o1 a2 r2 o2:Option Addr) (c1 c2 c3 d1 d2 d3:Nat) (w:World) (h1:fK w f a1 r1 o1) (h2:fK w f a2 r2 o2) (hf:pP f) :
  Calls Tryz.prog 11 #[.agg (bw f a1 r1 o1 c1 c2 c3),.agg (bw f a2 r2 o2 d1 d2 d3)] w fun e w'=>e=.returned (.bool true)/\Below w.heap.size w w':=by
 have H1:=ai h1
 have H2:=ai h2
 have HF:=ai hf
 have qN:=ai (fun V (hV:Below w.heap.size w V)=>yL f.procs r1 r2 c2 d2 V (h1.procs.below hV) (h2.procs.below hV) hf.procs)
 have Cf:=ai (fun V (hV:Below w.heap.size w V)=>yK f.out o1 o2 c3 d3 V (h1.out.below hV) (h2.out.below hV) hf.out)
 have hns:f.ak.length<=140737488351232:=hf.ak.1
 unfold bw
 obtain⟨sl,ss,ps,os⟩:=f
 simp only at qN Cf hns ⊢
 obtain⟨nr,fh⟩:=ex ps.length
 obtain⟨no,hno⟩:=ex os.length
 rw[<- fh] at qN ⊢
 rw[<- hno] at Cf ⊢
 clear h1 h2 hf fh hno
 have cM:=ai (((Below.refl w.heap.size w).alloc (Nat.le_refl _) (.cells #[I sl,.slice a1 ss.length c1,.slice r1 nr c2,.slice o1 no c3] 30)).alloc (by simp) (.cells #[I sl,.slice a2 ss.length d1,.slice r2 nr d2,.slice o2 no d3] 30))
 have X0:=ai (B.alloc (B.new w #[I sl,.slice a1 ss.length c1,.slice r1 nr c2,.slice o1 no c3] 30) (.cells #[I sl,.slice a2 ss.length d1,.slice r2 nr d2,.slice o2 no d3] 30))
 have Y0:Hid (((w.alloc (.cells #[I sl,.slice a1 ss.length c1,.slice r1 nr c2,.slice o1 no c3] 30)).alloc (.cells #[I sl,.slice a2 ss.length d1,.slice r2 nr d2,.slice o2 no d3] 30)).heap[w.heap.size+1]?=some (.cells #[I sl,.slice a2 ss.length d1,.slice r2 nr d2,.slice o2 no d3] 30 (0,0))):=by
  have:=B.new (w.alloc (.cells #[I sl,.slice a1 ss.length c1,.slice r1 nr c2,.slice o1 no c3] 30)) #[I sl,.slice a2 ss.length d1,.slice r2 nr d2,.slice o2 no d3] 30
  rw[World.size_alloc] at this
  exact this
 go_enter Tryz.func11,Tryz.ntmps11
 go_wp2_with (first
  | (go_at_call 33;refine(qN.o _ cM.o).mono ?_;rintro e w1 ⟨rfl,hb1⟩;have bj:=ai (aB cM.o hb1);have X1:=ai (B.below X0.o hb1 (B.isLt X0.o));have Y1:=ai (B.below Y0.o hb1 (B.isLt Y0.o));clear hb1;have x3:w1.cell? (Ad w.heap.size 3)=some (.slice o1 no c3):=B.cell X1.o 3 rfl;have y3:w1.cell? (Ad (w.heap.size+1) 3)=some (.slice o2 no d3):=B.cell Y1.o 3 rfl)
  | (go_at_call 34;refine(Cf.o _ bj.o).mono ?_;rintro e w2 ⟨rfl,hb2⟩;have bW:=ai (aB bj.o hb2);have X2:=ai (B.below X1.o hb2 (B.isLt X1.o));have Y2:=ai (B.below Y1.o hb2 (B.isLt Y1.o));clear hb2))
 go_loopw [5] (fun iv wr=>∃k:Nat,k<=ss.length/\iv=I (k:Int)/\wr.heap[w.heap.size]?=some (.cells #[I sl,.slice a1 ss.length c1,.slice r1 nr c2,.slice o1 no c3] 30 (0,0))/\wr.heap[w.heap.size+1]?=some (.cells #[I sl,.slice a2 ss.length d1,.slice r2 nr d2,.slice o2 no d3] 30 (0,0))/\Below w.heap.size w wr) (fun iv _=>ss.length-(intOf iv).toNat)
 case atStart=>exact⟨0,by omega,rfl,X2.o,Y2.o,bW.o⟩
 case round =>
  obtain⟨k,hk,rfl,hx,hy,hb⟩:=hrel
  have HB:=ai hb
  have HX:=ai hx
  have HY:=ai hy
  have x1:wr.cell? (Ad w.heap.size 1)=some (.slice a1 ss.length c1):=B.cell hx 1 rfl
  have y1:wr.cell? (Ad (w.heap.size+1) 1)=some (.slice a2 ss.length d1):=B.cell hy 1 rfl
  clear hx hy X0 Y0 X1 Y1 X2 Y2 cM bj bW x3 y3
  by_cases hlt:k<ss.length
  · obtain⟨b,off,hao,hbl,bP⟩:=(H1.o.below hb).ak (show 0<ss.length by omega)
    obtain⟨b',off',hao',Yv,uP⟩:=(H2.o.below hb).ak (show 0<ss.length by omega)
    subst hao hao'
    obtain⟨va,ap,cp,e0,e1,e2,e3,e4,e5⟩:=bP k hlt
    obtain⟨vb,aq,cq,g0,g1,g2,g3,g4,g5⟩:=uP k hlt
    have sU:=HF.o.ak.2 k hlt
    have sU:Hq (FM.ax ss k):=sU
    obtain⟨s,hs⟩:=ex (FM.ax ss k)
    rw[<- hs] at e0 e2 e3 e4 e5 g0 g2 g3 g4 g5 sU
    obtain⟨lv,Ru,ky⟩:=s
    simp only at e0 e2 e3 e4 e5 g0 g2 g3 g4 g5
    obtain⟨aa,na,ca,rfl⟩:=J1 e3
    obtain⟨ab,nb,cb,rfl⟩:=J1 g3
    have HE3:=ai e3
    have HE4:=ai e4
    have HG3:=ai g3
    have HG4:=ai g4
    have rY:=ai sU
    have jd:(k:Int)<(ss.length:Int):=by omega
    have l1:=B.isLt HY.o
    have l0:=B.isLt HX.o
    have l2:¬w.heap.size=wr.heap.size:=by omega
    have l3:¬w.heap.size+1=wr.heap.size:=by omega
    have l4:¬b=wr.heap.size:=by omega
    have l5:¬b'=wr.heap.size:=by omega
    clear e3 e4 e5 g3 g4 g5 bP uP hs sU hb
    have q1:Hid (((wr.alloc (.cells #[.bool lv,.slice aa na ca,.slice ap ky.length cp] 53)).alloc (.cells #[.bool lv,.slice ab nb cb,.slice aq ky.length cq] 53)).heap[wr.heap.size]?=some (.cells #[.bool lv,.slice aa na ca,.slice ap ky.length cp] 53 (0,0))):=B.alloc (B.new wr #[.bool lv,.slice aa na ca,.slice ap ky.length cp] 53) _
    have q2:Hid (((wr.alloc (.cells #[.bool lv,.slice aa na ca,.slice ap ky.length cp] 53)).alloc (.cells #[.bool lv,.slice ab nb cb,.slice aq ky.length cq] 53)).heap[wr.heap.size+1]?=some (.cells #[.bool lv,.slice ab nb cb,.slice aq ky.length cq] 53 (0,0))):=by
     have:=B.new (wr.alloc (.cells #[.bool lv,.slice aa na ca,.slice ap ky.length cp] 53)) #[.bool lv,.slice ab nb cb,.slice aq ky.length cq] 53
     rw[World.size_alloc] at this
     exact this
    have q3:Hid (((wr.alloc (.cells #[.bool lv,.slice ab nb cb,.slice aq ky.length cq] 53)).alloc (.cells #[.bool lv,.slice aa na ca,.slice ap ky.length cp] 53)).heap[wr.heap.size]?=some (.cells #[.bool lv,.slice ab nb cb,.slice aq ky.length cq] 53 (0,0))):=B.alloc (B.new wr #[.bool lv,.slice ab nb cb,.slice aq ky.length cq] 53) _
    have q4:Hid (((wr.alloc (.cells #[.bool lv,.slice ab nb cb,.slice aq ky.length cq] 53)).alloc (.cells #[.bool lv,.slice aa na ca,.slice ap ky.length cp] 53)).heap[wr.heap.size+1]?=some (.cells #[.bool lv,.slice aa na ca,.slice ap ky.length cp] 53 (0,0))):=by
     have:=B.new (wr.alloc (.cells #[.bool lv,.slice ab nb cb,.slice aq ky.length cq] 53)) #[.bool lv,.slice aa na ca,.slice ap ky.length cp] 53
     rw[World.size_alloc] at this
     exact this
    have q5:Hid (Below wr.heap.size wr ((wr.alloc (.cells #[.bool lv,.slice aa na ca,.slice ap ky.length cp] 53)).alloc (.cells #[.bool lv,.slice ab nb cb,.slice aq ky.length cq] 53)).drew):=below_drewN (((Below.refl wr.heap.size wr).alloc (Nat.le_refl _) (.cells #[.bool lv,.slice aa na ca,.slice ap ky.length cp] 53)).alloc (by simp) (.cells #[.bool lv,.slice ab nb cb,.slice aq ky.length cq] 53)) 1
    have q6:Hid (Below wr.heap.size wr ((wr.alloc (.cells #[.bool lv,.slice ab nb cb,.slice aq ky.length cq] 53)).alloc (.cells #[.bool lv,.slice aa na ca,.slice ap ky.length cp] 53)).drew):=below_drewN (((Below.refl wr.heap.size wr).alloc (Nat.le_refl _) (.cells #[.bool lv,.slice ab nb cb,.slice aq ky.length cq] 53)).alloc (by simp) (.cells #[.bool lv,.slice aa na ca,.slice ap ky.length cp] 53)) 1
    go_upto_region 6 with fail
    go_cut [6,7] (fun x6 x7 wx=>∃g h:Nat,x6=.pointer (some (Ad g 0))/\x7=.pointer (some (Ad h 0))/\wx.heap[g]?=some (.cells #[.bool lv,.slice aa na ca,.slice ap ky.length cp] 53 (0,0))/\wx.heap[h]?=some (.cells #[.bool lv,.slice ab nb cb,.slice aq ky.length cq] 53 (0,0))/\Below wr.heap.size wr wx)
    case first =>
     go_region
     all_goals
      go_wp2_with fail
      go_meet
      case rel=>first | exact⟨_,_,rfl,rfl,q1.out,q2.out,q5.out⟩ | exact⟨_,_,rfl,rfl,q4.out,q3.out,q6.out⟩
    case rest =>
     obtain⟨g,h,rfl,rfl,hg,hh,hbc⟩:=hcut
     obtain⟨WR,hWR⟩:=ex wr
     subst hWR
     have Vi:Hid (∀V,Below WR.heap.size WR V->Calls Tryz.prog 35 #[.slice aa na ca,.slice ab nb cb] V fun e w'=>e=.returned (.bool true)/\Below V.heap.size V w'):=fun V hV=>(AW.CP Ru Ru _ _ V (HE3.o.below hV) (HG3.o.below hV) rY.o.aw.2 rY.o.aw.2).mono fun e w' ⟨r,h1,h2,h3⟩=>by
      obtain rfl:r=true:=h2.2 rfl
      exact⟨h1,h3⟩
     have K7:ky.length<=140737488351232:=rY.o.aj
     have l9:=ai hbc
     have Ay:=ai (HB.o.trans (hbc.mono HB.o.size))
     have Y9:=ai (B.below HX.o hbc (B.isLt HX.o))
     have HYC:=ai (B.below HY.o hbc (B.isLt HY.o))
     have HGC:=ai hg
     have HHC:=ai hh
     obtain⟨f0,f1,f2⟩:=B.c3 hg
     obtain⟨f3,f4,f5⟩:=B.c3 hh
     clear hg hh hbc q1 q2 q3 q4 q5 q6 e0 e1 e2 g0 g1 g2 l1 l0 l2 l3 l4 l5 x1 y1
     go_wp2_with (go_at_call 35;refine(Vi.o _ l9.o).mono ?_;rintro e w3 ⟨rfl,hb3⟩;have fH:=ai (l9.o.trans (hb3.mono l9.o.size));have VF:=ai (B.below HGC.o hb3 (B.isLt HGC.o));have VE:=ai (B.below HHC.o hb3 (B.isLt HHC.o));have Pe:=ai (B.below Y9.o hb3 (B.isLt Y9.o));have RJ:=ai (B.below HYC.o hb3 (B.isLt HYC.o));clear hb3;have f6:w3.cell? (Ad g 2)=some (.slice ap ky.length cp):=B.cell VF.o 2 rfl;have f7:w3.cell? (Ad h 2)=some (.slice aq ky.length cq):=B.cell VE.o 2 rfl)
     clear f0 f1 f2 f3 f4 f5
     go_loopw [8] (fun iv wi=>∃m:Nat,m<=ky.length/\iv=I (m:Int)/\wi.heap[g]?=some (.cells #[.bool lv,.slice aa na ca,.slice ap ky.length cp] 53 (0,0))/\wi.heap[h]?=some (.cells #[.bool lv,.slice ab nb cb,.slice aq ky.length cq] 53 (0,0))/\wi.heap[w.heap.size]?=some (.cells #[I sl,.slice (some (Ad b off)) ss.length c1,.slice r1 nr c2,.slice o1 no c3] 30 (0,0))/\wi.heap[w.heap.size+1]?=some (.cells #[I sl,.slice (some (Ad b' off')) ss.length d1,.slice r2 nr d2,.slice o2 no d3] 30 (0,0))/\Below WR.heap.size WR wi) (fun iv _=>ky.length-(intOf iv).toNat)
     case atStart=>exact⟨0,by omega,rfl,VF.o,VE.o,Pe.o,RJ.o,fH.o⟩
     case round =>
      obtain⟨m,hm,rfl,hg,hh,hx,hy,ED⟩:=hrel
      have HGi:=ai hg
      have HHi:=ai hh
      have HXi:=ai hx
      have HYi:=ai hy
      have yC:=ai ED
      have f2:wr.cell? (Ad g 2)=some (.slice ap ky.length cp):=B.cell hg 2 rfl
      have f5:wr.cell? (Ad h 2)=some (.slice aq ky.length cq):=B.cell hh 2 rfl
      clear hg hh hx hy Vi VF VE Pe RJ fH f6 f7
      by_cases V7:m<ky.length
      · obtain⟨bp,JT,hap,acL,Ye⟩:=(HE4.o.below ED) (show 0<ky.length by omega)
        obtain⟨bq,ahl,haq,aii,Yd⟩:=(HG4.o.below ED) (show 0<ky.length by omega)
        subst hap haq
        obtain⟨k0,k1⟩:=Ye m V7
        obtain⟨k2,k3⟩:=Yd m V7
        obtain⟨z,hz⟩:=ex (FM.aN ky m)
        rw[<- hz] at k0 k1 k2 k3
        have hEP:=U5 z.page z.data
        have hmi:(m:Int)<(ky.length:Int):=by omega
        clear hz Ye Yd ED
        go_wp2
        go_quiet (fail)
        go_wp2
        go_roundw
        case rel=>exact⟨m+1,by omega,by go_num,HGi.o,HHi.o,HXi.o,HYi.o,below_drewN yC.o _⟩
        case measure=>simp[intOf];omega
      · obtain rfl:m=ky.length:=by omega
        have pO:=ai (HB.o.trans (ED.mono HB.o.size))
        clear ED
        go_wp2
        go_roundw
        case rel=>exact⟨k+1,by omega,by go_num,HXi.o,HYi.o,pO.o⟩
        case measure=>simp[intOf];omega
  · obtain rfl:k=ss.length:=by omega
    clear hb
    go_wp2
    go_ret
    exact⟨rfl,HB.o⟩
end FW
namespace GH
open Go.RowKit GK
open GW (aI bR bg cB)
open FW (ai aB)
open GF (blk)
def ny (w:World) (r:FM.Fl×Int) (e:Ending) (w':World):Prop:=∃az cs ar cr ao co,e=.returned (.tuple #[.agg (FW.bw r.1 az ar ao cs cr co),I r.2])/\(∀V,Kp (fun b=>b<w.heap.size) w' V->FW.fK V r.1 az ar ao)/\Below w.heap.size w w'
theorem vZ (w:World):FW.fK w oL none none none:=⟨fun h=>absurd h (Nat.not_lt_zero _),fun h=>absurd h (Nat.not_lt_zero _),fun h=>absurd h (Nat.not_lt_zero _)⟩
theorem mv (w:World) (g:Nat) (v0 v1 v2 v3:Value):Kp (fun b=>b=g) w ((((w.setCell ⟨g,0,none⟩ v0).setCell ⟨g,1,none⟩ v1).setCell ⟨g,2,none⟩ v2).setCell ⟨g,3,none⟩ v3) :=
 (sO (D:=fun b=>b=g) w g 0 1 2 v0 v1 v2 rfl).trans (Kp.set (fun b=>b=g) _ ⟨g,3,none⟩ v3 rfl) (fun _ _ h=>h)
theorem Nw {lo mb:Nat} {w2 w3 w4:World} {v:Value} {L:List GF.Lc} {f:FM.Fl} {vr vo:Value} (hm:GF.Mem lo mb w2 (fun b=>lo<=b/\b<w2.heap.size) f.slots v L f.ak) (h23:Below w2.heap.size w2 w3) (hr:w3.ownsRow w2.heap.size 70 13 vr f.procs.length (f.procs.flatMap aI)) (h34:Below w3.heap.size w3 w4) (ho:w4.ownsRow w3.heap.size 78 2 vo f.out.length (f.out.flatMap bR)) :
  GW.km (GF.jS lo mb) lo mb w4.heap.size (w4.alloc (.cells #[.iface 144 (.pointer (some ⟨mb,0,none⟩)),vr,vo] 151)) (fun b=>lo<=b/\b<w2.heap.size) vr vo (aZ f):=by
 have hlo:lo<=w2.heap.size:=by have:=hm.base;have:=B.isLt hm.head;omega
 have s23:=h23.size
 have s34:=h34.size
 have hA:Below w4.heap.size w4 (w4.alloc (.cells #[.iface 144 (.pointer (some ⟨mb,0,none⟩)),vr,vo] 151)):=(Below.refl _ _).alloc (Nat.le_refl _) _
 have h2A:Below w2.heap.size w2 (w4.alloc (.cells #[.iface 144 (.pointer (some ⟨mb,0,none⟩)),vr,vo] 151)):=(h23.trans (h34.mono s23)).trans (hA.mono (by omega))
 have hr4:=Kp.row (Kp.aF (D:=fun _=>False) h34) hr (fun _ _ g=>g)
 have lr:∀b,blk vr b->w2.heap.size<=b/\b<w3.heap.size:=fun b hb=>hr.lt b hb
 have lw:∀b,blk vo b->w3.heap.size<=b/\b<w4.heap.size:=fun b hb=>ho.lt b hb
 refine⟨B.new w4 _ _,⟨⟨v,L,hm.below h2A⟩,fun b hb=>⟨hb.1,Nat.lt_of_lt_of_le hb.2 h2A.size⟩⟩,?_,?_,by omega,fun g=>by have:=g.2;omega,fun g=>by have:=lr _ g;omega,fun g=>by have:=lw _ g;omega,fun b hb g=>by have:=lr b hb;have:=g.2;omega,fun b hb g=>by have:=lw b hb;have:=g.2;omega,fun b hb g=>by have:=lr b hb;have:=lw b g;omega⟩
 · exact lD (Kp.row (Kp.aF (D:=fun _=>False) hA) hr4 (fun _ _ g=>g)) (fun g hg=>by have:=lr g hg;omega)
 · exact lD (Kp.row (Kp.aF (D:=fun _=>False) hA) ho (fun _ _ g=>g)) (fun g hg=>by have:=lw g hg;omega)
end GH
namespace GT
open Go.RowKit GK GH
open FW (ai aB)
theorem U1:FW.pP oL:=⟨by unfold M.dF oL;decide,⟨by unfold M.bD oL;simp,fun k hk=>absurd hk (Nat.not_lt_zero _)⟩,by unfold M.bD oL;simp,by unfold M.bD oL;simp⟩
theorem U0 {g:FM.Fl} (h:GG.lZ GM.qy (aZ g)):FW.pP g:=by
 have h4:g.ak.length<=4:=h.mem.few.2
 have hl:=GO.ub h
 have ho:g.out.length<=2000:=h.out
 have hs:0<=g.slots/\g.slots<=512:=h.mem.slots
 refine⟨⟨by omega,by omega⟩,⟨by unfold M.bD;omega,fun k hk=>?_⟩,by unfold M.bD;omega,by unfold M.bD;omega⟩
 have hr:FM.aU (FM.ax g.ak k)=true:=h.mem.each k hk
 have hlen:=GO.sM h k hk
 cases hv:(FM.ax g.ak k).live with
 | true =>
  have L:=GM.gp hr hv
  refine⟨GO.II L.check,by unfold M.bD;omega,fun j hj=>⟨?_,?_⟩⟩
  · have:=GM.nO L.check (x:=(FM.aN (FM.ax g.ak k).aj j).page) (by
     rw[<- L.nums]
     unfold FM.numbers
     refine List.mem_map.2 ⟨_,?_,rfl⟩
     unfold FM.aN
     rw[List.getD_eq_getElem?_getD,List.getElem?_eq_getElem hj]
     exact List.getElem_mem hj)
    exact⟨by omega,by omega⟩
  · unfold M.bD
    rw[L.size j hj]
    decide
 | false =>
  unfold FM.aU at hr
  rw[hv] at hr
  simp only[Bool.false_eq_true,if_false,Bool.and_eq_true,decide_eq_true_eq] at hr
  have ea:(FM.ax g.ak k).aw=[]:=List.length_eq_zero_iff.1 hr.1
  have ep:(FM.ax g.ak k).aj.length=0:=by have:=hr.2;omega
  exact⟨by rw[ea];exact⟨fun i hi=>absurd hi (Nat.not_lt_zero _),by simp⟩,by rw[ep];unfold M.bD;omega,fun j hj=>by omega⟩
theorem LP (f:FM.Fl) (pick:Int):(GG.stepG GM.aQ (aZ f) pick).1=FW.gu f.procs f.out.length pick:=by
 unfold GG.stepG FW.gu
 have e1:(aZ f).ps=f.procs:=rfl
 have e2:(aZ f).out=f.out:=rfl
 rw[e1,e2]
 by_cases d:0<=pick/\pick<(f.procs.length:Int)
 · rw[if_neg (fun g=>g d),if_pos d]
   by_cases s:(FM.au f.procs pick.toNat).st=1
   · rw[if_neg (fun g=>g s)]
     by_cases o:2000<=f.out.length
     · rw[if_pos o,if_pos ⟨s,o⟩]
     · have e3:(if (FM.au f.procs pick.toNat).st=1/\2000<=f.out.length then (2:Int) else 0)=0:=if_neg (fun g=>o g.2)
       rw[if_neg o,e3]
       dsimp only
       split <;> rfl
   · rw[if_pos s,if_neg (fun g=>s g.1)]
 · rw[if_pos d,if_neg d]
end GT
namespace GH
open Go.RowKit GK
open GW (aI bR bg cB)
open FW (ai aB)
open GF (blk)
theorem BH (f:FM.Fl) (r:Int×Option (GG.St GM.Mf)) (q:Nat) (az ar ao:Option Addr) (cs cr co:Nat) (w:World) (h:FW.fK w f az ar ao) (hf:FW.pP f) (hr:r.1=0->∃s,r.2=some s)
  (hc:FM.cT f=0->∀(V:World) (lo mb gb:Nat) (D:Nat->Prop) (vr vo:Value),Below w.heap.size w V->w.heap.size<=lo->GW.km (GF.jS lo mb) lo mb gb V D vr vo (aZ f)->Calls Tryz.prog 58 #[.pointer (some ⟨gb,0,none⟩),.pointer (some ⟨q,0,none⟩)] V (GW.uq (GF.jS lo mb) lo mb gb V D vr vo r)) :
  Calls Tryz.prog 44 #[.agg (FW.bw f az ar ao cs cr co),.func (.func 58) #[] #[.pointer (some ⟨q,0,none⟩)]] w (ny w (mD f r)):=by
 have vQ:Hid (∀V,Below w.heap.size w V->Calls Tryz.prog 12 #[.agg (FW.bw f az ar ao cs cr co)] V fun e w'=>e=.returned (I (FM.cT f))/\Below V.heap.size V w'):=fun V hV=>FW.dx f az ar ao cs cr co V (h.below hV) hf
 have R3:Hid (FM.cT f=0->∀V,Below w.heap.size w V->Calls Tryz.prog 78 #[.agg (FW.bw f az ar ao cs cr co)] V (GF.Ca V f.slots f.ak)):=fun hk V hV=>by
  obtain⟨c1,c2,c3,c4⟩:=counts_of hk
  obtain⟨h1,h2⟩:=lF hk
  unfold FM.gF at h1
  simp only[Bool.and_eq_true,decide_eq_true_eq,List.all_eq_true] at h1
  refine GF.yT f az ar ao cs cr co V (h.ak.below hV) hf.ak (by omega) (fun k hk=>?_)
  have hm:FM.ax f.ak k∈f.ak:=by
   unfold FM.ax
   rw[List.getD_eq_getElem?_getD,List.getElem?_eq_getElem hk]
   exact List.getElem_mem hk
  have hrs:=h1.1 _ hm
  cases hl:(FM.ax f.ak k).live with
  | true =>
   have hL:=GM.gp hrs hl
   have:=AM.dY _ hL.check
   have:=GM.ed hL
   have:=FW.gB (FM.ax f.ak k).aw
   omega
  | false =>
   unfold FM.aU at hrs
   rw[hl] at hrs
   simp only[Bool.false_eq_true,if_false,Bool.and_eq_true,decide_eq_true_eq] at hrs
   omega
 have EH:Hid (FM.cT f=0->∀V,Below w.heap.size w V->Calls Tryz.prog 79 #[.slice ar f.procs.length cr] V fun e w'=>∃a' c',e=.returned (.slice a' f.procs.length c')/\w'.ownsRow V.heap.size 70 13 (.slice a' f.procs.length c') f.procs.length (f.procs.flatMap aI)/\Below V.heap.size V w'):=fun hk V hV=>by
  obtain⟨c1,c2,c3,c4⟩:=counts_of hk
  refine(Q3 ar f.procs.length cr (f.procs.flatMap aI) V (bC aI 13 bg _) ((H8 h.procs).below hV) (Fg _) (by omega)).mono ?_
  rintro e w' ⟨v,rfl,h1,h2⟩
  obtain⟨a',c',rfl,_,_⟩:=aL h1
  exact⟨a',c',rfl,h1,h2⟩
 have Zd:Hid (FM.cT f=0->∀V,Below w.heap.size w V->Calls Tryz.prog 80 #[.slice ao f.out.length co] V fun e w'=>∃a' c',e=.returned (.slice a' f.out.length c')/\w'.ownsRow V.heap.size 78 2 (.slice a' f.out.length c') f.out.length (f.out.flatMap bR)/\Below V.heap.size V w'):=fun hk V hV=>by
  obtain⟨c1,c2,c3,c4⟩:=counts_of hk
  refine(Q0 ao f.out.length co (f.out.flatMap bR) V (bC bR 2 cB _) ((Hw h.out).below hV) (LD _) (by omega)).mono ?_
  rintro e w' ⟨v,rfl,h1,h2⟩
  obtain⟨a',c',rfl,_,_⟩:=aL h1
  exact⟨a',c',rfl,h1,h2⟩
 have HC:=ai hc
 have HR:=ai hr
 obtain⟨ck,qa⟩:=ex (FM.cT f)
 have Ax:Hid (mD f r=if ¬ck=0 then (oL,ck) else if ¬r.1=0 then (oL,r.1) else match r.2 with | none=>(oL,r.1) | some s=>(AB s,0)):=by rw[qa];exact rfl
 rw[<- qa] at vQ R3 EH Zd HC
 obtain⟨R,hR⟩:=ex (mD f r)
 rw[<- hR] at Ax ⊢
 obtain⟨P,hP⟩:=ex (ny w R)
 have HP:Hid (∀e w',ny w R e w'->P e w'):=fun e w' h=>by rw[hP];exact h
 rw[<- hP]
 unfold FW.bw at vQ R3 ⊢
 have Vs:Hid (aZ f=⟨⟨f.slots,f.ak⟩,f.procs,f.out⟩):=rfl
 obtain⟨ns,hns⟩:=ex f.ak.length
 obtain⟨np,fB⟩:=ex f.procs.length
 obtain⟨no,hno⟩:=ex f.out.length
 obtain⟨sl,hsl⟩:=ex f.slots
 rw[<- hns,<- fB,<- hno,<- hsl] at vQ R3 ⊢
 rw[<- fB] at EH
 rw[<- hno] at Zd
 have uv:=ai fB
 have mS:=ai hno
 have EG:=ai hsl
 have cY:=ai (((Below.refl w.heap.size w).alloc (Nat.le_refl _) (.cells #[I sl,.slice az ns cs,.slice ar np cr,.slice ao no co] 30)).alloc (by simp) (.cells #[I 0,Nl,Nl,Nl] 30))
 have BX:=ai (B.alloc (B.new w #[I sl,.slice az ns cs,.slice ar np cr,.slice ao no co] 30) (.cells #[I 0,Nl,Nl,Nl] 30))
 have BZ:=ai (B.new (w.alloc (.cells #[I sl,.slice az ns cs,.slice ar np cr,.slice ao no co] 30)) #[I 0,Nl,Nl,Nl] 30)
 clear h hf hc hr qa hR hP hns fB hno hsl
 go_enter Tryz.func44,Tryz.ntmps44
 go_wp2_with fail
 obtain⟨WA,gw⟩:=ex ((w.alloc (.cells #[I sl,.slice az ns cs,.slice ar np cr,.slice ao no co] 30)).alloc (.cells #[I 0,Nl,Nl,Nl] 30))
 have hsz1:(w.alloc (.cells #[I sl,.slice az ns cs,.slice ar np cr,.slice ao no co] 30)).heap.size=w.heap.size+1:=by simp
 rw[hsz1] at BZ
 rw[<- gw] at cY BX BZ ⊢
 obtain⟨x,Ip⟩:=ex w.heap.size
 obtain⟨z,J5⟩:=ex (w.heap.size+1)
 rw[<- J5] at BZ ⊢
 rw[<- Ip] at BX ⊢
 have HXE:=ai Ip
 have HZE:=ai J5
 have hxz:¬x=z:=by omega
 have hzx:¬z=x:=by omega
 have tM:Hid (∀V,Below WA.heap.size WA V->V.heap[z]?=some (.cells #[I 0,Nl,Nl,Nl] 30 (0,0))):=fun V hb=>B.below BZ.o hb (B.isLt BZ.o)
 have tG:Hid (∀V,Below WA.heap.size WA V->V.cell? ⟨x,0,none⟩=some (I sl)/\V.cell? ⟨x,1,none⟩=some (.slice az ns cs)/\V.cell? ⟨x,2,none⟩=some (.slice ar np cr)/\V.cell? ⟨x,3,none⟩=some (.slice ao no co)):=fun V hb=>by
  have h1:=B.below BX.o hb (B.isLt BX.o)
  exact⟨B.cell h1 0 rfl,B.cell h1 1 rfl,B.cell h1 2 rfl,B.cell h1 3 rfl⟩
 have Pd:Hid (∀V,Below WA.heap.size WA V->(V.cell? ⟨z,0,none⟩=some (I 0)/\V.cell? ⟨z,1,none⟩=some Nl/\V.cell? ⟨z,2,none⟩=some Nl/\V.cell? ⟨z,3,none⟩=some Nl)/\V.frozen? ⟨z,0,none⟩=false/\V.frozen? ⟨z,1,none⟩=false/\V.frozen? ⟨z,2,none⟩=false/\V.frozen? ⟨z,3,none⟩=false):=fun V hb=>by
  have h1:=tM.o V hb
  exact⟨⟨B.cell h1 0 rfl,B.cell h1 1 rfl,B.cell h1 2 rfl,B.cell h1 3 rfl⟩,B.free h1 0,B.free h1 1,B.free h1 2,B.free h1 3⟩
 have MW:=B.isLt BZ.o
 have Vc:Hid (w.heap.size<=z):=(by rw[J5];omega:w.heap.size<=z)
 clear gw hsz1 Ip J5 BX BZ
 refine(vQ.o _ cY.o).mono ?_
 rintro e w1 ⟨rfl,hb1⟩
 have bj:=ai hb1
 obtain⟨⟨z0,z1,z2,z3⟩,f0,f1,f2,f3⟩:=Pd.o _ hb1
 obtain⟨x0,x1,x2,x3⟩:=tG.o _ hb1
 clear hb1 vQ
 by_cases F8:ck=0
 · subst F8
   have Ty:=ai (HC.o rfl)
   have ZA:=ai (R3.o rfl)
   have Zt:=ai (EH.o rfl)
   have Zc:=ai (Zd.o rfl)
   have Sn:Hid (R=if ¬r.1=0 then (oL,r.1) else match r.2 with | none=>(oL,r.1) | some s=>(AB s,0)):=by rw[Ax.o,if_neg (fun g=>g rfl)];exact rfl
   clear HC R3 EH Zd Ax
   go_wp2_with (go_at_call 78;refine(ZA.o _ (cY.o.trans (bj.o.mono cY.o.size))).mono ?_;rintro e w2 ⟨mb,v,L,rfl,hm,hb2⟩;have I8:=ai hm;have bW:=ai hb2;clear hm hb2)
   have ZE:=ai (bj.o.trans (bW.o.mono bj.o.size))
   have je:=ai ZE.o.drew
   have cw:=ai ((tG.o _ je.o).2.2)
   clear x0 x1 x2 x3 z0 z1 z2 z3 f0 f1 f2 f3
   go_cut [8] (fun x8 wx=>∃gb D vr vo,x8=.pointer (some ⟨gb,0,none⟩)/\GW.km (GF.jS w1.heap.size mb) w1.heap.size mb gb wx D vr vo (aZ f)/\Below WA.heap.size WA wx)
   case first =>
    go_region_held3 (fun V=>V.cell? ⟨x,2,none⟩=some (.slice ar np cr)/\V.cell? ⟨x,3,none⟩=some (.slice ao no co)) (first | exact Ti.o | exact yx.o | exact cw.o | exact(tG.o _ (Hi.o.alloc Hi.o.size _)).2.2)
     (first
      | (go_at_call 79;refine(Zt.o _ (cY.o.trans (je.o.mono cY.o.size))).mono ?_;rintro e w3 ⟨a3,c3,rfl,XV,hb3⟩;have Vu:=ai XV;have fH:=ai hb3;have qo:=ai (je.o.trans (hb3.mono je.o.size));have yx:=ai ((tG.o _ qo.o).2.2);clear XV hb3)
      | (go_at_call 80;refine(Zc.o _ (cY.o.trans (qo.o.mono cY.o.size))).mono ?_;rintro e w4 ⟨a4,c4,rfl,ho4,hb4⟩;have Wt:=ai ho4;have mU:=ai hb4;have Hi:=ai (qo.o.trans (hb4.mono qo.o.size));have Ti:=ai ((tG.o _ Hi.o).2.2);clear ho4 hb4))
    all_goals
     go_wp2_with fail
     go_meet
     case rel =>
      refine⟨_,_,_,_,rfl,Nw (by rw[<- EG.o];exact I8.o) ((Below.refl _ _).drew.trans fH.o) ?_ mU.o ?_,Hi.o.alloc Hi.o.size _⟩
      · rw[<- uv.o];exact Vu.o
      · rw[<- mS.o];exact Wt.o
   case rest =>
    obtain⟨gb,D,vr,vo,rfl,hg,hbc⟩:=hcut
    have HG:=ai hg
    have l9:=ai hbc
    have HWB:=ai (cY.o.trans (hbc.mono cY.o.size))
    have Lp:Hid (w.heap.size<=w1.heap.size):=(by have:=cY.o.size;have:=bj.o.size;omega:w.heap.size<=w1.heap.size)
    have cI:=ai (Ty.o wc w1.heap.size mb gb D vr vo HWB.o Lp.o hg)
    have HGL:=ai (fun b=>GW.km.lt (GF.Qg w1.heap.size mb) hg b)
    clear hg hbc Ty ZA Zt Zc I8 bW ZE je cw
    by_cases oF:r.1=0
    · obtain⟨s,hs⟩:=HR.o oF
      have ki:Hid (R=(AB s,0)):=by rw[Sn.o,if_neg (fun g=>g oF),hs];exact rfl
      have nC:Hid (Calls Tryz.prog 58 #[.pointer (some ⟨gb,0,none⟩),.pointer (some ⟨q,0,none⟩)] wc fun e w'=>e=.returned (I 0)/\Below WA.heap.size WA w'/\∃D' vr' vo',GW.km (GF.jS w1.heap.size mb) w1.heap.size mb gb w' D' vr' vo' s):=cI.o.mono fun e w' ⟨h1,h2,h3⟩=>by
       obtain⟨D',vr',vo',hg',_,_⟩:=h3 s hs
       rw[oF] at h1
       exact⟨h1,Kp.below l9.o h2 l9.o.size (fun b hb=>Nat.le_trans bj.o.size (HGL.o b hb).1),D',vr',vo',hg'⟩
      have HC3:Hid (Calls Tryz.prog 58 #[.pointer (some ⟨gb,0,none⟩),.pointer (some ⟨q,0,none⟩)] wc fun e w'=>∃a5 c5 a6 c6 a7 c7,e=.returned (I 0)/\Below WA.heap.size WA w'/\(w'.cell? ⟨mb,0,none⟩=some (I s.mem.slots)/\w'.cell? ⟨mb,1,none⟩=some (.slice a7 s.mem.ak.length c7)/\w'.cell? ⟨gb,1,none⟩=some (.slice a5 s.ps.length c5)/\w'.cell? ⟨gb,2,none⟩=some (.slice a6 s.out.length c6))/\(¬mb=z/\¬gb=z)/\∀V,Kp (fun b=>b<=z) w' V->FW.fK V (AB s) a7 a5 a6):=nC.o.mono fun e w' ⟨h1,h2,D',vr',vo',hg⟩=>by
       obtain⟨a5,c5,rfl,_,_⟩:=aL hg.procs
       obtain⟨a6,c6,rfl,_,_⟩:=aL hg.outs
       obtain⟨⟨v7,L7,hM⟩,hD⟩:=hg.mem
       obtain⟨a7,c7,rfl,_⟩:=hM.has
       have EA:z<w1.heap.size:=Nat.lt_of_lt_of_le MW bj.o.size
       have hgl:=GW.km.lt (GF.Qg w1.heap.size mb) hg
       refine⟨a5,c5,a6,c6,a7,c7,h1,h2,⟨B.cell hM.head 0 rfl,B.cell hM.head 1 rfl,B.cell hg.head 1 rfl,B.cell hg.head 2 rfl⟩,⟨fun e=>by have:=hM.base;omega,fun e=>by have:=hg.base;omega⟩,fun V hV=>?_⟩
       have hMV:=hM.kp hV (fun b hb e=>by have:=(hD b hb).1;omega)
       obtain⟨a8,c8,e8,h8⟩:=hMV.has
       injection e8 with e9 _ _
       subst e9
       exact⟨h8,Ml (hV.row hg.procs (fun b hb e=>by have:=(hgl b (.inr (.inr (.inl hb)))).1;omega)),LF (hV.row hg.outs (fun b hb e=>by have:=(hgl b (.inr (.inr (.inr hb)))).1;omega))⟩
      have HTF:Hid (AB s=⟨s.mem.slots,s.mem.ak,s.ps,s.out⟩):=rfl
      obtain⟨s0,hs0⟩:=ex s.mem.slots
      obtain⟨s1,hs1⟩:=ex s.mem.ak.length
      obtain⟨s2,hs2⟩:=ex s.ps.length
      obtain⟨s3,hs3⟩:=ex s.out.length
      rw[<- hs0,<- hs1,<- hs2,<- hs3] at HC3
      have ZK:Hid (∀a7 c7 a5 c5 a6 c6,FW.bw (AB s) a7 a5 a6 c7 c5 c6=#[I s0,.slice a7 s1 c7,.slice a5 s2 c5,.slice a6 s3 c6]):=fun a7 c7 a5 c5 a6 c6=>by rw[hs0,hs1,hs2,hs3];rfl
      clear Sn cI hs oF HR nC hs0 hs1 hs2 hs3 HGL HG
      go_wp2_with (go_at_call 58;refine HC3.o.mono ?_;rintro e w5 ⟨a5,c5,a6,c6,a7,c7,rfl,ot,hcl,hnz,hfl⟩;have jg:=ai ot;have Lr:=ai hcl;have KY:=ai hfl;obtain⟨⟨z0,z1,z2,z3⟩,f0,f1,f2,f3⟩:=Pd.o _ ot;obtain⟨nz1,nz2⟩:=hnz;clear ot hcl hfl)
      have uu:Hid (∀V,Kp (fun b=>b=z) w5 V->V.cell? ⟨mb,0,none⟩=some (I s0)/\V.cell? ⟨mb,1,none⟩=some (.slice a7 s1 c7)/\V.cell? ⟨gb,1,none⟩=some (.slice a5 s2 c5)/\V.cell? ⟨gb,2,none⟩=some (.slice a6 s3 c6)):=fun V hV=>by
       obtain⟨q0,q1,q2,q3⟩:=Lr.o
       exact⟨hV.cell q0 nz1,hV.cell q1 nz1,hV.cell q2 nz2,hV.cell q3 nz2⟩
      go_region_held3 (fun V=>V.cell? ⟨mb,0,none⟩=some (I s0)/\V.cell? ⟨mb,1,none⟩=some (.slice a7 s1 c7)/\V.cell? ⟨gb,1,none⟩=some (.slice a5 s2 c5)/\V.cell? ⟨gb,2,none⟩=some (.slice a6 s3 c6)) (first | exact Lr.o | exact uu.o _ ((mv w5 z _ _ _ _).trans (Kp.drew (fun b=>b=z) _) (fun _ _ g=>g))) (fail)
      all_goals
       go_wp2
       refine bodyPost_ret (v:=.tuple #[.agg #[I s0,.slice a7 s1 c7,.slice a5 s2 c5,.slice a6 s3 c6],I 0]) (by simp[results,Tryz.results44,go_sem,z0,z1,z2,z3]) rfl ?_
       refine HP.o _ _ ?_
       rw[ki.o]
       have hk4:=(mv w5 z (I s0) (.slice a7 s1 c7) (.slice a5 s2 c5) (.slice a6 s3 c6)).trans (Kp.drew (fun b=>b=z) _) (fun _ _ g=>g)
       refine⟨a7,c7,a5,c5,a6,c6,by rw[ZK.o],fun V hV=>KY.o _ ((hk4.mono (fun b _ e=>Nat.le_of_eq e)).trans hV (fun b _ g=>Nat.le_of_lt (Nat.lt_of_lt_of_le g Vc.o))),Kp.below (cY.o.trans (jg.o.mono cY.o.size)) hk4 (Nat.le_trans cY.o.size jg.o.size) (fun b e=>by rw[e];exact Vc.o)⟩
    · have ki:Hid (R=(oL,r.1)):=by rw[Sn.o,if_pos oF];exact rfl
      obtain⟨rc,hrc⟩:=ex r.1
      have nC:Hid (Calls Tryz.prog 58 #[.pointer (some ⟨gb,0,none⟩),.pointer (some ⟨q,0,none⟩)] wc fun e w'=>e=.returned (I rc)/\Below WA.heap.size WA w'):=cI.o.mono fun e w' ⟨h1,h2,h3⟩=>by
       rw[<- hrc] at h1
       exact⟨h1,Kp.below l9.o h2 l9.o.size (fun b hb=>Nat.le_trans bj.o.size (HGL.o b hb).1)⟩
      have jd:(rc==0)=false:=by rw[beq_eq_false_iff_ne,hrc];exact oF
      rw[<- hrc] at ki
      clear Sn cI oF HR hrc
      go_wp2_with (go_at_call 58;refine nC.o.mono ?_;rintro e w5 ⟨rfl,ot⟩;have jg:=ai ot;obtain⟨⟨z0,z1,z2,z3⟩,f0,f1,f2,f3⟩:=Pd.o _ ot;clear ot)
      refine bodyPost_ret (v:=.tuple #[.agg #[I 0,Nl,Nl,Nl],I rc]) (by simp[results,Tryz.results44,go_sem,z0,z1,z2,z3]) rfl ?_
      refine HP.o _ _ ?_
      rw[ki.o]
      exact⟨none,0,none,0,none,0,rfl,fun V _=>vZ V,Kp.below (cY.o.trans (jg.o.mono cY.o.size)) (mv w5 z _ _ _ _) (Nat.le_trans cY.o.size jg.o.size) (fun b e=>by rw[e];exact Vc.o)⟩
 · have ki:Hid (R=(oL,ck)):=by rw[Ax.o,if_pos F8];exact rfl
   have jd:(ck==0)=false:=by rw[beq_eq_false_iff_ne];exact F8
   clear Ax F8 HC R3 EH Zd
   go_wp2
   refine bodyPost_ret (v:=.tuple #[.agg #[I 0,Nl,Nl,Nl],I ck]) (by simp[results,Tryz.results44,go_sem,z0,z1,z2,z3]) rfl ?_
   refine HP.o _ _ ?_
   rw[ki.o]
   exact⟨none,0,none,0,none,0,rfl,fun V _=>vZ V,Kp.below (cY.o.trans (bj.o.mono cY.o.size)) (mv w1 z _ _ _ _) (Nat.le_trans cY.o.size bj.o.size) (fun b e=>by rw[e];exact Vc.o)⟩
theorem rS.below {w w':World} {ao:Option Addr} {l:List Int} (h:GW.rS w ao l) (hb:Below w.heap.size w w'):GW.rS w' ao l:=fun hl=>by
 obtain⟨b,off,e,hlt,hc⟩:=h hl
 exact⟨b,off,e,Nat.lt_of_lt_of_le hlt hb.size,fun i hi=>(hb.cell (p:=⟨b,off+i,none⟩) hlt).trans (hc i hi)⟩
theorem L9 (st:GG.St GM.Mf) (picks:List Int) (h:(GG.tV GM.aQ st picks).1=0):∃s,(GG.tV GM.aQ st picks).2=some s:=by
 unfold GG.tV at h ⊢
 by_cases c:2000<picks.length
 · rw[if_pos c] at h;cases h
 · rw[if_neg c] at h ⊢
   cases e:GG.ez GM.aQ picks picks.length (some st) with
   | none=>rw[e] at h;cases h
   | some s=>exact⟨s,rfl⟩
theorem Md {f:FM.Fl} {lo mb gb:Nat} {D:Nat->Prop} {vr vo:Value} (picks:List Int) (ap:Option Addr) (cp q:Nat) (V:World) (hk:FM.cT f=0) (hp:qR f.procs) (hg:GW.km (GF.jS lo mb) lo mb gb V D vr vo (aZ f)) (hq:V.cell? ⟨q,0,none⟩=some (.slice ap picks.length cp)) (hn:GW.rS V ap picks) (hps:0<picks.length->∀b,ap=some b->b.block<lo) (hpl:picks.length<=140737488351232) :
  Calls Tryz.prog 58 #[.pointer (some ⟨gb,0,none⟩),.pointer (some ⟨q,0,none⟩)] V (GW.uq (GF.jS lo mb) lo mb gb V D vr vo (GG.tV GM.aQ (aZ f) picks)):=by
 have HS:=ai (GW.vU (GF.Qg lo mb) picks ap cp V hg (Bo hk hp) hn (fun h0 b e g=>by have:=(hg.lt (GF.Qg lo mb) _ g).1;have:=hps h0 b e;omega) hpl)
 obtain⟨X,hX⟩:=ex (GG.tV GM.aQ (aZ f) picks)
 rw[<- hX] at HS ⊢
 obtain⟨P,hP⟩:=ex (GW.uq (GF.jS lo mb) lo mb gb V D vr vo X)
 have HP:Hid (∀w',(Kp (GW.jY gb D vr vo) V w'/\∀s,X.2=some s->GW.Left (GF.jS lo mb) lo mb gb V D vr vo s w')->P (.returned (I X.1)) w'):=fun w' h=>by
  rw[hP]
  exact⟨rfl,h.1,h.2⟩
 rw[<- hP]
 obtain⟨X1,hX1⟩:=ex X.1
 have ql:Hid (Calls Tryz.prog 59 #[.pointer (some ⟨gb,0,none⟩),.slice ap picks.length cp] V fun e w'=>e=.returned (I X1)/\Kp (GW.jY gb D vr vo) V w'/\∀s,X.2=some s->GW.Left (GF.jS lo mb) lo mb gb V D vr vo s w'):=by rw[hX1];exact HS.o
 rw[<- hX1] at HP
 clear hX hP hg HS hX1 hn hps
 go_enter Tryz.func58,Tryz.ntmps58
 go_wp2_with (go_at_call 59;refine ql.o.mono ?_;rintro e w1 ⟨rfl,hl⟩;have HL:=ai hl;clear hl)
 exact HP.o _ HL.o
theorem vU (f:FM.Fl) (picks:List Int) (ap:Option Addr) (cp:Nat) (az ar ao:Option Addr) (cs cr co:Nat) (w:World) (h:FW.fK w f az ar ao) (hf:FW.pP f) (hp:qR f.procs) (hn:GW.rS w ap picks) (hps:0<picks.length->∀b,ap=some b->b.block<w.heap.size) (hpl:picks.length<=140737488351232) :
  Calls Tryz.prog 17 #[.agg (FW.bw f az ar ao cs cr co),.slice ap picks.length cp] w (ny w (l6 f picks)):=by
 obtain⟨r,hr⟩:=ex (l6 f picks)
 have Sm:Hid (∀V q,Below w.heap.size w V->V.cell? ⟨q,0,none⟩=some (.slice ap picks.length cp)->Calls Tryz.prog 44 #[.agg (FW.bw f az ar ao cs cr co),.func (.func 58) #[] #[.pointer (some ⟨q,0,none⟩)]] V fun e w'=>∃s0 a1 s1 c1 a2 s2 c2 a3 s3 c3 er,e=.returned (.tuple #[.agg #[I s0,.slice a1 s1 c1,.slice a2 s2 c2,.slice a3 s3 c3],I er])/\Below V.heap.size V w'/\∀U,Kp (fun b=>b<V.heap.size) w' U->Below w.heap.size w U->ny w r (.returned (.tuple #[.agg #[I s0,.slice a1 s1 c1,.slice a2 s2 c2,.slice a3 s3 c3],I er])) U):=fun V q hV hq=>by
  rw[hr]
  refine(BH f (GG.tV GM.aQ (aZ f) picks) q az ar ao cs cr co V (h.below hV) hf (L9 _ _) (fun hk U lo mb gb D vr vo hU hlo hg=>Md picks ap cp q U hk hp hg ((hU.cell (p:=⟨q,0,none⟩) (World.block_lt_of_cell? _ _ hq)).trans hq) (rS.below (rS.below hn hV) hU) (fun h0 b e=>Nat.lt_of_lt_of_le (hps h0 b e) (Nat.le_trans hV.size hlo)) hpl)).mono ?_
  rintro e w' ⟨a1,c1,a2,c2,a3,c3,rfl,h1,h2⟩
  exact⟨_,a1,_,c1,a2,_,c2,a3,_,c3,_,rfl,h2,fun U hU hb=>⟨a1,c1,a2,c2,a3,c3,rfl,fun V2 h3=>h1 _ (hU.trans h3 (fun b _ g=>Nat.lt_of_lt_of_le g hV.size)),hb⟩⟩
 rw[<- hr]
 obtain⟨P,hP⟩:=ex (ny w r)
 rw[<- hP] at Sm ⊢
 clear h hf hp hr hP hn hps
 unfold FW.bw at Sm ⊢
 obtain⟨ns,hns⟩:=ex f.ak.length
 obtain⟨np,fB⟩:=ex f.procs.length
 obtain⟨no,hno⟩:=ex f.out.length
 obtain⟨sl,hsl⟩:=ex f.slots
 rw[<- hns,<- fB,<- hno,<- hsl] at Sm ⊢
 clear hns fB hno hsl
 obtain⟨pl,hpe⟩:=ex picks.length
 rw[<- hpe] at Sm ⊢
 clear hpe hpl
 obtain⟨WQ,YG⟩:=ex ((w.alloc (.cells #[I sl,.slice az ns cs,.slice ar np cr,.slice ao no co] 30)).alloc (.cells #[.slice ap pl cp] 44))
 have hwq:WQ.heap.size=w.heap.size+1+1:=by rw[YG];simp
 have BQ:WQ.heap[w.heap.size+1]?=some (.cells #[.slice ap pl cp] 44 (0,0)):=by
  rw[YG]
  have:=B.new (w.alloc (.cells #[I sl,.slice az ns cs,.slice ar np cr,.slice ao no co] 30)) #[.slice ap pl cp] 44
  simpa using this
 have HBQ:Below w.heap.size w WQ:=by rw[YG];exact((Below.refl w.heap.size w).alloc (Nat.le_refl _) _).alloc (by simp) _
 have cY:=ai (HBQ.alloc HBQ.size (.cells #[I 0,Nl,Nl,Nl] 30))
 have hq:(WQ.alloc (.cells #[I 0,Nl,Nl,Nl] 30)).cell? ⟨w.heap.size+1,0,none⟩=some (.slice ap pl cp):=B.cell (B.alloc BQ _) 0 rfl
 have BZ:=B.new WQ #[I 0,Nl,Nl,Nl] 30
 rw[hwq] at BZ
 obtain⟨WA,gw⟩:=ex (WQ.alloc (.cells #[I 0,Nl,Nl,Nl] 30))
 rw[<- gw] at cY hq BZ
 have ZT:=ai (Sm.o WA (w.heap.size+1) cY.o hq)
 have HZB:=ai BZ
 rw[YG] at gw
 rw[gw] at ZT
 have HWA:=ai gw
 clear gw YG hwq BQ HBQ hq BZ Sm
 go_enter Tryz.func17,Tryz.ntmps17
 go_wp2_with (go_at_call 44;refine ZT.o.mono ?_;rintro e w1 ⟨s0,a1,s1,c1,a2,s2,c2,a3,s3,c3,er,rfl,hb,ho⟩;rw[<- HWA.o] at hb ho;have bj:=ai hb;have Lm:=ai ho;have hz1:=B.below HZB.o hb (B.isLt HZB.o);obtain⟨z0,z1,z2,z3⟩:=B.c4 hz1;have f0:=B.free hz1 0;have f1:=B.free hz1 1;have f2:=B.free hz1 2;have f3:=B.free hz1 3;clear hb ho hz1)
 refine bodyPost_ret (v:=.tuple #[.agg #[I s0,.slice a1 s1 c1,.slice a2 s2 c2,.slice a3 s3 c3],I er]) (by simp[results,Tryz.results17,go_sem,z0,z1,z2,z3]) rfl ?_
 have hk4:=mv w1 (w.heap.size+1+1) (I s0) (.slice a1 s1 c1) (.slice a2 s2 c2) (.slice a3 s3 c3)
 have hzl:=B.isLt HZB.o
 exact Lm.o _ (hk4.mono (fun b _ e=>by rw[e];exact hzl)) (Kp.below (cY.o.trans (bj.o.mono cY.o.size)) hk4 (Nat.le_trans cY.o.size bj.o.size) (fun b e=>by omega))
end GH
end Go.Proofs.YtkdigjpejnebkaaGreat
