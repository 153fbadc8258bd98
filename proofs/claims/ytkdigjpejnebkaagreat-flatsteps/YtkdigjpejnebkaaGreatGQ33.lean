import Derived.Test.YtkdigjpejnebkaaGreatGQ00
import Derived.Test.YtkdigjpejnebkaaGreatGQ07
import Derived.ChangeKeysEq
import Derived.Test.YtkdigjpejnebkaaGreatGQ27
import Derived.Deep.RegionLaw
import Derived.Deep.DeepCutAuto
import Derived.Test.YtkdigjpejnebkaaGreatGQ23
set_option maxHeartbeats 20000000
set_option linter.unusedVariables false
set_option maxRecDepth 100000
set_option linter.unusedSimpArgs false
namespace Go.Proofs.YtkdigjpejnebkaaGreat
namespace FW
open Go.RowKit
theorem UY (a b:Int) (V:World):(Op.equalIn 10000 78 (.agg #[I a,I b]) (.agg #[I a,I b])).run Tryz.prog V=.ok true V:=by
 simp[go_sem]
theorem yJ (o:List FM.Wd) (a1 a2:Option Addr) (c1 c2:Nat) (w:World) (h1:yq w a1 o) (h2:yq w a2 o) (hn:o.length<=140737488351232) :
  Calls Tryz.prog 34 #[.slice a1 o.length c1,.slice a2 o.length c2] w fun e w'=>e=.returned (.bool true)/\Below w.heap.size w w':=by
 have H1:=ai h1
 have H2:=ai h2
 clear h1 h2
 go_enter Tryz.func34,Tryz.ntmps34
 go_wp2
 go_loopw [5] (fun iv wr=>∃j:Nat,j<=o.length/\iv=I (j:Int)/\Below w.heap.size w wr) (fun iv _=>o.length-(intOf iv).toNat)
 case atStart=>exact⟨0,by omega,rfl,Below.refl _ _⟩
 case round =>
  obtain⟨j,hj,rfl,hb⟩:=hrel
  have HB:=ai hb
  by_cases hlt:j<o.length
  · obtain⟨b,off,hao,hbl,bQ⟩:=(H1.o.below hb) (by omega)
    obtain⟨b',off',hao',Yo,uM⟩:=(H2.o.below hb) (by omega)
    subst hao
    subst hao'
    obtain⟨d0,d1⟩:=bQ j hlt
    obtain⟨e0,e1⟩:=uM j hlt
    obtain⟨⟨wp,wv⟩,hq⟩:∃q,q=FM.lC o j:=⟨_,rfl⟩
    rw[<- hq] at d0 d1 e0 e1
    simp only at d0 d1 e0 e1
    have hEQ:=UY wp wv
    clear hq bQ uM hb
    go_wp2
    go_quiet (fail)
    go_wp2
    go_roundw
    case rel=>exact⟨j+1,by omega,by go_num,below_drewN HB.o _⟩
    case measure=>simp[intOf];omega
  · obtain rfl:j=o.length:=by omega
    clear hb
    go_wp2
    go_ret
    exact⟨rfl,HB.o⟩
theorem info3:(Tryz.prog.info? 3).map (fun i=>i.size)=some 1:=by kernel_rfl
theorem UX (a0 a1 a2 a3 a4 a5 a6 a7:Int) (V:World):(Op.equalIn 9999 66 (.agg #[I a0,I a1,I a2,I a3,I a4,I a5,I a6,I a7]) (.agg #[I a0,I a1,I a2,I a3,I a4,I a5,I a6,I a7])).run Tryz.prog V=.ok true V:=by
 obtain⟨i,hi,hs⟩:∃i,Tryz.prog.info? 3=some i/\i.size=1:=by
  have h:=info3
  cases hq:Tryz.prog.info? 3 with
  | none=>rw[hq] at h;cases h
  | some i=>rw[hq] at h;exact⟨i,rfl,Option.some.inj h⟩
 rw[run_equalIn_array (w:=V) 9998 _ _ Tryz.underlying66 hi]
 have hc:Tryz.prog.cellsOf 3=1:=by kernel_rfl
 have hpt:∀(xs:Array Value) (o:Nat) (v:Value) (U:World),xs[o]?=some v->(part 3 xs o).run Tryz.prog U=.ok v U:=fun xs o v U h=>by simp[part,go_sem,h]
 have hei:∀(x:Int) (U:World),(Op.equalIn 9998 3 (I x) (I x)).run Tryz.prog U=.ok true U:=fun x U=>by simpa using run_equalIn_int U 9997 3 .i64 .i64 x x Tryz.underlying3
 rw[hc]
 simp[Op.eqItems,hpt,hei,List.range_succ]
theorem yK (o:List PM.Pr) (a1 a2:Option Addr) (c1 c2:Nat) (w:World) (h1:yr w a1 o) (h2:yr w a2 o) (hn:o.length<=140737488351232) :
  Calls Tryz.prog 33 #[.slice a1 o.length c1,.slice a2 o.length c2] w fun e w'=>e=.returned (.bool true)/\Below w.heap.size w w':=by
 have H1:=ai h1
 have H2:=ai h2
 clear h1 h2
 go_enter Tryz.func33,Tryz.ntmps33
 go_wp2
 go_loopw [5] (fun iv wr=>∃j:Nat,j<=o.length/\iv=I (j:Int)/\Below w.heap.size w wr) (fun iv _=>o.length-(intOf iv).toNat)
 case atStart=>exact⟨0,by omega,rfl,Below.refl _ _⟩
 case round =>
  obtain⟨j,hj,rfl,hb⟩:=hrel
  have HB:=ai hb
  by_cases hlt:j<o.length
  · obtain⟨b,off,hao,hbl,bQ⟩:=(H1.o.below hb) (by omega)
    obtain⟨b',off',hao',Yo,uM⟩:=(H2.o.below hb) (by omega)
    subst hao
    subst hao'
    obtain⟨d0,d1,d2,d3,d4,d5,d6,d7,d8,d9,d10,d11,d12⟩:=bQ j hlt
    obtain⟨e0,e1,e2,e3,e4,e5,e6,e7,e8,e9,e10,e11,e12⟩:=uM j hlt
    obtain⟨q,hq⟩:=ex (FM.au o j)
    rw[<- hq] at d0 d1 d2 d3 d4 d5 d6 d7 d8 d9 d10 d11 d12 e0 e1 e2 e3 e4 e5 e6 e7 e8 e9 e10 e11 e12
    have hE8:=UX (q.r 0) (q.r 1) (q.r 2) (q.r 3) (q.r 4) (q.r 5) (q.r 6) (q.r 7)
    clear hq bQ uM hb
    go_wp2
    go_quiet (fail)
    go_wp2
    go_roundw
    case rel=>exact⟨j+1,by omega,by go_num,below_drewN HB.o _⟩
    case measure=>simp[intOf];omega
  · obtain rfl:j=o.length:=by omega
    clear hb
    go_wp2
    go_ret
    exact⟨rfl,HB.o⟩
theorem UZ (a:Int) (d:ByteArray) (V:World):(Op.equalIn 10000 65 (.agg #[I a,.string d]) (.agg #[I a,.string d])).run Tryz.prog V=.ok true V:=by
 simp[go_sem]
theorem yL (f:FM.Fl) (a1 r1 o1 a2 r2 o2:Option Addr) (c1 c2 c3 d1 d2 d3:Nat) (w:World) (h1:fJ w f a1 r1 o1) (h2:fJ w f a2 r2 o2) (hf:mL f) :
  Calls Tryz.prog 11 #[.agg (bC f a1 r1 o1 c1 c2 c3),.agg (bC f a2 r2 o2 d1 d2 d3)] w fun e w'=>e=.returned (.bool true)/\Below w.heap.size w w':=by
 have H1:=ai h1
 have H2:=ai h2
 have HF:=ai hf
 have qO:=ai (fun V (hV:Below w.heap.size w V)=>yK f.procs r1 r2 c2 d2 V (h1.procs.below hV) (h2.procs.below hV) hf.procs)
 have Ci:=ai (fun V (hV:Below w.heap.size w V)=>yJ f.out o1 o2 c3 d3 V (h1.out.below hV) (h2.out.below hV) hf.out)
 have hns:f.ak.length<=140737488351232:=hf.ak.1
 unfold bC
 obtain⟨sl,ss,ps,os⟩:=f
 simp only at qO Ci hns ⊢
 obtain⟨nr,fw⟩:=ex ps.length
 obtain⟨no,hno⟩:=ex os.length
 rw[<- fw] at qO ⊢
 rw[<- hno] at Ci ⊢
 clear h1 h2 hf fw hno
 have cP:=ai (((Below.refl w.heap.size w).alloc (Nat.le_refl _) (.cells #[I sl,.slice a1 ss.length c1,.slice r1 nr c2,.slice o1 no c3] 30)).alloc (by simp) (.cells #[I sl,.slice a2 ss.length d1,.slice r2 nr d2,.slice o2 no d3] 30))
 have X0:=ai (B.alloc (B.new w #[I sl,.slice a1 ss.length c1,.slice r1 nr c2,.slice o1 no c3] 30) (.cells #[I sl,.slice a2 ss.length d1,.slice r2 nr d2,.slice o2 no d3] 30))
 have Y0:Hid (((w.alloc (.cells #[I sl,.slice a1 ss.length c1,.slice r1 nr c2,.slice o1 no c3] 30)).alloc (.cells #[I sl,.slice a2 ss.length d1,.slice r2 nr d2,.slice o2 no d3] 30)).heap[w.heap.size+1]?=some (.cells #[I sl,.slice a2 ss.length d1,.slice r2 nr d2,.slice o2 no d3] 30 (0,0))):=by
  have:=B.new (w.alloc (.cells #[I sl,.slice a1 ss.length c1,.slice r1 nr c2,.slice o1 no c3] 30)) #[I sl,.slice a2 ss.length d1,.slice r2 nr d2,.slice o2 no d3] 30
  rw[World.size_alloc] at this
  exact this
 go_enter Tryz.func11,Tryz.ntmps11
 go_wp2_with (first
  | (go_at_call 33;refine(qO.o _ cP.o).mono ?_;rintro e w1 ⟨rfl,hb1⟩;have bh:=ai (aB cP.o hb1);have X1:=ai (B.below X0.o hb1 (B.isLt X0.o));have Y1:=ai (B.below Y0.o hb1 (B.isLt Y0.o));clear hb1;have x3:w1.cell? (Ad w.heap.size 3)=some (.slice o1 no c3):=B.cell X1.o 3 rfl;have y3:w1.cell? (Ad (w.heap.size+1) 3)=some (.slice o2 no d3):=B.cell Y1.o 3 rfl)
  | (go_at_call 34;refine(Ci.o _ bh.o).mono ?_;rintro e w2 ⟨rfl,hb2⟩;have bY:=ai (aB bh.o hb2);have X2:=ai (B.below X1.o hb2 (B.isLt X1.o));have Y2:=ai (B.below Y1.o hb2 (B.isLt Y1.o));clear hb2))
 go_loopw [5] (fun iv wr=>∃k:Nat,k<=ss.length/\iv=I (k:Int)/\wr.heap[w.heap.size]?=some (.cells #[I sl,.slice a1 ss.length c1,.slice r1 nr c2,.slice o1 no c3] 30 (0,0))/\wr.heap[w.heap.size+1]?=some (.cells #[I sl,.slice a2 ss.length d1,.slice r2 nr d2,.slice o2 no d3] 30 (0,0))/\Below w.heap.size w wr) (fun iv _=>ss.length-(intOf iv).toNat)
 case atStart=>exact⟨0,by omega,rfl,X2.o,Y2.o,bY.o⟩
 case round =>
  obtain⟨k,hk,rfl,hx,hy,hb⟩:=hrel
  have HB:=ai hb
  have HX:=ai hx
  have HY:=ai hy
  have x1:wr.cell? (Ad w.heap.size 1)=some (.slice a1 ss.length c1):=B.cell hx 1 rfl
  have y1:wr.cell? (Ad (w.heap.size+1) 1)=some (.slice a2 ss.length d1):=B.cell hy 1 rfl
  clear hx hy X0 Y0 X1 Y1 X2 Y2 cP bh bY x3 y3
  by_cases hlt:k<ss.length
  · obtain⟨b,off,hao,hbl,bQ⟩:=(H1.o.below hb).ak (show 0<ss.length by omega)
    obtain⟨b',off',hao',Yo,uM⟩:=(H2.o.below hb).ak (show 0<ss.length by omega)
    subst hao hao'
    obtain⟨va,ap,cp,e0,e1,e2,e3,e4,e5⟩:=bQ k hlt
    obtain⟨vb,aq,cq,g0,g1,g2,g3,g4,g5⟩:=uM k hlt
    have sX:=HF.o.ak.2 k hlt
    have sX:Hz (FM.ax ss k):=sX
    obtain⟨s,hs⟩:=ex (FM.ax ss k)
    rw[<- hs] at e0 e2 e3 e4 e5 g0 g2 g3 g4 g5 sX
    obtain⟨lv,RD,kF⟩:=s
    simp only at e0 e2 e3 e4 e5 g0 g2 g3 g4 g5
    obtain⟨aa,na,ca,rfl⟩:=Kb e3
    obtain⟨ab,nb,cb,rfl⟩:=Kb g3
    have HE3:=ai e3
    have HE4:=ai e4
    have HG3:=ai g3
    have HG4:=ai g4
    have si:=ai sX
    have jc:(k:Int)<(ss.length:Int):=by omega
    have l1:=B.isLt HY.o
    have l0:=B.isLt HX.o
    have l2:¬w.heap.size=wr.heap.size:=by omega
    have l3:¬w.heap.size+1=wr.heap.size:=by omega
    have l4:¬b=wr.heap.size:=by omega
    have l5:¬b'=wr.heap.size:=by omega
    clear e3 e4 e5 g3 g4 g5 bQ uM hs sX hb
    have q1:Hid (((wr.alloc (.cells #[.bool lv,.slice aa na ca,.slice ap kF.length cp] 53)).alloc (.cells #[.bool lv,.slice ab nb cb,.slice aq kF.length cq] 53)).heap[wr.heap.size]?=some (.cells #[.bool lv,.slice aa na ca,.slice ap kF.length cp] 53 (0,0))):=B.alloc (B.new wr #[.bool lv,.slice aa na ca,.slice ap kF.length cp] 53) _
    have q2:Hid (((wr.alloc (.cells #[.bool lv,.slice aa na ca,.slice ap kF.length cp] 53)).alloc (.cells #[.bool lv,.slice ab nb cb,.slice aq kF.length cq] 53)).heap[wr.heap.size+1]?=some (.cells #[.bool lv,.slice ab nb cb,.slice aq kF.length cq] 53 (0,0))):=by
     have:=B.new (wr.alloc (.cells #[.bool lv,.slice aa na ca,.slice ap kF.length cp] 53)) #[.bool lv,.slice ab nb cb,.slice aq kF.length cq] 53
     rw[World.size_alloc] at this
     exact this
    have q3:Hid (((wr.alloc (.cells #[.bool lv,.slice ab nb cb,.slice aq kF.length cq] 53)).alloc (.cells #[.bool lv,.slice aa na ca,.slice ap kF.length cp] 53)).heap[wr.heap.size]?=some (.cells #[.bool lv,.slice ab nb cb,.slice aq kF.length cq] 53 (0,0))):=B.alloc (B.new wr #[.bool lv,.slice ab nb cb,.slice aq kF.length cq] 53) _
    have q4:Hid (((wr.alloc (.cells #[.bool lv,.slice ab nb cb,.slice aq kF.length cq] 53)).alloc (.cells #[.bool lv,.slice aa na ca,.slice ap kF.length cp] 53)).heap[wr.heap.size+1]?=some (.cells #[.bool lv,.slice aa na ca,.slice ap kF.length cp] 53 (0,0))):=by
     have:=B.new (wr.alloc (.cells #[.bool lv,.slice ab nb cb,.slice aq kF.length cq] 53)) #[.bool lv,.slice aa na ca,.slice ap kF.length cp] 53
     rw[World.size_alloc] at this
     exact this
    have q5:Hid (Below wr.heap.size wr ((wr.alloc (.cells #[.bool lv,.slice aa na ca,.slice ap kF.length cp] 53)).alloc (.cells #[.bool lv,.slice ab nb cb,.slice aq kF.length cq] 53)).drew):=below_drewN (((Below.refl wr.heap.size wr).alloc (Nat.le_refl _) (.cells #[.bool lv,.slice aa na ca,.slice ap kF.length cp] 53)).alloc (by simp) (.cells #[.bool lv,.slice ab nb cb,.slice aq kF.length cq] 53)) 1
    have q6:Hid (Below wr.heap.size wr ((wr.alloc (.cells #[.bool lv,.slice ab nb cb,.slice aq kF.length cq] 53)).alloc (.cells #[.bool lv,.slice aa na ca,.slice ap kF.length cp] 53)).drew):=below_drewN (((Below.refl wr.heap.size wr).alloc (Nat.le_refl _) (.cells #[.bool lv,.slice ab nb cb,.slice aq kF.length cq] 53)).alloc (by simp) (.cells #[.bool lv,.slice aa na ca,.slice ap kF.length cp] 53)) 1
    go_upto_region 6 with fail
    go_cut [6,7] (fun x6 x7 wx=>∃g h:Nat,x6=.pointer (some (Ad g 0))/\x7=.pointer (some (Ad h 0))/\wx.heap[g]?=some (.cells #[.bool lv,.slice aa na ca,.slice ap kF.length cp] 53 (0,0))/\wx.heap[h]?=some (.cells #[.bool lv,.slice ab nb cb,.slice aq kF.length cq] 53 (0,0))/\Below wr.heap.size wr wx)
    case first =>
     go_region
     all_goals
      go_wp2_with fail
      go_meet
      case rel=>first | exact⟨_,_,rfl,rfl,q1.out,q2.out,q5.out⟩ | exact⟨_,_,rfl,rfl,q4.out,q3.out,q6.out⟩
    case rest =>
     obtain⟨g,h,rfl,rfl,hg,hh,hbc⟩:=hcut
     obtain⟨WR,hWR⟩:=ex wr
     subst hWR
     have Vc:Hid (∀V,Below WR.heap.size WR V->Calls Tryz.prog 35 #[.slice aa na ca,.slice ab nb cb] V fun e w'=>e=.returned (.bool true)/\Below V.heap.size V w'):=fun V hV=>(AW.CS RD RD _ _ V (HE3.o.below hV) (HG3.o.below hV) si.o.aw.2 si.o.aw.2).mono fun e w' ⟨r,h1,h2,h3⟩=>by
      obtain rfl:r=true:=h2.2 rfl
      exact⟨h1,h3⟩
     have Lg:kF.length<=140737488351232:=si.o.aj
     have kO:=ai hbc
     have Az:=ai (HB.o.trans (hbc.mono HB.o.size))
     have Y4:=ai (B.below HX.o hbc (B.isLt HX.o))
     have HYC:=ai (B.below HY.o hbc (B.isLt HY.o))
     have HGC:=ai hg
     have HHC:=ai hh
     obtain⟨f0,f1,f2⟩:=B.c3 hg
     obtain⟨f3,f4,f5⟩:=B.c3 hh
     clear hg hh hbc q1 q2 q3 q4 q5 q6 e0 e1 e2 g0 g1 g2 l1 l0 l2 l3 l4 l5 x1 y1
     go_wp2_with (go_at_call 35;refine(Vc.o _ kO.o).mono ?_;rintro e w3 ⟨rfl,hb3⟩;have fK:=ai (kO.o.trans (hb3.mono kO.o.size));have Vx:=ai (B.below HGC.o hb3 (B.isLt HGC.o));have Vu:=ai (B.below HHC.o hb3 (B.isLt HHC.o));have Ps:=ai (B.below Y4.o hb3 (B.isLt Y4.o));have RT:=ai (B.below HYC.o hb3 (B.isLt HYC.o));clear hb3;have f6:w3.cell? (Ad g 2)=some (.slice ap kF.length cp):=B.cell Vx.o 2 rfl;have f7:w3.cell? (Ad h 2)=some (.slice aq kF.length cq):=B.cell Vu.o 2 rfl)
     clear f0 f1 f2 f3 f4 f5
     go_loopw [8] (fun iv wi=>∃m:Nat,m<=kF.length/\iv=I (m:Int)/\wi.heap[g]?=some (.cells #[.bool lv,.slice aa na ca,.slice ap kF.length cp] 53 (0,0))/\wi.heap[h]?=some (.cells #[.bool lv,.slice ab nb cb,.slice aq kF.length cq] 53 (0,0))/\wi.heap[w.heap.size]?=some (.cells #[I sl,.slice (some (Ad b off)) ss.length c1,.slice r1 nr c2,.slice o1 no c3] 30 (0,0))/\wi.heap[w.heap.size+1]?=some (.cells #[I sl,.slice (some (Ad b' off')) ss.length d1,.slice r2 nr d2,.slice o2 no d3] 30 (0,0))/\Below WR.heap.size WR wi) (fun iv _=>kF.length-(intOf iv).toNat)
     case atStart=>exact⟨0,by omega,rfl,Vx.o,Vu.o,Ps.o,RT.o,fK.o⟩
     case round =>
      obtain⟨m,hm,rfl,hg,hh,hx,hy,IE⟩:=hrel
      have HGi:=ai hg
      have HHi:=ai hh
      have HXi:=ai hx
      have HYi:=ai hy
      have yA:=ai IE
      have f2:wr.cell? (Ad g 2)=some (.slice ap kF.length cp):=B.cell hg 2 rfl
      have f5:wr.cell? (Ad h 2)=some (.slice aq kF.length cq):=B.cell hh 2 rfl
      clear hg hh hx hy Vc Vx Vu Ps RT fK f6 f7
      by_cases VW:m<kF.length
      · obtain⟨bp,J4,hap,acA,XX⟩:=(HE4.o.below IE) (show 0<kF.length by omega)
        obtain⟨bq,agY,haq,ahU,XV⟩:=(HG4.o.below IE) (show 0<kF.length by omega)
        subst hap haq
        obtain⟨k0,k1⟩:=XX m VW
        obtain⟨k2,k3⟩:=XV m VW
        obtain⟨z,hz⟩:=ex (FM.aN kF m)
        rw[<- hz] at k0 k1 k2 k3
        have hEP:=UZ z.page z.data
        have hmi:(m:Int)<(kF.length:Int):=by omega
        clear hz XX XV IE
        go_wp2
        go_quiet (fail)
        go_wp2
        go_roundw
        case rel=>exact⟨m+1,by omega,by go_num,HGi.o,HHi.o,HXi.o,HYi.o,below_drewN yA.o _⟩
        case measure=>simp[intOf];omega
      · obtain rfl:m=kF.length:=by omega
        have pR:=ai (HB.o.trans (IE.mono HB.o.size))
        clear IE
        go_wp2
        go_roundw
        case rel=>exact⟨k+1,by omega,by go_num,HXi.o,HYi.o,pR.o⟩
        case measure=>simp[intOf];omega
  · obtain rfl:k=ss.length:=by omega
    clear hb
    go_wp2
    go_ret
    exact⟨rfl,HB.o⟩
end FW
namespace GH
open Go.RowKit GK
open GW (aI bM bc cx)
open FW (ai aB)
open GF (blk)
def lX (w:World) (r:FM.Fl×Int) (e:Ending) (w':World):Prop:=∃az cs ar cr ao co,e=.returned (.tuple #[.agg (FW.bC r.1 az ar ao cs cr co),I r.2])/\(∀V,Kp (fun b=>b<w.heap.size) w' V->FW.fJ V r.1 az ar ao)/\Below w.heap.size w w'
theorem nV (w:World):FW.fJ w nB none none none:=⟨fun h=>absurd h (Nat.not_lt_zero _),fun h=>absurd h (Nat.not_lt_zero _),fun h=>absurd h (Nat.not_lt_zero _)⟩
theorem gM (w:World) (g:Nat) (v0 v1 v2 v3:Value):Kp (fun b=>b=g) w ((((w.setCell ⟨g,0,none⟩ v0).setCell ⟨g,1,none⟩ v1).setCell ⟨g,2,none⟩ v2).setCell ⟨g,3,none⟩ v3) :=
 (sS (D:=fun b=>b=g) w g 0 1 2 v0 v1 v2 rfl).trans (Kp.set (fun b=>b=g) _ ⟨g,3,none⟩ v3 rfl) (fun _ _ h=>h)
theorem DF {lo mb:Nat} {w2 w3 w4:World} {v:Value} {L:List GF.Lc} {f:FM.Fl} {vr vo:Value} (hm:GF.Mem lo mb w2 (fun b=>lo<=b/\b<w2.heap.size) f.slots v L f.ak) (h23:Below w2.heap.size w2 w3) (hr:w3.ownsRow w2.heap.size 70 13 vr f.procs.length (f.procs.flatMap aI)) (h34:Below w3.heap.size w3 w4) (ho:w4.ownsRow w3.heap.size 78 2 vo f.out.length (f.out.flatMap bM)) :
  GW.jk (GF.iV lo mb) lo mb w4.heap.size (w4.alloc (.cells #[.iface 144 (.pointer (some ⟨mb,0,none⟩)),vr,vo] 151)) (fun b=>lo<=b/\b<w2.heap.size) vr vo (bb f):=by
 have hlo:lo<=w2.heap.size:=by have:=hm.base;have:=B.isLt hm.head;omega
 have s23:=h23.size
 have s34:=h34.size
 have hA:Below w4.heap.size w4 (w4.alloc (.cells #[.iface 144 (.pointer (some ⟨mb,0,none⟩)),vr,vo] 151)):=(Below.refl _ _).alloc (Nat.le_refl _) _
 have h2A:Below w2.heap.size w2 (w4.alloc (.cells #[.iface 144 (.pointer (some ⟨mb,0,none⟩)),vr,vo] 151)):=(h23.trans (h34.mono s23)).trans (hA.mono (by omega))
 have hr4:=Kp.row (Kp.aF (D:=fun _=>False) h34) hr (fun _ _ g=>g)
 have lr:∀b,blk vr b->w2.heap.size<=b/\b<w3.heap.size:=fun b hb=>hr.lt b hb
 have lw:∀b,blk vo b->w3.heap.size<=b/\b<w4.heap.size:=fun b hb=>ho.lt b hb
 refine⟨B.new w4 _ _,⟨⟨v,L,hm.below h2A⟩,fun b hb=>⟨hb.1,Nat.lt_of_lt_of_le hb.2 h2A.size⟩⟩,?_,?_,by omega,fun g=>by have:=g.2;omega,fun g=>by have:=lr _ g;omega,fun g=>by have:=lw _ g;omega,fun b hb g=>by have:=lr b hb;have:=g.2;omega,fun b hb g=>by have:=lw b hb;have:=g.2;omega,fun b hb g=>by have:=lr b hb;have:=lw b g;omega⟩
 · exact lF (Kp.row (Kp.aF (D:=fun _=>False) hA) hr4 (fun _ _ g=>g)) (fun g hg=>by have:=lr g hg;omega)
 · exact lF (Kp.row (Kp.aF (D:=fun _=>False) hA) ho (fun _ _ g=>g)) (fun g hg=>by have:=lw g hg;omega)
theorem BL (f:FM.Fl) (r:Int×Option (GG.St GM.Mf)) (q:Nat) (az ar ao:Option Addr) (cs cr co:Nat) (w:World) (h:FW.fJ w f az ar ao) (hf:FW.mL f) (hr:r.1=0->∃s,r.2=some s)
  (hc:FM.bV f=0->∀(V:World) (lo mb gb:Nat) (D:Nat->Prop) (vr vo:Value),Below w.heap.size w V->w.heap.size<=lo->GW.jk (GF.iV lo mb) lo mb gb V D vr vo (bb f)->Calls Tryz.prog 45 #[.pointer (some ⟨gb,0,none⟩),.pointer (some ⟨q,0,none⟩)] V (GW.og (GF.iV lo mb) lo mb gb V D vr vo r)) :
  Calls Tryz.prog 44 #[.agg (FW.bC f az ar ao cs cr co),.func (.func 45) #[] #[.pointer (some ⟨q,0,none⟩)]] w (lX w (kX f r)):=by
 have rU:Hid (∀V,Below w.heap.size w V->Calls Tryz.prog 12 #[.agg (FW.bC f az ar ao cs cr co)] V fun e w'=>e=.returned (I (FM.bV f))/\Below V.heap.size V w'):=fun V hV=>FW.dm f az ar ao cs cr co V (h.below hV) hf
 have EK:Hid (FM.bV f=0->∀V,Below w.heap.size w V->Calls Tryz.prog 78 #[.agg (FW.bC f az ar ao cs cr co)] V (GF.ym V f.slots f.ak)):=fun hk V hV=>by
  obtain⟨c1,c2,c3,c4⟩:=counts_of hk
  obtain⟨h1,h2⟩:=j6 hk
  unfold FM.fO at h1
  simp only[Bool.and_eq_true,decide_eq_true_eq,List.all_eq_true] at h1
  refine GF.qH f az ar ao cs cr co V (h.ak.below hV) hf.ak (by omega) (fun k hk=>?_)
  have hm:FM.ax f.ak k∈f.ak:=by
   unfold FM.ax
   rw[List.getD_eq_getElem?_getD,List.getElem?_eq_getElem hk]
   exact List.getElem_mem hk
  have hrs:=h1.1 _ hm
  cases hl:(FM.ax f.ak k).live with
  | true =>
   have hL:=GM.fX hrs hl
   have:=AM.dR _ hL.check
   have:=GM.dU hL
   have:=FW.gf (FM.ax f.ak k).aw
   omega
  | false =>
   unfold FM.aU at hrs
   rw[hl] at hrs
   simp only[Bool.false_eq_true,if_false,Bool.and_eq_true,decide_eq_true_eq] at hrs
   omega
 have yE:Hid (FM.bV f=0->∀V,Below w.heap.size w V->Calls Tryz.prog 79 #[.slice ar f.procs.length cr] V fun e w'=>∃a' c',e=.returned (.slice a' f.procs.length c')/\w'.ownsRow V.heap.size 70 13 (.slice a' f.procs.length c') f.procs.length (f.procs.flatMap aI)/\Below V.heap.size V w'):=fun hk V hV=>by
  obtain⟨c1,c2,c3,c4⟩:=counts_of hk
  refine(I1 ar f.procs.length cr (f.procs.flatMap aI) V (bu aI 13 bc _) ((A5 h.procs).below hV) (A4 _) (by omega)).mono ?_
  rintro e w' ⟨v,rfl,h1,h2⟩
  obtain⟨a',c',rfl,_,_⟩:=aJ h1
  exact⟨a',c',rfl,h1,h2⟩
 have OA:Hid (FM.bV f=0->∀V,Below w.heap.size w V->Calls Tryz.prog 80 #[.slice ao f.out.length co] V fun e w'=>∃a' c',e=.returned (.slice a' f.out.length c')/\w'.ownsRow V.heap.size 78 2 (.slice a' f.out.length c') f.out.length (f.out.flatMap bM)/\Below V.heap.size V w'):=fun hk V hV=>by
  obtain⟨c1,c2,c3,c4⟩:=counts_of hk
  refine(I0 ao f.out.length co (f.out.flatMap bM) V (bu bM 2 cx _) ((AB h.out).below hV) (EW _) (by omega)).mono ?_
  rintro e w' ⟨v,rfl,h1,h2⟩
  obtain⟨a',c',rfl,_,_⟩:=aJ h1
  exact⟨a',c',rfl,h1,h2⟩
 have HC:=ai hc
 have HR:=ai hr
 obtain⟨ck,px⟩:=ex (FM.bV f)
 have vh:Hid (kX f r=if ¬ck=0 then (nB,ck) else if ¬r.1=0 then (nB,r.1) else match r.2 with | none=>(nB,r.1) | some s=>(su s,0)):=by rw[px];exact rfl
 rw[<- px] at rU EK yE OA HC
 obtain⟨R,hR⟩:=ex (kX f r)
 rw[<- hR] at vh ⊢
 obtain⟨P,hP⟩:=ex (lX w R)
 have HP:Hid (∀e w',lX w R e w'->P e w'):=fun e w' h=>by rw[hP];exact h
 rw[<- hP]
 unfold FW.bC at rU EK ⊢
 have Tn:Hid (bb f=⟨⟨f.slots,f.ak⟩,f.procs,f.out⟩):=rfl
 obtain⟨ns,hns⟩:=ex f.ak.length
 obtain⟨np,fE⟩:=ex f.procs.length
 obtain⟨no,hno⟩:=ex f.out.length
 obtain⟨sl,hsl⟩:=ex f.slots
 rw[<- hns,<- fE,<- hno,<- hsl] at rU EK ⊢
 rw[<- fE] at yE
 rw[<- hno] at OA
 have vd:=ai fE
 have mh:=ai hno
 have CC:=ai hsl
 have cL:=ai (((Below.refl w.heap.size w).alloc (Nat.le_refl _) (.cells #[I sl,.slice az ns cs,.slice ar np cr,.slice ao no co] 30)).alloc (by simp) (.cells #[I 0,Nl,Nl,Nl] 30))
 have BX:=ai (B.alloc (B.new w #[I sl,.slice az ns cs,.slice ar np cr,.slice ao no co] 30) (.cells #[I 0,Nl,Nl,Nl] 30))
 have BZ:=ai (B.new (w.alloc (.cells #[I sl,.slice az ns cs,.slice ar np cr,.slice ao no co] 30)) #[I 0,Nl,Nl,Nl] 30)
 clear h hf hc hr px hR hP hns fE hno hsl
 go_enter Tryz.func44,Tryz.ntmps44
 go_wp2_with fail
 obtain⟨WA,fH⟩:=ex ((w.alloc (.cells #[I sl,.slice az ns cs,.slice ar np cr,.slice ao no co] 30)).alloc (.cells #[I 0,Nl,Nl,Nl] 30))
 have hsz1:(w.alloc (.cells #[I sl,.slice az ns cs,.slice ar np cr,.slice ao no co] 30)).heap.size=w.heap.size+1:=by simp
 rw[hsz1] at BZ
 rw[<- fH] at cL BX BZ ⊢
 obtain⟨x,Cx⟩:=ex w.heap.size
 obtain⟨z,Cw⟩:=ex (w.heap.size+1)
 rw[<- Cw] at BZ ⊢
 rw[<- Cx] at BX ⊢
 have Y3:=ai Cx
 have HZE:=ai Cw
 have hxz:¬x=z:=by omega
 have hzx:¬z=x:=by omega
 have se:Hid (∀V,Below WA.heap.size WA V->V.heap[z]?=some (.cells #[I 0,Nl,Nl,Nl] 30 (0,0))):=fun V hb=>B.below BZ.o hb (B.isLt BZ.o)
 have pP:Hid (∀V,Below WA.heap.size WA V->V.cell? ⟨x,0,none⟩=some (I sl)/\V.cell? ⟨x,1,none⟩=some (.slice az ns cs)/\V.cell? ⟨x,2,none⟩=some (.slice ar np cr)/\V.cell? ⟨x,3,none⟩=some (.slice ao no co)):=fun V hb=>by
  have h1:=B.below BX.o hb (B.isLt BX.o)
  exact⟨B.cell h1 0 rfl,B.cell h1 1 rfl,B.cell h1 2 rfl,B.cell h1 3 rfl⟩
 have Jc:Hid (∀V,Below WA.heap.size WA V->(V.cell? ⟨z,0,none⟩=some (I 0)/\V.cell? ⟨z,1,none⟩=some Nl/\V.cell? ⟨z,2,none⟩=some Nl/\V.cell? ⟨z,3,none⟩=some Nl)/\V.frozen? ⟨z,0,none⟩=false/\V.frozen? ⟨z,1,none⟩=false/\V.frozen? ⟨z,2,none⟩=false/\V.frozen? ⟨z,3,none⟩=false):=fun V hb=>by
  have h1:=se.o V hb
  exact⟨⟨B.cell h1 0 rfl,B.cell h1 1 rfl,B.cell h1 2 rfl,B.cell h1 3 rfl⟩,B.free h1 0,B.free h1 1,B.free h1 2,B.free h1 3⟩
 have F8:=B.isLt BZ.o
 have Ls:Hid (w.heap.size<=z):=(by rw[Cw];omega:w.heap.size<=z)
 clear fH hsz1 Cx Cw BX BZ
 refine(rU.o _ cL.o).mono ?_
 rintro e w1 ⟨rfl,hb1⟩
 have bh:=ai hb1
 obtain⟨⟨z0,z1,z2,z3⟩,f0,f1,f2,f3⟩:=Jc.o _ hb1
 obtain⟨x0,x1,x2,x3⟩:=pP.o _ hb1
 clear hb1 rU
 by_cases z7:ck=0
 · subst z7
   have O8:=ai (HC.o rfl)
   have OM:=ai (EK.o rfl)
   have OI:=ai (yE.o rfl)
   have Oz:=ai (OA.o rfl)
   have Ct:Hid (R=if ¬r.1=0 then (nB,r.1) else match r.2 with | none=>(nB,r.1) | some s=>(su s,0)):=by rw[vh.o,if_neg (fun g=>g rfl)];exact rfl
   clear HC EK yE OA vh
   go_wp2_with (go_at_call 78;refine(OM.o _ (cL.o.trans (bh.o.mono cL.o.size))).mono ?_;rintro e w2 ⟨mb,v,L,rfl,hm,hb2⟩;have Hl:=ai hm;have bY:=ai hb2;clear hm hb2)
   have OW:=ai (bh.o.trans (bY.o.mono bh.o.size))
   have iw:=ai OW.o.drew
   have cB:=ai ((pP.o _ iw.o).2.2)
   clear x0 x1 x2 x3 z0 z1 z2 z3 f0 f1 f2 f3
   go_cut [8] (fun x8 wx=>∃gb D vr vo,x8=.pointer (some ⟨gb,0,none⟩)/\GW.jk (GF.iV w1.heap.size mb) w1.heap.size mb gb wx D vr vo (bb f)/\Below WA.heap.size WA wx)
   case first =>
    go_region_held3 (fun V=>V.cell? ⟨x,2,none⟩=some (.slice ar np cr)/\V.cell? ⟨x,3,none⟩=some (.slice ao no co)) (first | exact Pv.o | exact vN.o | exact cB.o | exact(pP.o _ (Ay.o.alloc Ay.o.size _)).2.2)
     (first
      | (go_at_call 79;refine(OI.o _ (cL.o.trans (iw.o.mono cL.o.size))).mono ?_;rintro e w3 ⟨a3,c3,rfl,SZ,hb3⟩;have R7:=ai SZ;have fK:=ai hb3;have oq:=ai (iw.o.trans (hb3.mono iw.o.size));have vN:=ai ((pP.o _ oq.o).2.2);clear SZ hb3)
      | (go_at_call 80;refine(Oz.o _ (cL.o.trans (oq.o.mono cL.o.size))).mono ?_;rintro e w4 ⟨a4,c4,rfl,XL,hb4⟩;have Tp:=ai XL;have lZ:=ai hb4;have Ay:=ai (oq.o.trans (hb4.mono oq.o.size));have Pv:=ai ((pP.o _ Ay.o).2.2);clear XL hb4))
    all_goals
     go_wp2_with fail
     go_meet
     case rel =>
      refine⟨_,_,_,_,rfl,DF (by rw[<- CC.o];exact Hl.o) ((Below.refl _ _).drew.trans fK.o) ?_ lZ.o ?_,Ay.o.alloc Ay.o.size _⟩
      · rw[<- vd.o];exact R7.o
      · rw[<- mh.o];exact Tp.o
   case rest =>
    obtain⟨gb,D,vr,vo,rfl,hg,hbc⟩:=hcut
    have HG:=ai hg
    have kO:=ai hbc
    have HWB:=ai (cL.o.trans (hbc.mono cL.o.size))
    have Ji:Hid (w.heap.size<=w1.heap.size):=(by have:=cL.o.size;have:=bh.o.size;omega:w.heap.size<=w1.heap.size)
    have cJ:=ai (O8.o wc w1.heap.size mb gb D vr vo HWB.o Ji.o hg)
    have Vw:=ai (fun b=>GW.jk.lt (GF.FO w1.heap.size mb) hg b)
    clear hg hbc O8 OM OI Oz Hl bY OW iw cB
    by_cases ma:r.1=0
    · obtain⟨s,hs⟩:=HR.o ma
      have jd:Hid (R=(su s,0)):=by rw[Ct.o,if_neg (fun g=>g ma),hs];exact rfl
      have mi:Hid (Calls Tryz.prog 45 #[.pointer (some ⟨gb,0,none⟩),.pointer (some ⟨q,0,none⟩)] wc fun e w'=>e=.returned (I 0)/\Below WA.heap.size WA w'/\∃D' vr' vo',GW.jk (GF.iV w1.heap.size mb) w1.heap.size mb gb w' D' vr' vo' s):=cJ.o.mono fun e w' ⟨h1,h2,h3⟩=>by
       obtain⟨D',vr',vo',hg',_,_⟩:=h3 s hs
       rw[ma] at h1
       exact⟨h1,Kp.below kO.o h2 kO.o.size (fun b hb=>Nat.le_trans bh.o.size (Vw.o b hb).1),D',vr',vo',hg'⟩
      have ZI:Hid (Calls Tryz.prog 45 #[.pointer (some ⟨gb,0,none⟩),.pointer (some ⟨q,0,none⟩)] wc fun e w'=>∃a5 c5 a6 c6 a7 c7,e=.returned (I 0)/\Below WA.heap.size WA w'/\(w'.cell? ⟨mb,0,none⟩=some (I s.mem.slots)/\w'.cell? ⟨mb,1,none⟩=some (.slice a7 s.mem.ak.length c7)/\w'.cell? ⟨gb,1,none⟩=some (.slice a5 s.ps.length c5)/\w'.cell? ⟨gb,2,none⟩=some (.slice a6 s.out.length c6))/\(¬mb=z/\¬gb=z)/\∀V,Kp (fun b=>b<=z) w' V->FW.fJ V (su s) a7 a5 a6):=mi.o.mono fun e w' ⟨h1,h2,D',vr',vo',hg⟩=>by
       obtain⟨a5,c5,rfl,_,_⟩:=aJ hg.procs
       obtain⟨a6,c6,rfl,_,_⟩:=aJ hg.outs
       obtain⟨⟨v7,L7,hM⟩,hD⟩:=hg.mem
       obtain⟨a7,c7,rfl,_⟩:=hM.has
       have Dz:z<w1.heap.size:=Nat.lt_of_lt_of_le F8 bh.o.size
       have hgl:=GW.jk.lt (GF.FO w1.heap.size mb) hg
       refine⟨a5,c5,a6,c6,a7,c7,h1,h2,⟨B.cell hM.head 0 rfl,B.cell hM.head 1 rfl,B.cell hg.head 1 rfl,B.cell hg.head 2 rfl⟩,⟨fun e=>by have:=hM.base;omega,fun e=>by have:=hg.base;omega⟩,fun V hV=>?_⟩
       have hMV:=hM.kp hV (fun b hb e=>by have:=(hD b hb).1;omega)
       obtain⟨a8,c8,e8,h8⟩:=hMV.has
       injection e8 with e9 _ _
       subst e9
       exact⟨h8,Fp (hV.row hg.procs (fun b hb e=>by have:=(hgl b (.inr (.inr (.inl hb)))).1;omega)),EX (hV.row hg.outs (fun b hb e=>by have:=(hgl b (.inr (.inr (.inr hb)))).1;omega))⟩
      have HTF:Hid (su s=⟨s.mem.slots,s.mem.ak,s.ps,s.out⟩):=rfl
      obtain⟨s0,hs0⟩:=ex s.mem.slots
      obtain⟨s1,hs1⟩:=ex s.mem.ak.length
      obtain⟨s2,hs2⟩:=ex s.ps.length
      obtain⟨s3,hs3⟩:=ex s.out.length
      rw[<- hs0,<- hs1,<- hs2,<- hs3] at ZI
      have Vz:Hid (∀a7 c7 a5 c5 a6 c6,FW.bC (su s) a7 a5 a6 c7 c5 c6=#[I s0,.slice a7 s1 c7,.slice a5 s2 c5,.slice a6 s3 c6]):=fun a7 c7 a5 c5 a6 c6=>by rw[hs0,hs1,hs2,hs3];rfl
      clear Ct cJ hs ma HR mi hs0 hs1 hs2 hs3 Vw HG
      go_wp2_with (go_at_call 45;refine ZI.o.mono ?_;rintro e w5 ⟨a5,c5,a6,c6,a7,c7,rfl,kV,hcl,hnz,hfl⟩;have gK:=ai kV;have Hs:=ai hcl;have Hq:=ai hfl;obtain⟨⟨z0,z1,z2,z3⟩,f0,f1,f2,f3⟩:=Jc.o _ kV;obtain⟨WL,WK⟩:=hnz;clear kV hcl hfl)
      have rS:Hid (∀V,Kp (fun b=>b=z) w5 V->V.cell? ⟨mb,0,none⟩=some (I s0)/\V.cell? ⟨mb,1,none⟩=some (.slice a7 s1 c7)/\V.cell? ⟨gb,1,none⟩=some (.slice a5 s2 c5)/\V.cell? ⟨gb,2,none⟩=some (.slice a6 s3 c6)):=fun V hV=>by
       obtain⟨q0,q1,q2,q3⟩:=Hs.o
       exact⟨hV.cell q0 WL,hV.cell q1 WL,hV.cell q2 WK,hV.cell q3 WK⟩
      go_region_held3 (fun V=>V.cell? ⟨mb,0,none⟩=some (I s0)/\V.cell? ⟨mb,1,none⟩=some (.slice a7 s1 c7)/\V.cell? ⟨gb,1,none⟩=some (.slice a5 s2 c5)/\V.cell? ⟨gb,2,none⟩=some (.slice a6 s3 c6)) (first | exact Hs.o | exact rS.o _ ((gM w5 z _ _ _ _).trans (Kp.drew (fun b=>b=z) _) (fun _ _ g=>g))) (fail)
      all_goals
       go_wp2
       refine bodyPost_ret (v:=.tuple #[.agg #[I s0,.slice a7 s1 c7,.slice a5 s2 c5,.slice a6 s3 c6],I 0]) (by simp[results,Tryz.results44,go_sem,z0,z1,z2,z3]) rfl ?_
       refine HP.o _ _ ?_
       rw[jd.o]
       have hk4:=(gM w5 z (I s0) (.slice a7 s1 c7) (.slice a5 s2 c5) (.slice a6 s3 c6)).trans (Kp.drew (fun b=>b=z) _) (fun _ _ g=>g)
       refine⟨a7,c7,a5,c5,a6,c6,by rw[Vz.o],fun V hV=>Hq.o _ ((hk4.mono (fun b _ e=>Nat.le_of_eq e)).trans hV (fun b _ g=>Nat.le_of_lt (Nat.lt_of_lt_of_le g Ls.o))),Kp.below (cL.o.trans (gK.o.mono cL.o.size)) hk4 (Nat.le_trans cL.o.size gK.o.size) (fun b e=>by rw[e];exact Ls.o)⟩
    · have jd:Hid (R=(nB,r.1)):=by rw[Ct.o,if_pos ma];exact rfl
      obtain⟨rc,hrc⟩:=ex r.1
      have mi:Hid (Calls Tryz.prog 45 #[.pointer (some ⟨gb,0,none⟩),.pointer (some ⟨q,0,none⟩)] wc fun e w'=>e=.returned (I rc)/\Below WA.heap.size WA w'):=cJ.o.mono fun e w' ⟨h1,h2,h3⟩=>by
       rw[<- hrc] at h1
       exact⟨h1,Kp.below kO.o h2 kO.o.size (fun b hb=>Nat.le_trans bh.o.size (Vw.o b hb).1)⟩
      have jc:(rc==0)=false:=by rw[beq_eq_false_iff_ne,hrc];exact ma
      rw[<- hrc] at jd
      clear Ct cJ ma HR hrc
      go_wp2_with (go_at_call 45;refine mi.o.mono ?_;rintro e w5 ⟨rfl,kV⟩;have gK:=ai kV;obtain⟨⟨z0,z1,z2,z3⟩,f0,f1,f2,f3⟩:=Jc.o _ kV;clear kV)
      refine bodyPost_ret (v:=.tuple #[.agg #[I 0,Nl,Nl,Nl],I rc]) (by simp[results,Tryz.results44,go_sem,z0,z1,z2,z3]) rfl ?_
      refine HP.o _ _ ?_
      rw[jd.o]
      exact⟨none,0,none,0,none,0,rfl,fun V _=>nV V,Kp.below (cL.o.trans (gK.o.mono cL.o.size)) (gM w5 z _ _ _ _) (Nat.le_trans cL.o.size gK.o.size) (fun b e=>by rw[e];exact Ls.o)⟩
 · have jd:Hid (R=(nB,ck)):=by rw[vh.o,if_pos z7];exact rfl
   have jc:(ck==0)=false:=by rw[beq_eq_false_iff_ne];exact z7
   clear vh z7 HC EK yE OA
   go_wp2
   refine bodyPost_ret (v:=.tuple #[.agg #[I 0,Nl,Nl,Nl],I ck]) (by simp[results,Tryz.results44,go_sem,z0,z1,z2,z3]) rfl ?_
   refine HP.o _ _ ?_
   rw[jd.o]
   exact⟨none,0,none,0,none,0,rfl,fun V _=>nV V,Kp.below (cL.o.trans (bh.o.mono cL.o.size)) (gM w1 z _ _ _ _) (Nat.le_trans cL.o.size bh.o.size) (fun b e=>by rw[e];exact Ls.o)⟩
theorem JJ {f:FM.Fl} {lo mb gb:Nat} {D:Nat->Prop} {vr vo:Value} (pick:Int) (q:Nat) (V:World) (hk:FM.bV f=0) (hp:pS f.procs) (hg:GW.jk (GF.iV lo mb) lo mb gb V D vr vo (bb f)) (hq:V.cell? ⟨q,0,none⟩=some (I pick)) :
  Calls Tryz.prog 45 #[.pointer (some ⟨gb,0,none⟩),.pointer (some ⟨q,0,none⟩)] V (GW.og (GF.iV lo mb) lo mb gb V D vr vo ((GG.stepG GM.aQ (bb f) pick).1,some (GG.stepG GM.aQ (bb f) pick).2)):=by
 have HS:=ai (GW.sA (GF.FO lo mb) pick V hg (Gt hk hp))
 obtain⟨X,hX⟩:=ex (GG.stepG GM.aQ (bb f) pick)
 rw[<- hX] at HS ⊢
 obtain⟨X1,X2⟩:=X
 simp only at HS ⊢
 obtain⟨P,hP⟩:=ex (GW.og (GF.iV lo mb) lo mb gb V D vr vo (X1,some X2))
 have HP:Hid (∀w',GW.Left (GF.iV lo mb) lo mb gb V D vr vo X2 w'->P (.returned (I X1)) w'):=fun w' h=>by
  rw[hP]
  obtain⟨D',vr',vo',h1,h2,h3⟩:=h
  refine⟨rfl,h2,fun s hs=>?_⟩
  injection hs with hs
  subst hs
  exact⟨D',vr',vo',h1,h2,h3⟩
 rw[<- hP]
 clear hX hP hg
 go_enter Tryz.func45,Tryz.ntmps45
 go_wp2_with (go_at_call 46;refine HS.o.mono ?_;rintro e w1 ⟨rfl,hl⟩;have HL:=ai hl;clear hl)
 exact HP.o _ HL.o
theorem sA (f:FM.Fl) (pick:Int) (az ar ao:Option Addr) (cs cr co:Nat) (w:World) (h:FW.fJ w f az ar ao) (hf:FW.mL f) (hp:pS f.procs) :
  Calls Tryz.prog 14 #[.agg (FW.bC f az ar ao cs cr co),I pick] w (lX w (ov f pick)):=by
 obtain⟨r,hr⟩:=ex (ov f pick)
 have Ht:Hid (∀V q,Below w.heap.size w V->V.cell? ⟨q,0,none⟩=some (I pick)->Calls Tryz.prog 44 #[.agg (FW.bC f az ar ao cs cr co),.func (.func 45) #[] #[.pointer (some ⟨q,0,none⟩)]] V fun e w'=>∃s0 a1 s1 c1 a2 s2 c2 a3 s3 c3 er,e=.returned (.tuple #[.agg #[I s0,.slice a1 s1 c1,.slice a2 s2 c2,.slice a3 s3 c3],I er])/\Below V.heap.size V w'/\∀U,Kp (fun b=>b<V.heap.size) w' U->Below w.heap.size w U->lX w r (.returned (.tuple #[.agg #[I s0,.slice a1 s1 c1,.slice a2 s2 c2,.slice a3 s3 c3],I er])) U):=fun V q hV hq=>by
  rw[hr]
  refine(BL f ((GG.stepG GM.aQ (bb f) pick).1,some (GG.stepG GM.aQ (bb f) pick).2) q az ar ao cs cr co V (h.below hV) hf (fun _=>⟨_,rfl⟩) (fun hk U lo mb gb D vr vo hU hlo hg=>JJ pick q U hk hp hg ((hU.cell (p:=⟨q,0,none⟩) (World.block_lt_of_cell? _ _ hq)).trans hq))).mono ?_
  rintro e w' ⟨a1,c1,a2,c2,a3,c3,rfl,h1,h2⟩
  exact⟨_,a1,_,c1,a2,_,c2,a3,_,c3,_,rfl,h2,fun U hU hb=>⟨a1,c1,a2,c2,a3,c3,rfl,fun V2 h3=>h1 _ (hU.trans h3 (fun b _ g=>Nat.lt_of_lt_of_le g hV.size)),hb⟩⟩
 rw[<- hr]
 obtain⟨P,hP⟩:=ex (lX w r)
 rw[<- hP] at Ht ⊢
 clear h hf hp hr hP
 unfold FW.bC at Ht ⊢
 obtain⟨ns,hns⟩:=ex f.ak.length
 obtain⟨np,fE⟩:=ex f.procs.length
 obtain⟨no,hno⟩:=ex f.out.length
 obtain⟨sl,hsl⟩:=ex f.slots
 rw[<- hns,<- fE,<- hno,<- hsl] at Ht ⊢
 clear hns fE hno hsl
 obtain⟨WQ,Ni⟩:=ex ((w.alloc (.cells #[I sl,.slice az ns cs,.slice ar np cr,.slice ao no co] 30)).alloc (.cells #[I pick] 3))
 have Xm:WQ.heap.size=w.heap.size+1+1:=by rw[Ni];simp
 have BQ:WQ.heap[w.heap.size+1]?=some (.cells #[I pick] 3 (0,0)):=by
  rw[Ni]
  have:=B.new (w.alloc (.cells #[I sl,.slice az ns cs,.slice ar np cr,.slice ao no co] 30)) #[I pick] 3
  simpa using this
 have VF:Below w.heap.size w WQ:=by rw[Ni];exact((Below.refl w.heap.size w).alloc (Nat.le_refl _) _).alloc (by simp) _
 have cL:=ai (VF.alloc VF.size (.cells #[I 0,Nl,Nl,Nl] 30))
 have hq:(WQ.alloc (.cells #[I 0,Nl,Nl,Nl] 30)).cell? ⟨w.heap.size+1,0,none⟩=some (I pick):=B.cell (B.alloc BQ _) 0 rfl
 have BZ:=B.new WQ #[I 0,Nl,Nl,Nl] 30
 rw[Xm] at BZ
 obtain⟨WA,fH⟩:=ex (WQ.alloc (.cells #[I 0,Nl,Nl,Nl] 30))
 rw[<- fH] at cL hq BZ
 have O6:=ai (Ht.o WA (w.heap.size+1) cL.o hq)
 have U4:=ai BZ
 rw[Ni] at fH
 rw[fH] at O6
 have Y7:=ai fH
 clear fH Ni Xm BQ VF hq BZ Ht
 go_enter Tryz.func14,Tryz.ntmps14
 go_wp2_with (go_at_call 44;refine O6.o.mono ?_;rintro e w1 ⟨s0,a1,s1,c1,a2,s2,c2,a3,s3,c3,er,rfl,hb,ho⟩;rw[<- Y7.o] at hb ho;have bh:=ai hb;have Jg:=ai ho;have hz1:=B.below U4.o hb (B.isLt U4.o);obtain⟨z0,z1,z2,z3⟩:=B.c4 hz1;have f0:=B.free hz1 0;have f1:=B.free hz1 1;have f2:=B.free hz1 2;have f3:=B.free hz1 3;clear hb ho hz1)
 refine bodyPost_ret (v:=.tuple #[.agg #[I s0,.slice a1 s1 c1,.slice a2 s2 c2,.slice a3 s3 c3],I er]) (by simp[results,Tryz.results14,go_sem,z0,z1,z2,z3]) rfl ?_
 have hk4:=gM w1 (w.heap.size+1+1) (I s0) (.slice a1 s1 c1) (.slice a2 s2 c2) (.slice a3 s3 c3)
 have hzl:=B.isLt U4.o
 exact Jg.o _ (hk4.mono (fun b _ e=>by rw[e];exact hzl)) (Kp.below (cL.o.trans (bh.o.mono cL.o.size)) hk4 (Nat.le_trans cL.o.size bh.o.size) (fun b e=>by omega))
end GH
end Go.Proofs.YtkdigjpejnebkaaGreat
