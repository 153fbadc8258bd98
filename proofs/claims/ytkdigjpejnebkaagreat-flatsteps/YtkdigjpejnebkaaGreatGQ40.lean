import Derived.Test.YtkdigjpejnebkaaGreatGQ00
import Derived.Test.YtkdigjpejnebkaaGreatGQ38
import Derived.Test.YtkdigjpejnebkaaGreatGQ39
import Derived.Deep.RegionLaw
import Derived.Deep.RegionHeld3
import Derived.Deep.DeepCutAuto
import Derived.Test.YtkdigjpejnebkaaGreatGQ14
import Derived.Test.YtkdigjpejnebkaaGreatGQ02
import Derived.Test.YtkdigjpejnebkaaGreatChecked
import Derived.Deep.Slices
import Derived.ProofKit
import Derived.SizedLaws
import Derived.Test.YtkdigjpejnebkaaGreatGQ04
import Derived.Test.YtkdigjpejnebkaaGreatGQ23
import Derived.OpenShut
set_option maxHeartbeats 20000000
set_option linter.unusedVariables false
set_option maxRecDepth 100000
set_option linter.unusedSimpArgs false
namespace Go.Proofs.YtkdigjpejnebkaaGreat
namespace GB
open Go.RowKit GK
open FW (ai aB)
theorem Ff (w:World):Calls Tryz.prog 32 #[] w fun e w'=>(∃pb,e=.returned (.slice (some (Ad pb 0)) 14 14)/\GW.yt w' (some (Ad pb 0)) picks/\pb<w'.heap.size)/\Below w.heap.size w w':=by
 have HN:Hid (∀(V:World),V.heap[w.heap.size]?=some (.cells #[I 0,I 1,I 0,I 1,I 0,I 1,I 0,I 1,I 0,I 1,I 0,I 1,I 0,I 1] 3 (0,0))->GW.yt V (some (Ad w.heap.size 0)) picks):=fun V h _=>by
  refine⟨w.heap.size,0,rfl,B.isLt h,fun i hi=>?_⟩
  match i,hi with
  | 0,_=>exact B.cell h 0 rfl
  | 1,_=>exact B.cell h 1 rfl
  | 2,_=>exact B.cell h 2 rfl
  | 3,_=>exact B.cell h 3 rfl
  | 4,_=>exact B.cell h 4 rfl
  | 5,_=>exact B.cell h 5 rfl
  | 6,_=>exact B.cell h 6 rfl
  | 7,_=>exact B.cell h 7 rfl
  | 8,_=>exact B.cell h 8 rfl
  | 9,_=>exact B.cell h 9 rfl
  | 10,_=>exact B.cell h 10 rfl
  | 11,_=>exact B.cell h 11 rfl
  | 12,_=>exact B.cell h 12 rfl
  | 13,_=>exact B.cell h 13 rfl
  | k+14,h=>exact absurd h (by show ¬k+14<14;omega)
 have HB:=ai ((Below.refl w.heap.size w).alloc (Nat.le_refl _) (.cells #[I 0,I 1,I 0,I 1,I 0,I 1,I 0,I 1,I 0,I 1,I 0,I 1,I 0,I 1] 3))
 have HX:=ai (HN.o _ (B.new w #[I 0,I 1,I 0,I 1,I 0,I 1,I 0,I 1,I 0,I 1,I 0,I 1,I 0,I 1] 3))
 go_enter Tryz.func32,Tryz.ntmps32
 go_wp2
 go_ret
 exact⟨⟨w.heap.size,rfl,HX.o,by simp⟩,HB.o⟩
theorem KQ (w:World):Calls Tryz.prog 10 #[] w fun e w'=>e=.returned (.bool true)/\Below w.heap.size w w':=by
 have ZE:=ai KE
 have HRD:=ai Ff
 have Pz:Hid (∀V ar cr ah ch a1 a2 a3 a4 c1 c2 c3 c4,AW.Has V (.slice ar 1 cr) zk->LM.om V ah (rI a1 a2 a3 a4 c1 c2 c3 c4)->4<=ch->Calls Tryz.prog 7 #[.agg #[.slice ar 1 cr,.slice ah 4 ch,I 16],I 8] V fun e w'=>∃az cs af cf ao co,e=.returned (.tuple #[.agg #[I 8,.slice az 1 cs,.slice af 1 cf,.slice ao 0 co],I 0])/\(∀U,Kp (fun b=>b<V.heap.size) w' U->FW.fJ U rJ az af ao)/\Below V.heap.size V w'):=fun V ar cr ah ch a1 a2 a3 a4 c1 c2 c3 c4 h1 h2 h3=>by
  have h:=GH.Qj zk (rI a1 a2 a3 a4 c1 c2 c3 c4) 16 8 ar ah 1 cr ch V h1 D7 h2 (NS a1 a2 a3 a4 c1 c2 c3 c4) h3 (by unfold M.dD;decide)
  rw[Q7] at h
  refine h.mono ?_
  rintro e w' ⟨az,cs,af,cf,ao,co,g1,g2,g3⟩
  exact⟨az,cs,af,cf,ao,co,g1,g2,g3⟩
 obtain⟨R,hR⟩:=ex ((GH.yN rJ picks).1)
 have hr1:R.procs.length=2:=by rw[hR];exact JT
 have hr2:R.out.length=2:=by rw[hR];exact P8
 have hr3:(FM.lC R.out 0).value=0:=by rw[hR];exact TI
 have hr4:(FM.lC R.out 1).value=1:=by rw[hR];exact TH
 have uI:(FM.au R.procs 0).st=2:=by rw[hR];exact TJ
 have uH:(FM.au R.procs 0).cd=1:=by rw[hR];exact TK
 have Zd:Hid (∀V az cs af cf ao co ap cp,FW.fJ V rJ az af ao->GW.yt V ap picks->(∀b,ap=some b->b.block<V.heap.size)->Calls Tryz.prog 17 #[.agg #[I 8,.slice az 1 cs,.slice af 1 cf,.slice ao 0 co],.slice ap 14 cp] V fun e w'=>∃az cs cf co b1 o1 b2 o2 s0 ns,e=.returned (.tuple #[.agg #[I s0,.slice az ns cs,.slice (some (Ad b1 o1)) 2 cf,.slice (some (Ad b2 o2)) 2 co],I 0])/\(∀U,Kp (fun b=>b<V.heap.size) w' U->U.cell? (Ad b1 (o1+9))=some (I 2)/\U.cell? (Ad b1 (o1+10))=some (I 1)/\U.cell? (Ad b2 (o2+1))=some (I 0)/\U.cell? (Ad b2 (o2+2+1))=some (I 1))/\Below V.heap.size V w'):=fun V az cs af cf ao co ap cp h1 h2 h3=>by
  refine(GH.AR rJ picks ap cp az af ao cs cf co V h1 NQ NR h2 (fun _=>h3) (by show(14:Nat)<=_;decide)).mono ?_
  rintro e w' ⟨bz,ds,bf,df,bo,d_o,g1,g2,g3⟩
  rw[P9,<- hR] at g1
  rw[<- hR] at g2
  have hk:=g2 w' (Kp.refl _ _)
  obtain⟨b1,o1,e1,_,_⟩:=hk.procs (by rw[hr1];decide)
  obtain⟨b2,o2,e2,_,_⟩:=hk.out (by rw[hr2];decide)
  subst e1 e2
  unfold FW.bC at g1
  rw[hr1,hr2] at g1
  refine⟨bz,ds,df,d_o,b1,o1,b2,o2,_,_,g1,fun U hU=>?_,g3⟩
  have hu:=g2 U hU
  obtain⟨b3,o3,e3,_,l3⟩:=hu.procs (by rw[hr1];decide)
  obtain⟨b4,o4,e4,_,l4⟩:=hu.out (by rw[hr2];decide)
  injection e3 with e3
  injection e4 with e4
  injection e3 with q1 q2
  injection e4 with q3 q4
  subst q1 q2 q3 q4
  obtain⟨_,_,_,_,_,_,_,_,_,k9,k10,_,_⟩:=l3 0 (by rw[hr1];decide)
  obtain⟨_,k1⟩:=l4 0 (by rw[hr2];decide)
  obtain⟨_,k2⟩:=l4 1 (by rw[hr2];decide)
  rw[uI] at k9
  rw[uH] at k10
  rw[hr3] at k1
  rw[hr4] at k2
  simp only[Nat.zero_mul,Nat.add_zero,Nat.one_mul] at k9 k10 k1 k2
  exact⟨k9,k10,k1,k2⟩
 clear hr1 hr2 hr3 hr4 uI uH hR R
 go_enter Tryz.func10,Tryz.ntmps10
 go_wp2_with fail
 go_at_call 31
 refine(ZE.o _).mono ?_
 rintro e w1 ⟨ar,cr,ah,ch,a1,a2,a3,a4,c1,c2,c3,c4,rfl,h1,h2,h3,h4⟩
 have bh:=ai h4
 have Es:=ai (Pz.o w1 ar cr ah ch a1 a2 a3 a4 c1 c2 c3 c4 h1 h2 h3)
 clear h1 h2 h3 h4 ZE Pz
 go_wp2_with fail
 go_at_call 7
 refine Es.o.mono ?_
 rintro e w2 ⟨az,cs,af,cf,ao,co,rfl,h1,h2⟩
 have nD:=ai h1
 have bY:=ai (bh.o.trans (h2.mono bh.o.size))
 have hsz:=h2.size
 clear h1 h2 Es
 go_wp2_with fail
 have dH:=ai (bY.o.alloc bY.o.size (.cells #[I 8,.slice az 1 cs,.slice af 1 cf,.slice ao 0 co] 30))
 have X0:=ai (B.new w2 #[I 8,.slice az 1 cs,.slice af 1 cf,.slice ao 0 co] 30)
 have Jj:Hid (Below w2.heap.size w2 (w2.alloc (.cells #[I 8,.slice az 1 cs,.slice af 1 cf,.slice ao 0 co] 30))):=(Below.refl w2.heap.size w2).alloc (Nat.le_refl _) _
 obtain⟨W,hW⟩:=ex (w2.alloc (.cells #[I 8,.slice az 1 cs,.slice af 1 cf,.slice ao 0 co] 30))
 rw[<- hW] at dH X0 Jj ⊢
 obtain⟨fb,UB⟩:=ex w2.heap.size
 have hfw:w.heap.size<=fb:=by rw[UB];exact bY.o.size
 rw[<- UB] at X0 ⊢
 clear UB hW
 have jL:=ai (Below.refl W.heap.size W).drew
 have X00:Hid (W.drew.heap[fb]?=some (.cells #[I 8,.slice az 1 cs,.slice af 1 cf,.slice ao 0 co] 30 (0,0))):=X0.o
 have t0:=B.cell X0.o 0 rfl
 have t1:=B.cell X0.o 1 rfl
 have t2:=B.cell X0.o 2 rfl
 have t3:=B.cell X0.o 3 rfl
 go_cut [3] (fun x3 wx=>∃Lr cs' Wb D5 b1 o1 b2 o2 s0 ns,x3=I 0/\wx.heap[fb]?=some (.cells #[I s0,.slice Lr ns cs',.slice (some (Ad b1 o1)) 2 Wb,.slice (some (Ad b2 o2)) 2 D5] 30 (0,0))/\(wx.cell? (Ad b1 (o1+9))=some (I 2)/\wx.cell? (Ad b1 (o1+10))=some (I 1)/\wx.cell? (Ad b2 (o2+1))=some (I 0)/\wx.cell? (Ad b2 (o2+2+1))=some (I 1))/\Below w.heap.size w wx)
 case first =>
  go_region_law (first
   | (go_simp;go_at_call 32;refine(HRD.o _).mono ?_;rintro e w3 ⟨⟨pb,rfl,hn,hpl⟩,hb3⟩;have oq:=ai (jL.o.trans (hb3.mono jL.o.size));have X3:=ai (B.below X00.o hb3 (B.isLt X00.o));obtain⟨y0,y1,y2,y3⟩:=B.c4 X3.o;have adj:=ai (Zd.o w3 az cs af cf ao co (some (Ad pb 0)) 14 (nD.o w3 (Kp.aF (Jj.o.trans (oq.o.mono Jj.o.size)))) hn (fun b hb=>by injection hb with hb;subst hb;exact hpl));clear hn hpl hb3;go_simp)
   | (go_simp;go_at_call 17;refine adj.o.mono ?_;rintro e w4 ⟨Lr,cs',Wb,D5,b1,o1,b2,o2,s0,ns,rfl,hc4,hb4⟩;have HC4:=ai hc4;have lZ:=ai hb4;have X4:=ai (B.below X3.o hb4 (B.isLt X3.o));obtain⟨z0,z1,z2,z3⟩:=B.c4 X4.o;have zf:=B.free X4.o;clear hc4 hb4;go_simp))
  all_goals
   go_wp2_with fail
   go_meet
   case rel =>
    have hf3:=B.isLt X3.o
    have kU:=GH.gM w4 fb (I s0) (.slice Lr ns cs') (.slice (some (Ad b1 o1)) 2 Wb) (.slice (some (Ad b2 o2)) 2 D5)
    refine⟨Lr,cs',Wb,D5,b1,o1,b2,o2,s0,ns,rfl,B.set (B.set (B.set (B.set X4.o 0 _) 1 _) 2 _) 3 _,HC4.o _ (kU.mono (fun b _ e=>by rw[e];exact hf3)),?_⟩
    have hb:Below w.heap.size w w4:=(dH.o.trans (oq.o.mono dH.o.size)).trans (lZ.o.mono (dH.o.trans (oq.o.mono dH.o.size)).size)
    exact Kp.below hb kU hb.size (fun b e=>by rw[e];exact hfw)
 case rest =>
  obtain⟨Lr,cs',Wb,D5,b1,o1,b2,o2,s0,ns,rfl,hx,⟨k1,k2,k3,k4⟩,hb⟩:=hcut
  have HB:=ai hb
  have qx:=Q.dZ wc
  have hkc:=@Q.cD wc
  have l0:=B.isLt hx
  have l1:=World.block_lt_of_cell? _ _ k1
  have l2:=World.block_lt_of_cell? _ _ k3
  have e2:∀x:Q.dG wc.heap.size wc,x.world.cell? (Ad fb 2)=some (.slice (some (Ad b1 o1)) 2 Wb):=fun x=>(hkc x _ _ l0).trans (B.cell hx 2 rfl)
  have e3:∀x:Q.dG wc.heap.size wc,x.world.cell? (Ad fb 3)=some (.slice (some (Ad b2 o2)) 2 D5):=fun x=>(hkc x _ _ l0).trans (B.cell hx 3 rfl)
  have e4:∀x:Q.dG wc.heap.size wc,x.world.cell? (Ad b1 (o1+9))=some (I 2):=fun x=>(hkc x _ _ l1).trans k1
  have e5:∀x:Q.dG wc.heap.size wc,x.world.cell? (Ad b1 (o1+10))=some (I 1):=fun x=>(hkc x _ _ l1).trans k2
  have e6:∀x:Q.dG wc.heap.size wc,x.world.cell? (Ad b2 (o2+1))=some (I 0):=fun x=>(hkc x _ _ l2).trans k3
  have e7:∀x:Q.dG wc.heap.size wc,x.world.cell? (Ad b2 (o2+2+1))=some (I 1):=fun x=>(hkc x _ _ l2).trans k4
  have e8:∀x:Q.dG wc.heap.size wc,x.world.cell? (Ad b2 (o2+3))=some (I 1):=fun x=>(hkc x _ _ l2).trans k4
  clear hkc hx k1 k2 k3 k4 hb HRD Zd nD Jj jL X00 X0 t0 t1 t2 t3 l0 l1 l2
  go_wp2_with fail
  refine Q.aX (by kernel_rfl) (by kernel_rfl) ?_
  repeat (first | go_big_quiet_step (fail) | quiet_step (fail))
  refine wpQuiet_nil ?_
  intro _ hw'
  obtain⟨x,hw''⟩:=hw'
  subst hw''
  go_wp2
  go_ret
  exact⟨by simp,HB.o.trans (x.keeps.mono HB.o.size)⟩
end GB
namespace W
open Go.RowKit Go.Deep
theorem Oa:Tryz.prog.cellsOf 9=1:=by kernel_rfl
theorem pK:Tryz.prog.cellsOf 3=1:=by kernel_rfl
theorem BV:Tryz.prog.cellsOf 4=1:=by kernel_rfl
theorem ue (n:Int) (h:(Lit.int .i64 n).wf=true):M.dD n:=CM.bounds n h
theorem I5 {w:World} {b o:Nat} {v:Value} (h:w.cell? (Ad b o)=some v):b<w.heap.size:=by
 rcases Nat.lt_or_ge b w.heap.size with g | g
 · exact g
 · have e:w.heap[b]?=none:=Array.getElem?_eq_none g
   simp[World.cell?,e] at h
instance:Inhabited M.Sg:=⟨M.Ph⟩
instance:Inhabited M.Sy:=⟨M.sy0⟩
instance:Inhabited M.Rl:=⟨M.rl0⟩
def OkW {H:Type} (t:TypeId) (d:DataW H):Prop:=∀n∈d.weights Tryz.prog t,n<=reachBytes
theorem oP {H:Type} {e:TypeId}:∀{l:List (DataW H)} {d:DataW H},d∈l->∀n∈d.weights Tryz.prog e,n∈DataW.weightsAll Tryz.prog e l
 | y::r,d,h,n,hn=>by
  simp only[DataW.weightsAll,List.mem_append]
  rcases List.mem_cons.1 h with h | h
  · subst h;exact .inl hn
  · exact .inr (oP h n hn)
theorem xe {H:Type} {t:TypeId} {b:List UInt8} (h:OkW (H:=H) t (.lit (.string b))):b.length<=reachBytes:=h _ (by simp[DataW.weights])
theorem ua {H:Type} {t e:TypeId} {el sp:List (DataW H)} (hu:Tryz.prog.underlying t=some (.slice e)) (h:OkW t (.slice el sp)):(el.length+sp.length)*Tryz.prog.bytesOf e<=reachBytes/\∀d∈el,OkW e d:=by
 refine⟨h _ (by simp[DataW.weights,hu]),fun d hd n hn=>h n ?_⟩
 simp only[DataW.weights,hu,List.mem_cons,List.mem_append]
 exact .inr (.inl (oP hd n hn))
theorem nQ {H:Type} {t:TypeId} {fs:Array Field} {ps:List (DataW H)} (hu:Tryz.prog.underlying t=some (.struct fs)) (h:OkW t (.agg ps)) {j:Nat} {u:TypeId} {d:DataW H} (ht:(fs.toList.map (·.type))[j]?=some u) (hd:ps[j]?=some d):OkW u d:=fun n hn=>h n (by
 simp only[DataW.weights,hu]
 exact DataW.weights_mem_each ht hd n hn)
section
variable {H:Type} {enc:TypeId×Value->H} {w:World} {base:Nat} {spare:Nat->Bool} {held:Bool}
theorem m9 {t e:TypeId} {fuel:Nat} {v:Value} {x:DataW H×List MemPlace} (ht:Tryz.prog.underlying t=some (.slice e)) (h:DataW.trod enc Tryz.prog w base spare held fuel t [v]=some x):∃a len cap,v=.slice a len cap:=by
 rcases open_slice ht h with⟨hcs,_⟩ | ⟨a,len',cap',m,n,D,Pl,hcs,_⟩
 · simp at hcs;exact⟨_,_,_,hcs⟩
 · simp at hcs;exact⟨_,_,_,hcs⟩
end
end W
namespace GA
open Go.RowKit Go.Deep
open W (OkW xe ua nQ m9 I5 ue Oa pK BV)
theorem Rj:Tryz.prog.cellsOf 65=2:=by kernel_rfl
theorem Rg:Tryz.prog.cellsOf 53=3:=by kernel_rfl
theorem Rk:Tryz.prog.cellsOf 30=4:=by kernel_rfl
theorem Ri:Tryz.prog.cellsOf 70=13:=by kernel_rfl
theorem Rf:Tryz.prog.cellsOf 78=2:=by kernel_rfl
theorem N8:Tryz.prog.cellsOf 51=1:=by kernel_rfl
theorem N3:Tryz.prog.cellsOf 26=1:=by kernel_rfl
theorem N7:Tryz.prog.cellsOf 27=1:=by kernel_rfl
theorem N1:Tryz.prog.cellsOf 28=1:=by kernel_rfl
theorem N9:Tryz.prog.cellsOf 22=1:=by kernel_rfl
theorem Rh:Tryz.prog.cellsOf 66=8:=by kernel_rfl
theorem Rm:Tryz.prog.cellsOf 68=2:=by kernel_rfl
theorem Rw:0<Tryz.prog.bytesOf 65:=of_decide_eq_true (by kernel_rfl)
theorem Rq:0<Tryz.prog.bytesOf 53:=of_decide_eq_true (by kernel_rfl)
theorem Ru:0<Tryz.prog.bytesOf 70:=of_decide_eq_true (by kernel_rfl)
theorem Rp:0<Tryz.prog.bytesOf 78:=of_decide_eq_true (by kernel_rfl)
theorem Rx:Tryz.prog.bytesOf 59=32:=by kernel_rfl
instance:Inhabited FM.Pg:=⟨FM.yC⟩
instance:Inhabited FM.Sp:=⟨FM.E6⟩
instance:Inhabited FM.Wd:=⟨FM.ZV⟩
instance:Inhabited PM.Pr:=⟨FM.vS⟩
section
variable {H:Type} {enc:TypeId×Value->H} {w:World} {base:Nat} {spare:Nat->Bool} {held:Bool}
theorem qa {α:Type} [Inhabited α] {ts te:TypeId} {sz:Nat} (p:List Value->α->Prop) (hu:Tryz.prog.underlying ts=some (.slice te)) (hc:Tryz.prog.cellsOf te=sz) (UJ:0<Tryz.prog.bytesOf te) (hs0:0<sz)
  (elem:∀(n:Nat) (cs:List Value) (x:DataW H×List MemPlace),cs.length=sz->DataW.trod enc Tryz.prog w base spare held n te cs=some x->OkW te x.1->∃y,p cs y)
  {fuel:Nat} {a0:Option Addr} {len cap:Nat} {x:DataW H×List MemPlace} (h:DataW.trod enc Tryz.prog w base spare held fuel ts [.slice a0 len cap]=some x) (hw:OkW ts x.1) :
  len<=cap/\len<=140737488351232/\∃l:List α,l.length=len/\(0<len->∃b off,a0=some (Ad b off)/\b<w.heap.size/\∀i,i<len->∃cs:List Value,cs.length=sz/\p cs (l.getD i default)/\∀j,j<sz->w.cell? (Ad b (off+i*sz+j))=cs[j]?)/\∀i,i<len->∃cs,p cs (l.getD i default):=by
 rcases open_slice hu h with⟨hcs,_⟩ | ⟨a,len',cap',m,n,D,Pl,hcs,hb,hl,hm,hmm,rfl,hx⟩
 · simp at hcs
   obtain⟨rfl,rfl,rfl⟩:=hcs
   exact⟨Nat.le_refl _,by omega,[],rfl,fun h=>absurd h (by omega),fun i hi=>absurd hi (by omega)⟩
 · simp at hcs
   obtain⟨rfl,rfl,rfl⟩:=hcs
   have hlm:len<=m:=by rw[hmm];split <;> omega
   obtain⟨hb1,hb2⟩:=ua hu hw
   unfold reachBytes at hb1
   have hlen:len<=140737488351232:=by
    simp only[List.length_map,List.length_range] at hb1
    have:=Nat.le_mul_of_pos_right (len+(m-len)) UJ
    omega
   have each:∀i,i<len->∃y:α,∃cs:List Value,cs.length=sz/\p cs y/\∀j,j<sz->w.cell? (a.add (i*sz+j))=cs[j]?:=by
    intro i hi
    obtain⟨cs',h1,h2⟩:=hx i (by omega)
    have hd:D i∈(List.range len).map D:=List.mem_map.2 ⟨i,List.mem_range.2 hi,rfl⟩
    rw[hc] at h1
    obtain⟨_,hcl,hcell⟩:=World.cells?_some h1
    obtain⟨y,hy⟩:=elem n cs' _ hcl h2 (hb2 _ hd)
    refine⟨y,cs',hcl,hy,fun j hj=>?_⟩
    have:=hcell j (by omega)
    simp only[add_add] at this
    exact this
   obtain⟨g,hg⟩:=choose_lt each
   have hat:∀i,i<len->((List.range len).map g).getD i default=g i:=by
    intro i hi
    simp[hi]
   refine⟨hl,hlen,(List.range len).map g,by simp,fun h0=>?_,fun i hi=>?_⟩
   · obtain⟨b,off,spot⟩:=a
     obtain⟨cs,e1,e2,e3⟩:=hg 0 h0
     have hc0:=e3 0 hs0
     rw[List.getElem?_eq_getElem (by omega)] at hc0
     have hspot:spot=none:=by simpa [Addr.add] using World.cell?_spot hc0
     subst hspot
     rw[Addr.add_lit] at hc0
     refine⟨b,off,rfl,I5 hc0,fun i hi=>?_⟩
     rw[hat i hi]
     obtain⟨cs,e1,e2,e3⟩:=hg i hi
     refine⟨cs,e1,e2,fun j hj=>?_⟩
     have:=e3 j hj
     rw[Addr.add_lit,<- Nat.add_assoc] at this
     exact this
   · rw[hat i hi]
     obtain⟨cs,_,e2,_⟩:=hg i hi
     exact⟨cs,e2⟩
theorem ft {fuel:Nat} {v:Value} {y:DataW H×List MemPlace} (h:DataW.trod enc Tryz.prog w base spare held fuel 3 [v]=some y):∃n:Int,v=I n/\M.dD n:=by
 obtain⟨n,c,_,wf⟩:=DataW.trod_int Tryz.underlying3 h
 simp only[List.cons.injEq,and_true] at c
 exact⟨n,c,ue _ wf⟩
def Xf (cs:List Value) (y:FM.Pg):Prop:=cs=[I y.page,.string y.data]/\M.dD y.page/\M.bD y.data.size
theorem Mu (n:Nat) (cs:List Value) (x:DataW H×List MemPlace) (hl:cs.length=2) (h:DataW.trod enc Tryz.prog w base spare held n 65 cs=some x) (hw:OkW 65 x.1):∃y,Xf cs y:=by
 obtain⟨xs,k,hk,hxy,_,hxl,hf⟩:=DataW.trod_struct Tryz.underlying65 h
 rw[hxy] at hw
 match cs,hl with
 | [v0,v1],_ =>
  have g0:DataW.trod enc Tryz.prog w base spare held k 3 (([v0,v1].drop 0).take (Tryz.prog.cellsOf 3))=xs[0]?:=hf 0 _ rfl
  have g1:DataW.trod enc Tryz.prog w base spare held k 9 (([v0,v1].drop 1).take (Tryz.prog.cellsOf 9))=xs[1]?:=hf 1 _ rfl
  simp only[pK,Oa] at g0 g1
  match xs,hxl with
  | [y0,y1],_ =>
   obtain⟨m0,rfl,w0⟩:=ft (show DataW.trod enc Tryz.prog w base spare held k 3 [v0]=some y0 from g0)
   obtain⟨m1,c1,hx1,_⟩:=DataW.trod_string Tryz.underlying9 (show DataW.trod enc Tryz.prog w base spare held k 9 [v1]=some y1 from g1)
   have u1:=nQ Tryz.underlying65 hw (j:=1) (u:=9) (d:=y1.1) rfl rfl
   rw[hx1] at u1
   have w1:M.bD m1.size:=by have:=xe u1;unfold M.bD;unfold reachBytes at this;rw[Lib.size_eq];exact this
   simp only[List.cons.injEq,and_true] at c1
   subst c1
   exact⟨⟨m0,m1⟩,rfl,w0,w1⟩
theorem FJ {fuel:Nat} {a0:Option Addr} {len cap:Nat} {x:DataW H×List MemPlace} (h:DataW.trod enc Tryz.prog w base spare held fuel 51 [.slice a0 len cap]=some x) (hw:OkW 51 x.1) :
  ∃l:List FM.Pg,l.length=len/\FW.iN w a0 l/\M.bD l.length/\(∀k,k<l.length->M.dD (FM.aN l k).page/\M.bD (FM.aN l k).data.size)/\len<=cap:=by
 obtain⟨h1,h2,l,h3,h4,h5⟩:=qa Xf Tryz.underlying51 Rj Rw (by decide) Mu h hw
 subst h3
 refine⟨l,rfl,fun h0=>?_,h2,fun k hk=>?_,h1⟩
 · obtain⟨b,off,e1,e2,e3⟩:=h4 h0
   refine⟨b,off,e1,e2,fun i hi=>?_⟩
   obtain⟨cs,_,⟨rfl,_⟩,q⟩:=e3 i hi
   exact⟨q 0 (by decide),q 1 (by decide)⟩
 · obtain⟨cs,_,q⟩:=h5 k hk
   exact q
def Xc (cs:List Value) (y:FM.Wd):Prop:=cs=[I y.proc,I y.value]
theorem Ms (n:Nat) (cs:List Value) (x:DataW H×List MemPlace) (hl:cs.length=2) (h:DataW.trod enc Tryz.prog w base spare held n 78 cs=some x) (hw:OkW 78 x.1):∃y,Xc cs y:=by
 obtain⟨xs,k,hk,hxy,_,hxl,hf⟩:=DataW.trod_struct Tryz.underlying78 h
 match cs,hl with
 | [v0,v1],_ =>
  have g0:DataW.trod enc Tryz.prog w base spare held k 3 (([v0,v1].drop 0).take (Tryz.prog.cellsOf 3))=xs[0]?:=hf 0 _ rfl
  have g1:DataW.trod enc Tryz.prog w base spare held k 3 (([v0,v1].drop 1).take (Tryz.prog.cellsOf 3))=xs[1]?:=hf 1 _ rfl
  simp only[pK] at g0 g1
  match xs,hxl with
  | [y0,y1],_ =>
   obtain⟨m0,rfl,_⟩:=ft (show DataW.trod enc Tryz.prog w base spare held k 3 [v0]=some y0 from g0)
   obtain⟨m1,rfl,_⟩:=ft (show DataW.trod enc Tryz.prog w base spare held k 3 [v1]=some y1 from g1)
   exact⟨⟨m0,m1⟩,rfl⟩
theorem FH {fuel:Nat} {a0:Option Addr} {len cap:Nat} {x:DataW H×List MemPlace} (h:DataW.trod enc Tryz.prog w base spare held fuel 28 [.slice a0 len cap]=some x) (hw:OkW 28 x.1) :
  ∃l:List FM.Wd,l.length=len/\FW.yq w a0 l/\M.bD l.length:=by
 obtain⟨h1,h2,l,h3,h4,h5⟩:=qa Xc Tryz.underlying28 Rf Rp (by decide) Ms h hw
 subst h3
 refine⟨l,rfl,fun h0=>?_,h2⟩
 obtain⟨b,off,e1,e2,e3⟩:=h4 h0
 refine⟨b,off,e1,e2,fun i hi=>?_⟩
 obtain⟨cs,_,rfl,q⟩:=e3 i hi
 exact⟨q 0 (by decide),q 1 (by decide)⟩
def Xe (cs:List Value) (y:PM.Pr):Prop:=cs=y.row.toList/\GG.ot y
theorem Mt (n:Nat) (cs:List Value) (x:DataW H×List MemPlace) (hl:cs.length=13) (h:DataW.trod enc Tryz.prog w base spare held n 70 cs=some x) (hw:OkW 70 x.1):∃y,Xe cs y:=by
 obtain⟨xs,k,hk,hxy,_,hxl,hf⟩:=DataW.trod_struct Tryz.underlying70 h
 match cs,hl with
 | [v0,v1,v2,v3,v4,v5,v6,v7,v8,v9,v10,v11,v12],_ =>
  have g0:DataW.trod enc Tryz.prog w base spare held k 66 (([v0,v1,v2,v3,v4,v5,v6,v7,v8,v9,v10,v11,v12].drop 0).take (Tryz.prog.cellsOf 66))=xs[0]?:=hf 0 _ rfl
  have g1:DataW.trod enc Tryz.prog w base spare held k 3 (([v0,v1,v2,v3,v4,v5,v6,v7,v8,v9,v10,v11,v12].drop 8).take (Tryz.prog.cellsOf 3))=xs[1]?:=hf 1 _ rfl
  have g2:DataW.trod enc Tryz.prog w base spare held k 3 (([v0,v1,v2,v3,v4,v5,v6,v7,v8,v9,v10,v11,v12].drop 9).take (Tryz.prog.cellsOf 3))=xs[2]?:=hf 2 _ rfl
  have g3:DataW.trod enc Tryz.prog w base spare held k 3 (([v0,v1,v2,v3,v4,v5,v6,v7,v8,v9,v10,v11,v12].drop 10).take (Tryz.prog.cellsOf 3))=xs[3]?:=hf 3 _ rfl
  have g4:DataW.trod enc Tryz.prog w base spare held k 68 (([v0,v1,v2,v3,v4,v5,v6,v7,v8,v9,v10,v11,v12].drop 11).take (Tryz.prog.cellsOf 68))=xs[4]?:=hf 4 _ rfl
  simp only[pK,Rh,Rm] at g0 g1 g2 g3 g4
  match xs,hxl with
  | [y0,y1,y2,y3,y4],_ =>
   obtain⟨n8,rfl,i8⟩:=ft (show DataW.trod enc Tryz.prog w base spare held k 3 [v8]=some y1 from g1)
   obtain⟨n9,rfl,_⟩:=ft (show DataW.trod enc Tryz.prog w base spare held k 3 [v9]=some y2 from g2)
   obtain⟨n10,rfl,_⟩:=ft (show DataW.trod enc Tryz.prog w base spare held k 3 [v10]=some y3 from g3)
   have t0:DataW.trod enc Tryz.prog w base spare held k 66 [v0,v1,v2,v3,v4,v5,v6,v7]=some y0:=g0
   have t4:DataW.trod enc Tryz.prog w base spare held k 68 [v11,v12]=some y4:=g4
   obtain⟨az,ka,_,_,_,hal,ha⟩:=DataW.trod_array Tryz.underlying66 t0
   obtain⟨fs,kf,_,_,_,hfl,S8⟩:=DataW.trod_struct Tryz.underlying68 t4
   have f0:DataW.trod enc Tryz.prog w base spare held kf 3 (([v11,v12].drop 0).take (Tryz.prog.cellsOf 3))=fs[0]?:=S8 0 _ rfl
   have f1:DataW.trod enc Tryz.prog w base spare held kf 3 (([v11,v12].drop 1).take (Tryz.prog.cellsOf 3))=fs[1]?:=S8 1 _ rfl
   simp only[pK] at f0 f1 ha
   match fs,hfl with
   | [q0,q1],_ =>
    obtain⟨n11,rfl,_⟩:=ft (show DataW.trod enc Tryz.prog w base spare held kf 3 [v11]=some q0 from f0)
    obtain⟨Z1,rfl,_⟩:=ft (show DataW.trod enc Tryz.prog w base spare held kf 3 [v12]=some q1 from f1)
    match az,hal with
    | [a0,a1,a2,a3,a4,a5,a6,a7],_ =>
     obtain⟨n0,rfl,i0⟩:=ft (show DataW.trod enc Tryz.prog w base spare held ka 3 [v0]=some a0 from ha 0 (by omega))
     obtain⟨n1,rfl,i1⟩:=ft (show DataW.trod enc Tryz.prog w base spare held ka 3 [v1]=some a1 from ha 1 (by omega))
     obtain⟨n2,rfl,i2⟩:=ft (show DataW.trod enc Tryz.prog w base spare held ka 3 [v2]=some a2 from ha 2 (by omega))
     obtain⟨n3,rfl,i3⟩:=ft (show DataW.trod enc Tryz.prog w base spare held ka 3 [v3]=some a3 from ha 3 (by omega))
     obtain⟨n4,rfl,i4⟩:=ft (show DataW.trod enc Tryz.prog w base spare held ka 3 [v4]=some a4 from ha 4 (by omega))
     obtain⟨n5,rfl,i5⟩:=ft (show DataW.trod enc Tryz.prog w base spare held ka 3 [v5]=some a5 from ha 5 (by omega))
     obtain⟨n6,rfl,i6⟩:=ft (show DataW.trod enc Tryz.prog w base spare held ka 3 [v6]=some a6 from ha 6 (by omega))
     obtain⟨n7,rfl,i7⟩:=ft (show DataW.trod enc Tryz.prog w base spare held ka 3 [v7]=some a7 from ha 7 (by omega))
     exact⟨⟨fun j=>match j with | 0=>n0 | 1=>n1 | 2=>n2 | 3=>n3 | 4=>n4 | 5=>n5 | 6=>n6 | _=>n7,n8,n9,n10,n11,Z1⟩,rfl,fun j hj=>by
      match j,hj with
      | 0,_=>exact i0
      | 1,_=>exact i1
      | 2,_=>exact i2
      | 3,_=>exact i3
      | 4,_=>exact i4
      | 5,_=>exact i5
      | 6,_=>exact i6
      | 7,_=>exact i7
      | j+8,h=>exact absurd h (by omega),i8⟩
theorem FI {fuel:Nat} {a0:Option Addr} {len cap:Nat} {x:DataW H×List MemPlace} (h:DataW.trod enc Tryz.prog w base spare held fuel 27 [.slice a0 len cap]=some x) (hw:OkW 27 x.1) :
  ∃l:List PM.Pr,l.length=len/\FW.yr w a0 l/\M.bD l.length/\GH.pS l:=by
 obtain⟨h1,h2,l,h3,h4,h5⟩:=qa Xe Tryz.underlying27 Ri Ru (by decide) Mt h hw
 subst h3
 refine⟨l,rfl,fun h0=>?_,h2,fun k hk=>?_⟩
 · obtain⟨b,off,e1,e2,e3⟩:=h4 h0
   refine⟨b,off,e1,e2,fun i hi=>?_⟩
   obtain⟨cs,_,⟨rfl,_⟩,q⟩:=e3 i hi
   exact⟨q 0 (by decide),q 1 (by decide),q 2 (by decide),q 3 (by decide),q 4 (by decide),q 5 (by decide),q 6 (by decide),q 7 (by decide),q 8 (by decide),q 9 (by decide),q 10 (by decide),q 11 (by decide),q 12 (by decide)⟩
 · obtain⟨cs,_,q⟩:=h5 k hk
   exact q
def Xd (w:World) (cs:List Value) (y:FM.Sp):Prop:=∃va ap cp,cs=[.bool y.live,va,.slice ap y.aj.length cp]/\AW.Has w va y.aw/\FW.iN w ap y.aj/\y.aj.length<=cp/\FW.Hz y
theorem J2 (n:Nat) (cs:List Value) (x:DataW H×List MemPlace) (hl:cs.length=3) (h:DataW.trod enc Tryz.prog w base spare held n 53 cs=some x) (hw:OkW 53 x.1):∃y,Xd w cs y:=by
 obtain⟨xs,k,hk,hxy,_,hxl,hf⟩:=DataW.trod_struct Tryz.underlying53 h
 rw[hxy] at hw
 match cs,hl with
 | [v0,v1,v2],_ =>
  have g0:DataW.trod enc Tryz.prog w base spare held k 4 (([v0,v1,v2].drop 0).take (Tryz.prog.cellsOf 4))=xs[0]?:=hf 0 _ rfl
  have g1:DataW.trod enc Tryz.prog w base spare held k 22 (([v0,v1,v2].drop 1).take (Tryz.prog.cellsOf 22))=xs[1]?:=hf 1 _ rfl
  have g2:DataW.trod enc Tryz.prog w base spare held k 51 (([v0,v1,v2].drop 2).take (Tryz.prog.cellsOf 51))=xs[2]?:=hf 2 _ rfl
  simp only[BV,N9,N8] at g0 g1 g2
  match xs,hxl with
  | [y0,y1,y2],_ =>
   obtain⟨lv,c0,_⟩:=DataW.trod_bool Tryz.underlying4 (show DataW.trod enc Tryz.prog w base spare held k 4 [v0]=some y0 from g0)
   have u1:=nQ Tryz.underlying53 hw (j:=1) (u:=22) (d:=y1.1) rfl rfl
   have u2:=nQ Tryz.underlying53 hw (j:=2) (u:=51) (d:=y2.1) rfl rfl
   have t1:DataW.trod enc Tryz.prog w base spare held k 22 [v1]=some y1:=g1
   have t2:DataW.trod enc Tryz.prog w base spare held k 51 [v2]=some y2:=g2
   obtain⟨av,lvn,cv,d1⟩:=m9 Tryz.underlying22 t1
   obtain⟨ap,lp,cp,d2⟩:=m9 Tryz.underlying51 t2
   subst d1;subst d2
   obtain⟨l,n1,n2,n3,n4⟩:=AW.FK t1
   obtain⟨ps,s1,s2,s3,s4,s5⟩:=FJ t2 u2
   simp only[List.cons.injEq,and_true] at c0
   subst c0;subst s1
   refine⟨⟨lv,l,ps⟩,_,ap,cp,rfl,n2,s2,s5,⟨n3,?_⟩,s3,s4⟩
   rw[n1]
   rcases n4 with e | ⟨el,sp,e1,e2⟩
   · omega
   · rw[e1] at u1
     have hb:=(ua Tryz.underlying22 u1).1
     rw[Rx,e2] at hb
     unfold reachBytes at hb
     omega
theorem Db {fuel:Nat} {a0:Option Addr} {len cap:Nat} {x:DataW H×List MemPlace} (h:DataW.trod enc Tryz.prog w base spare held fuel 26 [.slice a0 len cap]=some x) (hw:OkW 26 x.1) :
  ∃l:List FM.Sp,l.length=len/\FW.vL w a0 l/\FW.yB l:=by
 obtain⟨h1,h2,l,h3,h4,h5⟩:=qa (Xd w) Tryz.underlying26 Rg Rq (by decide) J2 h hw
 subst h3
 refine⟨l,rfl,fun h0=>?_,h2,fun k hk=>?_⟩
 · obtain⟨b,off,e1,e2,e3⟩:=h4 h0
   refine⟨b,off,e1,e2,fun i hi=>?_⟩
   obtain⟨cs,_,⟨va,ap,cp,rfl,r1,r2,r3,_⟩,q⟩:=e3 i hi
   exact⟨va,ap,cp,q 0 (by decide),q 1 (by decide),q 2 (by decide),r1,r2,r3⟩
 · obtain⟨cs,_,_,_,_,_,_,_,q⟩:=h5 k hk
   exact q
theorem J1 {fuel:Nat} {cs:List Value} {x:DataW H×List MemPlace} (h:DataW.trod enc Tryz.prog w base spare held fuel 30 cs=some x) (hw:OkW 30 x.1) :
  ∃(f:FM.Fl) (az ar ao:Option Addr) (c1 c2 c3:Nat),cs=(FW.bC f az ar ao c1 c2 c3).toList/\FW.fJ w f az ar ao/\FW.mL f/\GH.pS f.procs:=by
 obtain⟨xs,k,hk,hxy,hcl,hxl,hf⟩:=DataW.trod_struct Tryz.underlying30 h
 rw[hxy] at hw
 rw[Rk] at hcl
 match cs,hcl with
 | [v0,v1,v2,v3],_ =>
  have g0:DataW.trod enc Tryz.prog w base spare held k 3 (([v0,v1,v2,v3].drop 0).take (Tryz.prog.cellsOf 3))=xs[0]?:=hf 0 _ rfl
  have g1:DataW.trod enc Tryz.prog w base spare held k 26 (([v0,v1,v2,v3].drop 1).take (Tryz.prog.cellsOf 26))=xs[1]?:=hf 1 _ rfl
  have g2:DataW.trod enc Tryz.prog w base spare held k 27 (([v0,v1,v2,v3].drop 2).take (Tryz.prog.cellsOf 27))=xs[2]?:=hf 2 _ rfl
  have g3:DataW.trod enc Tryz.prog w base spare held k 28 (([v0,v1,v2,v3].drop 3).take (Tryz.prog.cellsOf 28))=xs[3]?:=hf 3 _ rfl
  simp only[pK,N3,N7,N1] at g0 g1 g2 g3
  match xs,hxl with
  | [y0,y1,y2,y3],_ =>
   obtain⟨sl,rfl,i0⟩:=ft (show DataW.trod enc Tryz.prog w base spare held k 3 [v0]=some y0 from g0)
   have u1:=nQ Tryz.underlying30 hw (j:=1) (u:=26) (d:=y1.1) rfl rfl
   have u2:=nQ Tryz.underlying30 hw (j:=2) (u:=27) (d:=y2.1) rfl rfl
   have u3:=nQ Tryz.underlying30 hw (j:=3) (u:=28) (d:=y3.1) rfl rfl
   have t1:DataW.trod enc Tryz.prog w base spare held k 26 [v1]=some y1:=g1
   have t2:DataW.trod enc Tryz.prog w base spare held k 27 [v2]=some y2:=g2
   have t3:DataW.trod enc Tryz.prog w base spare held k 28 [v3]=some y3:=g3
   obtain⟨az,l1,c1,d1⟩:=m9 Tryz.underlying26 t1
   obtain⟨ar,l2,c2,d2⟩:=m9 Tryz.underlying27 t2
   obtain⟨ao,l3,c3,d3⟩:=m9 Tryz.underlying28 t3
   subst d1;subst d2;subst d3
   obtain⟨ss,rfl,s2,s3⟩:=Db t1 u1
   obtain⟨ps,rfl,p2,p3,p4⟩:=FI t2 u2
   obtain⟨os,rfl,o2,o3⟩:=FH t3 u3
   exact⟨⟨sl,ss,ps,os⟩,az,ar,ao,c1,c2,c3,rfl,⟨s2,p2,o2⟩,⟨i0,s3,p3,o3⟩,p4⟩
end
end GA
end Go.Proofs.YtkdigjpejnebkaaGreat
