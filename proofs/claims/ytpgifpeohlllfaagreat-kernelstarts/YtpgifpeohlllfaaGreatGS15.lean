import Derived.Test.YtpgifpeohlllfaaGreatGS00
import Derived.Test.YtpgifpeohlllfaaGreatGS14
import Derived.Test.YtpgifpeohlllfaaGreatGS02
import Derived.Deep.RegionHeld3
set_option maxHeartbeats 20000000
set_option linter.unusedVariables false
set_option maxRecDepth 100000
set_option linter.unusedSimpArgs false
namespace Go.Proofs.YtpgifpeohlllfaaGreat
namespace KW
open Go.RowKit GK
open FW (ai aB)
theorem oL (es:List KM.En) (p:Int) (i:Nat) (hi:i<es.length) (h:(KM.aN es i).page=p) (hno:∀j,j<i->¬(KM.aN es j).page=p):KM.bc es p=some (KM.aN es i):=by
 induction es generalizing i with
 | nil=>cases hi
 | cons a r ih =>
  cases i with
  | zero =>
   have h:a.page=p:=h
   show(a::r).find? _=some a
   rw[List.find?_cons,decide_eq_true h]
  | succ i =>
   have h0:¬a.page=p:=hno 0 (by omega)
   show(a::r).find? _=some (KM.aN r i)
   rw[List.find?_cons,decide_eq_false h0]
   exact ih i (Nat.lt_of_succ_lt_succ hi) h (fun j hj=>hno (j+1) (by omega))
theorem Lq (es:List KM.En) (p:Int) (hno:∀j,j<es.length->¬(KM.aN es j).page=p):KM.bc es p=none:=KM.kW.2 fun e he=>by
 obtain⟨j,hj,rfl⟩:=KM.eZ KM.jI he
 exact hno j hj
def dU (es:List KM.En) (p:Int):KM.En×Bool:=match KM.bc es p with
 | some e=>(e,true)
 | none=>(KM.jI,false)
def dN (e:KM.En):Value:=.agg #[I e.page,I e.kind,I e.loc]
theorem Bn (es:List KM.En) (p:Int) (j n mb pb po cP:Nat) (ae:Option Addr) (ce:Nat) (w:World) (hm:w.cell? (Ad mb 3)=some (.slice (some (Ad pb po)) n cP)) (hj:j<n) (hce:w.cell? (Ad pb (po+j*3+2))=some (.slice ae es.length ce)) (he:aZ aK 3 KM.jI w ae es) (hl:es.length<=1000000) (hn:n<=1000000) :
  Calls Tryz.prog 118 #[.pointer (some (Ad mb 0)),I (j:Int),I p] w fun e w'=>e=.returned (.tuple #[dN (dU es p).1,.bool (dU es p).2])/\Below w.heap.size w w':=by
 have oa:=World.block_lt_of_cell? w _ hm
 have hpl:=World.block_lt_of_cell? w _ hce
 have oa:mb<w.heap.size:=oa
 have hpl:pb<w.heap.size:=hpl
 have hmn:¬mb=w.heap.size:=by omega
 have aie:¬mb=w.heap.size+1:=by omega
 have hpn:¬pb=w.heap.size:=by omega
 have ah5:¬pb=w.heap.size+1:=by omega
 have Qk:=ai he
 obtain⟨W,hW⟩:=ex ((w.alloc (.cells #[I p] 3)).alloc (.cells #[I 0,I 0,I 0] 45))
 have bW:Hid (Below w.heap.size w W):=by rw[hW];exact((Below.refl w.heap.size w).alloc (Nat.le_refl _) _).alloc (by simp) _
 have X0:Hid (W.heap[w.heap.size]?=some (.cells #[I p] 3 (0,0))):=by rw[hW];exact B.alloc (B.new w _ _) _
 have R0:Hid (W.heap[w.heap.size+1]?=some (.cells #[I 0,I 0,I 0] 45 (0,0))):=by
  have:=B.new (w.alloc (.cells #[I p] 3)) #[I 0,I 0,I 0] 45
  rw[World.size_alloc] at this
  rw[hW];exact this
 have d3:W.cell? (Ad mb 3)=some (.slice (some (Ad pb po)) n cP):=(bW.o.cell (p:=(Ad mb 3)) oa).trans hm
 have d2:W.cell? (Ad pb (po+j*3+2))=some (.slice ae es.length ce):=(bW.o.cell (p:=(Ad pb (po+j*3+2))) hpl).trans hce
 have BH:=ai (CB 154 (.inl rfl) (fun e=>decide (e.page=p)) es ae ce w.heap.size W (he.below bW.o) hl (fun V e hV=>Hn p e w.heap.size V (B.cell (B.below X0.o hV (B.isLt X0.o)) 0 rfl)))
 have HF:=ai (oL es p)
 have HN:=ai (Lq es p)
 have La:(j:Int)<(n:Int):=by omega
 have EA:(0:Int)<=(j:Int):=by omega
 have HW:=ai hW
 clear hm hce he hW
 have q1:W.frozen? (Ad (w.heap.size+1) 0)=false:=B.free R0.o 0
 by_cases hex:∃j,j<es.length/\(KM.aN es j).page=p
 · obtain⟨j0,YB,YA⟩:=hex
   have C7:Hid (Calls Tryz.prog 153 #[.slice ae es.length ce,.func (.func 154) #[] #[.pointer (some (Ad w.heap.size 0))]] W fun e w'=>∃i:Nat,i<es.length/\e=.returned (I (i:Int))/\dU es p=(KM.aN es i,true)/\Below W.heap.size W w'):=BH.o.mono fun e w' ⟨hb,h⟩=>by
    rcases h with⟨_,hno⟩ | ⟨i,hi,he,N3,hno⟩
    · exact absurd YA (by have:=hno j0 YB;simpa using this)
    · refine⟨i,hi,he,?_,hb⟩
      unfold dU
      rw[HF.o i hi (by simpa using N3) (fun j hj=>by have:=hno j hj;simpa using this)]
   clear BH HF HN YB YA
   go_enter Tryz.func118,Tryz.ntmps118
   go_upto_region 1 with fail
   rw[<- HW.o]
   go_upto_region 3 with(go_at_call 153;refine C7.o.mono ?_;rintro e w1 ⟨i,hi,rfl,hen,hb1⟩;have iG:=ai hen;have bI:=ai (bW.o.trans (hb1.mono bW.o.size));have R1:=ai (B.below R0.o hb1 (B.isLt R0.o));clear hb1 hen)
   obtain⟨eb,eo,hao,hbl,bM⟩:=Qk.o (by omega)
   subst hao
   have y0:=(bI.o.cell (p:=(Ad eb (eo+i*3+0))) hbl).trans (bM i hi 0 (by omega))
   have y1:=(bI.o.cell (p:=(Ad eb (eo+i*3+1))) hbl).trans (bM i hi 1 (by omega))
   have y2:=(bI.o.cell (p:=(Ad eb (eo+i*3+2))) hbl).trans (bM i hi 2 (by omega))
   rw[Nat.add_zero] at y0
   obtain⟨E,hE⟩:=ex (KM.aN es i)
   have x0:w1.cell? (Ad eb (eo+i*3))=some (I E.page):=by rw[hE];exact y0
   have x1:w1.cell? (Ad eb (eo+i*3+1))=some (I E.kind):=by rw[hE];exact y1
   have x2:w1.cell? (Ad eb (eo+i*3+2))=some (I E.loc):=by rw[hE];exact y2
   rw[<- hE] at iG
   obtain⟨r0,r1,r2⟩:=B.c3 R1.o
   have f0:=B.free R1.o 0
   have f1:=B.free R1.o 1
   have f2:=B.free R1.o 2
   have hi1:(i:Int)<(es.length:Int):=by omega
   have hi0:(0:Int)<=(i:Int):=by omega
   clear hE y0 y1 y2 bM
   go_wp2
   have R2:(((w1.setCell (Ad (w.heap.size+1) 0) (I E.page)).setCell (Ad (w.heap.size+1) 1) (I E.kind)).setCell (Ad (w.heap.size+1) 2) (I E.loc)).heap[w.heap.size+1]?=some (.cells #[I E.page,I E.kind,I E.loc] 45 (0,0)):=B.set (B.set (B.set R1.o 0 _) 1 _) 2 _
   obtain⟨v0,v1,v2⟩:=B.c3 R2
   refine bodyPost_ret (v:=.tuple #[dN E,.bool true]) (by simp[results,Tryz.results118,go_sem,dN,v0,v1,v2]) rfl ?_
   rw[iG.o]
   refine⟨rfl,?_⟩
   exact((bI.o.setCell (p:=(Ad (w.heap.size+1) 0)) (by show w.heap.size<=w.heap.size+1;omega) _).setCell (p:=(Ad (w.heap.size+1) 1)) (by show w.heap.size<=w.heap.size+1;omega) _).setCell (p:=(Ad (w.heap.size+1) 2)) (by show w.heap.size<=w.heap.size+1;omega) _
 · have C7:Hid (Calls Tryz.prog 153 #[.slice ae es.length ce,.func (.func 154) #[] #[.pointer (some (Ad w.heap.size 0))]] W fun e w'=>e=.returned (I (-1))/\Below W.heap.size W w'):=BH.o.mono fun e w' ⟨hb,h⟩=>by
    rcases h with⟨he,_⟩ | ⟨i,hi,_,N3,_⟩
    · exact⟨he,hb⟩
    · exact absurd ⟨i,hi,by simpa using N3⟩ hex
   have iG:Hid (dU es p=(KM.jI,false)):=by
    show _=_
    unfold dU
    rw[HN.o (fun j hj e=>hex ⟨j,hj,e⟩)]
   clear BH HF HN hex
   go_enter Tryz.func118,Tryz.ntmps118
   go_upto_region 1 with fail
   rw[<- HW.o]
   go_upto_region 3 with(go_at_call 153;refine C7.o.mono ?_;rintro e w1 ⟨rfl,hb1⟩;have bI:=ai (bW.o.trans (hb1.mono bW.o.size));have R1:=ai (B.below R0.o hb1 (B.isLt R0.o));clear hb1)
   obtain⟨r0,r1,r2⟩:=B.c3 R1.o
   have f0:=B.free R1.o 0
   have f1:=B.free R1.o 1
   have f2:=B.free R1.o 2
   go_wp2
   have R2:(((w1.setCell (Ad (w.heap.size+1) 0) (I 0)).setCell (Ad (w.heap.size+1) 1) (I 0)).setCell (Ad (w.heap.size+1) 2) (I 0)).heap[w.heap.size+1]?=some (.cells #[I 0,I 0,I 0] 45 (0,0)):=B.set (B.set (B.set R1.o 0 _) 1 _) 2 _
   obtain⟨v0,v1,v2⟩:=B.c3 R2
   refine bodyPost_ret (v:=.tuple #[dN KM.jI,.bool false]) (by simp[results,Tryz.results118,go_sem,dN,KM.jI,v0,v1,v2]) rfl ?_
   rw[iG.o]
   refine⟨rfl,?_⟩
   exact((bI.o.setCell (p:=(Ad (w.heap.size+1) 0)) (by show w.heap.size<=w.heap.size+1;omega) _).setCell (p:=(Ad (w.heap.size+1) 1)) (by show w.heap.size<=w.heap.size+1;omega) _).setCell (p:=(Ad (w.heap.size+1) 2)) (by show w.heap.size<=w.heap.size+1;omega) _
theorem Gs (k:KM.Kn) (j:Nat) (p:Int) (hR:KM.aU k) (hj:j<k.aj.length):KM.dB k j p=if (dU (KM.au k.aj j).aA p).1.kind=1 then (KM.aI k.frames (dU (KM.au k.aj j).aA p).1.loc.toNat).data else if (dU (KM.au k.aj j).aA p).1.kind=2 then (KM.bG k.slots (dU (KM.au k.aj j).aA p).1.loc.toNat).data else KM.dY k.ak p (KM.zeroAt k j p):=by
 unfold KM.dB dU
 cases g:KM.bc (KM.au k.aj j).aA p with
 | none=>rfl
 | some e =>
  have he:=(KM.dH (hR.sp hj).eN).1 g
  show(if e.kind=1 then _ else _)=if e.kind=1 then _ else if e.kind=2 then _ else _
  rcases KM.fV hR hj he.1 with b | b
  · rw[if_pos b.1,if_pos b.1]
  · rw[if_neg (by omega),if_neg (by omega),if_pos b.1]
theorem KV (k:KM.Kn) (a:fu) (j mb:Nat) (p:Int) (ar:AM.Ar) (w:World) (hK:cI w a k) (hR:KM.aU k) (hj:j<k.aj.length) (hm:w.heap[mb]?=some (.cells (lh a k) 104 (0,0))) (hp:KM.mapped k j p) (hz:ar.zero=KM.zeroAt k j p) :
  Calls Tryz.prog 71 #[.pointer (some (Ad mb 0)),I (j:Int),I p,.agg (AW.cellsOf ar)] w fun e w'=>e=.returned (.string (KM.dB k j p))/\Below w.heap.size w w':=by
 have wK:=KM.jw hp
 have hcc:=hR.c
 have Mh:=ai (Gs k j p hR hj)
 have oa:=B.isLt hm
 obtain⟨pb,po,hao,hbl,bM⟩:=hK.aj (by omega)
 obtain⟨va,ap,cp,_,_,y2,_,y4,_⟩:=bM j hj
 have hel:(KM.au k.aj j).aA.length<=1000000:=by
  have h1:=KM.mC (hR.sp hj)
  have h2:=iY (KM.au k.aj j).aD
  omega
 have c1:w.cell? (Ad mb 1)=some (.slice a.aF k.frames.length a.cF):=B.cell hm 1 rfl
 have c2:w.cell? (Ad mb 2)=some (.slice a.aL k.slots.length a.cL):=B.cell hm 2 rfl
 have c3:w.cell? (Ad mb 3)=some (.slice (some (Ad pb po)) k.aj.length a.cP):=(B.cell (v:=.slice a.aP k.aj.length a.cP) hm 3 rfl).trans (by rw[hao])
 have iG:=ai (fun V (hV:Below w.heap.size w V)=>Bn (KM.au k.aj j).aA p j k.aj.length mb pb po a.cP ap cp V ((hV.cell (p:=(Ad mb 3)) oa).trans c3) hj ((hV.cell (p:=(Ad pb (po+j*3+2))) hbl).trans y2) (y4.below hV) hel (by omega))
 have jZ:=ai (fun V (hV:Below w.heap.size w V)=>pX k.ak p ar.zero mb V (yw (B.below hm hV oa) hR.eN) (by omega))
 have xw:Hid (∀e:KM.En,(dU (KM.au k.aj j).aA p).1=e->(e.kind=1->0<=e.loc/\e.loc<(k.frames.length:Int))/\(e.kind=2->0<=e.loc/\e.loc<(k.slots.length:Int))):=fun e he=>by
  unfold dU at he
  cases g:KM.bc (KM.au k.aj j).aA p with
  | none =>
   rw[g] at he
   have he:KM.jI=e:=he
   subst he
   exact⟨fun x=>absurd x (by decide),fun x=>absurd x (by decide)⟩
  | some e2 =>
   rw[g] at he
   have he:e2=e:=he
   subst he
   have hm2:=(KM.dH (hR.sp hj).eN).1 g
   have:=((hR.sp hj).vW e2 hm2.1).2
   exact⟨fun x=>by omega,fun x=>by omega⟩
 have HF:=ai hK.frames
 have HS:=ai hK.slots
 rw[hz] at jZ
 obtain⟨EN,Zb⟩:=ex (dU (KM.au k.aj j).aA p)
 rw[<- Zb] at Mh iG xw
 obtain⟨⟨pg,kd,lc⟩,fd⟩:=EN
 unfold dN at iG
 have qR:=ai (xw.o _ rfl)
 obtain⟨FK,Za⟩:=ex (KM.dY k.ak p (KM.zeroAt k j p))
 rw[<- Za] at Mh jZ
 obtain⟨PK,Y5⟩:=ex (KM.dB k j p)
 rw[<- Y5] at Mh ⊢
 obtain⟨f1,f2,f3,z⟩:=ar
 unfold AW.cellsOf
 simp only at Mh iG qR jZ hz ⊢
 rw[<- hz] at jZ
 have bW:=ai ((Below.refl w.heap.size w).alloc (Nat.le_refl _) (.cells #[I f1,I f2,I f3,.bool z] 47))
 have AB:=ai (B.new w #[I f1,I f2,I f3,.bool z] 47)
 clear Zb Za Y5 hz hao bM y2 y4 xw hK hR hm hp hcc hel c3 hj
 rcases(show kd=1∨(¬kd=1/\kd=2)∨(¬kd=1/\¬kd=2) by omega) with g | ⟨g,g2⟩ | ⟨g,g2⟩
 · rw[if_pos g] at Mh
   have kb1:(kd==1)=true:=by simpa using g
   obtain⟨l0,l1⟩:=qR.o.1 g
   obtain⟨i,rfl⟩:∃i:Nat,lc=(i:Int):=⟨lc.toNat,by omega⟩
   rw[Int.toNat_natCast] at Mh
   obtain⟨fb,fo,hfo,hfl,vw⟩:=HF.o (by omega)
   have x0:=vw i (by omega) 0 (by omega)
   rw[hfo] at c1
   have x0:w.cell? (Ad fb (fo+i*4))=some (.string PK):=by rw[Mh.o];exact x0
   clear g HF HS jZ qR vw
   go_enter Tryz.func71,Tryz.ntmps71
   go_wp2_with (go_at_call 118;refine(iG.o _ bW.o).mono ?_;rintro e w1 ⟨rfl,hb1⟩;have bI:=ai (aB bW.o hb1);have cJ:=ai (bI.o.alloc bI.o.size (.cells #[I pg,I kd,I (i:Int)] 45));have d1:(w1.alloc (.cells #[I pg,I kd,I (i:Int)] 45)).cell? (Ad mb 1)=some (.slice (some (Ad fb fo)) k.frames.length a.cF):=(cJ.o.cell (p:=(Ad mb 1)) oa).trans c1;have d2:(w1.alloc (.cells #[I pg,I kd,I (i:Int)] 45)).cell? (Ad mb 2)=some (.slice a.aL k.slots.length a.cL):=(cJ.o.cell (p:=(Ad mb 2)) oa).trans c2;have A0:=ai (B.alloc (B.below AB.o hb1 (B.isLt AB.o)) (.cells #[I pg,I kd,I (i:Int)] 45));clear hb1)
   have xA:=(cJ.o.cell (p:=(Ad fb (fo+i*4))) hfl).trans x0
   go_region
   go_wp2
   go_ret
   exact⟨rfl,cJ.o.drew⟩
 · rw[if_neg g,if_pos g2] at Mh
   have kb1:(kd==1)=false:=by simpa using g
   have kb2:(kd==2)=true:=by simpa using g2
   obtain⟨l0,l1⟩:=qR.o.2 g2
   obtain⟨i,rfl⟩:∃i:Nat,lc=(i:Int):=⟨lc.toNat,by omega⟩
   rw[Int.toNat_natCast] at Mh
   obtain⟨fb,fo,hfo,hfl,vw⟩:=HS.o (by omega)
   have x0:=vw i (by omega) 0 (by omega)
   rw[hfo] at c2
   have x0:w.cell? (Ad fb (fo+i*2))=some (.string PK):=by rw[Mh.o];exact x0
   clear g g2 HF HS jZ qR vw
   go_enter Tryz.func71,Tryz.ntmps71
   go_wp2_with (go_at_call 118;refine(iG.o _ bW.o).mono ?_;rintro e w1 ⟨rfl,hb1⟩;have bI:=ai (aB bW.o hb1);have cJ:=ai (bI.o.alloc bI.o.size (.cells #[I pg,I kd,I (i:Int)] 45));have d1:(w1.alloc (.cells #[I pg,I kd,I (i:Int)] 45)).cell? (Ad mb 1)=some (.slice a.aF k.frames.length a.cF):=(cJ.o.cell (p:=(Ad mb 1)) oa).trans c1;have d2:(w1.alloc (.cells #[I pg,I kd,I (i:Int)] 45)).cell? (Ad mb 2)=some (.slice (some (Ad fb fo)) k.slots.length a.cL):=(cJ.o.cell (p:=(Ad mb 2)) oa).trans c2;have A0:=ai (B.alloc (B.below AB.o hb1 (B.isLt AB.o)) (.cells #[I pg,I kd,I (i:Int)] 45));clear hb1)
   have xA:=(cJ.o.cell (p:=(Ad fb (fo+i*2))) hfl).trans x0
   go_region
   go_wp2
   go_ret
   exact⟨rfl,cJ.o.drew⟩
 · rw[if_neg g,if_neg g2] at Mh
   have kb1:(kd==1)=false:=by simpa using g
   have kb2:(kd==2)=false:=by simpa using g2
   clear g g2 HF HS qR
   go_enter Tryz.func71,Tryz.ntmps71
   go_wp2_with (first | (go_at_call 118;refine(iG.o _ bW.o).mono ?_;rintro e w1 ⟨rfl,hb1⟩;have bI:=ai (aB bW.o hb1);have cJ:=ai (bI.o.alloc bI.o.size (.cells #[I pg,I kd,I lc] 45));have d1:(w1.alloc (.cells #[I pg,I kd,I lc] 45)).cell? (Ad mb 1)=some (.slice a.aF k.frames.length a.cF):=(cJ.o.cell (p:=(Ad mb 1)) oa).trans c1;have d2:(w1.alloc (.cells #[I pg,I kd,I lc] 45)).cell? (Ad mb 2)=some (.slice a.aL k.slots.length a.cL):=(cJ.o.cell (p:=(Ad mb 2)) oa).trans c2;have A0:=ai (B.alloc (B.below AB.o hb1 (B.isLt AB.o)) (.cells #[I pg,I kd,I lc] 45));have a3:(w1.alloc (.cells #[I pg,I kd,I lc] 45)).cell? (Ad w.heap.size 3)=some (.bool z):=B.cell A0.o 3 rfl;clear hb1) | (go_at_call 119;refine(jZ.o _ cJ.o).mono ?_;rintro e w2 ⟨rfl,hb2⟩;have ck:=ai (aB cJ.o hb2);clear hb2))
   go_ret
   exact⟨congrArg (fun d=>Ending.returned (.string d)) Mh.o.symm,ck.o⟩
def qU (k:KM.Kn) (sp p:Int):ByteArray×Int:=if dw k sp=0 then (if (AM.aT (KM.au k.aj sp.toNat).aD p).2 then (KM.dB k sp.toNat p,0) else (⟨#[]⟩,6)) else (⟨#[]⟩,dw k sp)
theorem GH {k:KM.Kn} {sp:Int} (h:dw k sp=0):KM.dx k=0/\0<=sp/\sp<(k.aj.length:Int)/\(KM.au k.aj sp.toNat).live=true:=by
 unfold dw at h
 by_cases c:KM.dx k=0
 · rw[if_pos c] at h
   by_cases d:0<=sp/\sp<(k.aj.length:Int)/\(KM.au k.aj sp.toNat).live=true
   · exact⟨c,d⟩
   · rw[if_neg d] at h;cases h
 · rw[if_neg c] at h;exact absurd h c
theorem M6 (k:KM.Kn) (a:fu) (sp p:Int) (w:World) (hK:cI w a k) (hF:eW k) (hsp:M.gj sp):Calls Tryz.prog 30 #[.agg (aJ a k),I sp,I p] w fun e w'=>e=.returned (.tuple #[.string (qU k sp p).1,I (qU k sp p).2])/\Below w.heap.size w w':=by
 have HO:=ai (fun V (hV:Below w.heap.size w V)=>s9 k a sp V (hK.below hV) hF hsp)
 have bW:=ai ((Below.refl w.heap.size w).alloc (Nat.le_refl _) (.cells (aJ a k) 27))
 by_cases hl:dw k sp=0
 · have hpt:=GH hl
   have hR:=(KM.kz k).1 hpt.1
   obtain⟨j,rfl⟩:∃j:Nat,sp=(j:Int):=⟨sp.toNat,by omega⟩
   have hj:j<k.aj.length:=by omega
   have qH:Hid (qU k (j:Int) p=if (AM.aT (KM.au k.aj j).aD p).2 then (KM.dB k j p,0) else (⟨#[]⟩,6)):=by show _=_;unfold qU;rw[if_pos hl,Int.toNat_natCast]
   have pj:Hid (∀V,Below w.heap.size w V->Calls Tryz.prog 69 #[.agg (aJ a k),I (j:Int)] V fun e w'=>∃mb,e=.returned (.tuple #[.pointer (some (Ad mb 0)),I 0])/\w.heap.size<=mb/\w'.heap[mb]?=some (.cells (lh a k) 104 (0,0))/\Below V.heap.size V w'):=fun V hV=>(HO.o V hV).mono fun e w' ⟨hb,h⟩=>by
    rcases h with⟨_,mb,h1,h2,h3⟩ | ⟨h1,_⟩
    · exact⟨mb,h1,Nat.le_trans hV.size h2,h3,hb⟩
    · exact absurd hl h1
   have hcc:=hR.c
   obtain⟨pb,po,hao,hbl,bM⟩:=hK.aj (by omega)
   obtain⟨va,ap,cp,_,y1,_,y3,_,_⟩:=bM j hj
   obtain⟨aa,ca,qP,_⟩:=id y3
   subst qP
   have tR:=ai (fun V (hV:Below w.heap.size w V)=>AW.pW (KM.au k.aj j).aD _ p V (y3.below hV) (hF.sp j hj).aD)
   have Xm:=ai (fun mb V (hV:Below w.heap.size w V) (hm:V.heap[mb]?=some (.cells (lh a k) 104 (0,0))) (hp:KM.mapped k j p)=>KV k a j mb p (AM.aT (KM.au k.aj j).aD p).1 V (hK.below hV) hR hj hm hp rfl)
   have Jy:Hid (∀(V:World) mb,V.heap[mb]?=some (.cells (lh a k) 104 (0,0))->V.cell? (Ad mb 3)=some (.slice (some (Ad pb po)) k.aj.length a.cP)):=fun V mb h=>(B.cell (v:=.slice a.aP k.aj.length a.cP) h 3 rfl).trans (by rw[hao])
   have T8:Hid ((AM.aT (KM.au k.aj j).aD p).2=true->KM.mapped k j p):=fun h=>h
   obtain⟨⟨⟨f1,f2,f3,z⟩,ok⟩,hFN⟩:∃F,F=AM.aT (KM.au k.aj j).aD p:=⟨_,rfl⟩
   rw[<- hFN] at qH tR Xm T8
   unfold AW.cellsOf at tR Xm
   simp only at qH tR Xm T8
   have La:(j:Int)<(k.aj.length:Int):=by omega
   have EA:(0:Int)<=(j:Int):=by omega
   clear hFN HO hl hpt hR hK hF hsp hao bM y3 hcc
   obtain⟨PR,OJ⟩:=ex (qU k (j:Int) p)
   rw[<- OJ] at qH ⊢
   clear OJ
   unfold aJ at pj bW ⊢
   cases ok with
   | false =>
    have C5:Hid (PR=(⟨#[]⟩,6)):=qH
    clear qH Xm T8
    go_enter Tryz.func30,Tryz.ntmps30
    go_wp2_with (first | (go_at_call 69;refine(pj.o _ bW.o).mono ?_;rintro e w1 ⟨mb,rfl,kj,hm2,hb1⟩;have ZN:=ai hm2;have bI:=ai (aB bW.o hb1);have c3:=Jy.o w1 mb hm2;have c1:=(bI.o.cell (p:=(Ad pb (po+j*3+1))) hbl).trans y1;clear hb1 hm2) | (go_at_call 70;refine(tR.o _ bI.o).mono ?_;rintro e w2 ⟨rfl,hb2⟩;have ck:=ai (aB bI.o hb2);have cJ:=ai (ck.o.alloc ck.o.size (.cells #[I f1,I f2,I f3,.bool z] 47));have MA:=ai (B.alloc (B.below ZN.o hb2 (B.isLt ZN.o)) (.cells #[I f1,I f2,I f3,.bool z] 47));clear hb2))
    go_ret2
    rw[C5.o]
    exact⟨rfl,cJ.o⟩
   | true =>
    have C5:Hid (PR=(KM.dB k j p,0)):=qH
    clear qH
    obtain⟨PK,Y5⟩:=ex (KM.dB k j p)
    rw[<- Y5] at Xm C5
    clear Y5
    go_enter Tryz.func30,Tryz.ntmps30
    go_wp2_with (first | (go_at_call 69;refine(pj.o _ bW.o).mono ?_;rintro e w1 ⟨mb,rfl,kj,hm2,hb1⟩;have ZN:=ai hm2;have bI:=ai (aB bW.o hb1);have c3:=Jy.o w1 mb hm2;have c1:=(bI.o.cell (p:=(Ad pb (po+j*3+1))) hbl).trans y1;clear hb1 hm2) | (go_at_call 70;refine(tR.o _ bI.o).mono ?_;rintro e w2 ⟨rfl,hb2⟩;have ck:=ai (aB bI.o hb2);have cJ:=ai (ck.o.alloc ck.o.size (.cells #[I f1,I f2,I f3,.bool z] 47));have MA:=ai (B.alloc (B.below ZN.o hb2 (B.isLt ZN.o)) (.cells #[I f1,I f2,I f3,.bool z] 47));clear hb2) | (go_at_call 71;refine(Xm.o mb _ cJ.o MA.o (T8.o trivial)).mono ?_;rintro e w3 ⟨rfl,hb3⟩;have cZ:=ai (aB cJ.o hb3);clear hb3))
    go_ret2
    rw[C5.o]
    exact⟨rfl,cZ.o⟩
 · have pj:Hid (∀V,Below w.heap.size w V->Calls Tryz.prog 69 #[.agg (aJ a k),I sp] V fun e w'=>e=.returned (.tuple #[.pointer none,I (dw k sp)])/\Below V.heap.size V w'):=fun V hV=>(HO.o V hV).mono fun e w' ⟨hb,h⟩=>by
    rcases h with⟨h1,_⟩ | ⟨_,h1⟩
    · exact absurd h1 hl
    · exact⟨h1,hb⟩
   have qH:Hid (qU k sp p=(⟨#[]⟩,dw k sp)):=by show _=_;unfold qU;rw[if_neg hl]
   obtain⟨PR,OJ⟩:=ex (qU k sp p)
   rw[<- OJ] at qH ⊢
   obtain⟨C,hC⟩:=ex (dw k sp)
   rw[<- hC] at qH pj hl
   have cb:(C != 0)=true:=by simpa using hl
   clear OJ hC HO hK hF hsp hl
   unfold aJ at pj bW ⊢
   go_enter Tryz.func30,Tryz.ntmps30
   go_wp2_with (go_at_call 69;refine(pj.o _ bW.o).mono ?_;rintro e w1 ⟨rfl,hb1⟩;have bI:=ai (aB bW.o hb1);clear hb1)
   go_ret2
   rw[qH.o]
   exact⟨rfl,bI.o⟩
def bT (n:Int):List Value:=[I n]
def GQ (l:List Int) (i:Nat):Int:=l.getD i 0
theorem G0 (l:List Int) (x:Int) (ao:Option Addr) (cap:Nat) (w:World) (h:aZ bT 1 0 w ao l) (hl:l.length<=1000000) :
  Calls Tryz.prog 139 #[.slice ao l.length cap,I x] w fun e w'=>w'=w/\((e=.returned (I (-1))/\∀j,j<l.length->GQ l j≠x)∨∃i:Nat,i<l.length/\e=.returned (I (i:Int))/\GQ l i=x):=by
 have HH:=ai h
 clear h
 go_enter Tryz.func139,Tryz.ntmps139
 go_wp2
 go_loopw [8] (fun iv wr=>∃k:Nat,k<=l.length/\iv=I (k:Int)/\(∀j,j<k->GQ l j≠x)/\wr=w) (fun iv _=>l.length-(intOf iv).toNat)
 case atStart=>exact⟨0,by omega,rfl,fun j hj=>by omega,rfl⟩
 case round =>
  obtain⟨k,hk,rfl,hno,rfl⟩:=hrel
  have iV:=ai hno
  clear hno
  by_cases hlt:k<l.length
  · have Ba:(k:Int)<(l.length:Int):=by omega
    obtain⟨eb,eo,hao,hbl,bM⟩:=HH.o (by omega)
    subst hao
    have y0:=bM k hlt 0 (by omega)
    rw[Nat.add_zero,Nat.mul_one] at y0
    obtain⟨E,hE⟩:=ex (GQ l k)
    have x0:wr.cell? (Ad eb (eo+k))=some (I E):=by rw[hE];exact y0
    have HE:=ai hE
    clear hE y0 bM
    by_cases c:x=E
    · have cb:(x==E)=true:=by simpa using c
      have HC:=ai c
      clear c
      go_wp2
      go_ret
      exact⟨rfl,.inr ⟨k,hlt,rfl,by rw[<- HE.o,HC.o]⟩⟩
    · have cb:(x==E)=false:=by simpa using c
      have HC:=ai c
      clear c
      go_wp2
      go_roundw
      case rel=>exact⟨k+1,by omega,by go_num,fun j hj=>by
       by_cases q:j=k
       · subst q;exact fun e=>HC.o (by rw[HE.o];exact e.symm)
       · exact iV.o j (by omega),trivial⟩
      case measure=>simp[intOf];omega
  · obtain rfl:k=l.length:=by omega
    go_wp2
    go_ret
    exact⟨rfl,.inl ⟨rfl,iV.o⟩⟩
theorem Em (l:List Int) (x:Int):x∈l↔∃i,i<l.length/\GQ l i=x:=⟨fun h=>KM.eZ 0 h,fun ⟨i,hi,e⟩=>e ▸ KM.dX hi⟩
theorem nB (l:List Int) (x:Int) (ao:Option Addr) (cap:Nat) (w:World) (h:aZ bT 1 0 w ao l) (hl:l.length<=1000000) :
  Calls Tryz.prog 95 #[.slice ao l.length cap,I x] w fun e w'=>e=.returned (.bool (decide (x∈l)))/\w'=w:=by
 have HI:=ai (G0 l x ao cap w h hl)
 clear h
 by_cases c:x∈l
 · have C7:Hid (Calls Tryz.prog 139 #[.slice ao l.length cap,I x] w fun e w'=>∃i:Nat,i<l.length/\e=.returned (I (i:Int))/\w'=w):=HI.o.mono fun e w' ⟨hw,h⟩=>by
    rcases h with⟨_,hno⟩ | ⟨i,hi,he,_⟩
    · obtain⟨i,hi,e2⟩:=(Em l x).1 c
      exact absurd e2 (hno i hi)
    · exact⟨i,hi,he,hw⟩
   rw[decide_eq_true c]
   clear HI c
   go_enter Tryz.func95,Tryz.ntmps95
   go_wp2_with (go_at_call 139;refine C7.o.mono ?_;rintro e w1 ⟨i,hi,rfl,rfl⟩;have hi0:(0:Int)<=(i:Int):=(by omega))
   go_ret
   exact⟨rfl,rfl⟩
 · have C7:Hid (Calls Tryz.prog 139 #[.slice ao l.length cap,I x] w fun e w'=>e=.returned (I (-1))/\w'=w):=HI.o.mono fun e w' ⟨hw,h⟩=>by
    rcases h with⟨he,_⟩ | ⟨i,hi,_,e2⟩
    · exact⟨he,hw⟩
    · exact absurd ((Em l x).2 ⟨i,hi,e2⟩) c
   rw[decide_eq_false c]
   clear HI c
   go_enter Tryz.func95,Tryz.ntmps95
   go_wp2_with (go_at_call 139;refine C7.o.mono ?_;rintro e w1 ⟨rfl,rfl⟩)
   go_ret
   exact⟨rfl,rfl⟩
end KW
namespace KS
open Go.RowKit GK
open FW (ai aB)
open KW (aK aZ)
structure Lc where
 lv:Bool
 va:Value
 vp:Value
def bJ (l:Lc):List Value:=[.bool l.lv,l.va,l.vp]
def oY:Lc:=⟨false,Nl,Nl⟩
def dC (l:List Lc) (k:Nat):Lc:=l.getD k oY
def blk (v:Value) (b:Nat):Prop:=v.ownBlock=some b
structure cU (lo:Nat) (w:World) (l:Lc) (s:KM.Sp):Prop where
 live:l.lv=s.live
 aD:AW.Own lo w l.va s.aD
 aH:w.ownsRow lo 45 3 l.vp s.aA.length (s.aA.flatMap aK)
theorem cU.kp {lo:Nat} {w w':World} {D:Nat->Prop} {l:Lc} {s:KM.Sp} (h:cU lo w l s) (hk:Kp D w w') (ha:∀b,blk l.va b->¬D b) (hp:∀b,blk l.vp b->¬D b):cU lo w' l s:=⟨h.live,hk.row h.aD ha,hk.row h.aH hp⟩
theorem cU.mono {lo lo':Nat} {w:World} {l:Lc} {s:KM.Sp} (h:cU lo w l s) (hl:lo'<=lo):cU lo' w l s:=⟨h.live,h.aD.mono hl,jO h.aH (fun g hg=>Nat.le_trans hl (h.aH.lt g hg).1)⟩
theorem qA {α:Type} {w:World} (f:α->List Value) (k:Nat) (hf:∀x,(f x).length=k) (d:α) (l:List α) (b off:Nat) (h:∀i,i<l.length->∀j,j<k->w.cell? (Ad b (off+i*k+j))=(f (l.getD i d))[j]?):From w (some (Ad b off)) l.length (l.flatMap f):=fun hm=>by
 refine⟨_,rfl,fun j u hu=>?_⟩
 have hlt:j<l.length*k:=by
  rw[<- bH f k hf l]
  rcases Nat.lt_or_ge j (l.flatMap f).length with g | g
  · exact g
  · rw[List.getElem?_eq_none g] at hu
    cases hu
 have hk:0<k:=by
  rcases Nat.eq_zero_or_pos k with g | g
  · subst g;omega
  · exact g
 have e:j=j/k*k+j%k:=by rw[Nat.mul_comm];exact(Nat.div_add_mod j k).symm
 have h1:j/k<l.length:=(Nat.div_lt_iff_lt_mul hk).2 hlt
 have h2:j%k<k:=Nat.mod_lt _ hk
 have hg:=nQ f k hf d l (j/k) (j%k) h1 h2
 rw[<- e] at hg
 rw[hg] at hu
 rw[Addr.add_lit,<- hu,<- h (j/k) h1 (j%k) h2]
 congr 2
 rw[Nat.add_assoc,<- e]
theorem zt {w:World} {ao:Option Addr} {n c:Nat} {l:List AM.Ar} (h:AW.Has w (.slice ao n c) l):n=l.length/\From w ao n (AM.bj l):=by
 obtain⟨Qa,cap,e,h⟩:=h
 injection e with e1 e2 e3
 subst e1 e2 e3
 refine⟨rfl,fun hm=>?_⟩
 rcases h with h | ⟨b,off,rfl,hl⟩
 · subst h;simp at hm
 · have:=qA (w:=w) AM.four 4 (fun _=>rfl) AM.nil l b off (fun i hi j hj=>by
    obtain⟨c0,c1,c2,c3⟩:=hl i hi
    match j,hj with
    | 0,_=>exact c0
    | 1,_=>exact c1
    | 2,_=>exact c2
    | 3,_=>exact c3)
   have e:AM.bj l=l.flatMap AM.four:=by
    clear this hl hm
    induction l with
    | nil=>rfl
    | cons a r ih=>rw[List.flatMap_cons,<- ih];rfl
   rw[e]
   exact this hm
theorem Gv {w:World} {ap:Option Addr} {l:List KM.En} (h:aZ aK 3 KM.jI w ap l):From w ap l.length (l.flatMap aK):=fun hm=>by
 obtain⟨b,off,rfl,hb,hl⟩:=h hm
 exact qA (w:=w) aK 3 (fun _=>rfl) KM.jI l b off (fun i hi j hj=>hl i hi j hj) hm
theorem gV:∀(l:List KM.En),∀u∈l.flatMap aK,u.oneCell'=true:=fun l u hu=>by
 obtain⟨y,_,hy⟩:=List.mem_flatMap.1 hu
 simp[aK] at hy
 rcases hy with rfl | rfl | rfl <;> rfl
def T3 (w:World) (s:KM.Sp) (e:Ending) (w':World):Prop:=∃va vp,e=.returned (.agg #[.bool s.live,va,vp])/\cU w.heap.size w' ⟨s.live,va,vp⟩ s/\(∀b,blk vp b->¬blk va b)/\Below w.heap.size w w'
theorem ze (s:KM.Sp) (aa ap:Option Addr) (na ca cp:Nat) (w:World) (ha:AW.Has w (.slice aa na ca) s.aD) (hp:aZ aK 3 KM.jI w ap s.aA) (oH:s.aD.length<=1000000) (rX:s.aA.length<=1000000) :
  Calls Tryz.prog 86 #[.agg #[.bool s.live,.slice aa na ca,.slice ap s.aA.length cp]] w (T3 w s):=by
 obtain⟨hn,Vb⟩:=zt ha
 have nJ:=ai Vb
 have pk:=ai (Gv hp)
 obtain⟨lv,iq,qN⟩:=s
 simp only at hn nJ pk oH rX ⊢
 subst hn
 have Ij:=ai (AM.kG iq)
 have Dq:=ai (bH aK 3 (fun _=>rfl) qN)
 have H1A:=ai (AM.jh iq)
 have Qs:=ai (gV qN)
 have bw:Hid (∀va vp (w':World),AW.Own w.heap.size w' va iq->w'.ownsRow w.heap.size 45 3 vp qN.length (qN.flatMap aK)->(∀b,blk vp b->¬blk va b)->Below w.heap.size w w'->T3 w ⟨lv,iq,qN⟩ (.returned (.agg #[.bool lv,va,vp])) w'):=fun va vp w' h1 h2 h3 h4=>⟨va,vp,rfl,⟨rfl,h1,h2⟩,h3,h4⟩
 obtain⟨XA,hXA⟩:=ex (AM.bj iq)
 obtain⟨XP,hXP⟩:=ex (qN.flatMap aK)
 unfold AW.Own at bw
 rw[<- hXA] at nJ Ij H1A bw
 rw[<- hXP] at pk Dq Qs bw
 obtain⟨na,Yq⟩:=ex iq.length
 obtain⟨np,K4⟩:=ex qN.length
 rw[<- Yq] at nJ Ij bw oH ⊢
 rw[<- K4] at pk Dq bw rX ⊢
 clear Vb ha hp hXA hXP Yq K4
 have bW:=ai (((Below.refl w.heap.size w).alloc (Nat.le_refl _) (.cells #[.bool lv,.slice aa na ca,.slice ap np cp] 43)).alloc (by simp) (.cells #[.bool false,Nl,Nl] 43))
 have X0:=ai (B.alloc (B.new w #[.bool lv,.slice aa na ca,.slice ap np cp] 43) (.cells #[.bool false,Nl,Nl] 43))
 have Y0:Hid (((w.alloc (.cells #[.bool lv,.slice aa na ca,.slice ap np cp] 43)).alloc (.cells #[.bool false,Nl,Nl] 43)).heap[w.heap.size+1]?=some (.cells #[.bool false,Nl,Nl] 43 (0,0))):=by
  have:=B.new (w.alloc (.cells #[.bool lv,.slice aa na ca,.slice ap np cp] 43)) #[.bool false,Nl,Nl] 43
  rw[World.size_alloc] at this
  exact this
 go_enter Tryz.func86,Tryz.ntmps86
 go_wp2
 obtain⟨WA,dK⟩:=ex ((w.alloc (.cells #[.bool lv,.slice aa na ca,.slice ap np cp] 43)).alloc (.cells #[.bool false,Nl,Nl] 43))
 rw[<- dK] at bW X0 Y0 ⊢
 clear dK
 have uR:=ai bW.o
 obtain⟨xb,Df⟩:=ex w.heap.size
 rw[<- Df] at X0 Y0 bW bw ⊢
 have Jv:=ai Df
 clear Df
 have HS:Hid (∀V,Below WA.heap.size WA V->V.cell? (Ad xb 0)=some (.bool lv)/\V.cell? (Ad xb 1)=some (.slice aa na ca)/\V.cell? (Ad xb 2)=some (.slice ap np cp)):=fun V hb=>by
  have h1:=B.below X0.o hb (B.isLt X0.o)
  exact⟨B.cell h1 0 rfl,B.cell h1 1 rfl,B.cell h1 2 rfl⟩
 have Qp:Hid (∀V,Below WA.heap.size WA V->Calls Tryz.prog 129 #[.slice aa na ca] V fun e w'=>∃a c,e=.returned (.slice a na c)/\w'.ownsRow V.heap.size 47 4 (.slice a na c) na XA/\Below V.heap.size V w'):=fun V hV=>(RZ aa na ca XA V Ij.o (nJ.o.below (uR.o.trans (hV.mono uR.o.size))) H1A.o oH).mono fun e w' ⟨v,h1,h2,h3⟩=>by
   obtain⟨a,c,rfl,_⟩:=aQ h2
   exact⟨a,c,h1,h2,h3⟩
 have Mm:Hid (∀V,Below WA.heap.size WA V->Calls Tryz.prog 130 #[.slice ap np cp] V fun e w'=>∃a c,e=.returned (.slice a np c)/\w'.ownsRow V.heap.size 45 3 (.slice a np c) np XP/\Below V.heap.size V w'):=fun V hV=>(RY ap np cp XP V Dq.o (pk.o.below (uR.o.trans (hV.mono uR.o.size))) Qs.o rX).mono fun e w' ⟨v,h1,h2,h3⟩=>by
   obtain⟨a,c,rfl,_⟩:=aQ h2
   exact⟨a,c,h1,h2,h3⟩
 have T6:Hid (∀V:World,(V.cell? (Ad xb 0)=some (.bool lv)/\V.cell? (Ad xb 1)=some (.slice aa na ca)/\V.cell? (Ad xb 2)=some (.slice ap np cp))->∀v0 v1 v2,(((V.setCell (Ad (xb+1) 0) v0).setCell (Ad (xb+1) 1) v1).setCell (Ad (xb+1) 2) v2).cell? (Ad xb 0)=some (.bool lv)/\(((V.setCell (Ad (xb+1) 0) v0).setCell (Ad (xb+1) 1) v1).setCell (Ad (xb+1) 2) v2).cell? (Ad xb 1)=some (.slice aa na ca)/\(((V.setCell (Ad (xb+1) 0) v0).setCell (Ad (xb+1) 1) v1).setCell (Ad (xb+1) 2) v2).cell? (Ad xb 2)=some (.slice ap np cp)):=fun V ⟨h0,h1,h2⟩ v0 v1 v2=>by
  have hne:xb≠xb+1:=by omega
  rw[cu _ _ _ _ _ _ hne,cu _ _ _ _ _ _ hne,cu _ _ _ _ _ _ hne,cu _ _ _ _ _ _ hne,cu _ _ _ _ _ _ hne,cu _ _ _ _ _ _ hne,cu _ _ _ _ _ _ hne,cu _ _ _ _ _ _ hne,cu _ _ _ _ _ _ hne]
  exact⟨h0,h1,h2⟩
 have iW:=ai (Below.refl WA.heap.size WA).drew
 have eX:=ai (HS.o _ iW.o)
 go_region_held3 (fun V=>V.cell? (Ad xb 0)=some (.bool lv)/\V.cell? (Ad xb 1)=some (.slice aa na ca)/\V.cell? (Ad xb 2)=some (.slice ap np cp)) (first | exact gH.o | exact eD.o | exact eX.o | exact VM.o _ _ _)
  (first
   | (go_at_call 129;refine(Qp.o _ iW.o).mono ?_;rintro e w2 ⟨a2,c2,rfl,hr2,hb2⟩;have jJ:=ai (iW.o.trans (hb2.mono iW.o.size));have eD:=ai (HS.o _ jJ.o);have zC:=ai hr2;clear hb2 hr2)
   | (go_at_call 130;refine(Mm.o _ jJ.o).mono ?_;rintro e w3 ⟨a3,c3,rfl,hr3,hb3⟩;have l8:=ai (jJ.o.trans (hb3.mono jJ.o.size));have gH:=ai (HS.o _ l8.o);have FN:=ai hr3;have cZ:=ai hb3;have y0:w3.cell? (Ad (xb+1) 0)=some (.bool false):=B.cell (B.below Y0.o l8.o (B.isLt Y0.o)) 0 rfl;have z0:w3.frozen? (Ad (xb+1) 0)=false:=B.free (B.below Y0.o l8.o (B.isLt Y0.o)) 0;have y1:w3.cell? (Ad (xb+1) 1)=some Nl:=B.cell (B.below Y0.o l8.o (B.isLt Y0.o)) 1 rfl;have z1:w3.frozen? (Ad (xb+1) 1)=false:=B.free (B.below Y0.o l8.o (B.isLt Y0.o)) 1;have y2:w3.cell? (Ad (xb+1) 2)=some Nl:=B.cell (B.below Y0.o l8.o (B.isLt Y0.o)) 2 rfl;have z2:w3.frozen? (Ad (xb+1) 2)=false:=B.free (B.below Y0.o l8.o (B.isLt Y0.o)) 2;have VM:=ai (fun v0 v1 v2=>T6.o w3 gH.o v0 v1 v2);clear hb3 hr3))
 all_goals clear VM T6 HS eX eD gH Qp Mm
 all_goals go_wp2
 · refine bodyPost_ret (v:=.agg #[.bool lv,.slice a2 na c2,.slice a3 np c3]) (by simp[results,Tryz.results86,go_sem,y0,y1,y2]) rfl ?_
   have k3:Kp (fun b=>b=xb+1) w3 _:=tB w3 (xb+1) 0 1 2 (.bool lv) (.slice a2 na c2) (.slice a3 np c3) rfl
   have l1:=B.isLt Y0.o
   have l2:=uR.o.size
   have l3:=jJ.o.size
   have hx:=Jv.o
   have e2:∀g,(Value.slice a2 na c2).ownBlock=some g->WA.heap.size<=g/\g<w2.heap.size:=fun g hg=>zC.o.lt g hg
   have e3:∀g,(Value.slice a3 np c3).ownBlock=some g->w2.heap.size<=g/\g<w3.heap.size:=fun g hg=>FN.o.lt g hg
   have r2:=(Kp.aY (D:=fun _=>False) cZ.o).row zC.o (fun _ _ g=>g)
   refine bw.o _ _ _ (k3.row (jO r2 (fun g hg=>by have:=e2 g hg;omega)) (fun g hg e=>by have:=e2 g hg;omega)) (k3.row (jO FN.o (fun g hg=>by have:=e3 g hg;omega)) (fun g hg e=>by have:=e3 g hg;omega)) (fun b h1 h2=>by have:=e2 b h2;have:=e3 b h1;omega) ?_
   exact Kp.below (bW.o.trans (l8.o.mono (by omega))) k3 (by have:=l8.o.size;omega) (fun b e=>by omega)
end KS
end Go.Proofs.YtpgifpeohlllfaaGreat
