import Derived.Test.YtpgifpeohlllfaaGreatGP00
import Derived.Test.YtpgifpeohlllfaaGreatGP17
import Derived.Deep.RegionHeld3
set_option maxHeartbeats 20000000
set_option linter.unusedVariables false
set_option maxRecDepth 100000
set_option linter.unusedSimpArgs false
namespace Go.Proofs.YtpgifpeohlllfaaGreat
namespace KW
open Go.RowKit GK
open FW (ai aC)
def b6 (k:KM.Kn) (sp:Int):Int:=if KM.dA k=0 then (if 0<=sp/\sp<(k.aj.length:Int)/\(KM.aq k.aj sp.toNat).live=true then 0 else 6) else KM.dA k
def kF (a:fe) (k:KM.Kn):Array Value:=l7 (.slice a.aS k.ak.length a.cS) (.slice a.aF k.frames.length a.cF) (.slice a.aL k.slots.length a.cL) (.slice a.aP k.aj.length a.cP) (I k.hand) (js k.ak k.ak.length)
def il (w:World) (a:fe) (k:KM.Kn) (c:Int) (e:Ending) (w':World):Prop:=Below w.heap.size w w'/\((c=0/\∃mb,e=.returned (.tuple #[.pointer (some (Ad mb 0)),I 0])/\w.heap.size<=mb/\w'.heap[mb]?=some (.cells (kF a k) 104 (0,0)))∨(c≠0/\e=.returned (.tuple #[.pointer none,I c])))
theorem rI (k:KM.Kn) (a:fe) (sp:Int) (w:World) (hK:cO w a k) (hF:eY k) (hsp:M.fR sp):Calls Tryz.prog 69 #[.agg (aH a k),I sp] w (il w a k (b6 k sp)):=by
 have HL:=ai (fun V (hV:Below w.heap.size w V)=>LK k a V (hK.below hV) hF)
 have HE:Hid (∀V c,Below w.heap.size w V->b6 k sp=c->c≠0->il w a k (b6 k sp) (.returned (.tuple #[.pointer none,I c])) V):=fun V c hV e hc=>⟨hV,.inr ⟨by rw[e];exact hc,by rw[e]⟩⟩
 have HY:Hid (∀V mb,Below w.heap.size w V->b6 k sp=0->w.heap.size<=mb->V.heap[mb]?=some (.cells (kF a k) 104 (0,0))->il w a k (b6 k sp) (.returned (.tuple #[.pointer (some (Ad mb 0)),I 0])) V):=fun V mb hV e hm hh=>⟨hV,.inl ⟨e,mb,rfl,hm,hh⟩⟩
 obtain⟨P,hP⟩:=ex (il w a k (b6 k sp))
 rw[<- hP] at HE HY ⊢
 clear hP
 have Uu:=ai hK.aj
 have D3:=ai (B.new w (aH a k) 27)
 have bI:=ai ((Below.refl w.heap.size w).alloc (Nat.le_refl _) (.cells (aH a k) 27))
 have Qy:Hid (b6 k sp=if KM.dA k=0 then (if 0<=sp/\sp<(k.aj.length:Int)/\(KM.aq k.aj sp.toNat).live=true then 0 else 6) else KM.dA k):=rfl
 have HN4:Hid (KM.dA k=0->k.aj.length<=4):=fun h=>((KM.jP k).1 h).c.2.2.1.2
 clear hK hF
 by_cases hc:KM.dA k=0
 · have DI:Hid (∀V,Below w.heap.size w V->Calls Tryz.prog 62 #[.agg (aH a k)] V fun e w'=>∃mb,e=.returned (.tuple #[.pointer (some (Ad mb 0)),I 0])/\w.heap.size<=mb/\w'.heap[mb]?=some (.cells (kF a k) 104 (0,0))/\Below V.heap.size V w'):=fun V hV=>(HL.o V hV).mono fun e w' ⟨hb,h⟩=>by
    rcases h with⟨_,mb,h1,h2,h3⟩ | ⟨h1,_⟩
    · exact⟨mb,h1,Nat.le_trans hV.size h2,h3,hb⟩
    · exact absurd hc h1
   have hn4:=HN4.o hc
   have xV:Hid (b6 k sp=if 0<=sp/\sp<(k.aj.length:Int)/\(KM.aq k.aj sp.toNat).live=true then 0 else 6):=by show _=_;rw[Qy.o,if_pos hc]
   clear HL Qy hc HN4
   unfold aH at DI D3 bI ⊢
   obtain⟨aS,cS,aF,cF,aL,cL,aP,cP⟩:=a
   obtain⟨hs,fs,ls,ss,hd⟩:=k
   simp only at DI D3 bI Uu xV HY hn4 ⊢
   have CALL:True:=trivial
   rcases(show sp<0∨(0<=sp/\(ss.length:Int)<=sp)∨(0<=sp/\sp<(ss.length:Int)) by omega) with g | ⟨g1,g2⟩ | ⟨g1,g2⟩
   · have HX:=ai (fun V hV=>HE.o V 6 hV (by rw[xV.o,if_neg (by omega)]) (by decide))
     clear HE HY xV Uu
     go_enter Tryz.func69,Tryz.ntmps69
     go_wp2_with (go_at_call 62;refine(DI.o _ bI.o).mono ?_;rintro e w1 ⟨mb,rfl,jE,hm2,hb1⟩;have aZ:=ai (aC bI.o hb1);have K1:=ai (B.below D3.o hb1 (by simp));have c3:w1.cell? (Ad w.heap.size 3)=some (.slice aP ss.length cP):=B.cell K1.o 3 rfl;clear hb1 hm2)
     exact HX.o _ aZ.o
   · have HX:=ai (fun V hV=>HE.o V 6 hV (by rw[xV.o,if_neg (by omega)]) (by decide))
     clear HE HY xV Uu
     go_enter Tryz.func69,Tryz.ntmps69
     go_wp2_with (go_at_call 62;refine(DI.o _ bI.o).mono ?_;rintro e w1 ⟨mb,rfl,jE,hm2,hb1⟩;have aZ:=ai (aC bI.o hb1);have K1:=ai (B.below D3.o hb1 (by simp));have c3:w1.cell? (Ad w.heap.size 3)=some (.slice aP ss.length cP):=B.cell K1.o 3 rfl;clear hb1 hm2)
     exact HX.o _ aZ.o
   · obtain⟨j,rfl⟩:∃j:Nat,sp=(j:Int):=⟨sp.toNat,by omega⟩
     obtain⟨pb,po,hao,hbl,bC⟩:=Uu.o (by omega)
     subst hao
     obtain⟨va,ap,cp,y0,_,_,_,_,_⟩:=bC j (by omega)
     rw[Int.toNat_natCast] at xV
     obtain⟨lv,hlv⟩:=ex ((KM.aq ss j).live)
     rw[<- hlv] at y0 xV
     clear hlv bC Uu
     cases lv with
     | false =>
      have HX:=ai (fun V hV=>HE.o V 6 hV (by rw[xV.o,if_neg (by simp)]) (by decide))
      clear HE HY xV
      go_enter Tryz.func69,Tryz.ntmps69
      go_wp2_with (go_at_call 62;refine(DI.o _ bI.o).mono ?_;rintro e w1 ⟨mb,rfl,jE,hm2,hb1⟩;have aZ:=ai (aC bI.o hb1);have K1:=ai (B.below D3.o hb1 (by simp));have c3:w1.cell? (Ad w.heap.size 3)=some (.slice (some (Ad pb po)) ss.length cP):=B.cell K1.o 3 rfl;have l0:w1.cell? (Ad pb (po+j*3))=some (.bool false):=(aZ.o.cell (p:=(Ad pb (po+j*3))) hbl).trans y0;clear hb1 hm2)
      exact HX.o _ aZ.o
     | true =>
      have HX:=ai (fun V mb hV hm hh=>HY.o V mb hV (by rw[xV.o,if_pos ⟨g1,g2,rfl⟩]) hm hh)
      clear HE HY xV
      go_enter Tryz.func69,Tryz.ntmps69
      go_wp2_with (go_at_call 62;refine(DI.o _ bI.o).mono ?_;rintro e w1 ⟨mb,rfl,jE,hm2,hb1⟩;have D2:=ai hm2;have aZ:=ai (aC bI.o hb1);have K1:=ai (B.below D3.o hb1 (by simp));have c3:w1.cell? (Ad w.heap.size 3)=some (.slice (some (Ad pb po)) ss.length cP):=B.cell K1.o 3 rfl;have l0:w1.cell? (Ad pb (po+j*3))=some (.bool true):=(aZ.o.cell (p:=(Ad pb (po+j*3))) hbl).trans y0;clear hb1 hm2)
      exact HX.o _ mb aZ.o jE D2.o
 · have DI:Hid (∀V,Below w.heap.size w V->Calls Tryz.prog 62 #[.agg (aH a k)] V fun e w'=>e=.returned (.tuple #[.pointer none,I (KM.dA k)])/\Below V.heap.size V w'):=fun V hV=>(HL.o V hV).mono fun e w' ⟨hb,h⟩=>by
    rcases h with⟨h1,_⟩ | ⟨_,h1⟩
    · exact absurd h1 hc
    · exact⟨h1,hb⟩
   have HX:=ai (fun V hV=>HE.o V (KM.dA k) hV (by rw[Qy.o,if_neg hc]) hc)
   obtain⟨C,hC⟩:=ex (KM.dA k)
   rw[<- hC] at DI HX hc
   have cb:(C != 0)=true:=by simpa using hc
   clear HL Qy hC HE HY HN4 Uu
   unfold aH at DI D3 bI ⊢
   obtain⟨aS,cS,aF,cF,aL,cL,aP,cP⟩:=a
   obtain⟨hs,fs,ls,ss,hd⟩:=k
   simp only at DI D3 bI ⊢
   clear hc
   go_enter Tryz.func69,Tryz.ntmps69
   go_wp2_with (go_at_call 62;refine(DI.o _ bI.o).mono ?_;rintro e w1 ⟨rfl,hb1⟩;have aZ:=ai (aC bI.o hb1);clear hb1)
   exact HX.o _ aZ.o
theorem Fi (p:Int) (e:KM.En) (x:Nat) (w:World) (hx:w.cell? (Ad x 0)=some (I p)) :
  Calls Tryz.prog 154 #[.agg #[I e.page,I e.kind,I e.loc],.pointer (some (Ad x 0))] w fun r w'=>r=.returned (.bool (decide (e.page=p)))/\Below w.heap.size w w':=by
 obtain⟨pg,kd,lc⟩:=e
 simp only
 have hxl:x<w.heap.size:=World.block_lt_of_cell? w _ hx
 have xA:(w.alloc (.cells #[I pg,I kd,I lc] 45)).cell? (Ad x 0)=some (I p):=(Below.cell ((Below.refl w.heap.size w).alloc (Nat.le_refl _) _) (p:=(Ad x 0)) hxl).trans hx
 obtain⟨A,hA⟩:=ex (decide (pg=p))
 have HA:Hid ((pg==p)=A):=by show _=_;rw[hA];rfl
 rw[<- hA]
 clear hA
 have ha:=HA.o
 clear HA
 go_enter Tryz.func154,Tryz.ntmps154
 go_wp2
 go_ret
 exact⟨by simp,(Below.refl _ _).alloc (Nat.le_refl _) _⟩
theorem AE (F:FuncId) (hF:F=154∨F=191∨F=202) (P:KM.En->Bool) (es:List KM.En) (ao:Option Addr) (cap x:Nat) (w:World) (h:aU aI 3 KM.jz w ao es) (hl:es.length<=1000000)
  (hC:∀V e,Below w.heap.size w V->Calls Tryz.prog F #[.agg #[I e.page,I e.kind,I e.loc],.pointer (some (Ad x 0))] V fun r w'=>r=.returned (.bool (P e))/\Below V.heap.size V w') :
  Calls Tryz.prog 153 #[.slice ao es.length cap,.func (.func F) #[] #[.pointer (some (Ad x 0))]] w fun e w' =>
   Below w.heap.size w w'/\((e=.returned (I (-1))/\∀j,j<es.length->P (KM.aJ es j)=false)∨∃i:Nat,i<es.length/\e=.returned (I (i:Int))/\P (KM.aJ es i)=true/\∀j,j<i->P (KM.aJ es j)=false):=by
 have HH:=ai h
 have HC:=ai hC
 clear h hC
 rcases hF with rfl | rfl | rfl
 all_goals
  go_enter Tryz.func153,Tryz.ntmps153
  go_wp2
  go_loopw [8] (fun iv wr=>∃k:Nat,k<=es.length/\iv=I (k:Int)/\(∀j,j<k->P (KM.aJ es j)=false)/\Below w.heap.size w wr) (fun iv _=>es.length-(intOf iv).toNat)
  case atStart=>exact⟨0,by omega,rfl,fun j hj=>by omega,Below.refl _ _⟩
  case round =>
   obtain⟨k,hk,rfl,hno,hb⟩:=hrel
   have gP:=ai hno
   have HB:=ai hb
   clear hno
   by_cases hlt:k<es.length
   · have zm:(k:Int)<(es.length:Int):=by omega
     obtain⟨eb,eo,hao,hbl,bC⟩:=HH.o (by omega)
     subst hao
     have y0:=(hb.cell (p:=(Ad eb (eo+k*3+0))) hbl).trans (bC k hlt 0 (by omega))
     have y1:=(hb.cell (p:=(Ad eb (eo+k*3+1))) hbl).trans (bC k hlt 1 (by omega))
     have y2:=(hb.cell (p:=(Ad eb (eo+k*3+2))) hbl).trans (bC k hlt 2 (by omega))
     rw[Nat.add_zero] at y0
     have kv:=ai (HC.o wr (KM.aJ es k) hb)
     obtain⟨G,hG⟩:=ex (P (KM.aJ es k))
     rw[<- hG] at kv
     have HG:=ai hG
     obtain⟨E,hE⟩:=ex (KM.aJ es k)
     have x0:wr.cell? (Ad eb (eo+k*3))=some (I E.page):=by rw[hE];exact y0
     have x1:wr.cell? (Ad eb (eo+k*3+1))=some (I E.kind):=by rw[hE];exact y1
     have x2:wr.cell? (Ad eb (eo+k*3+2))=some (I E.loc):=by rw[hE];exact y2
     rw[<- hE] at kv
     clear hG hE hb y0 y1 y2 bC
     cases G with
     | true =>
      go_wp2_with ((first | go_at_call 154 | go_at_call 191 | go_at_call 202);refine kv.o.mono ?_;rintro e w1 ⟨rfl,hb1⟩;have aZ:=ai (HB.o.trans (hb1.mono HB.o.size));clear hb1)
      go_ret
      exact⟨aZ.o,.inr ⟨k,hlt,rfl,HG.o.symm,gP.o⟩⟩
     | false =>
      go_wp2_with ((first | go_at_call 154 | go_at_call 191 | go_at_call 202);refine kv.o.mono ?_;rintro e w1 ⟨rfl,hb1⟩;have aZ:=ai (HB.o.trans (hb1.mono HB.o.size));clear hb1)
      go_roundw
      case rel=>exact⟨k+1,by omega,by go_num,fun j hj=>by
       by_cases q:j=k
       · subst q;exact HG.o.symm
       · exact gP.o j (by omega),aZ.o⟩
      case measure=>simp[intOf];omega
   · obtain rfl:k=es.length:=by omega
     clear hb
     go_wp2
     go_ret
     exact⟨HB.o,.inl ⟨rfl,gP.o⟩⟩
theorem nT (es:List KM.En) (p:Int) (i:Nat) (hi:i<es.length) (h:(KM.aJ es i).page=p) (hno:∀j,j<i->¬(KM.aJ es j).page=p):KM.aT es p=some (KM.aJ es i):=by
 induction es generalizing i with
 | nil=>cases hi
 | cons a r ih =>
  cases i with
  | zero =>
   have h:a.page=p:=h
   show(a::r).find? _=some a
   rw[List.find?_cons,decide_eq_true h]
  | succ i =>
   have h0:¬a.page=p:=hno 0 (by omega)
   show(a::r).find? _=some (KM.aJ r i)
   rw[List.find?_cons,decide_eq_false h0]
   exact ih i (Nat.lt_of_succ_lt_succ hi) h (fun j hj=>hno (j+1) (by omega))
theorem Jp (es:List KM.En) (p:Int) (hno:∀j,j<es.length->¬(KM.aJ es j).page=p):KM.aT es p=none:=KM.iJ.2 fun e he=>by
 obtain⟨j,hj,rfl⟩:=KM.eu KM.jz he
 exact hno j hj
def dG (es:List KM.En) (p:Int):KM.En×Bool:=match KM.aT es p with
 | some e=>(e,true)
 | none=>(KM.jz,false)
def dH (e:KM.En):Value:=.agg #[I e.page,I e.kind,I e.loc]
theorem zG (es:List KM.En) (p:Int) (j n mb pb po cP:Nat) (ae:Option Addr) (ce:Nat) (w:World) (hm:w.cell? (Ad mb 3)=some (.slice (some (Ad pb po)) n cP)) (hj:j<n) (hce:w.cell? (Ad pb (po+j*3+2))=some (.slice ae es.length ce)) (he:aU aI 3 KM.jz w ae es) (hl:es.length<=1000000) (hn:n<=1000000) :
  Calls Tryz.prog 118 #[.pointer (some (Ad mb 0)),I (j:Int),I p] w fun e w'=>e=.returned (.tuple #[dH (dG es p).1,.bool (dG es p).2])/\Below w.heap.size w w':=by
 have mU:=World.block_lt_of_cell? w _ hm
 have hpl:=World.block_lt_of_cell? w _ hce
 have mU:mb<w.heap.size:=mU
 have hpl:pb<w.heap.size:=hpl
 have hmn:¬mb=w.heap.size:=by omega
 have aeA:¬mb=w.heap.size+1:=by omega
 have Zu:¬pb=w.heap.size:=by omega
 have aeq:¬pb=w.heap.size+1:=by omega
 have N6:=ai he
 obtain⟨W,hW⟩:=ex ((w.alloc (.cells #[I p] 3)).alloc (.cells #[I 0,I 0,I 0] 45))
 have bI:Hid (Below w.heap.size w W):=by rw[hW];exact((Below.refl w.heap.size w).alloc (Nat.le_refl _) _).alloc (by simp) _
 have X0:Hid (W.heap[w.heap.size]?=some (.cells #[I p] 3 (0,0))):=by rw[hW];exact B.alloc (B.new w _ _) _
 have R0:Hid (W.heap[w.heap.size+1]?=some (.cells #[I 0,I 0,I 0] 45 (0,0))):=by
  have:=B.new (w.alloc (.cells #[I p] 3)) #[I 0,I 0,I 0] 45
  rw[World.size_alloc] at this
  rw[hW];exact this
 have d3:W.cell? (Ad mb 3)=some (.slice (some (Ad pb po)) n cP):=(bI.o.cell (p:=(Ad mb 3)) mU).trans hm
 have d2:W.cell? (Ad pb (po+j*3+2))=some (.slice ae es.length ce):=(bI.o.cell (p:=(Ad pb (po+j*3+2))) hpl).trans hce
 have zT:=ai (AE 154 (.inl rfl) (fun e=>decide (e.page=p)) es ae ce w.heap.size W (he.below bI.o) hl (fun V e hV=>Fi p e w.heap.size V (B.cell (B.below X0.o hV (B.isLt X0.o)) 0 rfl)))
 have HF:=ai (nT es p)
 have HN:=ai (Jp es p)
 have AU:(j:Int)<(n:Int):=by omega
 have C3:(0:Int)<=(j:Int):=by omega
 have HW:=ai hW
 clear hm hce he hW
 have q1:W.frozen? (Ad (w.heap.size+1) 0)=false:=B.free R0.o 0
 by_cases hex:∃j,j<es.length/\(KM.aJ es j).page=p
 · obtain⟨j0,VA,Vz⟩:=hex
   have Kc:Hid (Calls Tryz.prog 153 #[.slice ae es.length ce,.func (.func 154) #[] #[.pointer (some (Ad w.heap.size 0))]] W fun e w'=>∃i:Nat,i<es.length/\e=.returned (I (i:Int))/\dG es p=(KM.aJ es i,true)/\Below W.heap.size W w'):=zT.o.mono fun e w' ⟨hb,h⟩=>by
    rcases h with⟨_,hno⟩ | ⟨i,hi,he,L4,hno⟩
    · exact absurd Vz (by have:=hno j0 VA;simpa using this)
    · refine⟨i,hi,he,?_,hb⟩
      unfold dG
      rw[HF.o i hi (by simpa using L4) (fun j hj=>by have:=hno j hj;simpa using this)]
   clear zT HF HN VA Vz
   go_enter Tryz.func118,Tryz.ntmps118
   go_upto_region 1 with fail
   rw[<- HW.o]
   go_upto_region 3 with(go_at_call 153;refine Kc.o.mono ?_;rintro e w1 ⟨i,hi,rfl,hen,hb1⟩;have fX:=ai hen;have aZ:=ai (bI.o.trans (hb1.mono bI.o.size));have R1:=ai (B.below R0.o hb1 (B.isLt R0.o));clear hb1 hen)
   obtain⟨eb,eo,hao,hbl,bC⟩:=N6.o (by omega)
   subst hao
   have y0:=(aZ.o.cell (p:=(Ad eb (eo+i*3+0))) hbl).trans (bC i hi 0 (by omega))
   have y1:=(aZ.o.cell (p:=(Ad eb (eo+i*3+1))) hbl).trans (bC i hi 1 (by omega))
   have y2:=(aZ.o.cell (p:=(Ad eb (eo+i*3+2))) hbl).trans (bC i hi 2 (by omega))
   rw[Nat.add_zero] at y0
   obtain⟨E,hE⟩:=ex (KM.aJ es i)
   have x0:w1.cell? (Ad eb (eo+i*3))=some (I E.page):=by rw[hE];exact y0
   have x1:w1.cell? (Ad eb (eo+i*3+1))=some (I E.kind):=by rw[hE];exact y1
   have x2:w1.cell? (Ad eb (eo+i*3+2))=some (I E.loc):=by rw[hE];exact y2
   rw[<- hE] at fX
   obtain⟨r0,r1,r2⟩:=B.c3 R1.o
   have f0:=B.free R1.o 0
   have f1:=B.free R1.o 1
   have f2:=B.free R1.o 2
   have hi1:(i:Int)<(es.length:Int):=by omega
   have hi0:(0:Int)<=(i:Int):=by omega
   clear hE y0 y1 y2 bC
   go_wp2
   have R2:(((w1.setCell (Ad (w.heap.size+1) 0) (I E.page)).setCell (Ad (w.heap.size+1) 1) (I E.kind)).setCell (Ad (w.heap.size+1) 2) (I E.loc)).heap[w.heap.size+1]?=some (.cells #[I E.page,I E.kind,I E.loc] 45 (0,0)):=B.set (B.set (B.set R1.o 0 _) 1 _) 2 _
   obtain⟨v0,v1,v2⟩:=B.c3 R2
   refine bodyPost_ret (v:=.tuple #[dH E,.bool true]) (by simp[results,Tryz.results118,go_sem,dH,v0,v1,v2]) rfl ?_
   rw[fX.o]
   refine⟨rfl,?_⟩
   exact((aZ.o.setCell (p:=(Ad (w.heap.size+1) 0)) (by show w.heap.size<=w.heap.size+1;omega) _).setCell (p:=(Ad (w.heap.size+1) 1)) (by show w.heap.size<=w.heap.size+1;omega) _).setCell (p:=(Ad (w.heap.size+1) 2)) (by show w.heap.size<=w.heap.size+1;omega) _
 · have Kc:Hid (Calls Tryz.prog 153 #[.slice ae es.length ce,.func (.func 154) #[] #[.pointer (some (Ad w.heap.size 0))]] W fun e w'=>e=.returned (I (-1))/\Below W.heap.size W w'):=zT.o.mono fun e w' ⟨hb,h⟩=>by
    rcases h with⟨he,_⟩ | ⟨i,hi,_,L4,_⟩
    · exact⟨he,hb⟩
    · exact absurd ⟨i,hi,by simpa using L4⟩ hex
   have fX:Hid (dG es p=(KM.jz,false)):=by
    show _=_
    unfold dG
    rw[HN.o (fun j hj e=>hex ⟨j,hj,e⟩)]
   clear zT HF HN hex
   go_enter Tryz.func118,Tryz.ntmps118
   go_upto_region 1 with fail
   rw[<- HW.o]
   go_upto_region 3 with(go_at_call 153;refine Kc.o.mono ?_;rintro e w1 ⟨rfl,hb1⟩;have aZ:=ai (bI.o.trans (hb1.mono bI.o.size));have R1:=ai (B.below R0.o hb1 (B.isLt R0.o));clear hb1)
   obtain⟨r0,r1,r2⟩:=B.c3 R1.o
   have f0:=B.free R1.o 0
   have f1:=B.free R1.o 1
   have f2:=B.free R1.o 2
   go_wp2
   have R2:(((w1.setCell (Ad (w.heap.size+1) 0) (I 0)).setCell (Ad (w.heap.size+1) 1) (I 0)).setCell (Ad (w.heap.size+1) 2) (I 0)).heap[w.heap.size+1]?=some (.cells #[I 0,I 0,I 0] 45 (0,0)):=B.set (B.set (B.set R1.o 0 _) 1 _) 2 _
   obtain⟨v0,v1,v2⟩:=B.c3 R2
   refine bodyPost_ret (v:=.tuple #[dH KM.jz,.bool false]) (by simp[results,Tryz.results118,go_sem,dH,KM.jz,v0,v1,v2]) rfl ?_
   rw[fX.o]
   refine⟨rfl,?_⟩
   exact((aZ.o.setCell (p:=(Ad (w.heap.size+1) 0)) (by show w.heap.size<=w.heap.size+1;omega) _).setCell (p:=(Ad (w.heap.size+1) 1)) (by show w.heap.size<=w.heap.size+1;omega) _).setCell (p:=(Ad (w.heap.size+1) 2)) (by show w.heap.size<=w.heap.size+1;omega) _
theorem Et (k:KM.Kn) (j:Nat) (p:Int) (hR:KM.aQ k) (hj:j<k.aj.length):KM.cK k j p=if (dG (KM.aq k.aj j).au p).1.kind=1 then (KM.aD k.frames (dG (KM.aq k.aj j).au p).1.loc.toNat).data else if (dG (KM.aq k.aj j).au p).1.kind=2 then (KM.bk k.slots (dG (KM.aq k.aj j).au p).1.loc.toNat).data else KM.dh k.ak p (KM.zeroAt k j p):=by
 unfold KM.cK dG
 cases g:KM.aT (KM.aq k.aj j).au p with
 | none=>rfl
 | some e =>
  have he:=(KM.di (hR.sp hj).dU).1 g
  show(if e.kind=1 then _ else _)=if e.kind=1 then _ else if e.kind=2 then _ else _
  rcases KM.fE hR hj he.1 with b | b
  · rw[if_pos b.1,if_pos b.1]
  · rw[if_neg (by omega),if_neg (by omega),if_pos b.1]
theorem Jc (k:KM.Kn) (a:fe) (j mb:Nat) (p:Int) (ar:AM.Ar) (w:World) (hK:cO w a k) (hR:KM.aQ k) (hj:j<k.aj.length) (hm:w.heap[mb]?=some (.cells (kF a k) 104 (0,0))) (hp:KM.mapped k j p) (hz:ar.zero=KM.zeroAt k j p) :
  Calls Tryz.prog 71 #[.pointer (some (Ad mb 0)),I (j:Int),I p,.agg (AW.cellsOf ar)] w fun e w'=>e=.returned (.string (KM.cK k j p))/\Below w.heap.size w w':=by
 have u6:=KM.iY hp
 have hcc:=hR.c
 have uP:=ai (Et k j p hR hj)
 have mU:=B.isLt hm
 obtain⟨pb,po,hao,hbl,bC⟩:=hK.aj (by omega)
 obtain⟨va,ap,cp,_,_,y2,_,y4,_⟩:=bC j hj
 have hel:(KM.aq k.aj j).au.length<=1000000:=by
  have h1:=KM.lO (hR.sp hj)
  have h2:=kg (KM.aq k.aj j).aA
  omega
 have c1:w.cell? (Ad mb 1)=some (.slice a.aF k.frames.length a.cF):=B.cell hm 1 rfl
 have c2:w.cell? (Ad mb 2)=some (.slice a.aL k.slots.length a.cL):=B.cell hm 2 rfl
 have c3:w.cell? (Ad mb 3)=some (.slice (some (Ad pb po)) k.aj.length a.cP):=(B.cell (v:=.slice a.aP k.aj.length a.cP) hm 3 rfl).trans (by rw[hao])
 have fX:=ai (fun V (hV:Below w.heap.size w V)=>zG (KM.aq k.aj j).au p j k.aj.length mb pb po a.cP ap cp V ((hV.cell (p:=(Ad mb 3)) mU).trans c3) hj ((hV.cell (p:=(Ad pb (po+j*3+2))) hbl).trans y2) (y4.below hV) hel (by omega))
 have ky:=ai (fun V (hV:Below w.heap.size w V)=>oZ k.ak p ar.zero mb V (wU (B.below hm hV mU) hR.dU) (by omega))
 have x7:Hid (∀e:KM.En,(dG (KM.aq k.aj j).au p).1=e->(e.kind=1->0<=e.loc/\e.loc<(k.frames.length:Int))/\(e.kind=2->0<=e.loc/\e.loc<(k.slots.length:Int))):=fun e he=>by
  unfold dG at he
  cases g:KM.aT (KM.aq k.aj j).au p with
  | none =>
   rw[g] at he
   have he:KM.jz=e:=he
   subst he
   exact⟨fun x=>absurd x (by decide),fun x=>absurd x (by decide)⟩
  | some e2 =>
   rw[g] at he
   have he:e2=e:=he
   subst he
   have hm2:=(KM.di (hR.sp hj).dU).1 g
   have:=((hR.sp hj).tH e2 hm2.1).2
   exact⟨fun x=>by omega,fun x=>by omega⟩
 have HF:=ai hK.frames
 have HS:=ai hK.slots
 rw[hz] at ky
 obtain⟨EN,Wh⟩:=ex (dG (KM.aq k.aj j).au p)
 rw[<- Wh] at uP fX x7
 obtain⟨⟨pg,kd,lc⟩,fd⟩:=EN
 unfold dH at fX
 have JU:=ai (x7.o _ rfl)
 obtain⟨FK,We⟩:=ex (KM.dh k.ak p (KM.zeroAt k j p))
 rw[<- We] at uP ky
 obtain⟨PK,V9⟩:=ex (KM.cK k j p)
 rw[<- V9] at uP ⊢
 obtain⟨f1,f2,f3,z⟩:=ar
 unfold AW.cellsOf
 simp only at uP fX JU ky hz ⊢
 rw[<- hz] at ky
 have bI:=ai ((Below.refl w.heap.size w).alloc (Nat.le_refl _) (.cells #[I f1,I f2,I f3,.bool z] 47))
 have AB:=ai (B.new w #[I f1,I f2,I f3,.bool z] 47)
 clear Wh We V9 hz hao bC y2 y4 x7 hK hR hm hp hcc hel c3 hj
 rcases(show kd=1∨(¬kd=1/\kd=2)∨(¬kd=1/\¬kd=2) by omega) with g | ⟨g,g2⟩ | ⟨g,g2⟩
 · rw[if_pos g] at uP
   have kb1:(kd==1)=true:=by simpa using g
   obtain⟨l0,l1⟩:=JU.o.1 g
   obtain⟨i,rfl⟩:∃i:Nat,lc=(i:Int):=⟨lc.toNat,by omega⟩
   rw[Int.toNat_natCast] at uP
   obtain⟨fb,fo,hfo,hfl,um⟩:=HF.o (by omega)
   have x0:=um i (by omega) 0 (by omega)
   rw[hfo] at c1
   have x0:w.cell? (Ad fb (fo+i*4))=some (.string PK):=by rw[uP.o];exact x0
   clear g HF HS ky JU um
   go_enter Tryz.func71,Tryz.ntmps71
   go_wp2_with (go_at_call 118;refine(fX.o _ bI.o).mono ?_;rintro e w1 ⟨rfl,hb1⟩;have aZ:=ai (aC bI.o hb1);have cj:=ai (aZ.o.alloc aZ.o.size (.cells #[I pg,I kd,I (i:Int)] 45));have d1:(w1.alloc (.cells #[I pg,I kd,I (i:Int)] 45)).cell? (Ad mb 1)=some (.slice (some (Ad fb fo)) k.frames.length a.cF):=(cj.o.cell (p:=(Ad mb 1)) mU).trans c1;have d2:(w1.alloc (.cells #[I pg,I kd,I (i:Int)] 45)).cell? (Ad mb 2)=some (.slice a.aL k.slots.length a.cL):=(cj.o.cell (p:=(Ad mb 2)) mU).trans c2;have A0:=ai (B.alloc (B.below AB.o hb1 (B.isLt AB.o)) (.cells #[I pg,I kd,I (i:Int)] 45));clear hb1)
   have xA:=(cj.o.cell (p:=(Ad fb (fo+i*4))) hfl).trans x0
   go_region
   go_wp2
   go_ret
   exact⟨rfl,cj.o.drew⟩
 · rw[if_neg g,if_pos g2] at uP
   have kb1:(kd==1)=false:=by simpa using g
   have kb2:(kd==2)=true:=by simpa using g2
   obtain⟨l0,l1⟩:=JU.o.2 g2
   obtain⟨i,rfl⟩:∃i:Nat,lc=(i:Int):=⟨lc.toNat,by omega⟩
   rw[Int.toNat_natCast] at uP
   obtain⟨fb,fo,hfo,hfl,um⟩:=HS.o (by omega)
   have x0:=um i (by omega) 0 (by omega)
   rw[hfo] at c2
   have x0:w.cell? (Ad fb (fo+i*2))=some (.string PK):=by rw[uP.o];exact x0
   clear g g2 HF HS ky JU um
   go_enter Tryz.func71,Tryz.ntmps71
   go_wp2_with (go_at_call 118;refine(fX.o _ bI.o).mono ?_;rintro e w1 ⟨rfl,hb1⟩;have aZ:=ai (aC bI.o hb1);have cj:=ai (aZ.o.alloc aZ.o.size (.cells #[I pg,I kd,I (i:Int)] 45));have d1:(w1.alloc (.cells #[I pg,I kd,I (i:Int)] 45)).cell? (Ad mb 1)=some (.slice a.aF k.frames.length a.cF):=(cj.o.cell (p:=(Ad mb 1)) mU).trans c1;have d2:(w1.alloc (.cells #[I pg,I kd,I (i:Int)] 45)).cell? (Ad mb 2)=some (.slice (some (Ad fb fo)) k.slots.length a.cL):=(cj.o.cell (p:=(Ad mb 2)) mU).trans c2;have A0:=ai (B.alloc (B.below AB.o hb1 (B.isLt AB.o)) (.cells #[I pg,I kd,I (i:Int)] 45));clear hb1)
   have xA:=(cj.o.cell (p:=(Ad fb (fo+i*2))) hfl).trans x0
   go_region
   go_wp2
   go_ret
   exact⟨rfl,cj.o.drew⟩
 · rw[if_neg g,if_neg g2] at uP
   have kb1:(kd==1)=false:=by simpa using g
   have kb2:(kd==2)=false:=by simpa using g2
   clear g g2 HF HS JU
   go_enter Tryz.func71,Tryz.ntmps71
   go_wp2_with (first | (go_at_call 118;refine(fX.o _ bI.o).mono ?_;rintro e w1 ⟨rfl,hb1⟩;have aZ:=ai (aC bI.o hb1);have cj:=ai (aZ.o.alloc aZ.o.size (.cells #[I pg,I kd,I lc] 45));have d1:(w1.alloc (.cells #[I pg,I kd,I lc] 45)).cell? (Ad mb 1)=some (.slice a.aF k.frames.length a.cF):=(cj.o.cell (p:=(Ad mb 1)) mU).trans c1;have d2:(w1.alloc (.cells #[I pg,I kd,I lc] 45)).cell? (Ad mb 2)=some (.slice a.aL k.slots.length a.cL):=(cj.o.cell (p:=(Ad mb 2)) mU).trans c2;have A0:=ai (B.alloc (B.below AB.o hb1 (B.isLt AB.o)) (.cells #[I pg,I kd,I lc] 45));have a3:(w1.alloc (.cells #[I pg,I kd,I lc] 45)).cell? (Ad w.heap.size 3)=some (.bool z):=B.cell A0.o 3 rfl;clear hb1) | (go_at_call 119;refine(ky.o _ cj.o).mono ?_;rintro e w2 ⟨rfl,hb2⟩;have bY:=ai (aC cj.o hb2);clear hb2))
   go_ret
   exact⟨congrArg (fun d=>Ending.returned (.string d)) uP.o.symm,bY.o⟩
def ko (k:KM.Kn) (sp p:Int):ByteArray×Int:=if b6 k sp=0 then (if (AM.aK (KM.aq k.aj sp.toNat).aA p).2 then (KM.cK k sp.toNat p,0) else (⟨#[]⟩,6)) else (⟨#[]⟩,b6 k sp)
theorem EJ {k:KM.Kn} {sp:Int} (h:b6 k sp=0):KM.dA k=0/\0<=sp/\sp<(k.aj.length:Int)/\(KM.aq k.aj sp.toNat).live=true:=by
 unfold b6 at h
 by_cases c:KM.dA k=0
 · rw[if_pos c] at h
   by_cases d:0<=sp/\sp<(k.aj.length:Int)/\(KM.aq k.aj sp.toNat).live=true
   · exact⟨c,d⟩
   · rw[if_neg d] at h;cases h
 · rw[if_neg c] at h;exact absurd h c
theorem Cy (k:KM.Kn) (a:fe) (sp p:Int) (w:World) (hK:cO w a k) (hF:eY k) (hsp:M.fR sp):Calls Tryz.prog 30 #[.agg (aH a k),I sp,I p] w fun e w'=>e=.returned (.tuple #[.string (ko k sp p).1,I (ko k sp p).2])/\Below w.heap.size w w':=by
 have HO:=ai (fun V (hV:Below w.heap.size w V)=>rI k a sp V (hK.below hV) hF hsp)
 have bI:=ai ((Below.refl w.heap.size w).alloc (Nat.le_refl _) (.cells (aH a k) 27))
 by_cases hl:b6 k sp=0
 · have hpt:=EJ hl
   have hR:=(KM.jP k).1 hpt.1
   obtain⟨j,rfl⟩:∃j:Nat,sp=(j:Int):=⟨sp.toNat,by omega⟩
   have hj:j<k.aj.length:=by omega
   have qZ:Hid (ko k (j:Int) p=if (AM.aK (KM.aq k.aj j).aA p).2 then (KM.cK k j p,0) else (⟨#[]⟩,6)):=by show _=_;unfold ko;rw[if_pos hl,Int.toNat_natCast]
   have om:Hid (∀V,Below w.heap.size w V->Calls Tryz.prog 69 #[.agg (aH a k),I (j:Int)] V fun e w'=>∃mb,e=.returned (.tuple #[.pointer (some (Ad mb 0)),I 0])/\w.heap.size<=mb/\w'.heap[mb]?=some (.cells (kF a k) 104 (0,0))/\Below V.heap.size V w'):=fun V hV=>(HO.o V hV).mono fun e w' ⟨hb,h⟩=>by
    rcases h with⟨_,mb,h1,h2,h3⟩ | ⟨h1,_⟩
    · exact⟨mb,h1,Nat.le_trans hV.size h2,h3,hb⟩
    · exact absurd hl h1
   have hcc:=hR.c
   obtain⟨pb,po,hao,hbl,bC⟩:=hK.aj (by omega)
   obtain⟨va,ap,cp,_,y1,_,y3,_,_⟩:=bC j hj
   obtain⟨aa,ca,rU,_⟩:=id y3
   subst rU
   have su:=ai (fun V (hV:Below w.heap.size w V)=>AW.oY (KM.aq k.aj j).aA _ p V (y3.below hV) (hF.sp j hj).aA)
   have Uv:=ai (fun mb V (hV:Below w.heap.size w V) (hm:V.heap[mb]?=some (.cells (kF a k) 104 (0,0))) (hp:KM.mapped k j p)=>Jc k a j mb p (AM.aK (KM.aq k.aj j).aA p).1 V (hK.below hV) hR hj hm hp rfl)
   have Hn:Hid (∀(V:World) mb,V.heap[mb]?=some (.cells (kF a k) 104 (0,0))->V.cell? (Ad mb 3)=some (.slice (some (Ad pb po)) k.aj.length a.cP)):=fun V mb h=>(B.cell (v:=.slice a.aP k.aj.length a.cP) h 3 rfl).trans (by rw[hao])
   have Ru:Hid ((AM.aK (KM.aq k.aj j).aA p).2=true->KM.mapped k j p):=fun h=>h
   obtain⟨⟨⟨f1,f2,f3,z⟩,ok⟩,hFN⟩:∃F,F=AM.aK (KM.aq k.aj j).aA p:=⟨_,rfl⟩
   rw[<- hFN] at qZ su Uv Ru
   unfold AW.cellsOf at su Uv
   simp only at qZ su Uv Ru
   have AU:(j:Int)<(k.aj.length:Int):=by omega
   have C3:(0:Int)<=(j:Int):=by omega
   clear hFN HO hl hpt hR hK hF hsp hao bC y3 hcc
   obtain⟨PR,Mw⟩:=ex (ko k (j:Int) p)
   rw[<- Mw] at qZ ⊢
   clear Mw
   unfold aH at om bI ⊢
   cases ok with
   | false =>
    have Qt:Hid (PR=(⟨#[]⟩,6)):=qZ
    clear qZ Uv Ru
    go_enter Tryz.func30,Tryz.ntmps30
    go_wp2_with (first | (go_at_call 69;refine(om.o _ bI.o).mono ?_;rintro e w1 ⟨mb,rfl,jE,hm2,hb1⟩;have WY:=ai hm2;have aZ:=ai (aC bI.o hb1);have c3:=Hn.o w1 mb hm2;have c1:=(aZ.o.cell (p:=(Ad pb (po+j*3+1))) hbl).trans y1;clear hb1 hm2) | (go_at_call 70;refine(su.o _ aZ.o).mono ?_;rintro e w2 ⟨rfl,hb2⟩;have bY:=ai (aC aZ.o hb2);have cj:=ai (bY.o.alloc bY.o.size (.cells #[I f1,I f2,I f3,.bool z] 47));have MA:=ai (B.alloc (B.below WY.o hb2 (B.isLt WY.o)) (.cells #[I f1,I f2,I f3,.bool z] 47));clear hb2))
    go_ret2
    rw[Qt.o]
    exact⟨rfl,cj.o⟩
   | true =>
    have Qt:Hid (PR=(KM.cK k j p,0)):=qZ
    clear qZ
    obtain⟨PK,V9⟩:=ex (KM.cK k j p)
    rw[<- V9] at Uv Qt
    clear V9
    go_enter Tryz.func30,Tryz.ntmps30
    go_wp2_with (first | (go_at_call 69;refine(om.o _ bI.o).mono ?_;rintro e w1 ⟨mb,rfl,jE,hm2,hb1⟩;have WY:=ai hm2;have aZ:=ai (aC bI.o hb1);have c3:=Hn.o w1 mb hm2;have c1:=(aZ.o.cell (p:=(Ad pb (po+j*3+1))) hbl).trans y1;clear hb1 hm2) | (go_at_call 70;refine(su.o _ aZ.o).mono ?_;rintro e w2 ⟨rfl,hb2⟩;have bY:=ai (aC aZ.o hb2);have cj:=ai (bY.o.alloc bY.o.size (.cells #[I f1,I f2,I f3,.bool z] 47));have MA:=ai (B.alloc (B.below WY.o hb2 (B.isLt WY.o)) (.cells #[I f1,I f2,I f3,.bool z] 47));clear hb2) | (go_at_call 71;refine(Uv.o mb _ cj.o MA.o (Ru.o trivial)).mono ?_;rintro e w3 ⟨rfl,hb3⟩;have dC:=ai (aC cj.o hb3);clear hb3))
    go_ret2
    rw[Qt.o]
    exact⟨rfl,dC.o⟩
 · have om:Hid (∀V,Below w.heap.size w V->Calls Tryz.prog 69 #[.agg (aH a k),I sp] V fun e w'=>e=.returned (.tuple #[.pointer none,I (b6 k sp)])/\Below V.heap.size V w'):=fun V hV=>(HO.o V hV).mono fun e w' ⟨hb,h⟩=>by
    rcases h with⟨h1,_⟩ | ⟨_,h1⟩
    · exact absurd h1 hl
    · exact⟨h1,hb⟩
   have qZ:Hid (ko k sp p=(⟨#[]⟩,b6 k sp)):=by show _=_;unfold ko;rw[if_neg hl]
   obtain⟨PR,Mw⟩:=ex (ko k sp p)
   rw[<- Mw] at qZ ⊢
   obtain⟨C,hC⟩:=ex (b6 k sp)
   rw[<- hC] at qZ om hl
   have cb:(C != 0)=true:=by simpa using hl
   clear Mw hC HO hK hF hsp hl
   unfold aH at om bI ⊢
   go_enter Tryz.func30,Tryz.ntmps30
   go_wp2_with (go_at_call 69;refine(om.o _ bI.o).mono ?_;rintro e w1 ⟨rfl,hb1⟩;have aZ:=ai (aC bI.o hb1);clear hb1)
   go_ret2
   rw[qZ.o]
   exact⟨rfl,aZ.o⟩
def bQ (n:Int):List Value:=[I n]
def EO (l:List Int) (i:Nat):Int:=l.getD i 0
theorem E0 (l:List Int) (x:Int) (ao:Option Addr) (cap:Nat) (w:World) (h:aU bQ 1 0 w ao l) (hl:l.length<=1000000) :
  Calls Tryz.prog 139 #[.slice ao l.length cap,I x] w fun e w'=>w'=w/\((e=.returned (I (-1))/\∀j,j<l.length->EO l j≠x)∨∃i:Nat,i<l.length/\e=.returned (I (i:Int))/\EO l i=x):=by
 have HH:=ai h
 clear h
 go_enter Tryz.func139,Tryz.ntmps139
 go_wp2
 go_loopw [8] (fun iv wr=>∃k:Nat,k<=l.length/\iv=I (k:Int)/\(∀j,j<k->EO l j≠x)/\wr=w) (fun iv _=>l.length-(intOf iv).toNat)
 case atStart=>exact⟨0,by omega,rfl,fun j hj=>by omega,rfl⟩
 case round =>
  obtain⟨k,hk,rfl,hno,rfl⟩:=hrel
  have gP:=ai hno
  clear hno
  by_cases hlt:k<l.length
  · have zm:(k:Int)<(l.length:Int):=by omega
    obtain⟨eb,eo,hao,hbl,bC⟩:=HH.o (by omega)
    subst hao
    have y0:=bC k hlt 0 (by omega)
    rw[Nat.add_zero,Nat.mul_one] at y0
    obtain⟨E,hE⟩:=ex (EO l k)
    have x0:wr.cell? (Ad eb (eo+k))=some (I E):=by rw[hE];exact y0
    have HE:=ai hE
    clear hE y0 bC
    by_cases c:x=E
    · have cb:(x==E)=true:=by simpa using c
      have HC:=ai c
      clear c
      go_wp2
      go_ret
      exact⟨rfl,.inr ⟨k,hlt,rfl,by rw[<- HE.o,HC.o]⟩⟩
    · have cb:(x==E)=false:=by simpa using c
      have HC:=ai c
      clear c
      go_wp2
      go_roundw
      case rel=>exact⟨k+1,by omega,by go_num,fun j hj=>by
       by_cases q:j=k
       · subst q;exact fun e=>HC.o (by rw[HE.o];exact e.symm)
       · exact gP.o j (by omega),trivial⟩
      case measure=>simp[intOf];omega
  · obtain rfl:k=l.length:=by omega
    go_wp2
    go_ret
    exact⟨rfl,.inl ⟨rfl,gP.o⟩⟩
theorem CP (l:List Int) (x:Int):x∈l↔∃i,i<l.length/\EO l i=x:=⟨fun h=>KM.eu 0 h,fun ⟨i,hi,e⟩=>e ▸ KM.dB hi⟩
theorem mQ (l:List Int) (x:Int) (ao:Option Addr) (cap:Nat) (w:World) (h:aU bQ 1 0 w ao l) (hl:l.length<=1000000) :
  Calls Tryz.prog 95 #[.slice ao l.length cap,I x] w fun e w'=>e=.returned (.bool (decide (x∈l)))/\w'=w:=by
 have HI:=ai (E0 l x ao cap w h hl)
 clear h
 by_cases c:x∈l
 · have Kc:Hid (Calls Tryz.prog 139 #[.slice ao l.length cap,I x] w fun e w'=>∃i:Nat,i<l.length/\e=.returned (I (i:Int))/\w'=w):=HI.o.mono fun e w' ⟨hw,h⟩=>by
    rcases h with⟨_,hno⟩ | ⟨i,hi,he,_⟩
    · obtain⟨i,hi,e2⟩:=(CP l x).1 c
      exact absurd e2 (hno i hi)
    · exact⟨i,hi,he,hw⟩
   rw[decide_eq_true c]
   clear HI c
   go_enter Tryz.func95,Tryz.ntmps95
   go_wp2_with (go_at_call 139;refine Kc.o.mono ?_;rintro e w1 ⟨i,hi,rfl,rfl⟩;have hi0:(0:Int)<=(i:Int):=(by omega))
   go_ret
   exact⟨rfl,rfl⟩
 · have Kc:Hid (Calls Tryz.prog 139 #[.slice ao l.length cap,I x] w fun e w'=>e=.returned (I (-1))/\w'=w):=HI.o.mono fun e w' ⟨hw,h⟩=>by
    rcases h with⟨he,_⟩ | ⟨i,hi,_,e2⟩
    · exact⟨he,hw⟩
    · exact absurd ((CP l x).2 ⟨i,hi,e2⟩) c
   rw[decide_eq_false c]
   clear HI c
   go_enter Tryz.func95,Tryz.ntmps95
   go_wp2_with (go_at_call 139;refine Kc.o.mono ?_;rintro e w1 ⟨rfl,rfl⟩)
   go_ret
   exact⟨rfl,rfl⟩
end KW
namespace KS
open Go.RowKit GK
open FW (ai aC)
open KW (aI aU)
structure Lc where
 lv:Bool
 va:Value
 vp:Value
def bO (l:Lc):List Value:=[.bool l.lv,l.va,l.vp]
def oD:Lc:=⟨false,Nl,Nl⟩
def dm (l:List Lc) (k:Nat):Lc:=l.getD k oD
def blk (v:Value) (b:Nat):Prop:=v.ownBlock=some b
structure cT (lo:Nat) (w:World) (l:Lc) (s:KM.Sp):Prop where
 live:l.lv=s.live
 aA:AW.Own lo w l.va s.aA
 aB:w.ownsRow lo 45 3 l.vp s.au.length (s.au.flatMap aI)
theorem cT.kp {lo:Nat} {w w':World} {D:Nat->Prop} {l:Lc} {s:KM.Sp} (h:cT lo w l s) (hk:Kp D w w') (ha:∀b,blk l.va b->¬D b) (hp:∀b,blk l.vp b->¬D b):cT lo w' l s:=⟨h.live,hk.row h.aA ha,hk.row h.aB hp⟩
theorem cT.mono {lo lo':Nat} {w:World} {l:Lc} {s:KM.Sp} (h:cT lo w l s) (hl:lo'<=lo):cT lo' w l s:=⟨h.live,h.aA.mono hl,km h.aB (fun g hg=>Nat.le_trans hl (h.aB.lt g hg).1)⟩
theorem pJ {α:Type} {w:World} (f:α->List Value) (k:Nat) (hf:∀x,(f x).length=k) (d:α) (l:List α) (b off:Nat) (h:∀i,i<l.length->∀j,j<k->w.cell? (Ad b (off+i*k+j))=(f (l.getD i d))[j]?):From w (some (Ad b off)) l.length (l.flatMap f):=fun hm=>by
 refine⟨_,rfl,fun j u hu=>?_⟩
 have hlt:j<l.length*k:=by
  rw[<- bG f k hf l]
  rcases Nat.lt_or_ge j (l.flatMap f).length with g | g
  · exact g
  · rw[List.getElem?_eq_none g] at hu
    cases hu
 have hk:0<k:=by
  rcases Nat.eq_zero_or_pos k with g | g
  · subst g;omega
  · exact g
 have e:j=j/k*k+j%k:=by rw[Nat.mul_comm];exact(Nat.div_add_mod j k).symm
 have h1:j/k<l.length:=(Nat.div_lt_iff_lt_mul hk).2 hlt
 have h2:j%k<k:=Nat.mod_lt _ hk
 have hg:=m6 f k hf d l (j/k) (j%k) h1 h2
 rw[<- e] at hg
 rw[hg] at hu
 rw[Addr.add_lit,<- hu,<- h (j/k) h1 (j%k) h2]
 congr 2
 rw[Nat.add_assoc,<- e]
theorem FL {w:World} {ao:Option Addr} {n c:Nat} {l:List AM.Ar} (h:AW.Has w (.slice ao n c) l):n=l.length/\From w ao n (AM.bf l):=by
 obtain⟨NW,cap,e,h⟩:=h
 injection e with e1 e2 e3
 subst e1 e2 e3
 refine⟨rfl,fun hm=>?_⟩
 rcases h with h | ⟨b,off,rfl,hl⟩
 · subst h;simp at hm
 · have:=pJ (w:=w) AM.four 4 (fun _=>rfl) AM.nil l b off (fun i hi j hj=>by
    obtain⟨c0,c1,c2,c3⟩:=hl i hi
    match j,hj with
    | 0,_=>exact c0
    | 1,_=>exact c1
    | 2,_=>exact c2
    | 3,_=>exact c3)
   have e:AM.bf l=l.flatMap AM.four:=by
    clear this hl hm
    induction l with
    | nil=>rfl
    | cons a r ih=>rw[List.flatMap_cons,<- ih];rfl
   rw[e]
   exact this hm
theorem Ex {w:World} {ap:Option Addr} {l:List KM.En} (h:aU aI 3 KM.jz w ap l):From w ap l.length (l.flatMap aI):=fun hm=>by
 obtain⟨b,off,rfl,hb,hl⟩:=h hm
 exact pJ (w:=w) aI 3 (fun _=>rfl) KM.jz l b off (fun i hi j hj=>hl i hi j hj) hm
theorem gw:∀(l:List KM.En),∀u∈l.flatMap aI,u.oneCell'=true:=fun l u hu=>by
 obtain⟨y,_,hy⟩:=List.mem_flatMap.1 hu
 simp[aI] at hy
 rcases hy with rfl | rfl | rfl <;> rfl
def Rm (w:World) (s:KM.Sp) (e:Ending) (w':World):Prop:=∃va vp,e=.returned (.agg #[.bool s.live,va,vp])/\cT w.heap.size w' ⟨s.live,va,vp⟩ s/\(∀b,blk vp b->¬blk va b)/\Below w.heap.size w w'
theorem xG (s:KM.Sp) (aa ap:Option Addr) (na ca cp:Nat) (w:World) (ha:AW.Has w (.slice aa na ca) s.aA) (hp:aU aI 3 KM.jz w ap s.au) (p9:s.aA.length<=1000000) (rV:s.au.length<=1000000) :
  Calls Tryz.prog 86 #[.agg #[.bool s.live,.slice aa na ca,.slice ap s.au.length cp]] w (Rm w s):=by
 obtain⟨hn,SU⟩:=FL ha
 have oo:=ai SU
 have pQ:=ai (Ex hp)
 obtain⟨lv,fT,pU⟩:=s
 simp only at hn oo pQ p9 rV ⊢
 subst hn
 have Ny:=ai (AM.nA fT)
 have Ho:=ai (bG aI 3 (fun _=>rfl) pU)
 have H1A:=ai (AM.j5 fT)
 have Od:=ai (gw pU)
 have bh:Hid (∀va vp (w':World),AW.Own w.heap.size w' va fT->w'.ownsRow w.heap.size 45 3 vp pU.length (pU.flatMap aI)->(∀b,blk vp b->¬blk va b)->Below w.heap.size w w'->Rm w ⟨lv,fT,pU⟩ (.returned (.agg #[.bool lv,va,vp])) w'):=fun va vp w' h1 h2 h3 h4=>⟨va,vp,rfl,⟨rfl,h1,h2⟩,h3,h4⟩
 obtain⟨XA,hXA⟩:=ex (AM.bf fT)
 obtain⟨XP,hXP⟩:=ex (pU.flatMap aI)
 unfold AW.Own at bh
 rw[<- hXA] at oo Ny H1A bh
 rw[<- hXP] at pQ Ho Od bh
 obtain⟨na,Vp⟩:=ex fT.length
 obtain⟨np,Vm⟩:=ex pU.length
 rw[<- Vp] at oo Ny bh p9 ⊢
 rw[<- Vm] at pQ Ho bh rV ⊢
 clear SU ha hp hXA hXP Vp Vm
 have bI:=ai (((Below.refl w.heap.size w).alloc (Nat.le_refl _) (.cells #[.bool lv,.slice aa na ca,.slice ap np cp] 43)).alloc (by simp) (.cells #[.bool false,Nl,Nl] 43))
 have X0:=ai (B.alloc (B.new w #[.bool lv,.slice aa na ca,.slice ap np cp] 43) (.cells #[.bool false,Nl,Nl] 43))
 have Y0:Hid (((w.alloc (.cells #[.bool lv,.slice aa na ca,.slice ap np cp] 43)).alloc (.cells #[.bool false,Nl,Nl] 43)).heap[w.heap.size+1]?=some (.cells #[.bool false,Nl,Nl] 43 (0,0))):=by
  have:=B.new (w.alloc (.cells #[.bool lv,.slice aa na ca,.slice ap np cp] 43)) #[.bool false,Nl,Nl] 43
  rw[World.size_alloc] at this
  exact this
 go_enter Tryz.func86,Tryz.ntmps86
 go_wp2
 obtain⟨WA,dx⟩:=ex ((w.alloc (.cells #[.bool lv,.slice aa na ca,.slice ap np cp] 43)).alloc (.cells #[.bool false,Nl,Nl] 43))
 rw[<- dx] at bI X0 Y0 ⊢
 clear dx
 have yJ:=ai bI.o
 obtain⟨xb,Br⟩:=ex w.heap.size
 rw[<- Br] at X0 Y0 bI bh ⊢
 have Hi:=ai Br
 clear Br
 have HS:Hid (∀V,Below WA.heap.size WA V->V.cell? (Ad xb 0)=some (.bool lv)/\V.cell? (Ad xb 1)=some (.slice aa na ca)/\V.cell? (Ad xb 2)=some (.slice ap np cp)):=fun V hb=>by
  have h1:=B.below X0.o hb (B.isLt X0.o)
  exact⟨B.cell h1 0 rfl,B.cell h1 1 rfl,B.cell h1 2 rfl⟩
 have Oa:Hid (∀V,Below WA.heap.size WA V->Calls Tryz.prog 129 #[.slice aa na ca] V fun e w'=>∃a c,e=.returned (.slice a na c)/\w'.ownsRow V.heap.size 47 4 (.slice a na c) na XA/\Below V.heap.size V w'):=fun V hV=>(PX aa na ca XA V Ny.o (oo.o.below (yJ.o.trans (hV.mono yJ.o.size))) H1A.o p9).mono fun e w' ⟨v,h1,h2,h3⟩=>by
   obtain⟨a,c,rfl,_⟩:=aR h2
   exact⟨a,c,h1,h2,h3⟩
 have Kg:Hid (∀V,Below WA.heap.size WA V->Calls Tryz.prog 130 #[.slice ap np cp] V fun e w'=>∃a c,e=.returned (.slice a np c)/\w'.ownsRow V.heap.size 45 3 (.slice a np c) np XP/\Below V.heap.size V w'):=fun V hV=>(PV ap np cp XP V Ho.o (pQ.o.below (yJ.o.trans (hV.mono yJ.o.size))) Od.o rV).mono fun e w' ⟨v,h1,h2,h3⟩=>by
   obtain⟨a,c,rfl,_⟩:=aR h2
   exact⟨a,c,h1,h2,h3⟩
 have Rq:Hid (∀V:World,(V.cell? (Ad xb 0)=some (.bool lv)/\V.cell? (Ad xb 1)=some (.slice aa na ca)/\V.cell? (Ad xb 2)=some (.slice ap np cp))->∀v0 v1 v2,(((V.setCell (Ad (xb+1) 0) v0).setCell (Ad (xb+1) 1) v1).setCell (Ad (xb+1) 2) v2).cell? (Ad xb 0)=some (.bool lv)/\(((V.setCell (Ad (xb+1) 0) v0).setCell (Ad (xb+1) 1) v1).setCell (Ad (xb+1) 2) v2).cell? (Ad xb 1)=some (.slice aa na ca)/\(((V.setCell (Ad (xb+1) 0) v0).setCell (Ad (xb+1) 1) v1).setCell (Ad (xb+1) 2) v2).cell? (Ad xb 2)=some (.slice ap np cp)):=fun V ⟨h0,h1,h2⟩ v0 v1 v2=>by
  have hne:xb≠xb+1:=by omega
  rw[bZ _ _ _ _ _ _ hne,bZ _ _ _ _ _ _ hne,bZ _ _ _ _ _ _ hne,bZ _ _ _ _ _ _ hne,bZ _ _ _ _ _ _ hne,bZ _ _ _ _ _ _ hne,bZ _ _ _ _ _ _ hne,bZ _ _ _ _ _ _ hne,bZ _ _ _ _ _ _ hne]
  exact⟨h0,h1,h2⟩
 have iz:=ai (Below.refl WA.heap.size WA).drew
 have gL:=ai (HS.o _ iz.o)
 go_region_held3 (fun V=>V.cell? (Ad xb 0)=some (.bool lv)/\V.cell? (Ad xb 1)=some (.slice aa na ca)/\V.cell? (Ad xb 2)=some (.slice ap np cp)) (first | exact jF.o | exact iy.o | exact gL.o | exact TF.o _ _ _)
  (first
   | (go_at_call 129;refine(Oa.o _ iz.o).mono ?_;rintro e w2 ⟨a2,c2,rfl,hr2,hb2⟩;have jh:=ai (iz.o.trans (hb2.mono iz.o.size));have iy:=ai (HS.o _ jh.o);have xU:=ai hr2;clear hb2 hr2)
   | (go_at_call 130;refine(Kg.o _ jh.o).mono ?_;rintro e w3 ⟨a3,c3,rfl,hr3,hb3⟩;have ld:=ai (jh.o.trans (hb3.mono jh.o.size));have jF:=ai (HS.o _ ld.o);have DZ:=ai hr3;have dC:=ai hb3;have y0:w3.cell? (Ad (xb+1) 0)=some (.bool false):=B.cell (B.below Y0.o ld.o (B.isLt Y0.o)) 0 rfl;have z0:w3.frozen? (Ad (xb+1) 0)=false:=B.free (B.below Y0.o ld.o (B.isLt Y0.o)) 0;have y1:w3.cell? (Ad (xb+1) 1)=some Nl:=B.cell (B.below Y0.o ld.o (B.isLt Y0.o)) 1 rfl;have z1:w3.frozen? (Ad (xb+1) 1)=false:=B.free (B.below Y0.o ld.o (B.isLt Y0.o)) 1;have y2:w3.cell? (Ad (xb+1) 2)=some Nl:=B.cell (B.below Y0.o ld.o (B.isLt Y0.o)) 2 rfl;have z2:w3.frozen? (Ad (xb+1) 2)=false:=B.free (B.below Y0.o ld.o (B.isLt Y0.o)) 2;have TF:=ai (fun v0 v1 v2=>Rq.o w3 jF.o v0 v1 v2);clear hb3 hr3))
 all_goals clear TF Rq HS gL iy jF Oa Kg
 all_goals go_wp2
 · refine bodyPost_ret (v:=.agg #[.bool lv,.slice a2 na c2,.slice a3 np c3]) (by simp[results,Tryz.results86,go_sem,y0,y1,y2]) rfl ?_
   have k3:Kp (fun b=>b=xb+1) w3 _:=rP w3 (xb+1) 0 1 2 (.bool lv) (.slice a2 na c2) (.slice a3 np c3) rfl
   have l1:=B.isLt Y0.o
   have l2:=yJ.o.size
   have l3:=jh.o.size
   have hx:=Hi.o
   have e2:∀g,(Value.slice a2 na c2).ownBlock=some g->WA.heap.size<=g/\g<w2.heap.size:=fun g hg=>xU.o.lt g hg
   have e3:∀g,(Value.slice a3 np c3).ownBlock=some g->w2.heap.size<=g/\g<w3.heap.size:=fun g hg=>DZ.o.lt g hg
   have r2:=(Kp.aW (D:=fun _=>False) dC.o).row xU.o (fun _ _ g=>g)
   refine bh.o _ _ _ (k3.row (km r2 (fun g hg=>by have:=e2 g hg;omega)) (fun g hg e=>by have:=e2 g hg;omega)) (k3.row (km DZ.o (fun g hg=>by have:=e3 g hg;omega)) (fun g hg e=>by have:=e3 g hg;omega)) (fun b h1 h2=>by have:=e2 b h2;have:=e3 b h1;omega) ?_
   exact Kp.below (bI.o.trans (ld.o.mono (by omega))) k3 (by have:=ld.o.size;omega) (fun b e=>by omega)
end KS
end Go.Proofs.YtpgifpeohlllfaaGreat
