import Derived.Test.YtpgifpeohlllfaaGreatGT14
import Derived.Deep.RegionHeld3
set_option maxHeartbeats 20000000
set_option linter.unusedVariables false
set_option maxRecDepth 100000
set_option linter.unusedSimpArgs false
namespace Go.Proofs.YtpgifpeohlllfaaGreat
namespace KW
open Go.RowKit GK
open FW (ai aD)
theorem o9 (es:List KM.En) (p:Int) (i:Nat) (hi:i<es.length) (h:(KM.aM es i).page=p) (hno:∀j,j<i->¬(KM.aM es j).page=p):KM.bf es p=some (KM.aM es i):=by
 induction es generalizing i with
 | nil=>cases hi
 | cons a r ih =>
  cases i with
  | zero =>
   have h:a.page=p:=h;show(a::r).find? _=some a;rw[List.find?_cons,decide_eq_true h]
  | succ i =>
   have h0:¬a.page=p:=hno 0 (by omega);show(a::r).find? _=some (KM.aM r i);rw[List.find?_cons,decide_eq_false h0];exact ih i (Nat.lt_of_succ_lt_succ hi) h (fun j hj=>hno (j+1) (by omega))
theorem Mf (es:List KM.En) (p:Int) (hno:∀j,j<es.length->¬(KM.aM es j).page=p):KM.bf es p=none:=KM.lQ.2 fun e he=>by
 obtain⟨j,hj,rfl⟩:=KM.fu KM.js he;exact hno j hj
def dX (es:List KM.En) (p:Int):KM.En×Bool:=match KM.bf es p with
 | some e=>(e,true)
 | none=>(KM.js,false)
def dA (e:KM.En):Value:=.agg #[I e.page,I e.kind,I e.loc]
theorem Cg (es:List KM.En) (p:Int) (j n mb pb po cP:Nat) (ae:Option Addr) (ce:Nat) (w:World) (hm:w.cell? (Ad mb 3)=some (.slice (some (Ad pb po)) n cP)) (hj:j<n) (hce:w.cell? (Ad pb (po+j*3+2))=some (.slice ae es.length ce)) (he:aZ aK 3 KM.js w ae es) (hl:es.length<=1000000) (hn:n<=1000000) :
  Calls Tryz.prog 118 #[.pointer (some (Ad mb 0)),I (j:Int),I p] w fun e w'=>e=.returned (.tuple #[dA (dX es p).1,.bool (dX es p).2])/\Below w.heap.size w w':=by
 have oJ:=World.block_lt_of_cell? w _ hm;have hpl:=World.block_lt_of_cell? w _ hce;have oJ:mb<w.heap.size:=oJ;have hpl:pb<w.heap.size:=hpl;have hmn:¬mb=w.heap.size:=by omega
 have aj1:¬mb=w.heap.size+1:=by omega
 have hpn:¬pb=w.heap.size:=by omega
 have ajS:¬pb=w.heap.size+1:=by omega
 have R8:=ai he;obtain⟨W,hW⟩:=ex ((w.alloc (.cells #[I p] 3)).alloc (.cells #[I 0,I 0,I 0] 45));have bR:Hid (Below w.heap.size w W):=by rw[hW];exact((Below.refl w.heap.size w).alloc (Nat.le_refl _) _).alloc (by simp) _
 have X0:Hid (W.heap[w.heap.size]?=some (.cells #[I p] 3 (0,0))):=by rw[hW];exact B.alloc (B.new w _ _) _
 have R0:Hid (W.heap[w.heap.size+1]?=some (.cells #[I 0,I 0,I 0] 45 (0,0))):=by
  have:=B.new (w.alloc (.cells #[I p] 3)) #[I 0,I 0,I 0] 45;rw[World.size_alloc] at this;rw[hW];exact this
 have d3:W.cell? (Ad mb 3)=some (.slice (some (Ad pb po)) n cP):=(bR.o.cell (p:=(Ad mb 3)) oJ).trans hm;have d2:W.cell? (Ad pb (po+j*3+2))=some (.slice ae es.length ce):=(bR.o.cell (p:=(Ad pb (po+j*3+2))) hpl).trans hce;have Cw:=ai (C5 154 (.inl rfl) (fun e=>decide (e.page=p)) es ae ce w.heap.size W (he.below bR.o) hl (fun V e hV=>Iu p e w.heap.size V (B.cell (B.below X0.o hV (B.isLt X0.o)) 0 rfl)));have HF:=ai (o9 es p);have HN:=ai (Mf es p);have DJ:(j:Int)<(n:Int):=by omega
 have E9:(0:Int)<=(j:Int):=by omega
 have HW:=ai hW;clear hm hce he hW;have q1:W.frozen? (Ad (w.heap.size+1) 0)=false:=B.free R0.o 0;by_cases hex:∃j,j<es.length/\(KM.aM es j).page=p
 · obtain⟨j0,ZT,ZR⟩:=hex;have Nf:Hid (Calls Tryz.prog 153 #[.slice ae es.length ce,.func (.func 154) #[] #[.pointer (some (Ad w.heap.size 0))]] W fun e w'=>∃i:Nat,i<es.length/\e=.returned (I (i:Int))/\dX es p=(KM.aM es i,true)/\Below W.heap.size W w'):=Cw.o.mono fun e w' ⟨hb,h⟩=>by
    rcases h with⟨_,hno⟩ | ⟨i,hi,he,O5,hno⟩
    · exact absurd ZR (by have:=hno j0 ZT;simpa using this)
    · refine⟨i,hi,he,?_,hb⟩;unfold dX;rw[HF.o i hi (by simpa using O5) (fun j hj=>by have:=hno j hj;simpa using this)]
   clear Cw HF HN ZT ZR;go_enter Tryz.func118,Tryz.ntmps118;go_upto_region 1 with fail;rw[<- HW.o];go_upto_region 3 with(go_at_call 153;refine Nf.o.mono ?_;rintro e w1 ⟨i,hi,rfl,hen,hb1⟩;have iy:=ai hen;have bE:=ai (bR.o.trans (hb1.mono bR.o.size));have R1:=ai (B.below R0.o hb1 (B.isLt R0.o));clear hb1 hen)
   obtain⟨eb,eo,hao,hbl,bN⟩:=R8.o (by omega);subst hao;have y0:=(bE.o.cell (p:=(Ad eb (eo+i*3+0))) hbl).trans (bN i hi 0 (by omega));have y1:=(bE.o.cell (p:=(Ad eb (eo+i*3+1))) hbl).trans (bN i hi 1 (by omega));have y2:=(bE.o.cell (p:=(Ad eb (eo+i*3+2))) hbl).trans (bN i hi 2 (by omega));rw[Nat.add_zero] at y0;obtain⟨E,hE⟩:=ex (KM.aM es i);have x0:w1.cell? (Ad eb (eo+i*3))=some (I E.page):=by rw[hE];exact y0
   have x1:w1.cell? (Ad eb (eo+i*3+1))=some (I E.kind):=by rw[hE];exact y1
   have x2:w1.cell? (Ad eb (eo+i*3+2))=some (I E.loc):=by rw[hE];exact y2
   rw[<- hE] at iy;obtain⟨r0,r1,r2⟩:=B.c3 R1.o;have f0:=B.free R1.o 0;have f1:=B.free R1.o 1;have f2:=B.free R1.o 2;have hi1:(i:Int)<(es.length:Int):=by omega
   have hi0:(0:Int)<=(i:Int):=by omega
   clear hE y0 y1 y2 bN;go_wp2;have R2:(((w1.setCell (Ad (w.heap.size+1) 0) (I E.page)).setCell (Ad (w.heap.size+1) 1) (I E.kind)).setCell (Ad (w.heap.size+1) 2) (I E.loc)).heap[w.heap.size+1]?=some (.cells #[I E.page,I E.kind,I E.loc] 45 (0,0)):=B.set (B.set (B.set R1.o 0 _) 1 _) 2 _;obtain⟨v0,v1,v2⟩:=B.c3 R2;refine bodyPost_ret (v:=.tuple #[dA E,.bool true]) (by simp[results,Tryz.results118,go_sem,dA,v0,v1,v2]) rfl ?_;rw[iy.o];refine⟨rfl,?_⟩;exact((bE.o.setCell (p:=(Ad (w.heap.size+1) 0)) (by show w.heap.size<=w.heap.size+1;omega) _).setCell (p:=(Ad (w.heap.size+1) 1)) (by show w.heap.size<=w.heap.size+1;omega) _).setCell (p:=(Ad (w.heap.size+1) 2)) (by show w.heap.size<=w.heap.size+1;omega) _
 · have Nf:Hid (Calls Tryz.prog 153 #[.slice ae es.length ce,.func (.func 154) #[] #[.pointer (some (Ad w.heap.size 0))]] W fun e w'=>e=.returned (I (-1))/\Below W.heap.size W w'):=Cw.o.mono fun e w' ⟨hb,h⟩=>by
    rcases h with⟨he,_⟩ | ⟨i,hi,_,O5,_⟩
    · exact⟨he,hb⟩
    · exact absurd ⟨i,hi,by simpa using O5⟩ hex
   have iy:Hid (dX es p=(KM.js,false)):=by
    show _=_;unfold dX;rw[HN.o (fun j hj e=>hex ⟨j,hj,e⟩)]
   clear Cw HF HN hex;go_enter Tryz.func118,Tryz.ntmps118;go_upto_region 1 with fail;rw[<- HW.o];go_upto_region 3 with(go_at_call 153;refine Nf.o.mono ?_;rintro e w1 ⟨rfl,hb1⟩;have bE:=ai (bR.o.trans (hb1.mono bR.o.size));have R1:=ai (B.below R0.o hb1 (B.isLt R0.o));clear hb1)
   obtain⟨r0,r1,r2⟩:=B.c3 R1.o;have f0:=B.free R1.o 0;have f1:=B.free R1.o 1;have f2:=B.free R1.o 2;go_wp2;have R2:(((w1.setCell (Ad (w.heap.size+1) 0) (I 0)).setCell (Ad (w.heap.size+1) 1) (I 0)).setCell (Ad (w.heap.size+1) 2) (I 0)).heap[w.heap.size+1]?=some (.cells #[I 0,I 0,I 0] 45 (0,0)):=B.set (B.set (B.set R1.o 0 _) 1 _) 2 _;obtain⟨v0,v1,v2⟩:=B.c3 R2;refine bodyPost_ret (v:=.tuple #[dA KM.js,.bool false]) (by simp[results,Tryz.results118,go_sem,dA,KM.js,v0,v1,v2]) rfl ?_;rw[iy.o];refine⟨rfl,?_⟩;exact((bE.o.setCell (p:=(Ad (w.heap.size+1) 0)) (by show w.heap.size<=w.heap.size+1;omega) _).setCell (p:=(Ad (w.heap.size+1) 1)) (by show w.heap.size<=w.heap.size+1;omega) _).setCell (p:=(Ad (w.heap.size+1) 2)) (by show w.heap.size<=w.heap.size+1;omega) _
theorem G3 (k:KM.Kn) (j:Nat) (p:Int) (hR:KM.aQ k) (hj:j<k.aj.length):KM.dD k j p=if (dX (KM.au k.aj j).aA p).1.kind=1 then (KM.aH k.frames (dX (KM.au k.aj j).aA p).1.loc.toNat).data else if (dX (KM.au k.aj j).aA p).1.kind=2 then (KM.bj k.slots (dX (KM.au k.aj j).aA p).1.loc.toNat).data else KM.dY k.ak p (KM.zeroAt k j p):=by
 unfold KM.dD dX;cases g:KM.bf (KM.au k.aj j).aA p with
 | none=>rfl
 | some e =>
  have he:=(KM.dM (hR.sp hj).eJ).1 g;show(if e.kind=1 then _ else _)=if e.kind=1 then _ else if e.kind=2 then _ else _
  rcases KM.fN hR hj he.1 with b | b
  · rw[if_pos b.1,if_pos b.1]
  · rw[if_neg (by omega),if_neg (by omega),if_pos b.1]
theorem LU (k:KM.Kn) (a:fh) (j mb:Nat) (p:Int) (ar:AM.Ar) (w:World) (hK:cK w a k) (hR:KM.aQ k) (hj:j<k.aj.length) (hm:w.heap[mb]?=some (.cells (kK a k) 104 (0,0))) (hp:KM.mapped k j p) (hz:ar.zero=KM.zeroAt k j p) :
  Calls Tryz.prog 71 #[.pointer (some (Ad mb 0)),I (j:Int),I p,.agg (AW.cellsOf ar)] w fun e w'=>e=.returned (.string (KM.dD k j p))/\Below w.heap.size w w':=by
 have xw:=KM.iG hp;have hcc:=hR.c;have M9:=ai (G3 k j p hR hj);have oJ:=B.isLt hm;obtain⟨pb,po,hao,hbl,bN⟩:=hK.aj (by omega);obtain⟨va,ap,cp,_,_,y2,_,y4,_⟩:=bN j hj;have hel:(KM.au k.aj j).aA.length<=1000000:=by
  have h1:=KM.kP (hR.sp hj);have h2:=jS (KM.au k.aj j).aB;omega
 have c1:w.cell? (Ad mb 1)=some (.slice a.aF k.frames.length a.cF):=B.cell hm 1 rfl;have c2:w.cell? (Ad mb 2)=some (.slice a.aL k.slots.length a.cL):=B.cell hm 2 rfl;have c3:w.cell? (Ad mb 3)=some (.slice (some (Ad pb po)) k.aj.length a.cP):=(B.cell (v:=.slice a.aP k.aj.length a.cP) hm 3 rfl).trans (by rw[hao]);have iy:=ai (fun V (hV:Below w.heap.size w V)=>Cg (KM.au k.aj j).aA p j k.aj.length mb pb po a.cP ap cp V ((hV.cell (p:=(Ad mb 3)) oJ).trans c3) hj ((hV.cell (p:=(Ad pb (po+j*3+2))) hbl).trans y2) (y4.below hV) hel (by omega));have kY:=ai (fun V (hV:Below w.heap.size w V)=>qp k.ak p ar.zero mb V (yU (B.below hm hV oJ) hR.eJ) (by omega));have xV:Hid (∀e:KM.En,(dX (KM.au k.aj j).aA p).1=e->(e.kind=1->0<=e.loc/\e.loc<(k.frames.length:Int))/\(e.kind=2->0<=e.loc/\e.loc<(k.slots.length:Int))):=fun e he=>by
  unfold dX at he;cases g:KM.bf (KM.au k.aj j).aA p with
  | none =>
   rw[g] at he;have he:KM.js=e:=he;subst he;exact⟨fun x=>absurd x (by decide),fun x=>absurd x (by decide)⟩
  | some e2 =>
   rw[g] at he;have he:e2=e:=he;subst he;have hm2:=(KM.dM (hR.sp hj).eJ).1 g;have:=((hR.sp hj).u9 e2 hm2.1).2;exact⟨fun x=>by omega,fun x=>by omega⟩
 have HF:=ai hK.frames;have HS:=ai hK.slots;rw[hz] at kY;obtain⟨EN,hEN⟩:=ex (dX (KM.au k.aj j).aA p);rw[<- hEN] at M9 iy xV;obtain⟨⟨pg,kd,lc⟩,fd⟩:=EN;unfold dA at iy;have MO:=ai (xV.o _ rfl);obtain⟨FK,hFK⟩:=ex (KM.dY k.ak p (KM.zeroAt k j p));rw[<- hFK] at M9 kY;obtain⟨PK,hPK⟩:=ex (KM.dD k j p);rw[<- hPK] at M9 ⊢;obtain⟨f1,f2,f3,z⟩:=ar;unfold AW.cellsOf;simp only at M9 iy MO kY hz ⊢;rw[<- hz] at kY;have bR:=ai ((Below.refl w.heap.size w).alloc (Nat.le_refl _) (.cells #[I f1,I f2,I f3,.bool z] 47));have AB:=ai (B.new w #[I f1,I f2,I f3,.bool z] 47);clear hEN hFK hPK hz hao bN y2 y4 xV hK hR hm hp hcc hel c3 hj;rcases(show kd=1∨(¬kd=1/\kd=2)∨(¬kd=1/\¬kd=2) by omega) with g | ⟨g,g2⟩ | ⟨g,g2⟩
 · rw[if_pos g] at M9;have kb1:(kd==1)=true:=by simpa using g
   obtain⟨l0,l1⟩:=MO.o.1 g;obtain⟨i,rfl⟩:∃i:Nat,lc=(i:Int):=⟨lc.toNat,by omega⟩;rw[Int.toNat_natCast] at M9;obtain⟨fb,fo,hfo,hfl,wu⟩:=HF.o (by omega);have x0:=wu i (by omega) 0 (by omega);rw[hfo] at c1;have x0:w.cell? (Ad fb (fo+i*4))=some (.string PK):=by rw[M9.o];exact x0
   clear g HF HS kY MO wu;go_enter Tryz.func71,Tryz.ntmps71;go_wp2_with (go_at_call 118;refine(iy.o _ bR.o).mono ?_;rintro e w1 ⟨rfl,hb1⟩;have bE:=ai (aD bR.o hb1);have cQ:=ai (bE.o.alloc bE.o.size (.cells #[I pg,I kd,I (i:Int)] 45));have d1:(w1.alloc (.cells #[I pg,I kd,I (i:Int)] 45)).cell? (Ad mb 1)=some (.slice (some (Ad fb fo)) k.frames.length a.cF):=(cQ.o.cell (p:=(Ad mb 1)) oJ).trans c1;have d2:(w1.alloc (.cells #[I pg,I kd,I (i:Int)] 45)).cell? (Ad mb 2)=some (.slice a.aL k.slots.length a.cL):=(cQ.o.cell (p:=(Ad mb 2)) oJ).trans c2;have A0:=ai (B.alloc (B.below AB.o hb1 (B.isLt AB.o)) (.cells #[I pg,I kd,I (i:Int)] 45));clear hb1)
   have xA:=(cQ.o.cell (p:=(Ad fb (fo+i*4))) hfl).trans x0;go_region;go_wp2;go_ret;exact⟨rfl,cQ.o.drew⟩
 · rw[if_neg g,if_pos g2] at M9;have kb1:(kd==1)=false:=by simpa using g
   have kb2:(kd==2)=true:=by simpa using g2
   obtain⟨l0,l1⟩:=MO.o.2 g2;obtain⟨i,rfl⟩:∃i:Nat,lc=(i:Int):=⟨lc.toNat,by omega⟩;rw[Int.toNat_natCast] at M9;obtain⟨fb,fo,hfo,hfl,wu⟩:=HS.o (by omega);have x0:=wu i (by omega) 0 (by omega);rw[hfo] at c2;have x0:w.cell? (Ad fb (fo+i*2))=some (.string PK):=by rw[M9.o];exact x0
   clear g g2 HF HS kY MO wu;go_enter Tryz.func71,Tryz.ntmps71;go_wp2_with (go_at_call 118;refine(iy.o _ bR.o).mono ?_;rintro e w1 ⟨rfl,hb1⟩;have bE:=ai (aD bR.o hb1);have cQ:=ai (bE.o.alloc bE.o.size (.cells #[I pg,I kd,I (i:Int)] 45));have d1:(w1.alloc (.cells #[I pg,I kd,I (i:Int)] 45)).cell? (Ad mb 1)=some (.slice a.aF k.frames.length a.cF):=(cQ.o.cell (p:=(Ad mb 1)) oJ).trans c1;have d2:(w1.alloc (.cells #[I pg,I kd,I (i:Int)] 45)).cell? (Ad mb 2)=some (.slice (some (Ad fb fo)) k.slots.length a.cL):=(cQ.o.cell (p:=(Ad mb 2)) oJ).trans c2;have A0:=ai (B.alloc (B.below AB.o hb1 (B.isLt AB.o)) (.cells #[I pg,I kd,I (i:Int)] 45));clear hb1)
   have xA:=(cQ.o.cell (p:=(Ad fb (fo+i*2))) hfl).trans x0;go_region;go_wp2;go_ret;exact⟨rfl,cQ.o.drew⟩
 · rw[if_neg g,if_neg g2] at M9;have kb1:(kd==1)=false:=by simpa using g
   have kb2:(kd==2)=false:=by simpa using g2
   clear g g2 HF HS MO;go_enter Tryz.func71,Tryz.ntmps71;go_wp2_with (first | (go_at_call 118;refine(iy.o _ bR.o).mono ?_;rintro e w1 ⟨rfl,hb1⟩;have bE:=ai (aD bR.o hb1);have cQ:=ai (bE.o.alloc bE.o.size (.cells #[I pg,I kd,I lc] 45));have d1:(w1.alloc (.cells #[I pg,I kd,I lc] 45)).cell? (Ad mb 1)=some (.slice a.aF k.frames.length a.cF):=(cQ.o.cell (p:=(Ad mb 1)) oJ).trans c1;have d2:(w1.alloc (.cells #[I pg,I kd,I lc] 45)).cell? (Ad mb 2)=some (.slice a.aL k.slots.length a.cL):=(cQ.o.cell (p:=(Ad mb 2)) oJ).trans c2;have A0:=ai (B.alloc (B.below AB.o hb1 (B.isLt AB.o)) (.cells #[I pg,I kd,I lc] 45));have a3:(w1.alloc (.cells #[I pg,I kd,I lc] 45)).cell? (Ad w.heap.size 3)=some (.bool z):=B.cell A0.o 3 rfl;clear hb1) | (go_at_call 119;refine(kY.o _ cQ.o).mono ?_;rintro e w2 ⟨rfl,hb2⟩;have cM:=ai (aD cQ.o hb2);clear hb2))
   go_ret;exact⟨congrArg (fun d=>Ending.returned (.string d)) M9.o.symm,cM.o⟩
def qc (k:KM.Kn) (sp p:Int):ByteArray×Int:=if cu k sp=0 then (if (AM.aR (KM.au k.aj sp.toNat).aB p).2 then (KM.dD k sp.toNat p,0) else (⟨#[]⟩,6)) else (⟨#[]⟩,cu k sp)
theorem Hh {k:KM.Kn} {sp:Int} (h:cu k sp=0):KM.dR k=0/\0<=sp/\sp<(k.aj.length:Int)/\(KM.au k.aj sp.toNat).live=true:=by
 unfold cu at h;by_cases c:KM.dR k=0
 · rw[if_pos c] at h;by_cases d:0<=sp/\sp<(k.aj.length:Int)/\(KM.au k.aj sp.toNat).live=true
   · exact⟨c,d⟩
   · rw[if_neg d] at h;cases h
 · rw[if_neg c] at h;exact absurd h c
theorem N1 (k:KM.Kn) (a:fh) (sp p:Int) (w:World) (hK:cK w a k) (hF:eB k) (hsp:M.gu sp):Calls Tryz.prog 30 #[.agg (aI a k),I sp,I p] w fun e w'=>e=.returned (.tuple #[.string (qc k sp p).1,I (qc k sp p).2])/\Below w.heap.size w w':=by
 have HO:=ai (fun V (hV:Below w.heap.size w V)=>qd k a sp V (hK.below hV) hF hsp);have bR:=ai ((Below.refl w.heap.size w).alloc (Nat.le_refl _) (.cells (aI a k) 27));by_cases hl:cu k sp=0
 · have hpt:=Hh hl;have hR:=(KM.kR k).1 hpt.1;obtain⟨j,rfl⟩:∃j:Nat,sp=(j:Int):=⟨sp.toNat,by omega⟩;have hj:j<k.aj.length:=by omega
   have s7:Hid (qc k (j:Int) p=if (AM.aR (KM.au k.aj j).aB p).2 then (KM.dD k j p,0) else (⟨#[]⟩,6)):=by show _=_;unfold qc;rw[if_pos hl,Int.toNat_natCast]
   have oh:Hid (∀V,Below w.heap.size w V->Calls Tryz.prog 69 #[.agg (aI a k),I (j:Int)] V fun e w'=>∃mb,e=.returned (.tuple #[.pointer (some (Ad mb 0)),I 0])/\w.heap.size<=mb/\w'.heap[mb]?=some (.cells (kK a k) 104 (0,0))/\Below V.heap.size V w'):=fun V hV=>(HO.o V hV).mono fun e w' ⟨hb,h⟩=>by
    rcases h with⟨_,mb,h1,h2,h3⟩ | ⟨h1,_⟩
    · exact⟨mb,h1,Nat.le_trans hV.size h2,h3,hb⟩
    · exact absurd hl h1
   have hcc:=hR.c;obtain⟨pb,po,hao,hbl,bN⟩:=hK.aj (by omega);obtain⟨va,ap,cp,_,y1,_,y3,_,_⟩:=bN j hj;obtain⟨aa,ca,sI,_⟩:=id y3;subst sI;have um:=ai (fun V (hV:Below w.heap.size w V)=>AW.qm (KM.au k.aj j).aB _ p V (y3.below hV) (hF.sp j hj).aB);have YP:=ai (fun mb V (hV:Below w.heap.size w V) (hm:V.heap[mb]?=some (.cells (kK a k) 104 (0,0))) (hp:KM.mapped k j p)=>LU k a j mb p (AM.aR (KM.au k.aj j).aB p).1 V (hK.below hV) hR hj hm hp rfl);have Ki:Hid (∀(V:World) mb,V.heap[mb]?=some (.cells (kK a k) 104 (0,0))->V.cell? (Ad mb 3)=some (.slice (some (Ad pb po)) k.aj.length a.cP)):=fun V mb h=>(B.cell (v:=.slice a.aP k.aj.length a.cP) h 3 rfl).trans (by rw[hao])
   have VF:Hid ((AM.aR (KM.au k.aj j).aB p).2=true->KM.mapped k j p):=fun h=>h
   obtain⟨⟨⟨f1,f2,f3,z⟩,ok⟩,hFN⟩:∃F,F=AM.aR (KM.au k.aj j).aB p:=⟨_,rfl⟩;rw[<- hFN] at s7 um YP VF;unfold AW.cellsOf at um YP;simp only at s7 um YP VF;have DJ:(j:Int)<(k.aj.length:Int):=by omega
   have E9:(0:Int)<=(j:Int):=by omega
   clear hFN HO hl hpt hR hK hF hsp hao bN y3 hcc;obtain⟨PR,PL⟩:=ex (qc k (j:Int) p);rw[<- PL] at s7 ⊢;clear PL;unfold aI at oh bR ⊢;cases ok with
   | false =>
    have Uz:Hid (PR=(⟨#[]⟩,6)):=s7;clear s7 YP VF;go_enter Tryz.func30,Tryz.ntmps30;go_wp2_with (first | (go_at_call 69;refine(oh.o _ bR.o).mono ?_;rintro e w1 ⟨mb,rfl,jP,hm2,hb1⟩;have VG:=ai hm2;have bE:=ai (aD bR.o hb1);have c3:=Ki.o w1 mb hm2;have c1:=(bE.o.cell (p:=(Ad pb (po+j*3+1))) hbl).trans y1;clear hb1 hm2) | (go_at_call 70;refine(um.o _ bE.o).mono ?_;rintro e w2 ⟨rfl,hb2⟩;have cM:=ai (aD bE.o hb2);have cQ:=ai (cM.o.alloc cM.o.size (.cells #[I f1,I f2,I f3,.bool z] 47));have MA:=ai (B.alloc (B.below VG.o hb2 (B.isLt VG.o)) (.cells #[I f1,I f2,I f3,.bool z] 47));clear hb2))
    go_ret2
    rw[Uz.o];exact⟨rfl,cQ.o⟩
   | true =>
    have Uz:Hid (PR=(KM.dD k j p,0)):=s7;clear s7;obtain⟨PK,hPK⟩:=ex (KM.dD k j p);rw[<- hPK] at YP Uz;clear hPK;go_enter Tryz.func30,Tryz.ntmps30;go_wp2_with (first | (go_at_call 69;refine(oh.o _ bR.o).mono ?_;rintro e w1 ⟨mb,rfl,jP,hm2,hb1⟩;have VG:=ai hm2;have bE:=ai (aD bR.o hb1);have c3:=Ki.o w1 mb hm2;have c1:=(bE.o.cell (p:=(Ad pb (po+j*3+1))) hbl).trans y1;clear hb1 hm2) | (go_at_call 70;refine(um.o _ bE.o).mono ?_;rintro e w2 ⟨rfl,hb2⟩;have cM:=ai (aD bE.o hb2);have cQ:=ai (cM.o.alloc cM.o.size (.cells #[I f1,I f2,I f3,.bool z] 47));have MA:=ai (B.alloc (B.below VG.o hb2 (B.isLt VG.o)) (.cells #[I f1,I f2,I f3,.bool z] 47));clear hb2) | (go_at_call 71;refine(YP.o mb _ cQ.o MA.o (VF.o trivial)).mono ?_;rintro e w3 ⟨rfl,hb3⟩;have ed:=ai (aD cQ.o hb3);clear hb3))
    go_ret2
    rw[Uz.o];exact⟨rfl,ed.o⟩
 · have oh:Hid (∀V,Below w.heap.size w V->Calls Tryz.prog 69 #[.agg (aI a k),I sp] V fun e w'=>e=.returned (.tuple #[.pointer none,I (cu k sp)])/\Below V.heap.size V w'):=fun V hV=>(HO.o V hV).mono fun e w' ⟨hb,h⟩=>by
    rcases h with⟨h1,_⟩ | ⟨_,h1⟩
    · exact absurd h1 hl
    · exact⟨h1,hb⟩
   have s7:Hid (qc k sp p=(⟨#[]⟩,cu k sp)):=by show _=_;unfold qc;rw[if_neg hl]
   obtain⟨PR,PL⟩:=ex (qc k sp p);rw[<- PL] at s7 ⊢;obtain⟨C,hC⟩:=ex (cu k sp);rw[<- hC] at s7 oh hl;have cb:(C != 0)=true:=by simpa using hl
   clear PL hC HO hK hF hsp hl;unfold aI at oh bR ⊢;go_enter Tryz.func30,Tryz.ntmps30;go_wp2_with (go_at_call 69;refine(oh.o _ bR.o).mono ?_;rintro e w1 ⟨rfl,hb1⟩;have bE:=ai (aD bR.o hb1);clear hb1)
   go_ret2
   rw[s7.o];exact⟨rfl,bE.o⟩
def bU (n:Int):List Value:=[I n]
def Ho (l:List Int) (i:Nat):Int:=l.getD i 0
theorem Hu (l:List Int) (x:Int) (ao:Option Addr) (cap:Nat) (w:World) (h:aZ bU 1 0 w ao l) (hl:l.length<=1000000) :
  Calls Tryz.prog 139 #[.slice ao l.length cap,I x] w fun e w'=>w'=w/\((e=.returned (I (-1))/\∀j,j<l.length->Ho l j≠x)∨∃i:Nat,i<l.length/\e=.returned (I (i:Int))/\Ho l i=x):=by
 have HH:=ai h;clear h;go_enter Tryz.func139,Tryz.ntmps139;go_wp2;go_loopw [8] (fun iv wr=>∃k:Nat,k<=l.length/\iv=I (k:Int)/\(∀j,j<k->Ho l j≠x)/\wr=w) (fun iv _=>l.length-(intOf iv).toNat)
 case atStart=>exact⟨0,by omega,rfl,fun j hj=>by omega,rfl⟩
 case round =>
  obtain⟨k,hk,rfl,hno,rfl⟩:=hrel;have jc:=ai hno;clear hno;by_cases hlt:k<l.length
  · have wj:(k:Int)<(l.length:Int):=by omega
    obtain⟨eb,eo,hao,hbl,bN⟩:=HH.o (by omega);subst hao;have y0:=bN k hlt 0 (by omega);rw[Nat.add_zero,Nat.mul_one] at y0;obtain⟨E,hE⟩:=ex (Ho l k);have x0:wr.cell? (Ad eb (eo+k))=some (I E):=by rw[hE];exact y0
    have HE:=ai hE;clear hE y0 bN;by_cases c:x=E
    · have cb:(x==E)=true:=by simpa using c
      have HC:=ai c;clear c;go_wp2;go_ret;exact⟨rfl,.inr ⟨k,hlt,rfl,by rw[<- HE.o,HC.o]⟩⟩
    · have cb:(x==E)=false:=by simpa using c
      have HC:=ai c;clear c;go_wp2;go_roundw
      case rel=>exact⟨k+1,by omega,by go_num,fun j hj=>by
       by_cases q:j=k
       · subst q;exact fun e=>HC.o (by rw[HE.o];exact e.symm)
       · exact jc.o j (by omega),trivial⟩
      case measure=>simp[intOf];omega
  · obtain rfl:k=l.length:=by omega
    go_wp2;go_ret;exact⟨rfl,.inl ⟨rfl,jc.o⟩⟩
theorem EZ (l:List Int) (x:Int):x∈l↔∃i,i<l.length/\Ho l i=x:=⟨fun h=>KM.fu 0 h,fun ⟨i,hi,e⟩=>e ▸ KM.dO hi⟩
theorem n9 (l:List Int) (x:Int) (ao:Option Addr) (cap:Nat) (w:World) (h:aZ bU 1 0 w ao l) (hl:l.length<=1000000) :
  Calls Tryz.prog 95 #[.slice ao l.length cap,I x] w fun e w'=>e=.returned (.bool (decide (x∈l)))/\w'=w:=by
 have HI:=ai (Hu l x ao cap w h hl);clear h;by_cases c:x∈l
 · have Nf:Hid (Calls Tryz.prog 139 #[.slice ao l.length cap,I x] w fun e w'=>∃i:Nat,i<l.length/\e=.returned (I (i:Int))/\w'=w):=HI.o.mono fun e w' ⟨hw,h⟩=>by
    rcases h with⟨_,hno⟩ | ⟨i,hi,he,_⟩
    · obtain⟨i,hi,e2⟩:=(EZ l x).1 c;exact absurd e2 (hno i hi)
    · exact⟨i,hi,he,hw⟩
   rw[decide_eq_true c];clear HI c;go_enter Tryz.func95,Tryz.ntmps95;go_wp2_with (go_at_call 139;refine Nf.o.mono ?_;rintro e w1 ⟨i,hi,rfl,rfl⟩;have hi0:(0:Int)<=(i:Int):=(by omega))
   go_ret;exact⟨rfl,rfl⟩
 · have Nf:Hid (Calls Tryz.prog 139 #[.slice ao l.length cap,I x] w fun e w'=>e=.returned (I (-1))/\w'=w):=HI.o.mono fun e w' ⟨hw,h⟩=>by
    rcases h with⟨he,_⟩ | ⟨i,hi,_,e2⟩
    · exact⟨he,hw⟩
    · exact absurd ((EZ l x).2 ⟨i,hi,e2⟩) c
   rw[decide_eq_false c];clear HI c;go_enter Tryz.func95,Tryz.ntmps95;go_wp2_with (go_at_call 139;refine Nf.o.mono ?_;rintro e w1 ⟨rfl,rfl⟩)
   go_ret;exact⟨rfl,rfl⟩
end KW
namespace KS
open Go.RowKit GK
open FW (ai aD)
open KW (aK aZ)
structure Lc where
 lv:Bool
 va:Value
 vp:Value
def bw (l:Lc):List Value:=[.bool l.lv,l.va,l.vp]
def kM:Lc:=⟨false,Nl,Nl⟩
def cD (l:List Lc) (k:Nat):Lc:=l.getD k kM
def blk (v:Value) (b:Nat):Prop:=v.ownBlock=some b
structure cJ (lo:Nat) (w:World) (l:Lc) (s:KM.Sp):Prop where
 live:l.lv=s.live
 aB:AW.Own lo w l.va s.aB
 aJ:w.ownsRow lo 45 3 l.vp s.aA.length (s.aA.flatMap aK)
theorem cJ.kp {lo:Nat} {w w':World} {D:Nat->Prop} {l:Lc} {s:KM.Sp} (h:cJ lo w l s) (hk:Kp D w w') (ha:∀b,blk l.va b->¬D b) (hp:∀b,blk l.vp b->¬D b):cJ lo w' l s:=⟨h.live,hk.row h.aB ha,hk.row h.aJ hp⟩
theorem cJ.mono {lo lo':Nat} {w:World} {l:Lc} {s:KM.Sp} (h:cJ lo w l s) (hl:lo'<=lo):cJ lo' w l s:=⟨h.live,h.aB.mono hl,jU h.aJ (fun g hg=>Nat.le_trans hl (h.aJ.lt g hg).1)⟩
theorem qV {α:Type} {w:World} (f:α->List Value) (k:Nat) (hf:∀x,(f x).length=k) (d:α) (l:List α) (b off:Nat) (h:∀i,i<l.length->∀j,j<k->w.cell? (Ad b (off+i*k+j))=(f (l.getD i d))[j]?):From w (some (Ad b off)) l.length (l.flatMap f):=fun hm=>by
 refine⟨_,rfl,fun j u hu=>?_⟩;have hlt:j<l.length*k:=by
  rw[<- bK f k hf l];rcases Nat.lt_or_ge j (l.flatMap f).length with g | g
  · exact g
  · rw[List.getElem?_eq_none g] at hu;cases hu
 have hk:0<k:=by
  rcases Nat.eq_zero_or_pos k with g | g
  · subst g;omega
  · exact g
 have e:j=j/k*k+j%k:=by rw[Nat.mul_comm];exact(Nat.div_add_mod j k).symm
 have h1:j/k<l.length:=(Nat.div_lt_iff_lt_mul hk).2 hlt;have h2:j%k<k:=Nat.mod_lt _ hk;have hg:=ou f k hf d l (j/k) (j%k) h1 h2;rw[<- e] at hg;rw[hg] at hu;rw[Addr.add_lit,<- hu,<- h (j/k) h1 (j%k) h2];congr 2;rw[Nat.add_assoc,<- e]
theorem zU {w:World} {ao:Option Addr} {n c:Nat} {l:List AM.Ar} (h:AW.Has w (.slice ao n c) l):n=l.length/\From w ao n (AM.bk l):=by
 obtain⟨RT,cap,e,h⟩:=h;injection e with e1 e2 e3;subst e1 e2 e3;refine⟨rfl,fun hm=>?_⟩;rcases h with h | ⟨b,off,rfl,hl⟩
 · subst h;simp at hm
 · have:=qV (w:=w) AM.four 4 (fun _=>rfl) AM.nil l b off (fun i hi j hj=>by
    obtain⟨c0,c1,c2,c3⟩:=hl i hi
    match j,hj with
    | 0,_=>exact c0
    | 1,_=>exact c1
    | 2,_=>exact c2
    | 3,_=>exact c3)
   have e:AM.bk l=l.flatMap AM.four:=by
    clear this hl hm;induction l with
    | nil=>rfl
    | cons a r ih=>rw[List.flatMap_cons,<- ih];rfl
   rw[e];exact this hm
theorem G7 {w:World} {ap:Option Addr} {l:List KM.En} (h:aZ aK 3 KM.js w ap l):From w ap l.length (l.flatMap aK):=fun hm=>by
 obtain⟨b,off,rfl,hb,hl⟩:=h hm;exact qV (w:=w) aK 3 (fun _=>rfl) KM.js l b off (fun i hi j hj=>hl i hi j hj) hm
theorem gW:∀(l:List KM.En),∀u∈l.flatMap aK,u.oneCell'=true:=fun l u hu=>by
 obtain⟨y,_,hy⟩:=List.mem_flatMap.1 hu;simp[aK] at hy;rcases hy with rfl | rfl | rfl <;> rfl
def VA (w:World) (s:KM.Sp) (e:Ending) (w':World):Prop:=∃va vp,e=.returned (.agg #[.bool s.live,va,vp])/\cJ w.heap.size w' ⟨s.live,va,vp⟩ s/\(∀b,blk vp b->¬blk va b)/\Below w.heap.size w w'
theorem zM (s:KM.Sp) (aa ap:Option Addr) (na ca cp:Nat) (w:World) (ha:AW.Has w (.slice aa na ca) s.aB) (hp:aZ aK 3 KM.js w ap s.aA) (nZ:s.aB.length<=1000000) (rH:s.aA.length<=1000000) :
  Calls Tryz.prog 86 #[.agg #[.bool s.live,.slice aa na ca,.slice ap s.aA.length cp]] w (VA w s):=by
 obtain⟨hn,WI⟩:=zU ha;have om:=ai WI;have pG:=ai (G7 hp);obtain⟨lv,iu,rp⟩:=s;simp only at hn om pG nZ rH ⊢;subst hn;have I8:=ai (AM.kU iu);have xH:=ai (bK aK 3 (fun _=>rfl) rp);have H1A:=ai (AM.jt iu);have Sn:=ai (gW rp);have bB:Hid (∀va vp (w':World),AW.Own w.heap.size w' va iu->w'.ownsRow w.heap.size 45 3 vp rp.length (rp.flatMap aK)->(∀b,blk vp b->¬blk va b)->Below w.heap.size w w'->VA w ⟨lv,iu,rp⟩ (.returned (.agg #[.bool lv,va,vp])) w'):=fun va vp w' h1 h2 h3 h4=>⟨va,vp,rfl,⟨rfl,h1,h2⟩,h3,h4⟩
 obtain⟨XA,hXA⟩:=ex (AM.bk iu);obtain⟨XP,hXP⟩:=ex (rp.flatMap aK);unfold AW.Own at bB;rw[<- hXA] at om I8 H1A bB;rw[<- hXP] at pG xH Sn bB;obtain⟨na,ZH⟩:=ex iu.length;obtain⟨np,LV⟩:=ex rp.length;rw[<- ZH] at om I8 bB nZ ⊢;rw[<- LV] at pG xH bB rH ⊢;clear WI ha hp hXA hXP ZH LV;have bR:=ai (((Below.refl w.heap.size w).alloc (Nat.le_refl _) (.cells #[.bool lv,.slice aa na ca,.slice ap np cp] 43)).alloc (by simp) (.cells #[.bool false,Nl,Nl] 43));have X0:=ai (B.alloc (B.new w #[.bool lv,.slice aa na ca,.slice ap np cp] 43) (.cells #[.bool false,Nl,Nl] 43));have Y0:Hid (((w.alloc (.cells #[.bool lv,.slice aa na ca,.slice ap np cp] 43)).alloc (.cells #[.bool false,Nl,Nl] 43)).heap[w.heap.size+1]?=some (.cells #[.bool false,Nl,Nl] 43 (0,0))):=by
  have:=B.new (w.alloc (.cells #[.bool lv,.slice aa na ca,.slice ap np cp] 43)) #[.bool false,Nl,Nl] 43;rw[World.size_alloc] at this;exact this
 go_enter Tryz.func86,Tryz.ntmps86;go_wp2;obtain⟨WA,di⟩:=ex ((w.alloc (.cells #[.bool lv,.slice aa na ca,.slice ap np cp] 43)).alloc (.cells #[.bool false,Nl,Nl] 43));rw[<- di] at bR X0 Y0 ⊢;clear di;have A7:=ai bR.o;obtain⟨xb,DG⟩:=ex w.heap.size;rw[<- DG] at X0 Y0 bR bB ⊢;have Kb:=ai DG;clear DG;have HS:Hid (∀V,Below WA.heap.size WA V->V.cell? (Ad xb 0)=some (.bool lv)/\V.cell? (Ad xb 1)=some (.slice aa na ca)/\V.cell? (Ad xb 2)=some (.slice ap np cp)):=fun V hb=>by
  have h1:=B.below X0.o hb (B.isLt X0.o);exact⟨B.cell h1 0 rfl,B.cell h1 1 rfl,B.cell h1 2 rfl⟩
 have Si:Hid (∀V,Below WA.heap.size WA V->Calls Tryz.prog 129 #[.slice aa na ca] V fun e w'=>∃a c,e=.returned (.slice a na c)/\w'.ownsRow V.heap.size 47 4 (.slice a na c) na XA/\Below V.heap.size V w'):=fun V hV=>(T5 aa na ca XA V I8.o (om.o.below (A7.o.trans (hV.mono A7.o.size))) H1A.o nZ).mono fun e w' ⟨v,h1,h2,h3⟩=>by
   obtain⟨a,c,rfl,_⟩:=aN h2;exact⟨a,c,h1,h2,h3⟩
 have Ni:Hid (∀V,Below WA.heap.size WA V->Calls Tryz.prog 130 #[.slice ap np cp] V fun e w'=>∃a c,e=.returned (.slice a np c)/\w'.ownsRow V.heap.size 45 3 (.slice a np c) np XP/\Below V.heap.size V w'):=fun V hV=>(T4 ap np cp XP V xH.o (pG.o.below (A7.o.trans (hV.mono A7.o.size))) Sn.o rH).mono fun e w' ⟨v,h1,h2,h3⟩=>by
   obtain⟨a,c,rfl,_⟩:=aN h2;exact⟨a,c,h1,h2,h3⟩
 have VD:Hid (∀V:World,(V.cell? (Ad xb 0)=some (.bool lv)/\V.cell? (Ad xb 1)=some (.slice aa na ca)/\V.cell? (Ad xb 2)=some (.slice ap np cp))->∀v0 v1 v2,(((V.setCell (Ad (xb+1) 0) v0).setCell (Ad (xb+1) 1) v1).setCell (Ad (xb+1) 2) v2).cell? (Ad xb 0)=some (.bool lv)/\(((V.setCell (Ad (xb+1) 0) v0).setCell (Ad (xb+1) 1) v1).setCell (Ad (xb+1) 2) v2).cell? (Ad xb 1)=some (.slice aa na ca)/\(((V.setCell (Ad (xb+1) 0) v0).setCell (Ad (xb+1) 1) v1).setCell (Ad (xb+1) 2) v2).cell? (Ad xb 2)=some (.slice ap np cp)):=fun V ⟨h0,h1,h2⟩ v0 v1 v2=>by
  have hne:xb≠xb+1:=by omega
  rw[cB _ _ _ _ _ _ hne,cB _ _ _ _ _ _ hne,cB _ _ _ _ _ _ hne,cB _ _ _ _ _ _ hne,cB _ _ _ _ _ _ hne,cB _ _ _ _ _ _ hne,cB _ _ _ _ _ _ hne,cB _ _ _ _ _ _ hne,cB _ _ _ _ _ _ hne];exact⟨h0,h1,h2⟩
 have je:=ai (Below.refl WA.heap.size WA).drew;have gG:=ai (HS.o _ je.o)
 go_region_held3 (fun V=>V.cell? (Ad xb 0)=some (.bool lv)/\V.cell? (Ad xb 1)=some (.slice aa na ca)/\V.cell? (Ad xb 2)=some (.slice ap np cp)) (first | exact ky.o | exact iM.o | exact gG.o | exact Xr.o _ _ _)
  (first
   | (go_at_call 129;refine(Si.o _ je.o).mono ?_;rintro e w2 ⟨a2,c2,rfl,hr2,hb2⟩;have jd:=ai (je.o.trans (hb2.mono je.o.size));have iM:=ai (HS.o _ jd.o);have Aa:=ai hr2;clear hb2 hr2)
   | (go_at_call 130;refine(Ni.o _ jd.o).mono ?_;rintro e w3 ⟨a3,c3,rfl,hr3,hb3⟩;have mC:=ai (jd.o.trans (hb3.mono jd.o.size));have ky:=ai (HS.o _ mC.o);have Gq:=ai hr3;have ed:=ai hb3;have y0:w3.cell? (Ad (xb+1) 0)=some (.bool false):=B.cell (B.below Y0.o mC.o (B.isLt Y0.o)) 0 rfl;have z0:w3.frozen? (Ad (xb+1) 0)=false:=B.free (B.below Y0.o mC.o (B.isLt Y0.o)) 0;have y1:w3.cell? (Ad (xb+1) 1)=some Nl:=B.cell (B.below Y0.o mC.o (B.isLt Y0.o)) 1 rfl;have z1:w3.frozen? (Ad (xb+1) 1)=false:=B.free (B.below Y0.o mC.o (B.isLt Y0.o)) 1;have y2:w3.cell? (Ad (xb+1) 2)=some Nl:=B.cell (B.below Y0.o mC.o (B.isLt Y0.o)) 2 rfl;have z2:w3.frozen? (Ad (xb+1) 2)=false:=B.free (B.below Y0.o mC.o (B.isLt Y0.o)) 2;have Xr:=ai (fun v0 v1 v2=>VD.o w3 ky.o v0 v1 v2);clear hb3 hr3))
 all_goals clear Xr VD HS gG iM ky Si Ni
 all_goals go_wp2
 · refine bodyPost_ret (v:=.agg #[.bool lv,.slice a2 na c2,.slice a3 np c3]) (by simp[results,Tryz.results86,go_sem,y0,y1,y2]) rfl ?_;have k3:Kp (fun b=>b=xb+1) w3 _:=nC w3 (xb+1) 0 1 2 (.bool lv) (.slice a2 na c2) (.slice a3 np c3) rfl;have l1:=B.isLt Y0.o;have l2:=A7.o.size;have l3:=jd.o.size;have hx:=Kb.o;have e2:∀g,(Value.slice a2 na c2).ownBlock=some g->WA.heap.size<=g/\g<w2.heap.size:=fun g hg=>Aa.o.lt g hg
   have e3:∀g,(Value.slice a3 np c3).ownBlock=some g->w2.heap.size<=g/\g<w3.heap.size:=fun g hg=>Gq.o.lt g hg
   have r2:=(Kp.bc (D:=fun _=>False) ed.o).row Aa.o (fun _ _ g=>g);refine bB.o _ _ _ (k3.row (jU r2 (fun g hg=>by have:=e2 g hg;omega)) (fun g hg e=>by have:=e2 g hg;omega)) (k3.row (jU Gq.o (fun g hg=>by have:=e3 g hg;omega)) (fun g hg e=>by have:=e3 g hg;omega)) (fun b h1 h2=>by have:=e2 b h2;have:=e3 b h1;omega) ?_;exact Kp.below (bR.o.trans (mC.o.mono (by omega))) k3 (by have:=mC.o.size;omega) (fun b e=>by omega)
end KS
end Go.Proofs.YtpgifpeohlllfaaGreat
