import Derived.Test.YtpgifpeohlllfaaGreatGR28
set_option maxHeartbeats 20000000
set_option linter.unusedVariables false
set_option maxRecDepth 100000
set_option linter.unusedSimpArgs false
namespace Go.Proofs.YtpgifpeohlllfaaGreat
open Go.RowKit
theorem acU (d:ByteArray) (r:Int) (x y:Bool) (V:World):(Op.equalIn 10000 40 (.agg #[.string d,I r,.bool x,.bool y]) (.agg #[.string d,I r,.bool x,.bool y])).run Tryz.prog V=.ok true V:=by
 simp[go_sem]
theorem acT (d:ByteArray) (r:Int) (V:World):(Op.equalIn 10000 86 (.agg #[.string d,I r]) (.agg #[.string d,I r])).run Tryz.prog V=.ok true V:=by
 simp[go_sem]
theorem acV (p q r:Int) (V:World):(Op.equalIn 10000 45 (.agg #[I p,I q,I r]) (.agg #[I p,I q,I r])).run Tryz.prog V=.ok true V:=by
 simp[go_sem]
theorem Zg {xs ys:List bR} (h:cW xs ys):Tw xs ys:=by
 refine⟨h.len.symm,fun k hk=>?_,fun k hk=>?_,fun k hk=>?_⟩
 · exact(pU (h.at k)).1
 · exact(pU (h.at k)).2.1
 · exact(pU (h.at k)).2.2
structure Cf (w:World) (c d:Array Value) (V:World):Prop where
 x:V.heap[w.heap.size]?=some (.cells c 27 (0,0))
 y:V.heap[w.heap.size+1]?=some (.cells d 27 (0,0))
 Nf:Below w.heap.size w V
theorem Cf.below {w V U:World} {c d:Array Value} (h:Cf w c d V) (hb:Below V.heap.size V U):Cf w c d U:=⟨aQ h.x hb (aT h.x),aQ h.y hb (aT h.y),h.Nf.trans (hb.mono h.Nf.size)⟩
theorem Eu (k:aN) (hs:List bR) (a b:fR) (w:World) (hA:gD w a k) (hB:gD w b (bN k hs)) (hS:cW k.aD hs) (hF:iI k) :
  Calls Tryz.prog 20 #[.agg (bg a k),.agg (bg b (bN k hs))] w fun e w'=>e=.returned (.bool true)/\Below w.heap.size w w':=by
 have hBs:fX w b.aS hs:=hB.aD;have hBf:cJ fB 4 eW w b.aF k.frames:=hB.frames;have hBl:cJ fA 2 jS w b.aL k.slots:=hB.slots;have hBp:qQ w b.aP k.aj:=hB.aj;have Vj:Hid (∀V,Below w.heap.size w V->Calls Tryz.prog 57 #[.slice a.aS k.aD.length a.cS,.slice b.aS hs.length b.cS] V fun e w'=>e=.returned (.bool true)/\Below V.heap.size V w'):=fun V hV=>Fz k.aD hs a.aS b.aS a.cS b.cS V (hA.aD.below hV) (hBs.below hV) (Zg hS) hF.aD.1 (fun i hi=>(hF.aD.2 i hi).cM)
 obtain⟨WA,jG⟩:=ex ((w.alloc (.cells #[.slice a.aS k.aD.length a.cS,.slice a.aF k.frames.length a.cF,.slice a.aL k.slots.length a.cL,.slice a.aP k.aj.length a.cP,I k.hand] 27)).alloc (.cells #[.slice b.aS hs.length b.cS,.slice b.aF k.frames.length b.cF,.slice b.aL k.slots.length b.cL,.slice b.aP k.aj.length b.cP,I k.hand] 27));have HT0:Hid (Cf w #[.slice a.aS k.aD.length a.cS,.slice a.aF k.frames.length a.cF,.slice a.aL k.slots.length a.cL,.slice a.aP k.aj.length a.cP,I k.hand] #[.slice b.aS hs.length b.cS,.slice b.aF k.frames.length b.cF,.slice b.aL k.slots.length b.cL,.slice b.aP k.aj.length b.cP,I k.hand] WA):=by
  rw[jG];refine⟨bM (bO w _ _) _,?_,((aK _ _).alloc (aI _) _).alloc (by simp) _⟩
  grind [bO,World.size_alloc]
 have ZI:Hid (∀V,Cf w #[.slice a.aS k.aD.length a.cS,.slice a.aF k.frames.length a.cF,.slice a.aL k.slots.length a.cL,.slice a.aP k.aj.length a.cP,I k.hand] #[.slice b.aS hs.length b.cS,.slice b.aF k.frames.length b.cF,.slice b.aL k.slots.length b.cL,.slice b.aP k.aj.length b.cP,I k.hand] V->(V.cell? (Ad w.heap.size 0)=some (.slice a.aS k.aD.length a.cS)/\V.cell? (Ad w.heap.size 1)=some (.slice a.aF k.frames.length a.cF)/\V.cell? (Ad w.heap.size 2)=some (.slice a.aL k.slots.length a.cL)/\V.cell? (Ad w.heap.size 3)=some (.slice a.aP k.aj.length a.cP)/\V.cell? (Ad w.heap.size 4)=some (I k.hand))/\(V.cell? (Ad (w.heap.size+1) 0)=some (.slice b.aS hs.length b.cS)/\V.cell? (Ad (w.heap.size+1) 1)=some (.slice b.aF k.frames.length b.cF)/\V.cell? (Ad (w.heap.size+1) 2)=some (.slice b.aL k.slots.length b.cL)/\V.cell? (Ad (w.heap.size+1) 3)=some (.slice b.aP k.aj.length b.cP)/\V.cell? (Ad (w.heap.size+1) 4)=some (I k.hand))):=fun V h=>⟨fy h.x,fy h.y⟩
 have ZF:Hid (∀V i,Below w.heap.size w V->i<k.frames.length->∃fb fo gb go,a.aF=some (Ad fb fo)/\b.aF=some (Ad gb go)/\(V.cell? (Ad fb (fo+i*4))=some (.string (au k.frames i).data)/\V.cell? (Ad fb (fo+i*4+1))=some (I (au k.frames i).refs)/\V.cell? (Ad fb (fo+i*4+2))=some (.bool (au k.frames i).eX)/\V.cell? (Ad fb (fo+i*4+3))=some (.bool (au k.frames i).seen))/\(V.cell? (Ad gb (go+i*4))=some (.string (au k.frames i).data)/\V.cell? (Ad gb (go+i*4+1))=some (I (au k.frames i).refs)/\V.cell? (Ad gb (go+i*4+2))=some (.bool (au k.frames i).eX)/\V.cell? (Ad gb (go+i*4+3))=some (.bool (au k.frames i).seen))):=fun V i hV hi=>by
  obtain⟨fb,fo,e1,e2,e3⟩:=(hA.frames.below hV) (by omega);obtain⟨gb,go,g1,g2,g3⟩:=(hBf.below hV) (by omega);have z:=e3 i hi 0 (by omega);have y:=g3 i hi 0 (by omega);rw[fW] at z y;exact⟨fb,fo,gb,go,e1,g1,⟨z,e3 i hi 1 (by omega),e3 i hi 2 (by omega),e3 i hi 3 (by omega)⟩,⟨y,g3 i hi 1 (by omega),g3 i hi 2 (by omega),g3 i hi 3 (by omega)⟩⟩
 have Mu:Hid (∀V i,Below w.heap.size w V->i<k.slots.length->∃fb fo gb go,a.aL=some (Ad fb fo)/\b.aL=some (Ad gb go)/\(V.cell? (Ad fb (fo+i*2))=some (.string (br k.slots i).data)/\V.cell? (Ad fb (fo+i*2+1))=some (I (br k.slots i).refs))/\(V.cell? (Ad gb (go+i*2))=some (.string (br k.slots i).data)/\V.cell? (Ad gb (go+i*2+1))=some (I (br k.slots i).refs))):=fun V i hV hi=>by
  obtain⟨fb,fo,e1,e2,e3⟩:=(hA.slots.below hV) (by omega);obtain⟨gb,go,g1,g2,g3⟩:=(hBl.below hV) (by omega);have z:=e3 i hi 0 (by omega);have y:=g3 i hi 0 (by omega);rw[fW] at z y;exact⟨fb,fo,gb,go,e1,g1,⟨z,e3 i hi 1 (by omega)⟩,⟨y,g3 i hi 1 (by omega)⟩⟩
 have uT:=ai hA.aj;have Vl:=ai hBp;have ZE:=ai hF.sp;have hn1:k.frames.length<=140737488351232:=hF.nf;have Fg:k.slots.length<=140737488351232:=hF.ns;have hn3:k.aj.length<=140737488351232:=hF.np;have lI:=ai jG;have ec:bg b (bN k hs)=#[.slice b.aS hs.length b.cS,.slice b.aF k.frames.length b.cF,.slice b.aL k.slots.length b.cL,.slice b.aP k.aj.length b.cP,I k.hand]:=rfl;rw[ec];unfold bg;obtain⟨X,hX⟩:∃X:Array Value,X=#[.slice a.aS k.aD.length a.cS,.slice a.aF k.frames.length a.cF,.slice a.aL k.slots.length a.cL,.slice a.aP k.aj.length a.cP,I k.hand]:=⟨_,rfl⟩;obtain⟨Y,hY⟩:∃Y:Array Value,Y=#[.slice b.aS hs.length b.cS,.slice b.aF k.frames.length b.cF,.slice b.aL k.slots.length b.cL,.slice b.aP k.aj.length b.cP,I k.hand]:=⟨_,rfl⟩;rw[<- hX,<- hY] at HT0 ZI;clear hA hB hS hF hBs hBf hBl hBp jG ec hX hY;obtain⟨⟨x0,x1,x2,x3,x4⟩,y0,y1,y2,y3,y4⟩:=ZI.o WA HT0.o;go_enter Tryz.func20,Tryz.ntmps20;go_upto_region 1 with fail;rw[<- lI.o];go_upto_region 3 with(go_at_call 57;refine(Vj.o _ HT0.o.Nf).mono ?_;rintro e w1 ⟨rfl,hb1⟩;have HT1:=ai (HT0.o.below hb1);obtain⟨⟨x0,x1,x2,x3,x4⟩,y0,y1,y2,y3,y4⟩:=ZI.o w1 HT1.o;clear hb1)
 clear x0 x1 x2 x3 x4 y0 y1 y2 y3 y4 HT0 Vj;go_wp2;go_loopw [5] (fun iv wq=>∃i:Nat,i<=k.frames.length/\iv=I (i:Int)/\Cf w X Y wq) (fun iv _=>k.frames.length-(intOf iv).toNat)
 case atStart=>grind [Hid.o]
 case round =>
  obtain⟨i,hi,rfl,ht⟩:=hrel;have HT:=ai ht;obtain⟨⟨x0,x1,x2,x3,x4⟩,y0,y1,y2,y3,y4⟩:=ZI.o wr ht;by_cases hlt:i<k.frames.length
  · have Dw:(i:Int)<(k.frames.length:Int):=by omega
    obtain⟨fb,fo,gb,go,e1,e2,⟨z0,z1,z2,z3⟩,⟨v0,v1,v2,v3⟩⟩:=ZF.o wr i ht.Nf hlt;rw[e1] at x1;rw[e2] at y1;obtain⟨f,hf⟩:=ex (au k.frames i);rw[<- hf] at z0 z1 z2 z3 v0 v1 v2 v3;obtain⟨d,r,p,q⟩:=f;simp only at z0 z1 z2 z3 v0 v1 v2 v3;have hEQ:=acU d r p q;have HTD:=ai (fun n=>ht.below (ko (aK wr.heap.size wr) n));clear ht hf e1 e2 ZF Mu uT Vl ZE HT1;go_wp2
    go_quiet (fail)
    go_wp2;go_roundw
    case rel=>exact⟨i+1,by omega,by go_num,HTD.o _⟩
    grind [intOf]
  · obtain rfl:k.frames.length=i:=by omega
    clear ZF ht hlt;go_wp2;go_loopw [6] (fun iv wq=>∃i:Nat,i<=k.slots.length/\iv=I (i:Int)/\Cf w X Y wq) (fun iv _=>k.slots.length-(intOf iv).toNat)
    case atStart=>exact⟨0,by omega,rfl,HT.o⟩
    case round =>
     obtain⟨i,hi,rfl,ht⟩:=hrel;have HT2:=ai ht;obtain⟨⟨x0,x1,x2,x3,x4⟩,y0,y1,y2,y3,y4⟩:=ZI.o wr ht;by_cases hlt:i<k.slots.length
     · have Dw:(i:Int)<(k.slots.length:Int):=by omega
       obtain⟨fb,fo,gb,go,e1,e2,⟨z0,z1⟩,⟨v0,v1⟩⟩:=Mu.o wr i ht.Nf hlt;rw[e1] at x2;rw[e2] at y2;obtain⟨f,hf⟩:=ex (br k.slots i);rw[<- hf] at z0 z1 v0 v1;obtain⟨d,r⟩:=f;simp only at z0 z1 v0 v1;have hEQ:=acT d r;have HTD:=ai (fun n=>ht.below (ko (aK wr.heap.size wr) n));clear ht hf e1 e2 Mu uT Vl ZE;go_wp2
       go_quiet (fail)
       go_wp2;go_roundw
       case rel=>exact⟨i+1,by omega,by go_num,HTD.o _⟩
       case measure=>simp[intOf];omega
     · obtain rfl:k.slots.length=i:=by omega
       clear Mu ht hlt;go_wp2;go_loopw [7] (fun iv wq=>∃i:Nat,i<=k.aj.length/\iv=I (i:Int)/\Cf w X Y wq) (fun iv _=>k.aj.length-(intOf iv).toNat)
       case atStart=>exact⟨0,by omega,rfl,HT2.o⟩
       case round =>
        obtain⟨i,hi,rfl,ht⟩:=hrel;have HT3:=ai ht;obtain⟨⟨x0,x1,x2,x3,x4⟩,y0,y1,y2,y3,y4⟩:=ZI.o wr ht;by_cases hlt:i<k.aj.length
        · have Dw:(i:Int)<(k.aj.length:Int):=by omega
          obtain⟨pb,po,hao,hbl,eI⟩:=(uT.o.below ht.Nf) (by omega);obtain⟨qb,qo,hao',asI,adS⟩:=(Vl.o.below ht.Nf) (by omega);obtain⟨va,ap,cp,e0,e1,e2,e3,e4,e5⟩:=eI i hlt;obtain⟨vb,aq,cq,g0,g1,g2,g3,g4,g5⟩:=adS i hlt;have Dx:=ZE.o i hlt;obtain⟨s,hss⟩:=ex (ak k.aj i);rw[<- hss] at e0 e2 e3 e4 e5 g0 g2 g3 g4 g5 Dx;obtain⟨lv,pH,aU⟩:=s;simp only at e0 e2 e3 e4 e5 g0 g2 g3 g4 g5;obtain⟨aa,na,ca,rfl⟩:=Sb e3;obtain⟨ab,nb,cb,rfl⟩:=Sb g3;have HE3:=ai e3;have HE4:=ai e4;have HG3:=ai g3;have HG4:=ai g4;have HFK:=ai Dx;rw[hao] at x3;rw[hao'] at y3;have l1:=aT ht.y;have l0:=aT ht.x;have l2:¬w.heap.size=wr.heap.size:=by omega
          have l3:¬w.heap.size+1=wr.heap.size:=by omega
          have l4:¬pb=wr.heap.size:=by omega
          have l5:¬qb=wr.heap.size:=by omega
          clear e3 e4 e5 g3 g4 g5 eI adS hss Dx ht uT Vl ZE hao hao';have q1:Hid (((wr.alloc (.cells #[.bool lv,.slice aa na ca,.slice ap aU.length cp] 43)).alloc (.cells #[.bool lv,.slice ab nb cb,.slice aq aU.length cq] 43)).heap[wr.heap.size]?=some (.cells #[.bool lv,.slice aa na ca,.slice ap aU.length cp] 43 (0,0))):=bM (bO wr #[.bool lv,.slice aa na ca,.slice ap aU.length cp] 43) _;have q2:Hid (((wr.alloc (.cells #[.bool lv,.slice aa na ca,.slice ap aU.length cp] 43)).alloc (.cells #[.bool lv,.slice ab nb cb,.slice aq aU.length cq] 43)).heap[wr.heap.size+1]?=some (.cells #[.bool lv,.slice ab nb cb,.slice aq aU.length cq] 43 (0,0))):=by
           have:=bO (wr.alloc (.cells #[.bool lv,.slice aa na ca,.slice ap aU.length cp] 43)) #[.bool lv,.slice ab nb cb,.slice aq aU.length cq] 43;rw[ig] at this;exact this
          have q3:Hid (((wr.alloc (.cells #[.bool lv,.slice ab nb cb,.slice aq aU.length cq] 43)).alloc (.cells #[.bool lv,.slice aa na ca,.slice ap aU.length cp] 43)).heap[wr.heap.size]?=some (.cells #[.bool lv,.slice ab nb cb,.slice aq aU.length cq] 43 (0,0))):=bM (bO wr #[.bool lv,.slice ab nb cb,.slice aq aU.length cq] 43) _;have q4:Hid (((wr.alloc (.cells #[.bool lv,.slice ab nb cb,.slice aq aU.length cq] 43)).alloc (.cells #[.bool lv,.slice aa na ca,.slice ap aU.length cp] 43)).heap[wr.heap.size+1]?=some (.cells #[.bool lv,.slice aa na ca,.slice ap aU.length cp] 43 (0,0))):=by
           have:=bO (wr.alloc (.cells #[.bool lv,.slice ab nb cb,.slice aq aU.length cq] 43)) #[.bool lv,.slice aa na ca,.slice ap aU.length cp] 43;rw[ig] at this;exact this
          have q5:Hid (Below wr.heap.size wr ((wr.alloc (.cells #[.bool lv,.slice aa na ca,.slice ap aU.length cp] 43)).alloc (.cells #[.bool lv,.slice ab nb cb,.slice aq aU.length cq] 43)).drew):=(((aK wr.heap.size wr).alloc (aI _) (.cells #[.bool lv,.slice aa na ca,.slice ap aU.length cp] 43)).alloc (by simp) (.cells #[.bool lv,.slice ab nb cb,.slice aq aU.length cq] 43)).drew;have q6:Hid (Below wr.heap.size wr ((wr.alloc (.cells #[.bool lv,.slice ab nb cb,.slice aq aU.length cq] 43)).alloc (.cells #[.bool lv,.slice aa na ca,.slice ap aU.length cp] 43)).drew):=(((aK wr.heap.size wr).alloc (aI _) (.cells #[.bool lv,.slice ab nb cb,.slice aq aU.length cq] 43)).alloc (by simp) (.cells #[.bool lv,.slice aa na ca,.slice ap aU.length cp] 43)).drew;go_upto_region 16 with fail;go_cut [8,9] (fun x6 x7 wx=>∃g h:Nat,x6=.pointer (some (Ad g 0))/\x7=.pointer (some (Ad h 0))/\wx.heap[g]?=some (.cells #[.bool lv,.slice aa na ca,.slice ap aU.length cp] 43 (0,0))/\wx.heap[h]?=some (.cells #[.bool lv,.slice ab nb cb,.slice aq aU.length cq] 43 (0,0))/\Below wr.heap.size wr wx)
          case first =>
           go_region
           all_goals
            go_wp2_with fail
            go_meet
            case rel=>first | exact⟨_,_,rfl,rfl,q1.out,q2.out,q5.out⟩ | exact⟨_,_,rfl,rfl,q4.out,q3.out,q6.out⟩
          case rest =>
           obtain⟨g,h,rfl,rfl,hg,hh,hbc⟩:=hcut;obtain⟨WR,hWR⟩:=ex wr;subst hWR;have HSA:Hid (∀V,Below WR.heap.size WR V->Calls Tryz.prog 58 #[.slice aa na ca,.slice ab nb cb] V fun e w'=>e=.returned (.bool true)/\Below V.heap.size V w'):=fun V hV=>(Jn pH pH _ _ V (HE3.o.below hV) (HG3.o.below hV) HFK.o.bk.2 HFK.o.bk.2).mono fun e w' ⟨r,h1,h2,h3⟩=>by
            simp_all
           have hlp:aU.length<=140737488351232:=HFK.o.aU;have Dm:=ai hbc;have HGC:=ai hg;have HHC:=ai hh;obtain⟨f0,f1,f2⟩:=nV hg;obtain⟨f3,f4,f5⟩:=nV hh;clear hg hh hbc q1 q2 q3 q4 q5 q6 e0 e1 e2 g0 g1 g2 l1 l0 l2 l3 l4 l5 x0 x1 x2 x3 x4 y0 y1 y2 y3 y4;go_wp2_with (go_at_call 58;refine(HSA.o _ Dm.o).mono ?_;rintro e w3 ⟨rfl,hb3⟩;have kJ:=ai (Dm.o.trans (hb3.mono Dm.o.size));have agb:=ai (aQ HGC.o hb3 (aT HGC.o));have aga:=ai (aQ HHC.o hb3 (aT HHC.o));clear hb3;have f6:w3.cell? (Ad g 2)=some (.slice ap aU.length cp):=aB agb.o 2 rfl;have f7:w3.cell? (Ad h 2)=some (.slice aq aU.length cq):=aB aga.o 2 rfl)
           clear f0 f1 f2 f3 f4 f5;go_loopw [10] (fun iv wi=>∃m:Nat,m<=aU.length/\iv=I (m:Int)/\wi.heap[g]?=some (.cells #[.bool lv,.slice aa na ca,.slice ap aU.length cp] 43 (0,0))/\wi.heap[h]?=some (.cells #[.bool lv,.slice ab nb cb,.slice aq aU.length cq] 43 (0,0))/\Below WR.heap.size WR wi) (fun iv _=>aU.length-(intOf iv).toNat)
           case atStart=>exact⟨0,by omega,rfl,agb.o,aga.o,kJ.o⟩
           case round =>
            obtain⟨m,hm,rfl,hg,hh,hbi⟩:=hrel;have HGi:=ai hg;have HHi:=ai hh;have UL:=ai hbi;have f2:wr.cell? (Ad g 2)=some (.slice ap aU.length cp):=aB hg 2 rfl;have f5:wr.cell? (Ad h 2)=some (.slice aq aU.length cq):=aB hh 2 rfl;clear hg hh HSA agb aga kJ f6 f7;by_cases hmt:m<aU.length
            · obtain⟨bp,aeB,hap,asH,acn⟩:=(HE4.o.below hbi) (show 0<aU.length by omega);obtain⟨bq,aeA,haq,asG,YS⟩:=(HG4.o.below hbi) (show 0<aU.length by omega);rw[hap] at f2;rw[haq] at f5;have z0:=acn m hmt 0 (by omega);have z1:=acn m hmt 1 (by omega);have z2:=acn m hmt 2 (by omega);have v0:=YS m hmt 0 (by omega);have v1:=YS m hmt 1 (by omega);have v2:=YS m hmt 2 (by omega);rw[fW] at z0 v0;obtain⟨z,hz⟩:=ex (aU.getD m dW);rw[<- hz] at z0 z1 z2 v0 v1 v2;obtain⟨p,q,r⟩:=z;replace z0:wr.cell? (Ad bp (aeB+m*3))=some (I p):=z0;replace z1:wr.cell? (Ad bp (aeB+m*3+1))=some (I q):=z1;replace z2:wr.cell? (Ad bp (aeB+m*3+2))=some (I r):=z2;replace v0:wr.cell? (Ad bq (aeA+m*3))=some (I p):=v0;replace v1:wr.cell? (Ad bq (aeA+m*3+1))=some (I q):=v1;replace v2:wr.cell? (Ad bq (aeA+m*3+2))=some (I r):=v2;have hEQ:=acV p q r;have hmi:(m:Int)<(aU.length:Int):=by omega
              have HGD:=ai (fun n=>aQ HGi.o (ko (aK wr.heap.size wr) n) (aT HGi.o));have HHD:=ai (fun n=>aQ HHi.o (ko (aK wr.heap.size wr) n) (aT HHi.o));have ET:=ai (fun n=>ko UL.o n);clear hz acn YS hbi hap haq HGi HHi UL;go_wp2
              go_quiet (fail)
              go_wp2;go_roundw
              case rel=>exact⟨m+1,by omega,by go_num,HGD.o _,HHD.o _,ET.o _⟩
              case measure=>simp[intOf];omega
            · obtain rfl:aU.length=m:=by omega
              have Bh:=ai (HT3.o.below hbi);clear hbi hmt;go_wp2;go_roundw
              case rel=>exact⟨i+1,by omega,by go_num,Bh.o⟩
              case measure=>simp[intOf];omega
        · obtain rfl:k.aj.length=i:=by omega
          have J0:=ai ht.Nf;clear ht;go_wp2;go_ret;exact⟨rfl,J0.o⟩
open Go.RowKit
theorem GN {s:bR} (h:cu s=true):vD s:=by
 unfold cu jY at h;rw[cR,gP] at h;obtain⟨⟨h1,h2,h3⟩,hf⟩:=h;have hl:=mq _ _ hf;refine⟨⟨by omega,by omega⟩,by unfold bT;omega,by unfold bT;omega,fun k hk=>?_⟩;have all:∀n,dn s.cM n=true->∀i,i<n->dn s.cM i=true/\vB (l9 s.cM i) (ki s.cM i)=true:=fun n=>by
  induction n with
  | zero=>intro _ i hi;omega
  | succ n ih =>
   intro hn i hi;simp only[dn,cR] at hn;by_cases c:i=n
   · rw[c];exact hn
   · exact ih hn.1 i (by omega)
 obtain⟨g1,g2⟩:=all _ hf k hk;have g3:=mq _ _ g1;unfold vB at g2;rw[gP] at g2;exact⟨⟨by omega,by omega⟩,by unfold bT;omega⟩
theorem DX {hs:List bR} (h:ed hs=true) (hl:hs.length<=255):nk hs:=⟨by unfold bT;omega,fun k hk=>GN (ng hs hs.length h k hk).1⟩
theorem o5 {k:aN} (h:bc k):iI k:=by
 have hc:=h.c;obtain⟨r1,r2⟩:=oL h;have hh:=h.hand;refine⟨DX h.kP (by omega),by unfold bT;omega,fun i hi=>⟨?_,?_⟩,by unfold bT;omega,fun i hi=>⟨?_,?_⟩,by unfold bT;omega,fun i hi=>⟨?_,?_,fun n hn=>?_⟩,⟨by omega,by omega⟩⟩
 · have f:=h.yS i hi;unfold bT;by_cases c:ck k.aj 1 i=[]
   · rw[f.zero c];exact oO _
   · rw[f.size c];decide
 · have:=r1 i hi;exact⟨by omega,by omega⟩
 · have f:=h.slt i hi;unfold bT;by_cases c:ck k.aj 2 i=[]
   · rw[f.zero c];exact oO _
   · rw[f.size c];decide
 · have:=r2 i hi;exact⟨by omega,by omega⟩
 · exact lC _ (h.sp hi).bk
 · have:=iZ h hi;unfold bT;omega
 · have s:=h.sp hi;have he:aH (ak k.aj i).aU n∈(ak k.aj i).aU:=jc hn;obtain⟨e1,e2⟩:=s.Hf _ he;have e3:=pC s.bk e1;rcases e2 with⟨e4,e5,e6⟩ | ⟨e4,e5,e6⟩
   · exact⟨⟨by omega,by omega⟩,by rw[e4];exact⟨by decide,by decide⟩,⟨by omega,by omega⟩⟩
   · exact⟨⟨by omega,by omega⟩,by rw[e4];exact⟨by decide,by decide⟩,⟨by omega,by omega⟩⟩
theorem CF {lo:Nat} {w:World} {S:dE} {k:aN} (h:Kr lo w S k):∃a,#[S.vS,S.vF,S.vL,S.vP,I k.hand]=bg a k/\∀U,aM (fun b=>b<lo) w U->gD U a k:=by
 obtain⟨a,p,_⟩:=h.has;refine⟨a,by unfold bg;rw[p.eS,p.eF,p.eL,p.eP],fun U hU=>?_⟩;obtain⟨a',p',ha⟩:=(h.kp hU (fun b hb e=>by have:=(h.rV b hb).1;omega)).has;have e1:=p.eS.symm.trans p'.eS;have e2:=p.eF.symm.trans p'.eF;have e3:=p.eL.symm.trans p'.eL;have e4:=p.eP.symm.trans p'.eP;injection e1 with q1 _ q2;injection e2 with q3 _ q4;injection e3 with q5 _ q6;injection e4 with q7 _ q8;have:a'=a:=by
  cases a;cases a';simp only at q1 q2 q3 q4 q5 q6 q7 q8;subst q1 q2 q3 q4 q5 q6 q7 q8;rfl
 rw[<- this];exact ha
def acZ (w:World) (k:aN) (vs:List Value) (e:Ending) (w':World):Prop:=∃hs a,cW k.aD hs/\e=.returned (.tuple (Value.agg (bg a (bN k hs))::vs).toArray)/\(∀U,aM (fun b=>b<w.heap.size) w' U->gD U a (bN k hs))/\Below w.heap.size w w'
theorem Uy {w:World} {k:aN} {vs:List Value} {e:Ending} {w':World} (h:dg w k vs e w'):acZ w k vs e w':=by
 obtain⟨S,hs,h1,h2,h3,h4⟩:=h;obtain⟨a,e1,e2⟩:=CF h3;exact⟨hs,a,h1,by rw[h2,<- e1];rfl,e2,h4⟩
open Go.RowKit
def gH (k:aN) (sp a n way:Int):aN×ByteArray×(Int×Int)×Int:=if eB k sp n way [0,2]≠0 then (dK,⟨#[]⟩,(0,0),eB k sp n way [0,2]) else if (eV (ak k.aj sp.toNat).bk a n way).1≠0 then (dK,⟨#[]⟩,eV (ak k.aj sp.toNat).bk a n way,0) else ((aW k sp.toNat a n way).2,qR k sp.toNat a n way,(0,0),0)
theorem VV (V:World):cJ dN 1 0 (V.alloc (.cells #[I 0,I 2] 3)) (some (Ad V.heap.size 0)) [0,2]:=fun _=>by
 have h:=bO V #[I 0,I 2] 3;refine⟨V.heap.size,0,rfl,aT h,fun i hi j hj=>?_⟩;obtain rfl:j=0:=by omega
 have hi:i<2:=hi;rcases(show i=0∨i=1 by omega) with rfl | rfl
 · exact aB h 0 rfl
 · exact aB h 1 rfl
theorem TC (Hk:sG) (k:aN) (a:fR) (sp ad n way:Int) (w:World) (hK:gD w a k) (hF:iI k) (hsp:eY sp) (had:eY ad) :
  Calls Tryz.prog 25 #[.agg (bg a k),I sp,I ad,I n,I way] w (dg w (gH k sp ad n way).1 [.string (gH k sp ad n way).2.1,.agg #[I (gH k sp ad n way).2.2.1.1,I (gH k sp ad n way).2.2.1.2],I (gH k sp ad n way).2.2.2]):=by
 obtain⟨WA,jG⟩:=ex (((w.alloc (.cells (bg a k) 27)).alloc (.cells #[Nl,Nl,Nl,Nl,I 0] 27)).alloc (.cells #[I 0,I 0] 36));have hb0:Below w.heap.size w WA:=by rw[jG];exact(((aK _ _).alloc (aI _) _).alloc (by simp) _).alloc (by simp;omega) _
 have kb:WA.heap[w.heap.size]?=some (.cells (bg a k) 27 (0,0)):=by grind [bM,bO]
 have rb:WA.heap[w.heap.size+1]?=some (.cells #[Nl,Nl,Nl,Nl,I 0] 27 (0,0)):=by
  grind [bM,bO,World.size_alloc]
 have fb:WA.heap[w.heap.size+1+1]?=some (.cells #[I 0,I 0] 36 (0,0)):=by
  grind [bO,World.size_alloc]
 have hsz:WA.heap.size=w.heap.size+3:=by simp_all
 obtain⟨WB,Tc⟩:=ex (WA.alloc (.cells #[I 0,I 2] 3));have hb1:Below w.heap.size w WB:=by grind [Below.alloc]
 have hrow:cJ dN 1 0 WB (some (Ad WA.heap.size 0)) [0,2]:=by grind [VV]
 have KS:WB.heap.size=w.heap.size+4:=by simp_all
 have RB:Hid (∀V,Below WB.heap.size WB V->V.heap[w.heap.size+1]?=some (.cells #[Nl,Nl,Nl,Nl,I 0] 27 (0,0))):=fun V hb=>aQ (by grind [bM]) hb (by omega)
 have FB:Hid (∀V,Below WB.heap.size WB V->V.heap[w.heap.size+1+1]?=some (.cells #[I 0,I 0] 36 (0,0))):=fun V hb=>aQ (by grind [bM]) hb (by omega)
 have k0:WA.cell? (Ad w.heap.size 0)=some (.slice a.aS k.aD.length a.cS):=aB kb 0 rfl;have k1:WA.cell? (Ad w.heap.size 1)=some (.slice a.aF k.frames.length a.cF):=aB kb 1 rfl;have k2:WA.cell? (Ad w.heap.size 2)=some (.slice a.aL k.slots.length a.cL):=aB kb 2 rfl;have k3:WA.cell? (Ad w.heap.size 3)=some (.slice a.aP k.aj.length a.cP):=aB kb 3 rfl;have k4:WA.cell? (Ad w.heap.size 4)=some (I k.hand):=aB kb 4 rfl;have lI:=ai jG;have Zw:=ai Tc;have dz:=ai hb1;by_cases c:eB k sp n way [0,2]=0
 · obtain⟨hlv,hn,hwy⟩:=vH c;obtain⟨hR,Jy,hj,tv⟩:=pA hlv;obtain⟨j,hje⟩:∃j:Nat,sp=(j:Int):=⟨sp.toNat,by omega⟩;subst hje;rw[jn] at hj tv;have vY:=ai (yr Hk k a (j:Int) n way [0,2] (some (Ad WA.heap.size 0)) 2 WB (hK.below hb1) hF hsp hrow (by simp) c);rw[show([0,2]:List Int).length=2 from rfl] at vY;have Ff:w.heap.size+1≠w.heap.size+1+1:=by omega
   have HLB:=ai (show w.heap.size+1+1<WB.heap.size by omega);by_cases hf:(eV (ak k.aj j).bk ad n way).1=0
   · obtain⟨Vw,hal,hau,hmap⟩:=nQ hn.1 hn.2 hf;have rZ:dx k j (ad/16):=by
      have:=hmap 0 (by omega) (by omega);rw[CU] at this;exact this
     have hm2:dx k j (cD ad n):=by
      have:=hmap (n-1) (by omega) (by omega);unfold cD;rw[show ad+n-1=ad+(n-1) by omega];exact this
     have RH:=nz hR hj ad n way rZ hm2;have ZR:=RH.kept.aD;have hcc:=hR.c;have YP:0<(aW k j ad n way).2.frames.length:=by rw[RH.kept.nf];omega
     have KT:(aW k j ad n way).1.length<=2:=by
      rw[(xQ k j ad n way).2.2];unfold mg
      grind
     have JE:∀m,m<(aW k j ad n way).1.length->(aW k j ad n way).1.getD m 0<(aW k j ad n way).2.frames.length:=fun m hm=>by
      rw[RH.kept.nf];by_cases z:cD ad n=ad/16
      · have e:(aW k j ad n way).1=[(eH k j ad way).1]:=by unfold aW;rw[aR z]
        rw[e] at hm ⊢;have hm:m<1:=hm;obtain rfl:m=0:=by omega
        exact RH.one.2
      · have e:(aW k j ad n way).1=[(eH k j ad way).1,(ir k j ad n way).1]:=by unfold aW;rw[bf z]
        rw[e] at hm ⊢;have hm:m<2:=hm;rcases(show m=0∨m=1 by omega) with rfl | rfl
        · exact RH.one.2
        · exact(RH.two z).2
     have SN:∀m,m<(aW k j ad n way).1.length->(au (aW k j ad n way).2.frames ((aW k j ad n way).1.getD m 0)).data.size<=1000:=fun m hm=>by
      have hi:=JE m hm;by_cases z:(au (aW k j ad n way).2.frames ((aW k j ad n way).1.getD m 0)).refs=0
      · have:=(RH.right.yS _ hi).zero ((RH.right.yS _ hi).nil z);rw[this];show(0:Nat)<=1000;omega
      · have:=(RH.right.yS _ hi).size ((RH.right.yS _ hi).ne z);omega
     have hPg:CA (dO k j) ad n:=⟨qu hR hj rZ,qu hR hj hm2⟩;have hfit:=Cr hPg hn.1 hn.2;have hjs:=vT hPg hn.1 hn.2;have II:=yz hR hj ad n way rZ hm2;have HPT:Hid (∀V,Calls Tryz.prog 63 #[.string (gK (aW k j ad n way).2.frames (aW k j ad n way).1 (aW k j ad n way).1.length),I (((ad%16).toNat:Nat):Int),I n] V fun e w'=>e=.returned (.tuple #[.string (qR k j ad n way),I 0])/\Below V.heap.size V w'):=fun V=>by
      have:=CL (gK (aW k j ad n way).2.frames (aW k j ad n way).1 (aW k j ad n way).1.length) (ad%16).toNat n.toNat V (by rw[II];omega) (by rw[II];omega);rw[show((n.toNat:Nat):Int)=n by omega] at this;exact this
     have aeI:ad.tmod 16=(((ad%16).toNat:Nat):Int):=by
      rw[P6 (by omega)];omega
     have hA:gH k (j:Int) ad n way=((aW k j ad n way).2,qR k j ad n way,(0,0),0):=by
      unfold gH;rw[bf (fun x=>x c),jn,bf (fun x=>x hf)]
     rw[hA];have rD:Hid (∀V S mb hs,cW k.aD hs->bu WB.heap.size mb 104 (gI k) V S (bN k hs)->Below w.heap.size w V->V.heap[w.heap.size+1]?=some (.cells #[Nl,Nl,Nl,Nl,I 0] 27 (0,0))->V.heap[w.heap.size+1+1]?=some (.cells #[I 0,I 0] 36 (0,0))->Calls Tryz.prog 52 #[.pointer (some (Ad mb 0)),I (j:Int),I ad,I n,I way] V fun e w'=>∃av nv cv aS nS cS aF nF cF aL nL cL aP nP cP hd,e=.returned (.tuple #[.slice av nv cv,.agg #[I 0,I 0]])/\w'.cell? (Ad mb 0)=some (.slice aS nS cS)/\w'.cell? (Ad mb 1)=some (.slice aF nF cF)/\w'.cell? (Ad mb 2)=some (.slice aL nL cL)/\w'.cell? (Ad mb 3)=some (.slice aP nP cP)/\w'.cell? (Ad mb 4)=some (I hd)/\mb<w'.heap.size/\(∀V',Below w'.heap.size w' V'->Calls Tryz.prog 64 #[.pointer (some (Ad mb 0)),.slice av nv cv] V' fun e w''=>e=.returned (.string (gK (aW k j ad n way).2.frames (aW k j ad n way).1 (aW k j ad n way).1.length))/\w''=V')/\w'.heap[w.heap.size+1]?=some (.cells #[Nl,Nl,Nl,Nl,I 0] 27 (0,0))/\w'.heap[w.heap.size+1+1]?=some (.cells #[I 0,I 0] 36 (0,0))/\Below w.heap.size w w'/\(∀U,aM (fun b=>b=w.heap.size+1∨b=w.heap.size+1+1) w' U->dg w (aW k j ad n way).2 [.string (qR k j ad n way),.agg #[I 0,I 0],I 0] (.returned (.tuple #[.agg #[.slice aS nS cS,.slice aF nF cF,.slice aL nL cL,.slice aP nP cP,I hd],.string (qR k j ad n way),.agg #[I 0,I 0],I 0])) U)):=fun V S mb hs hsame hV hbV hrV hfV=>by
      have hR':=hR.Du hsame;refine(yt (bN k hs) S V j ad n way hV hR' hj had hn hf (BC hR.kP hsame)).mono fun e w' ⟨av,cv,S',e1,wk,hk',hc'⟩=>?_
      rw[wU hR hj rZ hsame] at hk' e1 wk;have Dr:∀b,b<WB.heap.size->S.lab b=.no:=fun b hb=>xE.1 fun x=>by have:=(hV.rV b x).1;omega
      have KU:=HLB.o;obtain⟨aS,cS,eS,_⟩:=aY hk'.aD;obtain⟨aF,cF,eF,_⟩:=aY hk'.frames;obtain⟨aL,cL,eL,_⟩:=aY hk'.slots;obtain⟨aP,cP,eP,_⟩:=aY hk'.aj;have c0:=hk'.c0;have c1:=hk'.c1;have c2:=hk'.c2;have c3:=hk'.c3;rw[eS] at c0;rw[eF] at c1;rw[eL] at c2;rw[eP] at c3;have hbl:Below w.heap.size w w':=aM.below hbV hc'.kp hbV.size (fun b hb=>by have:=(hV.rV b hb).1;omega);refine⟨av,_,cv,aS,_,cS,aF,_,cF,aL,_,cL,aP,_,cP,_,e1,c0,c1,c2,c3,hk'.c4,hk'.lt,fun V' hb'=>?_,hc'.keep hrV (Dr _ (by omega)),hc'.keep hfV (Dr _ KU),hbl,fun U hU=>⟨S',hs,by rw[ZR];omega,by rw[eS,eF,eL,eP];rfl,?_,?_⟩⟩
      · exact IY (bN (aW k j ad n way).2 hs) S' V' (aW k j ad n way).1 av cv (hk'.below hb') (wk.ch (bU.below hb')) (fun m hm=>JE m hm) KT (fun m hm=>SN m hm) YP
      · exact(hk'.toKr.kp hU (fun b hb e=>hb (hc'.no b (by have:=aT hfV;omega) (Dr b (by omega))))).mono (by omega)
      · exact aM.below hbl hU hbl.size (fun b e=>by omega)
     obtain⟨P,hP⟩:=ex (dg w (aW k j ad n way).2 [.string (qR k j ad n way),.agg #[I 0,I 0],I 0]);rw[<- hP] at rD;obtain⟨LD,hLD⟩:=ex (qR k j ad n way);rw[<- hLD] at rD HPT;obtain⟨JD,hJD⟩:=ex (gK (aW k j ad n way).2.frames (aW k j ad n way).1 (aW k j ad n way).1.length);rw[<- hJD] at rD HPT;obtain⟨md,hmd⟩:=ex ((ad%16).toNat);rw[<- hmd] at HPT aeI;show Calls _ _ _ _ (dg w (aW k j ad n way).2 [.string (qR k j ad n way),.agg #[I 0,I 0],I 0]);rw[<- hP];have vX:Hid (Calls Tryz.prog 51 #[.agg (bg a k),I (j:Int),I n,I way,.slice (some (Ad WA.heap.size 0)) 2 2] WB fun e w'=>∃mb S hs,e=.returned (.tuple #[.pointer (some (Ad mb 0)),I 0])/\cW k.aD hs/\bu WB.heap.size mb 104 (gI k) w' S (bN k hs)/\Below WB.heap.size WB w'):=vY.o;unfold bg at vX lI ⊢;clear hK hF hsp had hA c hP jG Tc hb0 hb1 kb rb fb hrow hsz KS vY hf Vw hal hau hmap rZ hm2 ZR hR hlv hn hwy hj tv Jy RH hcc YP KT JE SN hPg hfit hjs II hLD hJD hmd;go_enter Tryz.func25,Tryz.ntmps25;go_upto_region 1 with fail;rw[<- lI.o];go_upto_region 7 with(first
      | (go_at_call 51;rw[<- Zw.o];refine vX.o.mono ?_;rintro e w1 ⟨mb,S1,hs1,rfl,hs2,hk1,hb1⟩;have gj:=ai (dz.o.trans (hb1.mono dz.o.size));have R1:=ai (RB.o _ hb1);have F1:=ai (FB.o _ hb1);have vZ:=ai hk1;have jP:=ai hs2;clear hb1 hk1 hs2)
      | (go_at_call 52;refine(rD.o _ _ _ _ jP.o vZ.o gj.o R1.o F1.o).mono ?_;rintro e w2 ⟨av,nv,cv,aS,nS,cS,aF,nF,cF,aL,nL,cL,aP,nP,cP,hd,rfl,m0,m1,m2,m3,m4,yT,hjo,hr2,hf2,hb2,hfin⟩;have HJO:=ai hjo;clear hjo;have R2:=ai hr2;have F2:=ai hf2;have qK:=ai hfin;have X2:=ai (bO w2 #[I 0,I 0] 36);obtain⟨x0,x1⟩:=nM X2.o;clear hr2 hf2 hb2 hfin))
     have R3:=ai (bM R2.o (.cells #[I 0,I 0] 36));have F3:=ai (bM F2.o (.cells #[I 0,I 0] 36));have HA:=ai ((aK w2.heap.size w2).alloc (aI _) (.cells #[I 0,I 0] 36));have p0:=(HA.o.cell (p:=(Ad mb 0)) yT).trans m0;have p1:=(HA.o.cell (p:=(Ad mb 1)) yT).trans m1;have p2:=(HA.o.cell (p:=(Ad mb 2)) yT).trans m2;have p3:=(HA.o.cell (p:=(Ad mb 3)) yT).trans m3;have p4:=(HA.o.cell (p:=(Ad mb 4)) yT).trans m4;obtain⟨W3,hW3⟩:=ex (w2.alloc (.cells #[I 0,I 0] 36));rw[<- hW3] at R3 F3 HA p0 p1 p2 p3 p4 ⊢;clear hW3 m0 m1 m2 m3 m4 x0 x1;obtain⟨y0,y1,y2,y3,y4⟩:=fy R3.o;obtain⟨z0,z1⟩:=nM F3.o;have f0:=aO R3.o 0;have f1:=aO R3.o 1;have f2:=aO R3.o 2;have f3:=aO R3.o 3;have f4:=aO R3.o 4;have g0:=aO F3.o 0;have g1:=aO F3.o 1;have h7:=ai (fun V=>uj R3.o F3.o Ff (.slice aS nS cS) (.slice aF nF cF) (.slice aL nL cL) (.slice aP nP cP) (I hd) (I 0) (I 0) (V:=V));go_wp2_with (first
      | (go_at_call 64;refine(HJO.o _ HA.o).mono ?_;rintro e w4 ⟨rfl,rfl⟩)
      | (go_at_call 63;refine(HPT.o _).mono ?_;rintro e w5 ⟨rfl,Bk⟩;have EJ:=ai Bk;have R5:=ai (aQ R3.o Bk (aT R3.o));have F5:=ai (aQ F3.o Bk (aT F3.o));have HML:mb<w4.heap.size:=iH yT HA.o.size;have p0:=(Bk.cell (p:=(Ad mb 0)) HML).trans p0;have p1:=(Bk.cell (p:=(Ad mb 1)) HML).trans p1;have p2:=(Bk.cell (p:=(Ad mb 2)) HML).trans p2;have p3:=(Bk.cell (p:=(Ad mb 3)) HML).trans p3;have p4:=(Bk.cell (p:=(Ad mb 4)) HML).trans p4;obtain⟨y0,y1,y2,y3,y4⟩:=fy R5.o;obtain⟨z0,z1⟩:=nM F5.o;have f0:=aO R5.o 0;have f1:=aO R5.o 1;have f2:=aO R5.o 2;have f3:=aO R5.o 3;have f4:=aO R5.o 4;have g0:=aO F5.o 0;have g1:=aO F5.o 1;clear Bk))
     have h7:=ai (fun V=>uj R5.o F5.o Ff (.slice aS nS cS) (.slice aF nF cF) (.slice aL nL cL) (.slice aP nP cP) (I hd) (I 0) (I 0) (V:=V));obtain⟨q1,q2,q3⟩:=h7.out _ rfl;obtain⟨y0,y1,y2,y3,y4⟩:=fy q1;obtain⟨z0,z1⟩:=nM q2;refine cm (v:=.tuple #[.agg #[.slice aS nS cS,.slice aF nF cF,.slice aL nL cL,.slice aP nP cP,I hd],.string LD,.agg #[I 0,I 0],I 0]) (by simp[results,Tryz.results25,go_sem,y0,y1,y2,y3,y4,z0,z1]) rfl ?_;exact qK.o _ (((aM.cH HA.o).trans (aM.cH EJ.o) (fun _ _ g=>g)).trans q3 (fun _ _ g=>g))
   · have hA:gH k (j:Int) ad n way=(dK,⟨#[]⟩,eV (ak k.aj j).bk ad n way,0):=by
      unfold gH
      grind
     rw[hA];obtain⟨FA,hFA⟩:=ex (eV (ak k.aj j).bk ad n way);have rD:Hid (∀V S mb hs,cW k.aD hs->bu WB.heap.size mb 104 (gI k) V S (bN k hs)->Calls Tryz.prog 52 #[.pointer (some (Ad mb 0)),I (j:Int),I ad,I n,I way] V fun e w'=>e=.returned (.tuple #[Nl,.agg #[I FA.1,I FA.2]])/\Below V.heap.size V w'):=fun V S mb hs hsame hV=>by
      rw[hFA];exact wL (bN k hs) S V j ad n way hV (hR.Du hsame) hj had hn hf
     rw[<- hFA] at hf ⊢;have Ef:(FA.1 != 0)=true:=by grind
     have vX:Hid (Calls Tryz.prog 51 #[.agg (bg a k),I (j:Int),I n,I way,.slice (some (Ad WA.heap.size 0)) 2 2] WB fun e w'=>∃mb S hs,e=.returned (.tuple #[.pointer (some (Ad mb 0)),I 0])/\cW k.aD hs/\bu WB.heap.size mb 104 (gI k) w' S (bN k hs)/\Below WB.heap.size WB w'):=vY.o;obtain⟨f0,f1⟩:=FA;simp only at rD Ef ⊢;have cV:Hid (∀V,Below w.heap.size w V->dg w dK [.string ⟨#[]⟩,.agg #[I f0,I f1],I 0] (.returned (.tuple #[.agg #[Nl,Nl,Nl,Nl,I 0],.string ⟨#[]⟩,.agg #[I f0,I f1],I 0])) V):=fun V hV=>oJ _ hV
     obtain⟨P,hP⟩:=ex (dg w dK [.string ⟨#[]⟩,.agg #[I f0,I f1],I 0]);rw[<- hP] at cV ⊢;unfold bg at vX lI ⊢;clear hK hF hsp had hA c hP jG Tc hb0 hb1 kb rb fb hrow hsz KS vY hf hR hlv hn hwy hj tv Jy hFA;go_enter Tryz.func25,Tryz.ntmps25;go_upto_region 1 with fail;rw[<- lI.o];go_upto_region 6 with(first
      | (go_at_call 51;rw[<- Zw.o];refine vX.o.mono ?_;rintro e w1 ⟨mb,S1,hs1,rfl,hs2,hk1,hb1⟩;have gj:=ai (dz.o.trans (hb1.mono dz.o.size));have R1:=ai (RB.o _ hb1);have F1:=ai (FB.o _ hb1);have vZ:=ai hk1;have jP:=ai hs2;clear hb1 hk1 hs2)
      | (go_at_call 52;refine(rD.o _ _ _ _ jP.o vZ.o).mono ?_;rintro e w2 ⟨rfl,hb2⟩;have R2:=ai (aQ R1.o hb2 (aT R1.o));have F2:=ai (aQ F1.o hb2 (aT F1.o));have kJ:=ai (gj.o.trans (hb2.mono gj.o.size));have X2:=ai (bO w2 #[I f0,I f1] 36);obtain⟨x0,x1⟩:=nM X2.o;clear hb2))
     have R3:=ai (bM R2.o (.cells #[I f0,I f1] 36));have F3:=ai (bM F2.o (.cells #[I f0,I f1] 36));have pZ:=ai (kJ.o.alloc kJ.o.size (.cells #[I f0,I f1] 36));have hl3:=aT F2.o;obtain⟨W3,hW3⟩:=ex (w2.alloc (.cells #[I f0,I f1] 36));rw[<- hW3] at R3 F3 pZ x0 x1 ⊢;clear hW3;obtain⟨y0,y1,y2,y3,y4⟩:=fy R3.o;obtain⟨z0,z1⟩:=nM F3.o;have e0:=aO R3.o 0;have e1:=aO R3.o 1;have e2:=aO R3.o 2;have e3:=aO R3.o 3;have e4:=aO R3.o 4;have g0:=aO F3.o 0;have g1:=aO F3.o 1;have h7:=ai (fun V=>uj R3.o F3.o Ff Nl Nl Nl Nl (I 0) (I f0) (I f1) (V:=V));go_region;go_wp2;obtain⟨q1,q2,q3⟩:=h7.out _ rfl;obtain⟨y0,y1,y2,y3,y4⟩:=fy q1;obtain⟨z0,z1⟩:=nM q2;refine cm (v:=.tuple #[.agg #[Nl,Nl,Nl,Nl,I 0],.string ⟨#[]⟩,.agg #[I f0,I f1],I 0]) (by simp[results,Tryz.results25,go_sem,y0,y1,y2,y3,y4,z0,z1]) rfl ?_;exact cV.o _ (aM.below pZ.o (q3.trans (aM.drew _ _) (fun _ _ g=>g)) pZ.o.size (fun b e=>by omega))
 · have hA:gH k sp ad n way=(dK,⟨#[]⟩,(0,0),eB k sp n way [0,2]):=by unfold gH;grind
   rw[hA];have vY:=ai (wK k a sp n way [0,2] (some (Ad WA.heap.size 0)) 2 WB (hK.below hb1) hF hsp hrow (by simp) c);rw[show([0,2]:List Int).length=2 from rfl] at vY;obtain⟨C,hC⟩:=ex (eB k sp n way [0,2]);rw[<- hC] at vY c ⊢;have cb:(C != 0)=true:=by grind
   have cV:Hid (∀V,Below w.heap.size w V->dg w dK [.string ⟨#[]⟩,.agg #[I 0,I 0],I C] (.returned (.tuple #[.agg #[Nl,Nl,Nl,Nl,I 0],.string ⟨#[]⟩,.agg #[I 0,I 0],I C])) V):=fun V hV=>oJ _ hV
   obtain⟨P,hP⟩:=ex (dg w dK [.string ⟨#[]⟩,.agg #[I 0,I 0],I C]);rw[<- hP] at cV ⊢;unfold bg at vY lI ⊢;clear hK hF hsp had hA hC c hP jG Tc hb0 hb1 kb rb fb hrow hsz KS;go_enter Tryz.func25,Tryz.ntmps25;go_upto_region 1 with fail;rw[<- lI.o];go_upto_region 3 with(go_at_call 51;rw[<- Zw.o];refine vY.o.mono ?_;rintro e w1 ⟨rfl,hb1⟩;have gj:=ai (dz.o.trans (hb1.mono dz.o.size));have R1:=ai (RB.o _ hb1);have F1:=ai (FB.o _ hb1);clear hb1)
   obtain⟨y0,y1,y2,y3,y4⟩:=fy R1.o;obtain⟨z0,z1⟩:=nM F1.o;have f0:=aO R1.o 0;have f1:=aO R1.o 1;have f2:=aO R1.o 2;have f3:=aO R1.o 3;have f4:=aO R1.o 4;have g0:=aO F1.o 0;have g1:=aO F1.o 1;have h7:=ai (fun V=>uj R1.o F1.o (by omega) Nl Nl Nl Nl (I 0) (I 0) (I 0) (V:=V));go_wp2;obtain⟨q1,q2,q3⟩:=h7.out _ rfl;obtain⟨y0,y1,y2,y3,y4⟩:=fy q1;obtain⟨z0,z1⟩:=nM q2;refine cm (v:=.tuple #[.agg #[Nl,Nl,Nl,Nl,I 0],.string ⟨#[]⟩,.agg #[I 0,I 0],I C]) (by simp[results,Tryz.results25,go_sem,y0,y1,y2,y3,y4,z0,z1]) rfl ?_;exact cV.o _ (aM.below gj.o q3 gj.o.size (fun b e=>by omega))
end Go.Proofs.YtpgifpeohlllfaaGreat
