import Derived.Test.YtlgoihmkgaaemaaGreatGP33
set_option maxHeartbeats 20000000
set_option linter.unusedVariables false
set_option maxRecDepth 100000
set_option linter.unusedSimpArgs false
namespace Go.Proofs.YtlgoihmkgaaemaaGreat
open Go.RowKit Tryz
theorem akK (d:ByteArray) (r:Int) (x y:Bool) (V:World):(Op.equalIn 10000 169 (.agg #[.string d,I r,.bool x,.bool y]) (.agg #[.string d,I r,.bool x,.bool y])).run prog V=.ok true V:=by
 simp[go_sem]
theorem akJ (d:ByteArray) (r:Int) (V:World):(Op.equalIn 10000 171 (.agg #[.string d,I r]) (.agg #[.string d,I r])).run prog V=.ok true V:=by
 simp[go_sem]
theorem akL (p q r:Int) (V:World):(Op.equalIn 10000 174 (.agg #[I p,I q,I r]) (.agg #[I p,I q,I r])).run prog V=.ok true V:=by
 simp[go_sem]
theorem agh {xs ys:List bD} (h:cD xs ys):aai xs ys:=by
 refine⟨h.len.symm,λk hk=>?_,λk hk=>?_,λk hk=>?_⟩
 . exact(tF (h.at k)).1
 . exact(tF (h.at k)).2.1
 exact(tF (h.at k)).2.2
structure Gk (w:World) (c d:Array Value) (V:World):Prop where
 x:V.heap[w.heap.size]?=some (.cells c 30 (0,0))
 y:V.heap[w.heap.size+1]?=some (.cells d 30 (0,0))
 Tq:Below w.heap.size w V
theorem Gk.below {w V U:World} {c d:Array Value} (h:Gk w c d V) (hb:Below V.heap.size V U):Gk w c d U:=⟨aO h.x hb (aM h.x),aO h.y hb (aM h.y),h.Tq.trans (hb.mono h.Tq.size)⟩
theorem JO (k:aT) (hs:List bD) (a b:gN) (w:World) (hA:iB w a k) (hB:iB w b (aV k hs)) (hS:cD k.aD hs) (hF:kN k) :
  Calls prog 39 #[.agg (bj a k),.agg (bj b (aV k hs))] w λe w'=>e=.returned (.bool true)/\Below w.heap.size w w':=by
 have a9:gz w b.aS hs:=hB.aD;have a5:dE gu 4 eG w b.aF k.frames:=hB.frames;have a0:dE gq 2 gP w b.aL k.slots:=hB.slots;have a7:su w b.aP k.aj:=hB.aj;have ae:Hid (∀V,Below w.heap.size w V->Calls prog 85 #[.slice a.aS k.aD.length a.cS,.slice b.aS hs.length b.cS] V λe w'=>e=.returned (.bool true)/\Below V.heap.size V w'):=λV hV=>KQ k.aD hs a.aS b.aS a.cS b.cS V (hA.aD.below hV) (a9.below hV) (agh hS) hF.aD.1 (λi hi=>(hF.aD.2 i hi).df)
 obtain⟨WA,lQ⟩:=ex ((w.alloc (.cells #[.slice a.aS k.aD.length a.cS,.slice a.aF k.frames.length a.cF,.slice a.aL k.slots.length a.cL,.slice a.aP k.aj.length a.cP,I k.hand] 30)).alloc (.cells #[.slice b.aS hs.length b.cS,.slice b.aF k.frames.length b.cF,.slice b.aL k.slots.length b.cL,.slice b.aP k.aj.length b.cP,I k.hand] 30));have F:Hid (Gk w #[.slice a.aS k.aD.length a.cS,.slice a.aF k.frames.length a.cF,.slice a.aL k.slots.length a.cL,.slice a.aP k.aj.length a.cP,I k.hand] #[.slice b.aS hs.length b.cS,.slice b.aF k.frames.length b.cF,.slice b.aL k.slots.length b.cL,.slice b.aP k.aj.length b.cP,I k.hand] WA):=by
  rw[lQ];refine⟨bB (bG w _ _) _,?_,((aN _ _).alloc (aJ _) _).alloc ξ _⟩
  grind [bG,World.size_alloc]
 have A:Hid (∀V,Gk w #[.slice a.aS k.aD.length a.cS,.slice a.aF k.frames.length a.cF,.slice a.aL k.slots.length a.cL,.slice a.aP k.aj.length a.cP,I k.hand] #[.slice b.aS hs.length b.cS,.slice b.aF k.frames.length b.cF,.slice b.aL k.slots.length b.cL,.slice b.aP k.aj.length b.cP,I k.hand] V->(V.cell? (Ad w.heap.size 0)=some (.slice a.aS k.aD.length a.cS)/\V.cell? (Ad w.heap.size 1)=some (.slice a.aF k.frames.length a.cF)/\V.cell? (Ad w.heap.size 2)=some (.slice a.aL k.slots.length a.cL)/\V.cell? (Ad w.heap.size 3)=some (.slice a.aP k.aj.length a.cP)/\V.cell? (Ad w.heap.size 4)=some (I k.hand))/\(V.cell? (Ad (w.heap.size+1) 0)=some (.slice b.aS hs.length b.cS)/\V.cell? (Ad (w.heap.size+1) 1)=some (.slice b.aF k.frames.length b.cF)/\V.cell? (Ad (w.heap.size+1) 2)=some (.slice b.aL k.slots.length b.cL)/\V.cell? (Ad (w.heap.size+1) 3)=some (.slice b.aP k.aj.length b.cP)/\V.cell? (Ad (w.heap.size+1) 4)=some (I k.hand))):=λV h=>⟨kj h.x,kj h.y⟩
 have VL:Hid (∀V i,Below w.heap.size w V->i<k.frames.length->∃fb fo gb go,a.aF=some (Ad fb fo)/\b.aF=some (Ad gb go)/\(V.cell? (Ad fb (fo+i*4))=some (.string (aK k.frames i).data)/\V.cell? (Ad fb (fo+i*4+1))=some (I (aK k.frames i).refs)/\V.cell? (Ad fb (fo+i*4+2))=some (.bool (aK k.frames i).ja)/\V.cell? (Ad fb (fo+i*4+3))=some (.bool (aK k.frames i).seen))/\(V.cell? (Ad gb (go+i*4))=some (.string (aK k.frames i).data)/\V.cell? (Ad gb (go+i*4+1))=some (I (aK k.frames i).refs)/\V.cell? (Ad gb (go+i*4+2))=some (.bool (aK k.frames i).ja)/\V.cell? (Ad gb (go+i*4+3))=some (.bool (aK k.frames i).seen))):=λV i hV hi=>by
  obtain⟨fb,fo,e1,e2,e3⟩:=(hA.frames.below hV) ω;obtain⟨gb,go,g1,g2,g3⟩:=(a5.below hV) ω;have z:=e3 i hi 0 ω;have y:=g3 i hi 0 ω;rw[jt] at z y;exact⟨fb,fo,gb,go,e1,g1,⟨z,e3 i hi 1 ω,e3 i hi 2 ω,e3 i hi 3 ω⟩,⟨y,g3 i hi 1 ω,g3 i hi 2 ω,g3 i hi 3 ω⟩⟩
 have VF:Hid (∀V i,Below w.heap.size w V->i<k.slots.length->∃fb fo gb go,a.aL=some (Ad fb fo)/\b.aL=some (Ad gb go)/\(V.cell? (Ad fb (fo+i*2))=some (.string (bI k.slots i).data)/\V.cell? (Ad fb (fo+i*2+1))=some (I (bI k.slots i).refs))/\(V.cell? (Ad gb (go+i*2))=some (.string (bI k.slots i).data)/\V.cell? (Ad gb (go+i*2+1))=some (I (bI k.slots i).refs))):=λV i hV hi=>by
  obtain⟨fb,fo,e1,e2,e3⟩:=(hA.slots.below hV) ω;obtain⟨gb,go,g1,g2,g3⟩:=(a0.below hV) ω;have z:=e3 i hi 0 ω;have y:=g3 i hi 0 ω;rw[jt] at z y;exact⟨fb,fo,gb,go,e1,g1,⟨z,e3 i hi 1 ω⟩,⟨y,g3 i hi 1 ω⟩⟩
 have Yr:=ai hA.aj;have J:=ai a7;have L:=ai hF.sp;have MO:k.frames.length<=140737488351232:=hF.nf;have Br:k.slots.length<=140737488351232:=hF.ns;have aX:k.aj.length<=140737488351232:=hF.np;have ot:=ai lQ;have ec:bj b (aV k hs)=#[.slice b.aS hs.length b.cS,.slice b.aF k.frames.length b.cF,.slice b.aL k.slots.length b.cL,.slice b.aP k.aj.length b.cP,I k.hand]:=rfl;rw[ec];unfold bj;obtain⟨X,hX⟩:∃X:Array Value,X=#[.slice a.aS k.aD.length a.cS,.slice a.aF k.frames.length a.cF,.slice a.aL k.slots.length a.cL,.slice a.aP k.aj.length a.cP,I k.hand]:=⟨_,rfl⟩;obtain⟨Y,hY⟩:∃Y:Array Value,Y=#[.slice b.aS hs.length b.cS,.slice b.aF k.frames.length b.cF,.slice b.aL k.slots.length b.cL,.slice b.aP k.aj.length b.cP,I k.hand]:=⟨_,rfl⟩;rw[<- hX,<- hY] at F A;clear hA hB hS hF a9 a5 a0 a7 lQ ec hX hY;obtain⟨⟨x0,x1,x2,x3,x4⟩,y0,y1,y2,y3,y4⟩:=A.o WA F.o;go_enter func39,ntmps39;go_upto_region 1 with fail;rw[<- ot.o];go_upto_region 3 with(go_at_call 85;refine(ae.o _ F.o.Tq).mono ?_;rintro e w1 ⟨rfl,a3⟩;have af:=ai (F.o.below a3);obtain⟨⟨x0,x1,x2,x3,x4⟩,y0,y1,y2,y3,y4⟩:=A.o w1 af.o;clear a3);clear x0 x1 x2 x3 x4 y0 y1 y2 y3 y4 F ae;go_wp2;go_loopw [5] (λiv wq=>∃i:Nat,i<=k.frames.length/\iv=I (i:Int)/\Gk w X Y wq) (λiv _=>k.frames.length-(intOf iv).toNat)
 case atStart=>grind [Hid.o]
 case round =>
  obtain⟨i,hi,rfl,ht⟩:=hrel;have HT:=ai ht;obtain⟨⟨x0,x1,x2,x3,x4⟩,y0,y1,y2,y3,y4⟩:=A.o wr ht;by_cases hlt:i<k.frames.length
  . have ad:(i:Int)<(k.frames.length:Int):=by omega
    obtain⟨fb,fo,gb,go,e1,e2,⟨z0,z1,z2,z3⟩,⟨v0,v1,v2,v3⟩⟩:=VL.o wr i ht.Tq hlt;rw[e1] at x1;rw[e2] at y1;generalize aK k.frames i=f at z0 z1 z2 z3 v0 v1 v2 v3;obtain⟨d,r,p,q⟩:=f;simp only at z0 z1 z2 z3 v0 v1 v2 v3;have a6:=akK d r p q;have O:=ai (λn=>ht.below (lJ (aN wr.heap.size wr) n));clear ht e1 e2 VL VF Yr J L af;go_wp2
    go_quiet (fail)
    go_wp2;go_roundw
    case rel=>exact⟨i+1,ω,by go_num,O.o _⟩
    grind [intOf]
  obtain rfl:k.frames.length=i:=by omega
  clear VL ht hlt;go_wp2;go_loopw [6] (λiv wq=>∃i:Nat,i<=k.slots.length/\iv=I (i:Int)/\Gk w X Y wq) (λiv _=>k.slots.length-(intOf iv).toNat)
  case atStart=>exact⟨0,ω,rfl,HT.o⟩
  case round =>
   obtain⟨i,hi,rfl,ht⟩:=hrel;have au:=ai ht;obtain⟨⟨x0,x1,x2,x3,x4⟩,y0,y1,y2,y3,y4⟩:=A.o wr ht;by_cases hlt:i<k.slots.length
   . have ad:(i:Int)<(k.slots.length:Int):=by omega
     obtain⟨fb,fo,gb,go,e1,e2,⟨z0,z1⟩,⟨v0,v1⟩⟩:=VF.o wr i ht.Tq hlt;rw[e1] at x2;rw[e2] at y2;generalize bI k.slots i=f at z0 z1 v0 v1;obtain⟨d,r⟩:=f;simp only at z0 z1 v0 v1;have a6:=akJ d r;have O:=ai (λn=>ht.below (lJ (aN wr.heap.size wr) n));clear ht e1 e2 VF Yr J L;go_wp2
     go_quiet (fail)
     go_wp2;go_roundw
     case rel=>exact⟨i+1,ω,by go_num,O.o _⟩
     case measure=>simp[intOf];omega
   obtain rfl:k.slots.length=i:=by omega
   clear VF ht hlt;go_wp2;go_loopw [7] (λiv wq=>∃i:Nat,i<=k.aj.length/\iv=I (i:Int)/\Gk w X Y wq) (λiv _=>k.aj.length-(intOf iv).toNat)
   case atStart=>exact⟨0,ω,rfl,au.o⟩
   case round =>
    obtain⟨i,hi,rfl,ht⟩:=hrel;have az:=ai ht;obtain⟨⟨x0,x1,x2,x3,x4⟩,y0,y1,y2,y3,y4⟩:=A.o wr ht;by_cases hlt:i<k.aj.length
    . have ad:(i:Int)<(k.aj.length:Int):=by omega
      obtain⟨pb,po,a2,aY,dZ⟩:=(Yr.o.below ht.Tq) ω;obtain⟨qb,qo,N,aH,NR⟩:=(J.o.below ht.Tq) ω;obtain⟨va,ap,cp,e0,e1,e2,e3,e4,e5⟩:=dZ i hlt;obtain⟨vb,aq,cq,g0,g1,g2,g3,g4,g5⟩:=NR i hlt;have Pc:=L.o i hlt;generalize ak k.aj i=s at e0 e2 e3 e4 e5 g0 g2 g3 g4 g5 Pc;obtain⟨lv,xy,bl⟩:=s;simp only at e0 e2 e3 e4 e5 g0 g2 g3 g4 g5;obtain⟨aa,na,ca,rfl⟩:=Zc e3;obtain⟨ab,nb,cb,rfl⟩:=Zc g3;have ao:=ai e3;have am:=ai e4;have ay:=ai g3;have aw:=ai g4;have ZG:=ai Pc;rw[a2] at x3;rw[N] at y3;have l1:=aM ht.y;have l0:=aM ht.x;have l2:¬w.heap.size=wr.heap.size:=by omega
      have l3:¬w.heap.size+1=wr.heap.size:=by omega
      have l4:¬pb=wr.heap.size:=by omega
      have l5:¬qb=wr.heap.size:=by omega
      clear e3 e4 e5 g3 g4 g5 dZ NR Pc ht Yr J L a2 N;have q1:Hid (((wr.alloc (.cells #[.bool lv,.slice aa na ca,.slice ap bl.length cp] 99)).alloc (.cells #[.bool lv,.slice ab nb cb,.slice aq bl.length cq] 99)).heap[wr.heap.size]?=some (.cells #[.bool lv,.slice aa na ca,.slice ap bl.length cp] 99 (0,0))):=bB (bG wr #[.bool lv,.slice aa na ca,.slice ap bl.length cp] 99) _;have q2:Hid (((wr.alloc (.cells #[.bool lv,.slice aa na ca,.slice ap bl.length cp] 99)).alloc (.cells #[.bool lv,.slice ab nb cb,.slice aq bl.length cq] 99)).heap[wr.heap.size+1]?=some (.cells #[.bool lv,.slice ab nb cb,.slice aq bl.length cq] 99 (0,0))):=by
       have:=bG (wr.alloc (.cells #[.bool lv,.slice aa na ca,.slice ap bl.length cp] 99)) #[.bool lv,.slice ab nb cb,.slice aq bl.length cq] 99;rw[fp] at this;exact this
      have q3:Hid (((wr.alloc (.cells #[.bool lv,.slice ab nb cb,.slice aq bl.length cq] 99)).alloc (.cells #[.bool lv,.slice aa na ca,.slice ap bl.length cp] 99)).heap[wr.heap.size]?=some (.cells #[.bool lv,.slice ab nb cb,.slice aq bl.length cq] 99 (0,0))):=bB (bG wr #[.bool lv,.slice ab nb cb,.slice aq bl.length cq] 99) _;have q4:Hid (((wr.alloc (.cells #[.bool lv,.slice ab nb cb,.slice aq bl.length cq] 99)).alloc (.cells #[.bool lv,.slice aa na ca,.slice ap bl.length cp] 99)).heap[wr.heap.size+1]?=some (.cells #[.bool lv,.slice aa na ca,.slice ap bl.length cp] 99 (0,0))):=by
       have:=bG (wr.alloc (.cells #[.bool lv,.slice ab nb cb,.slice aq bl.length cq] 99)) #[.bool lv,.slice aa na ca,.slice ap bl.length cp] 99;rw[fp] at this;exact this
      have q5:Hid (Below wr.heap.size wr ((wr.alloc (.cells #[.bool lv,.slice aa na ca,.slice ap bl.length cp] 99)).alloc (.cells #[.bool lv,.slice ab nb cb,.slice aq bl.length cq] 99)).drew):=(((aN wr.heap.size wr).alloc (aJ _) (.cells #[.bool lv,.slice aa na ca,.slice ap bl.length cp] 99)).alloc ξ (.cells #[.bool lv,.slice ab nb cb,.slice aq bl.length cq] 99)).drew;have q6:Hid (Below wr.heap.size wr ((wr.alloc (.cells #[.bool lv,.slice ab nb cb,.slice aq bl.length cq] 99)).alloc (.cells #[.bool lv,.slice aa na ca,.slice ap bl.length cp] 99)).drew):=(((aN wr.heap.size wr).alloc (aJ _) (.cells #[.bool lv,.slice ab nb cb,.slice aq bl.length cq] 99)).alloc ξ (.cells #[.bool lv,.slice aa na ca,.slice ap bl.length cp] 99)).drew;go_upto_region 16 with fail;go_cut [8,9] (λx6 x7 wx=>∃g h:Nat,x6=.pointer (some (Ad g 0))/\x7=.pointer (some (Ad h 0))/\wx.heap[g]?=some (.cells #[.bool lv,.slice aa na ca,.slice ap bl.length cp] 99 (0,0))/\wx.heap[h]?=some (.cells #[.bool lv,.slice ab nb cb,.slice aq bl.length cq] 99 (0,0))/\Below wr.heap.size wr wx)
      case first =>
       go_region
       all_goals
        go_wp2_with fail
        go_meet
        case rel=>first | exact⟨_,_,rfl,rfl,q1.out,q2.out,q5.out⟩ | exact⟨_,_,rfl,rfl,q4.out,q3.out,q6.out⟩
      case rest =>
       obtain⟨g,h,rfl,rfl,hg,hh,a8⟩:=hcut;obtain⟨WR,ar⟩:=ex wr;subst ar;have ac:Hid (∀V,Below WR.heap.size WR V->Calls prog 86 #[.slice aa na ca,.slice ab nb cb] V λe w'=>e=.returned (.bool true)/\Below V.heap.size V w'):=λV hV=>(OT xy xy _ _ V (ao.o.below hV) (ay.o.below hV) ZG.o.bu.2 ZG.o.bu.2).mono λe w' ⟨r,h1,h2,h3⟩=>by
        simp_all
       have b0:bl.length<=140737488351232:=ZG.o.bl;have ZI:=ai a8;have a4:=ai hg;have al:=ai hh;obtain⟨f0,f1,f2⟩:=uo hg;obtain⟨f3,f4,f5⟩:=uo hh;clear hg hh a8 q1 q2 q3 q4 q5 q6 e0 e1 e2 g0 g1 g2 l1 l0 l2 l3 l4 l5 x0 x1 x2 x3 x4 y0 y1 y2 y3 y4;go_wp2_with (go_at_call 86;refine(ac.o _ ZI.o).mono ?_;rintro e w3 ⟨rfl,K⟩;have kE:=ai (ZI.o.trans (K.mono ZI.o.size));have T:=ai (aO a4.o K (aM a4.o));have W:=ai (aO al.o K (aM al.o));clear K;have f6:w3.cell? (Ad g 2)=some (.slice ap bl.length cp):=aA T.o 2 rfl;have f7:w3.cell? (Ad h 2)=some (.slice aq bl.length cq):=aA W.o 2 rfl);clear f0 f1 f2 f3 f4 f5;go_loopw [10] (λiv wi=>∃m:Nat,m<=bl.length/\iv=I (m:Int)/\wi.heap[g]?=some (.cells #[.bool lv,.slice aa na ca,.slice ap bl.length cp] 99 (0,0))/\wi.heap[h]?=some (.cells #[.bool lv,.slice ab nb cb,.slice aq bl.length cq] 99 (0,0))/\Below WR.heap.size WR wi) (λiv _=>bl.length-(intOf iv).toNat)
       case atStart=>exact⟨0,ω,rfl,T.o,W.o,kE.o⟩
       case round =>
        obtain⟨m,hm,rfl,hg,hh,B⟩:=hrel;have R:=ai hg;have U:=ai hh;have ah:=ai B;have f2:wr.cell? (Ad g 2)=some (.slice ap bl.length cp):=aA hg 2 rfl;have f5:wr.cell? (Ad h 2)=some (.slice aq bl.length cq):=aA hh 2 rfl;clear hg hh ac T W kE f6 f7;by_cases hmt:m<bl.length
        . obtain⟨bp,Z,a1,aQ,M⟩:=(am.o.below B) (ω:0<bl.length);obtain⟨bq,Q,ag,aG,G⟩:=(aw.o.below B) (ω:0<bl.length);rw[a1] at f2;rw[ag] at f5;have z0:=M m hmt 0 ω;have z1:=M m hmt 1 ω;have z2:=M m hmt 2 ω;have v0:=G m hmt 0 ω;have v1:=G m hmt 1 ω;have v2:=G m hmt 2 ω;rw[jt] at z0 v0;generalize bl.getD m gJ=z at z0 z1 z2 v0 v1 v2;obtain⟨p,q,r⟩:=z;replace z0:wr.cell? (Ad bp (Z+m*3))=some (I p):=z0;replace z1:wr.cell? (Ad bp (Z+m*3+1))=some (I q):=z1;replace z2:wr.cell? (Ad bp (Z+m*3+2))=some (I r):=z2;replace v0:wr.cell? (Ad bq (Q+m*3))=some (I p):=v0;replace v1:wr.cell? (Ad bq (Q+m*3+1))=some (I q):=v1;replace v2:wr.cell? (Ad bq (Q+m*3+2))=some (I r):=v2;have a6:=akL p q r;have b1:(m:Int)<(bl.length:Int):=by omega
          have aC:=ai (λn=>aO R.o (lJ (aN wr.heap.size wr) n) (aM R.o));have av:=ai (λn=>aO U.o (lJ (aN wr.heap.size wr) n) (aM U.o));have Tk:=ai (λn=>lJ ah.o n);clear M G B a1 ag R U ah;go_wp2
          go_quiet (fail)
          go_wp2;go_roundw
          case rel=>exact⟨m+1,ω,by go_num,aC.o _,av.o _,Tk.o _⟩
          case measure=>simp[intOf];omega
        obtain rfl:bl.length=m:=by omega
        have an:=ai (az.o.below B);clear B hmt;go_wp2;go_roundw
        case rel=>exact⟨i+1,ω,by go_num,an.o⟩
        case measure=>simp[intOf];omega
    obtain rfl:k.aj.length=i:=by omega
    have aE:=ai ht.Tq;clear ht;go_wp2;go_ret;exact⟨rfl,aE.o⟩
theorem agR (a b:Int) (V:World):(Op.equalIn 10000 91 (.agg #[I a,I b]) (.agg #[I a,I b])).run prog V=.ok true V:=by
 simp[go_sem]
theorem NA (o:List ra) (a1 a2:Option Addr) (c1 c2:Nat) (w:World) (h1:um w a1 o) (h2:um w a2 o) (hn:o.length<=140737488351232) :
  Calls prog 26 #[.slice a1 o.length c1,.slice a2 o.length c2] w λe w'=>e=.returned (.bool true)/\Below w.heap.size w w':=by
 have H1:=ai h1;have H2:=ai h2;clear h1 h2;go_enter func26,ntmps26;go_wp2;go_loopw [5] (λiv wr=>∃j:Nat,j<=o.length/\iv=I (j:Int)/\Below w.heap.size w wr) (λiv _=>o.length-(intOf iv).toNat)
 case atStart=>exact⟨0,ω,rfl,aN _ _⟩
 case round =>
  obtain⟨j,hj,rfl,hb⟩:=hrel;have HB:=ai hb;by_cases hlt:j<o.length
  . obtain⟨b,off,r,F,dZ⟩:=(H1.o.below hb) ω;obtain⟨b',y,h,A,NR⟩:=(H2.o.below hb) ω;subst r;subst h;obtain⟨d0,d1⟩:=dZ j hlt;obtain⟨e0,e1⟩:=NR j hlt;obtain⟨⟨wp,wv⟩,hq⟩:∃q,q=mD o j:=⟨_,rfl⟩;rw[<- hq] at d0 d1 e0 e1;simp only at d0 d1 e0 e1;have B:=agR wp wv;clear hq dZ NR hb;go_wp2
    go_quiet (fail)
    go_wp2;go_roundw
    case rel=>exact⟨j+1,ω,by go_num,lJ HB.o _⟩
    case measure=>simp[intOf];omega
  obtain rfl:j=o.length:=by omega
  clear hb;go_wp2;go_ret;exact⟨rfl,HB.o⟩
theorem ajd:(prog.info? 3).map (λi=>i.size)=some 1:=by kernel_rfl
theorem agQ (a0 a1 a2 a3 a4 a5 a6 a7:Int) (V:World):(Op.equalIn 9999 73 (.agg #[I a0,I a1,I a2,I a3,I a4,I a5,I a6,I a7]) (.agg #[I a0,I a1,I a2,I a3,I a4,I a5,I a6,I a7])).run prog V=.ok true V:=by
 obtain⟨i,hi,hs⟩:∃i,prog.info? 3=some i/\i.size=1:=by
  have h:=ajd;cases hq:prog.info? 3 with
  | none=>rw[hq] at h;cases h
  | some i=>rw[hq] at h;exact⟨i,rfl,Option.some.inj h⟩
 rw[run_equalIn_array (w:=V) 9998 _ _ underlying73 hi];have hc:prog.cellsOf 3=1:=by kernel_rfl
 have b:∀(xs:Array Value) (o:Nat) (v:Value) (U:World),xs[o]?=some v->(part 3 xs o).run prog U=.ok v U:=λxs o v U h=>by simp[part,go_sem,h]
 have q:∀(x:Int) (U:World),(Op.equalIn 9998 3 (I x) (I x)).run prog U=.ok true U:=λx U=>by simpa using run_equalIn_int U 9997 3 .i64 .i64 x x underlying3
 rw[hc];simp[Op.eqItems,b,q,Wp]
theorem NC (o:List bQ) (a1 a2:Option Addr) (c1 c2:Nat) (w:World) (h1:sZ w a1 o) (h2:sZ w a2 o) (hn:o.length<=140737488351232) :
  Calls prog 25 #[.slice a1 o.length c1,.slice a2 o.length c2] w λe w'=>e=.returned (.bool true)/\Below w.heap.size w w':=by
 have H1:=ai h1;have H2:=ai h2;clear h1 h2;go_enter func25,ntmps25;go_wp2;go_loopw [5] (λiv wr=>∃j:Nat,j<=o.length/\iv=I (j:Int)/\Below w.heap.size w wr) (λiv _=>o.length-(intOf iv).toNat)
 case atStart=>exact⟨0,ω,rfl,aN _ _⟩
 case round =>
  obtain⟨j,hj,rfl,hb⟩:=hrel;have HB:=ai hb;by_cases hlt:j<o.length
  . obtain⟨b,off,G,O,dZ⟩:=(H1.o.below hb) ω;obtain⟨b',L,h,N,NR⟩:=(H2.o.below hb) ω;subst G;subst h;obtain⟨d0,d1,d2,d3,d4,d5,d6,d7,d8,d9,y,F,J⟩:=dZ j hlt;obtain⟨e0,e1,e2,e3,e4,e5,e6,e7,e8,e9,A,B,K⟩:=NR j hlt;generalize aR o j=q at d0 d1 d2 d3 d4 d5 d6 d7 d8 d9 y F J e0 e1 e2 e3 e4 e5 e6 e7 e8 e9 A B K;have M:=agQ (q.r 0) (q.r 1) (q.r 2) (q.r 3) (q.r 4) (q.r 5) (q.r 6) (q.r 7);clear dZ NR hb;go_wp2
    go_quiet (fail)
    go_wp2;go_roundw
    case rel=>exact⟨j+1,ω,by go_num,lJ HB.o _⟩
    case measure=>simp[intOf];omega
  obtain rfl:j=o.length:=by omega
  clear hb;go_wp2;go_ret;exact⟨rfl,HB.o⟩
def afx (w:World) (m:iM) (er:Int) (e:Ending) (w':World):Prop:=∃s0 n0 q0 s1 n1 q1 s2 n2 q2 s3 n3 q3 hd s5 q5 s6 q6,e=.returned (.tuple #[.agg #[.slice s0 n0 q0,.slice s1 n1 q1,.slice s2 n2 q2,.slice s3 n3 q3,I hd,.slice s5 m.procs.length q5,.slice s6 m.out.length q6],I er])/\ic w.heap.size m #[.slice s0 n0 q0,.slice s1 n1 q1,.slice s2 n2 q2,.slice s3 n3 q3,I hd,.slice s5 m.procs.length q5,.slice s6 m.out.length q6] w'/\Below w.heap.size w w'
theorem aiQ {w:World} {r:iM×Int} {e:Ending} {w':World} (h:YB w r e w'):afx w r.1 r.2 e w':=by
 obtain⟨c,h1,h2,h3⟩:=h;obtain⟨s0,n0,q0,s1,n1,q1,s2,n2,q2,s3,n3,q3,hd,s5,q5,s6,q6,rfl⟩:=h2.cells;exact⟨s0,n0,q0,s1,n1,q1,s2,n2,q2,s3,n3,q3,hd,s5,q5,s6,q6,h1,h2,h3⟩
def EL (x:Nat) (m:iM) (c:Array Value) (W:World):Prop:=W.heap[x]?=some (.cells c 34 (0,0))/\∃N,ic N m c W
theorem aec {N:Nat} {m:iM} {c:Array Value} {w:World} (h:ic N m c w):EL w.heap.size m c (w.alloc (.cells c 34)):=⟨bG w c 34,N,h.later (aI.alloc _ _ _)⟩
theorem EL.below {x:Nat} {m:iM} {c:Array Value} {W V:World} (h:EL x m c W) (g:Below W.heap.size W V):EL x m c V:=by
 obtain⟨h1,N,h2⟩:=h;exact⟨aO h1 g (aM h1),N,h2.below g⟩
variable {N N':Nat} {m m':iM} {U:World} {v0 v1 v2 v3 v4 v5 v6 u0 u1 u2 u3 u4 u5 u6:Value}
theorem vU {a b c d e f g a' b' c' d' e' f' g':Value} (h:#[a,b,c,d,e,f,g]=#[a',b',c',d',e',f',g']):#[a,b,c,d,e]=#[a',b',c',d',e']/\f=f'/\g=g':=by
 simp only[Array.mk.injEq,rE,qJ] at h ⊢;obtain⟨h1,h2,h3,h4,h5,h6,h7⟩:=h;exact⟨⟨h1,h2,h3,h4,h5⟩,h6,h7⟩
theorem UC (h:ic N m #[v0,v1,v2,v3,v4,v5,v6] U) (h':ic N' m' #[u0,u1,u2,u3,u4,u5,u6] U) (e:m'.procs=m.procs) (hl:m.procs.length<=140737488351232) :
  Calls prog 25 #[v5,u5] U λe w'=>e=.returned (.bool true)/\Below U.heap.size U w':=by
 obtain⟨hs,a,ar,cr,ao,co,h1,h2,h3⟩:=h;obtain⟨hs',a',b,q,Zz,B,A,y,r⟩:=h';obtain⟨_,rfl,_⟩:=vU h2;obtain⟨_,rfl,_⟩:=vU y;have p:=(h3 U (aI.refl _ _)).procs;have p':=(r U (aI.refl _ _)).procs;have p:sZ U ar m.procs:=p;have p':sZ U b m'.procs:=p';rw[e] at p';show Calls _ _ #[.slice ar m.procs.length cr,.slice b m'.procs.length q] _ _;rw[e];exact NC m.procs ar b cr q U p p' hl
theorem UB (h:ic N m #[v0,v1,v2,v3,v4,v5,v6] U) (h':ic N' m' #[u0,u1,u2,u3,u4,u5,u6] U) (e:m'.out=m.out) (hl:m.out.length<=140737488351232) :
  Calls prog 26 #[v6,u6] U λe w'=>e=.returned (.bool true)/\Below U.heap.size U w':=by
 obtain⟨hs,a,ar,cr,ao,co,h1,h2,h3⟩:=h;obtain⟨hs',a',B,A,Zz,b,y,r,q⟩:=h';obtain⟨_,_,rfl⟩:=vU h2;obtain⟨_,_,rfl⟩:=vU r;have p:um U ao m.out:=(h3 U (aI.refl _ _)).out;have p':um U Zz m'.out:=(q U (aI.refl _ _)).out;rw[e] at p';show Calls _ _ #[.slice ao m.out.length co,.slice Zz m'.out.length b] _ _;rw[e];exact NA m.out ao Zz co b U p p' hl
theorem YH (h:ic N m #[v0,v1,v2,v3,v4,v5,v6] U) (h':ic N' m #[u0,u1,u2,u3,u4,u5,u6] U) (hf:∀hs,cD m.fA.aD hs->kN (aV m.fA hs)) :
  Calls prog 39 #[.agg #[v0,v1,v2,v3,v4],.agg #[u0,u1,u2,u3,u4]] U λe w'=>e=.returned (.bool true)/\Below U.heap.size U w':=by
 obtain⟨hs,a,ar,cr,ao,co,h1,h2,h3⟩:=h;obtain⟨hs',a',B,y,Zz,A,b,r,q⟩:=h';obtain⟨e1,_,_⟩:=vU h2;obtain⟨e2,_,_⟩:=vU r;rw[e1,e2];have s:cD (aV m.fA hs).aD hs':=by
  show hs'.map eD=hs.map eD;exact Eq.trans (show hs'.map eD=m.fA.aD.map eD from b) (Eq.symm (show hs.map eD=m.fA.aD.map eD from h1))
 exact JO (aV m.fA hs) hs' a a' U (h3 U (aI.refl _ _)).fA (q U (aI.refl _ _)).fA s (hf hs h1)
theorem Nv {c c':Array Value} (h:ic N m c U) (h':ic N' m c' U) (hf:∀hs,cD m.fA.aD hs->kN (aV m.fA hs)) (hp:m.procs.length<=140737488351232) (ho:m.out.length<=140737488351232) :
  Calls prog 14 #[.agg c,.agg c'] U λe w'=>e=.returned (.bool true)/\Below U.heap.size U w':=by
 obtain⟨s0,n0,q0,s1,n1,q1,s2,n2,q2,s3,n3,q3,hd,s5,q5,s6,q6,rfl⟩:=h.cells;obtain⟨t0,k0,p0,t1,k1,p1,t2,k2,p2,t3,k3,p3,hc,t5,p5,t6,p6,rfl⟩:=h'.cells;have HK:Hid (∀V,Below U.heap.size U V->Calls prog 39 #[.agg #[.slice s0 n0 q0,.slice s1 n1 q1,.slice s2 n2 q2,.slice s3 n3 q3,I hd],.agg #[.slice t0 k0 p0,.slice t1 k1 p1,.slice t2 k2 p2,.slice t3 k3 p3,I hc]] V λe w'=>e=.returned (.bool true)/\Below V.heap.size V w'):=λV hV=>YH (h.below hV) (h'.below hV) hf
 have HP:Hid (∀V,Below U.heap.size U V->Calls prog 25 #[.slice s5 m.procs.length q5,.slice t5 m.procs.length p5] V λe w'=>e=.returned (.bool true)/\Below V.heap.size V w'):=λV hV=>UC (h.below hV) (h'.below hV) rfl hp
 have HW:Hid (∀V,Below U.heap.size U V->Calls prog 26 #[.slice s6 m.out.length q6,.slice t6 m.out.length p6] V λe w'=>e=.returned (.bool true)/\Below V.heap.size V w'):=λV hV=>UB (h.below hV) (h'.below hV) rfl ho
 obtain⟨n6,q⟩:=ex m.out.length;generalize m.procs.length=n5 at HP ⊢;rw[<- q] at HW ⊢;have eB:=ai (((aN U.heap.size U).alloc (aJ _) (.cells #[.slice s0 n0 q0,.slice s1 n1 q1,.slice s2 n2 q2,.slice s3 n3 q3,I hd,.slice s5 n5 q5,.slice s6 n6 q6] 34)).alloc ξ (.cells #[.slice t0 k0 p0,.slice t1 k1 p1,.slice t2 k2 p2,.slice t3 k3 p3,I hc,.slice t5 n5 p5,.slice t6 n6 p6] 34));have X0:=ai (bB (bG U #[.slice s0 n0 q0,.slice s1 n1 q1,.slice s2 n2 q2,.slice s3 n3 q3,I hd,.slice s5 n5 q5,.slice s6 n6 q6] 34) (.cells #[.slice t0 k0 p0,.slice t1 k1 p1,.slice t2 k2 p2,.slice t3 k3 p3,I hc,.slice t5 n5 p5,.slice t6 n6 p6] 34));have Y0:=ai (bG (U.alloc (.cells #[.slice s0 n0 q0,.slice s1 n1 q1,.slice s2 n2 q2,.slice s3 n3 q3,I hd,.slice s5 n5 q5,.slice s6 n6 q6] 34)) #[.slice t0 k0 p0,.slice t1 k1 p1,.slice t2 k2 p2,.slice t3 k3 p3,I hc,.slice t5 n5 p5,.slice t6 n6 p6] 34);have b:(U.alloc (.cells #[.slice s0 n0 q0,.slice s1 n1 q1,.slice s2 n2 q2,.slice s3 n3 q3,I hd,.slice s5 n5 q5,.slice s6 n6 q6] 34)).heap.size=U.heap.size+1:=by simp
 rw[b] at Y0;clear h h' hf hp ho q b;go_enter func14,ntmps14;go_upto_region 1 with fail;generalize (U.alloc (.cells #[.slice s0 n0 q0,.slice s1 n1 q1,.slice s2 n2 q2,.slice s3 n3 q3,I hd,.slice s5 n5 q5,.slice s6 n6 q6] 34)).alloc (.cells #[.slice t0 k0 p0,.slice t1 k1 p1,.slice t2 k2 p2,.slice t3 k3 p3,I hc,.slice t5 n5 p5,.slice t6 n6 p6] 34)=W at eB X0 Y0 ⊢;generalize U.heap.size+1=y at Y0 ⊢;generalize U.heap.size=x at X0 ⊢;obtain⟨Sk,a1,a2,a3,a4,a5,a6⟩:=lD X0.o;obtain⟨b0,b1,b2,b3,b4,b5,b6⟩:=lD Y0.o;go_wp2_with (first
  | (go_at_call 39;refine(HK.o _ eB.o).mono ?_;rintro e w1 ⟨rfl,hb⟩;have dz:=ai (eB.o.trans (hb.mono eB.o.size));have X1:=ai (aO X0.o hb (aM X0.o));have Y1:=ai (aO Y0.o hb (aM Y0.o));obtain⟨c0,c1,c2,c3,c4,c5,c6⟩:=lD X1.o;obtain⟨d0,d1,d2,d3,d4,d5,d6⟩:=lD Y1.o;clear hb)
  | (go_at_call 25;refine(HP.o _ dz.o).mono ?_;rintro e w2 ⟨rfl,hb⟩;have iI:=ai (dz.o.trans (hb.mono dz.o.size));have X2:=ai (aO X1.o hb (aM X1.o));have Y2:=ai (aO Y1.o hb (aM Y1.o));obtain⟨e0,e1,e2,e3,e4,e5,e6⟩:=lD X2.o;obtain⟨f0,f1,f2,f3,f4,f5,f6⟩:=lD Y2.o;clear hb)
  | (go_at_call 26;refine(HW.o _ iI.o).mono ?_;rintro e w3 ⟨rfl,hb⟩;have kE:=ai (iI.o.trans (hb.mono iI.o.size));clear hb))
 go_ret;exact⟨ξ,kE.o⟩
theorem aeb {N:Nat} {m:iM} {x:Nat} {v0 v1 v2 v3 v4 v5 v6 z0 z1 z2 z3 z4 z5 z6:Value} {w:World} (h:ic N m #[v0,v1,v2,v3,v4,v5,v6] w) (hx:w.heap[x]?=some (.cells #[z0,z1,z2,z3,z4,z5,z6] 34 (0,0))) (hN:x<N):EL x m #[v0,v1,v2,v3,v4,v5,v6] (((((((w.setCell (Ad x 0) v0).setCell (Ad x 1) v1).setCell (Ad x 2) v2).setCell (Ad x 3) v3).setCell (Ad x 4) v4).setCell (Ad x 5) v5).setCell (Ad x 6) v6) :=
 ⟨dm (dm (dm (dm (dm (dm (dm hx 0 _) 1 _) 2 _) 3 _) 4 _) 5 _) 6 _,N,h.later ((pC w x v0 v1 v2 v3 v4 v5 v6).mono (λb _ e=>by rw[e];exact hN))⟩
theorem aby {hs:List bD} (s:cD gU.aD hs):kN (aV gU hs):=by
 obtain rfl:hs=[]:=by simpa [cD,gU] using s
 refine⟨⟨by show bM 0;unfold bM;decide,λk hk=>absurd hk (gY _)⟩,by show bM 0;unfold bM;decide,λi hi=>absurd hi (gY _),by show bM 0;unfold bM;decide,λi hi=>absurd hi (gY _),by show bM 0;unfold bM;decide,λi hi=>absurd hi (gY _),⟨by show -9223372036854775808<=(0:Int);omega,by show(0:Int)<=9223372036854775807;omega⟩⟩
variable {lo mb:Nat} {tt:TypeId} {X:List Value} {w:World} {S:gv} {k:aT}
theorem aaJ {w:World} {mb:Nat} {hand:Int} (hm:w.heap[mb]?=some (.cells #[Nl,Nl,Nl,Nl,I hand] 30 (0,0))):bO mb mb 30 [] w ⟨λb=>if b=mb then .head else .no,Nl,Nl,Nl,Nl,[]⟩ ⟨[],[],[],[],hand⟩ :=
 ⟨⟨λb hb=>by
   grind,
  nt _ _ _ _,λi hi=>absurd hi (gY _),nt _ _ _ _,nt _ _ _ _,nt _ _ _ _,rfl,λi hi=>absurd hi (gY _),(λb hb=>by cases hb),λi hi=>absurd hi (gY _),(λb hb=>by cases hb),(λb hb=>by cases hb),(λb hb=>by cases hb),λi hi=>absurd hi (gY _),λi hi=>absurd hi (gY _)⟩,hm,aQ rfl⟩
theorem Lz (L:List bD) (l:bD) (i:Nat) (hi:i<L.length+1):aZ (L++[l]) i=if i<L.length then aZ L i else l:=by
 grind [aZ]
def Ex (S:gv) (v:Value) (n:Nat) (x:Value):Nat->ma:=λb=>if v.ownBlock=some b then .aD else if x.ownBlock=some b then .df n else S.lab b
theorem bO.apq {w2 w4:World} {v':Value} {s:bD} {O:Obj} (h:bO lo mb tt X w S k) (hlo:lo<=w.heap.size) (hb2:Below w.heap.size w w2)
  (hfx:w2.ownsRow w.heap.size 226 2 (AH s) s.df.length (s.df.flatMap jl)) (hgr:(w2.alloc O).grownBy w4 S.vS.ownBlock) (hown:w4.ownsRow lo 145 3 v' (k.aD.length+1) (k.aD.flatMap ik++ik s))
  (hat:v'.ownBlock=S.vS.ownBlock\/v'.ownBlock=some (w2.alloc O).heap.size) :
  bO lo mb tt X (w4.setCell (Ad mb 0) v') ⟨Ex S v' k.aD.length (AH s),v',S.vF,S.vL,S.vP,S.L⟩ { k with aD:=k.aD++[s] }/\aI (λb=>S.lab b≠.no) w (w4.setCell (Ad mb 0) v'):=by
 have s1:=hb2.size;have s2:=hgr.size;have hz:(w2.alloc O).heap.size=w2.heap.size+1:=fp _ _;rw[hz] at s2 hat
 have kA:aI (bN S.vS) w w2:=aI.cA hb2;have kB:aI (bN S.vS) w2 (w2.alloc O):=aI.alloc _ w2 O;have kC:aI (bN S.vS) (w2.alloc O) w4:=aI.grown hgr (λ_ e=>e);have kD:=kA.trans (kB.trans kC (λ_ _ g=>g)) (λ_ _ g=>g);have nJ:aI (λb=>b=mb) w4 (w4.setCell (Ad mb 0) v'):=aI.set _ _ _ _ rfl;have eA:∀b,bN (AH s) b->w.heap.size<=b/\b<w2.heap.size:=λb hb=>hfx.lt b hb
 have A:∀b,bN S.vS b->b<w.heap.size:=λb hb=>(h.aD.lt b hb).2
 have r:∀b,bN v' b->bN S.vS b\/b=w2.heap.size+1:=λb hb=>by
  grind [bN]
 have B:=aM h.head;have q:∀b c,S.lab b=c->c≠.no->c≠.aD->Ex S v' k.aD.length (AH s) b=c:=λb c e h1 h2=>by
  have hb:=(h.vD b Γ).2;unfold Ex;rw[aH,aH,e]
  . intro x;have:=eA b x;omega
  intro x;rcases r b x with g | g
  . exact h2 (by rw[<- e];exact h.lS b g)
  omega
 have zD:∀{b:Nat} {c:ma},S.lab b=c->c≠.aD->¬bN S.vS b:=λe hc x=>hc (by rw[<- e];exact h.lS _ x)
 have zH:∀{b:Nat} {c:ma},S.lab b=c->c≠.head->¬b=mb:=λe hc x=>hc (by rw[<- e,x];exact h.lH)
 have row:∀{e:TypeId} {n m:Nat} {v:Value} {xs:List Value},w.ownsRow lo e n v m xs->(∀b,bN v b->¬bN S.vS b/\¬b=mb)->(w4.setCell (Ad mb 0) v').ownsRow lo e n v m xs:=λhr hq=>nJ.row (kD.row hr (λb hb=>(hq b hb).1)) (λb hb=>(hq b hb).2)
 refine⟨⟨⟨λb hb=>?_,?_,λi hi=>?_,row h.frames (λb hb=>⟨zD (h.lF b hb) ξ,zH (h.lF b hb) ξ⟩),row h.slots (λb hb=>⟨zD (h.lL b hb) ξ,zH (h.lL b hb) ξ⟩),row h.aj (λb hb=>⟨zD (h.lP b hb) ξ,zH (h.lP b hb) ξ⟩),h.len,λi hi=>?_,λb hb=>aQ hb,λi hi b hb=>?_,λb hb=>q b _ (h.lF b hb) ξ ξ,λb hb=>q b _ (h.lL b hb) ξ ξ,λb hb=>q b _ (h.lP b hb) ξ ξ,λi hi b hb=>q b _ (h.lA i hi b hb) ξ ξ,λi hi b hb=>q b _ (h.lE i hi b hb) ξ ξ⟩,?_,q mb _ h.lH ξ ξ⟩,?_⟩
 . have hb:Ex S v' k.aD.length (AH s) b≠.no:=hb;have y:(w4.setCell (Ad mb 0) v').heap.size=w4.heap.size:=by simp
   rw[y];unfold Ex at hb;by_cases c:v'.ownBlock=some b
   . exact hown.lt b c
   rw[aH c] at hb;by_cases d:(AH s).ownBlock=some b
   . have:=eA b d;omega
   rw[aH d] at hb;have:=h.vD b hb;omega
 . show World.ownsRow _ lo _ 3 v' (k.aD++[s]).length ((k.aD++[s]).flatMap ik);rw[gM,zI,wk];have:w4.ownsRow lo 145 3 v' (k.aD.length+1) (k.aD.flatMap ik++[s].flatMap ik):=by grind
   exact nJ.row this (λb hb e=>by
    rcases r b hb with g | g
    . grind
    omega)
 . have hi:i<(k.aD++[s]).length:=hi;rw[gM,zI] at hi;show World.ownsRow _ lo _ 2 (AH (aZ (k.aD++[s]) i)) (aZ (k.aD++[s]) i).df.length ((aZ (k.aD++[s]) i).df.flatMap jl);rw[Lz _ _ _ hi];by_cases c:i<k.aD.length
   . rw[aQ c];exact row (h.df i c) (λb hb=>⟨zD (h.lX i c b hb) ξ,zH (h.lX i c b hb) ξ⟩)
   rw[aH c];refine nJ.row ((kB.trans kC (λ_ _ g=>g)).row (oQ hfx (λg hg=>by have:=eA g hg;omega)) (λb hb g=>?_)) (λb hb e=>?_)
   . have:=A b g;have:=eA b hb;omega
   have:=eA b hb;omega
 . exact((h.each i hi).kp kD (λb hb=>zD (h.lA i hi b hb) ξ) (λb hb=>zD (h.lE i hi b hb) ξ)).kp nJ (λb hb=>zH (h.lA i hi b hb) ξ) (λb hb=>zH (h.lE i hi b hb) ξ)
 . have hi:i<(k.aD++[s]).length:=hi;rw[gM,zI] at hi;have hb:bN (AH (aZ (k.aD++[s]) i)) b:=hb;rw[Lz _ _ _ hi] at hb;by_cases c:i<k.aD.length
   . rw[aQ c] at hb;exact q b _ (h.lX i c b hb) ξ ξ
   have e:i=k.aD.length:=by omega
   rw[aH c] at hb;have hx:=eA b hb;show Ex S v' k.aD.length (AH s) b=.df i;unfold Ex;rw[aH,aQ (show(AH s).ownBlock=some b from hb),e];intro x;rcases r b x with g | g
   . grind
   omega
 . have:w4.heap[mb]?=some (.cells ([S.vS,S.vF,S.vL,S.vP,I k.hand]++X).toArray tt (0,0)):=kD.keep h.head (λx=>Γ);rw[dm this 0 v'];simp
 exact(kD.mono (λb _ g=>Γ)).trans nJ (λb _ e=>Γ)
def LB (S:gv) (v:Value):Nat->ma:=λb=>if v.ownBlock=some b then .frames else S.lab b
theorem bO.asQ {w4:World} {v':Value} {fs:List ko} (h:bO lo mb tt X w S k) (hgr:w.grownBy w4 S.vF.ownBlock) (hown:w4.ownsRow lo 169 4 v' fs.length (fs.flatMap gu)) (hat:v'.ownBlock=S.vF.ownBlock\/v'.ownBlock=some w.heap.size) :
  bO lo mb tt X (w4.setCell (Ad mb 1) v') ⟨LB S v',S.vS,v',S.vL,S.vP,S.L⟩ { k with frames:=fs }/\aI (λb=>S.lab b≠.no) w (w4.setCell (Ad mb 1) v'):=by
 have s2:=hgr.size;have kD:aI (bN S.vF) w w4:=aI.grown hgr (λ_ e=>e);have nJ:aI (λb=>b=mb) w4 (w4.setCell (Ad mb 1) v'):=aI.set _ _ _ _ rfl;have r:∀b,bN v' b->bN S.vF b\/b=w.heap.size:=λb hb=>by
  grind [bN]
 have A:=aM h.head;have q:∀b c,S.lab b=c->c≠.no->c≠.frames->LB S v' b=c:=λb c e h1 h2=>by
  have hb:=(h.vD b Γ).2;unfold LB;rw[aH,e];intro x;rcases r b x with g | g
  . exact h2 (by rw[<- e];exact h.lF b g)
  omega
 have zD:∀{b:Nat} {c:ma},S.lab b=c->c≠.frames->¬bN S.vF b:=λe hc x=>hc (by rw[<- e];exact h.lF _ x)
 have zH:∀{b:Nat} {c:ma},S.lab b=c->c≠.head->¬b=mb:=λe hc x=>hc (by grind [lH])
 have row:∀{e:TypeId} {n m:Nat} {v:Value} {xs:List Value},w.ownsRow lo e n v m xs->(∀b,bN v b->¬bN S.vF b/\¬b=mb)->(w4.setCell (Ad mb 1) v').ownsRow lo e n v m xs:=λhr hq=>nJ.row (kD.row hr (λb hb=>(hq b hb).1)) (λb hb=>(hq b hb).2)
 refine⟨⟨⟨λb hb=>?_,row h.aD (λb hb=>⟨zD (h.lS b hb) ξ,zH (h.lS b hb) ξ⟩),λi hi=>row (h.df i hi) (λb hb=>⟨zD (h.lX i hi b hb) ξ,zH (h.lX i hi b hb) ξ⟩),?_,row h.slots (λb hb=>⟨zD (h.lL b hb) ξ,zH (h.lL b hb) ξ⟩),row h.aj (λb hb=>⟨zD (h.lP b hb) ξ,zH (h.lP b hb) ξ⟩),h.len,λi hi=>?_,λb hb=>q b _ (h.lS b hb) ξ ξ,λi hi b hb=>q b _ (h.lX i hi b hb) ξ ξ,λb hb=>aQ hb,λb hb=>q b _ (h.lL b hb) ξ ξ,λb hb=>q b _ (h.lP b hb) ξ ξ,λi hi b hb=>q b _ (h.lA i hi b hb) ξ ξ,λi hi b hb=>q b _ (h.lE i hi b hb) ξ ξ⟩,?_,q mb _ h.lH ξ ξ⟩,?_⟩
 . have hb:LB S v' b≠.no:=hb;have y:(w4.setCell (Ad mb 1) v').heap.size=w4.heap.size:=by simp
   rw[y];unfold LB at hb;by_cases c:v'.ownBlock=some b
   . exact hown.lt b c
   rw[aH c] at hb;have:=h.vD b hb;omega
 . exact nJ.row hown (λb hb e=>by
    rcases r b hb with g | g
    . grind
    omega)
 . exact((h.each i hi).kp kD (λb hb=>zD (h.lA i hi b hb) ξ) (λb hb=>zD (h.lE i hi b hb) ξ)).kp nJ (λb hb=>zH (h.lA i hi b hb) ξ) (λb hb=>zH (h.lE i hi b hb) ξ)
 . have:w4.heap[mb]?=some (.cells ([S.vS,S.vF,S.vL,S.vP,I k.hand]++X).toArray tt (0,0)):=kD.keep h.head (λx=>Γ);rw[dm this 1 v'];simp
 exact(kD.mono (λb _ g=>Γ)).trans nJ (λb _ e=>Γ)
def LA (S:gv) (v:Value):Nat->ma:=λb=>if v.ownBlock=some b then .slots else S.lab b
theorem bO.asP {w4:World} {v':Value} {fs:List mJ} (h:bO lo mb tt X w S k) (hgr:w.grownBy w4 S.vL.ownBlock) (hown:w4.ownsRow lo 171 2 v' fs.length (fs.flatMap gq)) (hat:v'.ownBlock=S.vL.ownBlock\/v'.ownBlock=some w.heap.size) :
  bO lo mb tt X (w4.setCell (Ad mb 2) v') ⟨LA S v',S.vS,S.vF,v',S.vP,S.L⟩ { k with slots:=fs }/\aI (λb=>S.lab b≠.no) w (w4.setCell (Ad mb 2) v'):=by
 have s2:=hgr.size;have kD:aI (bN S.vL) w w4:=aI.grown hgr (λ_ e=>e);have nJ:aI (λb=>b=mb) w4 (w4.setCell (Ad mb 2) v'):=aI.set _ _ _ _ rfl;have r:∀b,bN v' b->bN S.vL b\/b=w.heap.size:=λb hb=>by
  grind [bN]
 have A:=aM h.head;have q:∀b c,S.lab b=c->c≠.no->c≠.slots->LA S v' b=c:=λb c e h1 h2=>by
  have hb:=(h.vD b Γ).2;unfold LA;rw[aH,e];intro x;rcases r b x with g | g
  . exact h2 (by rw[<- e];exact h.lL b g)
  omega
 have zD:∀{b:Nat} {c:ma},S.lab b=c->c≠.slots->¬bN S.vL b:=λe hc x=>hc (by rw[<- e];exact h.lL _ x)
 have zH:∀{b:Nat} {c:ma},S.lab b=c->c≠.head->¬b=mb:=λe hc x=>hc (by grind [lH])
 have row:∀{e:TypeId} {n m:Nat} {v:Value} {xs:List Value},w.ownsRow lo e n v m xs->(∀b,bN v b->¬bN S.vL b/\¬b=mb)->(w4.setCell (Ad mb 2) v').ownsRow lo e n v m xs:=λhr hq=>nJ.row (kD.row hr (λb hb=>(hq b hb).1)) (λb hb=>(hq b hb).2)
 refine⟨⟨⟨λb hb=>?_,row h.aD (λb hb=>⟨zD (h.lS b hb) ξ,zH (h.lS b hb) ξ⟩),λi hi=>row (h.df i hi) (λb hb=>⟨zD (h.lX i hi b hb) ξ,zH (h.lX i hi b hb) ξ⟩),row h.frames (λb hb=>⟨zD (h.lF b hb) ξ,zH (h.lF b hb) ξ⟩),?_,row h.aj (λb hb=>⟨zD (h.lP b hb) ξ,zH (h.lP b hb) ξ⟩),h.len,λi hi=>?_,λb hb=>q b _ (h.lS b hb) ξ ξ,λi hi b hb=>q b _ (h.lX i hi b hb) ξ ξ,λb hb=>q b _ (h.lF b hb) ξ ξ,λb hb=>aQ hb,λb hb=>q b _ (h.lP b hb) ξ ξ,λi hi b hb=>q b _ (h.lA i hi b hb) ξ ξ,λi hi b hb=>q b _ (h.lE i hi b hb) ξ ξ⟩,?_,q mb _ h.lH ξ ξ⟩,?_⟩
 . have hb:LA S v' b≠.no:=hb;have y:(w4.setCell (Ad mb 2) v').heap.size=w4.heap.size:=by simp
   rw[y];unfold LA at hb;by_cases c:v'.ownBlock=some b
   . exact hown.lt b c
   rw[aH c] at hb;have:=h.vD b hb;omega
 . exact nJ.row hown (λb hb e=>by
    rcases r b hb with g | g
    . grind
    omega)
 . exact((h.each i hi).kp kD (λb hb=>zD (h.lA i hi b hb) ξ) (λb hb=>zD (h.lE i hi b hb) ξ)).kp nJ (λb hb=>zH (h.lA i hi b hb) ξ) (λb hb=>zH (h.lE i hi b hb) ξ)
 . have:w4.heap[mb]?=some (.cells ([S.vS,S.vF,S.vL,S.vP,I k.hand]++X).toArray tt (0,0)):=kD.keep h.head (λx=>Γ);rw[dm this 2 v'];simp
 exact(kD.mono (λb _ g=>Γ)).trans nJ (λb _ e=>Γ)
end Go.Proofs.YtlgoihmkgaaemaaGreat
