import Derived.Test.YtpgifpeohlllfaaGreatGR37
set_option maxHeartbeats 20000000
set_option linter.unusedVariables false
set_option maxRecDepth 100000
set_option linter.unusedSimpArgs false
namespace Go.Proofs.YtpgifpeohlllfaaGreat
open Go.RowKit
theorem Tn (l:List jt) (ao:Option Addr) (cap:Nat) (o:jt) (w:World) (hr:o.i.n7=[]):Calls Tryz.prog 161 #[.agg (mY o),.slice ao l.length cap] w (yZ (r9 l o) w):=by
 have e:r9 l o=some []:=by unfold r9;rw[hr];rfl
 rw[e];unfold mY;rw[hr];obtain⟨⟨nm,ns,gs,ys,rs,en⟩,⟨an,cn,ag,cg,ay,cy,ar,cr⟩,bs⟩:=o;simp only at hr ⊢;clear hr e;obtain⟨n1,h1⟩:∃n,n=ns.length:=⟨_,rfl⟩;obtain⟨n2,h2⟩:∃n,n=gs.length:=⟨_,rfl⟩;obtain⟨n3,h3⟩:∃n,n=ys.length:=⟨_,rfl⟩;rw[<- h1,<- h2,<- h3];clear h1 h2 h3;have HB:=aA ((aK w.heap.size w).alloc (aI _) (.cells #[.string nm,.slice an n1 cn,.slice ag n2 cg,.slice ay n3 cy,.slice ar 0 cr,I en,I bs] 195));have cV:Hid (∀w',Below w.heap.size w w'->yZ (some []) w (.returned (.tuple #[Nl,.bool true])) w'):=fun w' hb=>⟨hb,_,rfl,jz _ _ _ _⟩
 obtain⟨P,hP⟩:=ex (yZ (some []) w);rw[<- hP] at cV ⊢;clear hP;simp only[PQ];go_enter Tryz.func161,Tryz.ntmps161;go_wp2;go_loopw [6,17] (fun sv iv wr=>sv=Nl/\iv=I 0/\Below w.heap.size w wr) (fun _ _ _=>0)
 case atStart=>grind [Hid.o]
 case round =>
  obtain⟨rfl,rfl,hb⟩:=hrel;have gj:=aA hb;clear hb;go_wp2;exact cV.o _ gj.o
theorem VG (p:gT) (m:Nat) (w:World) (hn:p.i.needs=[]) (him:od w p.a p.i):Calls Tryz.prog 133 #[xN p,.map (some m)] w (KH [p] (some [0]) w):=by
 have cV:Hid (∀(w':World) g,w'.heap[g]?=some (.cells #[.string p.i.name,.slice p.a.an p.i.needs.length p.a.cn,.slice p.a.ag p.i.iV.length p.a.cg,.slice p.a.ay p.i.syms.length p.a.cy,.slice p.a.ar p.i.n7.length p.a.cr,I p.i.entry,I 1] 195 (0,0))->Below w.heap.size w w'->KH [p] (some [0]) w (.returned (.tuple #[.slice (some (Ad g 0)) 1 1,.bool true])) w'):=fun w' g h1 h2=>by
  refine⟨h2,⟨by decide,by decide,fun j hj=>?_⟩,some (Ad g 0),1,rfl,fun _=>⟨g,0,rfl,aT h1,fun k hk=>?_⟩⟩
  · grind
  · obtain rfl:k=0:=by have:k<1:=hk;omega
    exact⟨⟨aB h1 0 rfl,aB h1 1 rfl,aB h1 2 rfl,aB h1 3 rfl,aB h1 4 rfl,aB h1 5 rfl,aB h1 6 rfl⟩,him.below h2⟩
 obtain⟨P,hP⟩:=ex (KH [p] (some [0]) w);rw[<- hP] at cV ⊢;clear hP him;unfold xN iW;rw[hn] at cV ⊢;obtain⟨⟨nm,ns,gs,ys,rs,en⟩,⟨an,cn,ag,cg,ay,cy,ar,cr⟩⟩:=p;simp only at cV ⊢;clear hn;obtain⟨n2,h2⟩:∃n,n=gs.length:=⟨_,rfl⟩;obtain⟨n3,h3⟩:∃n,n=ys.length:=⟨_,rfl⟩;obtain⟨n4,h4⟩:∃n,n=rs.length:=⟨_,rfl⟩;rw[<- h2,<- h3,<- h4] at cV ⊢;simp only[PQ] at cV ⊢;clear h2 h3 h4;have HB:=aA (((aK w.heap.size w).alloc (aI _) (.cells #[.string nm,.slice an 0 cn,.slice ag n2 cg,.slice ay n3 cy,.slice ar n4 cr,I en] 151)).alloc (by simp) (.cells #[.string nm,.slice an 0 cn,.slice ag n2 cg,.slice ay n3 cy,.slice ar n4 cr,I en,I 1] 195));have HX:Hid (((w.alloc (.cells #[.string nm,.slice an 0 cn,.slice ag n2 cg,.slice ay n3 cy,.slice ar n4 cr,I en] 151)).alloc (.cells #[.string nm,.slice an 0 cn,.slice ag n2 cg,.slice ay n3 cy,.slice ar n4 cr,I en,I 1] 195)).heap[w.heap.size+1]?=some (.cells #[.string nm,.slice an 0 cn,.slice ag n2 cg,.slice ay n3 cy,.slice ar n4 cr,I en,I 1] 195 (0,0))):=by
  have:=bO (w.alloc (.cells #[.string nm,.slice an 0 cn,.slice ag n2 cg,.slice ay n3 cy,.slice ar n4 cr,I en] 151)) #[.string nm,.slice an 0 cn,.slice ag n2 cg,.slice ay n3 cy,.slice ar n4 cr,I en,I 1] 195;rw[ig] at this;exact this
 go_enter Tryz.func133,Tryz.ntmps133;go_wp2;obtain⟨g,hg⟩:=ex (w.heap.size+1);rw[<- hg] at HX ⊢;clear hg;go_loopw [6,7] (fun sv iv wr=>sv=.slice (some (Ad g 0)) 1 1/\(∃k:Nat,k<=1/\iv=I (k:Int))/\wr.heap[g]?=some (.cells #[.string nm,.slice an 0 cn,.slice ag n2 cg,.slice ay n3 cy,.slice ar n4 cr,I en,I 1] 195 (0,0))/\Below w.heap.size w wr) (fun _ iv _=>1-(intOf iv).toNat)
 case atStart=>grind [Hid.o]
 case round =>
  obtain⟨rfl,⟨k,hk,rfl⟩,hx,hb⟩:=hrel;have Zv:=aA hx;have gj:=aA hb;have x1:wr.cell? (Ad g 1)=some (.slice an 0 cn):=aB hx 1 rfl;clear hx hb HX HB;by_cases h0:k=0
  · subst h0;go_wp2;clear x1;go_loopw [6,28] (fun sv iv wi=>sv=.slice (some (Ad g 0)) 1 1/\iv=I 0/\wi.heap[g]?=some (.cells #[.string nm,.slice an 0 cn,.slice ag n2 cg,.slice ay n3 cy,.slice ar n4 cr,I en,I 1] 195 (0,0))/\Below w.heap.size w wi) (fun _ _ _=>0)
    case atStart=>exact⟨rfl,rfl,Zv.o,gj.o⟩
    case round =>
     obtain⟨rfl,rfl,hx,hb⟩:=hrel;have Oh:=aA hx;have kJ:=aA hb;clear hx hb Zv gj;go_wp2;go_roundw
     case rel=>exact⟨rfl,⟨1,by omega,by first | rfl | go_num⟩,Oh.o,kJ.o⟩
     case measure=>simp[intOf]
  · obtain rfl:k=1:=by omega
    go_wp2;exact cV.o _ _ Zv.o gj.o
open Go.RowKit
def Mq (w:World) (e:Ending) (w':World):Prop:=∃ar cr ah ch a1 a2 a3 c1 c2 c3,e=.returned (.agg #[.slice ar 2 cr,.slice ah 3 ch,I 16])/\fu w' (.slice ar 2 cr) rK/\fX w' ah (iN a1 a2 a3 c1 c2 c3)/\3<=ch/\Below w.heap.size w w'
theorem Zu {a:Fu} {w w':World} {e:Ending} (h:Yl [⟨lB,a⟩] w e w'):∃ar cr ah ch a1 a2 a3 c1 c2 c3,e=.returned (.tuple #[.agg #[.slice ar 2 cr,.slice ah 3 ch,I 16],I 0])/\gQ w.heap.size w' (.slice ar 2 cr) rK/\fX w' ah (iN a1 a2 a3 c1 c2 c3)/\3<=ch/\Below w.heap.size w w':=by
 obtain⟨hb,h2⟩:=h;rw[aR (Zt a)] at h2;obtain⟨ix,E,r,hs,ao,cap,h3,h4,h5,h6,h7,h8,h9⟩:=h2;rw[Pn] at h3;injection h3 with h3;subst h3;rw[Zq] at h4 h6 h7;rw[Rx] at h4;injection h4 with h4;subst h4;rw[Ux] at h7;rw[Uw] at h6;obtain⟨a1,a2,a3,c1,c2,c3,rfl⟩:=Uv h5;obtain⟨ar,cr,hr,_⟩:=zL h7;subst hr;exact⟨ar,cr,ao,cap,a1,a2,a3,c1,c2,c3,h6,h7,h8,h9,hb⟩
theorem UB {V U:World} {g:Nat} {x y:Value} {n:Int} {ah:Option Addr} {a1 a2 a3:Option Addr} {c1 c2 c3:Nat} (h:fX V ah (iN a1 a2 a3 c1 c2 c3)) (hg:V.heap[g]?=some (.cells #[x,y,I n] 30 (0,0))) (hx:∀k i,x≠.int k i) (hy:∀k i,y≠.int k i) (hk:∀b j v,b≠g->V.cell? (Ad b j)=some v->U.cell? (Ad b j)=some v) (hs:V.heap.size<=U.heap.size):fX U ah (iN a1 a2 a3 c1 c2 c3):=fun hl=>by
 obtain⟨b,off,rfl,hb,eI⟩:=h hl;have hne:b≠g:=fun e=>by
  subst e;obtain⟨d0,d1,_,_⟩:=eI 0 (by omega)
  grind [World.cell?]
 refine⟨b,off,rfl,by omega,fun i hi=>?_⟩;obtain⟨d0,d1,d2,_⟩:=eI i hi;refine⟨hk _ _ _ hne d0,hk _ _ _ hne d1,hk _ _ _ hne d2,fun h0=>?_⟩;exfalso
 match i,hi,h0 with
 | 0,_,h0=>exact gN _ h0
 | 1,_,h0=>exact gN _ h0
 | 2,_,h0=>exact gN _ h0
 | i+3,h,_=>grind [iN]
theorem Ru (w:World):Calls Tryz.prog 50 #[] w (Mq w):=by
 have cV:Hid (∀ar cr ah ch a1 a2 a3 c1 c2 c3 (w':World),fu w' (.slice ar 2 cr) rK->fX w' ah (iN a1 a2 a3 c1 c2 c3)->3<=ch->Below w.heap.size w w'->Mq w (.returned (.agg #[.slice ar 2 cr,.slice ah 3 ch,I 16])) w'):=fun ar cr ah ch a1 a2 a3 c1 c2 c3 w' h1 h2 h3 h4=>⟨ar,cr,ah,ch,a1,a2,a3,c1,c2,c3,rfl,h1,h2,h3,h4⟩
 obtain⟨P,hP⟩:=ex (Mq w);rw[<- hP] at cV ⊢;clear hP;have yG:Hid (∀V,Calls Tryz.prog 94 #[.agg #[I 12,I 0,I 0,I 0,I 0]] V fun e w'=>e=.returned (.string Di)/\Below V.heap.size V w'):=fun V=>by
  have:=Qf ⟨12,0,0,0,0⟩ V;rw[RT] at this;exact this
 have HLK:Hid (∀wb V,V.heap[wb]?=some (.cells #[I 0,I 1,.string Di,.bool false,.bool true,I 1,I 2,.string ⟨#[97,98,99]⟩,.bool true,.bool false] 145 (0,0))->Calls Tryz.prog 93 #[.agg #[.string ⟨#[116]⟩,Nl,.slice (some (Ad wb 0)) 2 2,Nl,Nl,I 0],Nl] V fun e w'=>∃ar cr ah ch a1 a2 a3 c1 c2 c3,e=.returned (.tuple #[.agg #[.slice ar 2 cr,.slice ah 3 ch,I 16],I 0])/\gQ V.heap.size w' (.slice ar 2 cr) rK/\fX w' ah (iN a1 a2 a3 c1 c2 c3)/\3<=ch/\Below V.heap.size V w'):=fun wb V hV=>by
  have him:od V ⟨none,0,some (Ad wb 0),2,none,0,none,0⟩ lB:=⟨fun h=>absurd h (gN _),fun _=>⟨wb,0,rfl,aT hV,fun i hi=>by
   have:i<2:=hi;rcases(show i=0∨i=1 by omega) with rfl | rfl
   · exact⟨aB hV 0 rfl,aB hV 1 rfl,aB hV 2 rfl,aB hV 3 rfl,aB hV 4 rfl⟩
   · exact⟨aB hV 5 rfl,aB hV 6 rfl,aB hV 7 rfl,aB hV 8 rfl,aB hV 9 rfl⟩⟩,fun h=>absurd h (gN _),fun h=>absurd h (gN _)⟩
  refine(Qk ⟨lB,⟨none,0,some (Ad wb 0),2,none,0,none,0⟩⟩ [] none 0 V him (fun h=>absurd h (by simp)) Po ⟨by grind [bT],fun k hk=>absurd hk (by simp)⟩ (fun k hk U hU=>?_) (fun m D U hG=>?_) (fun ix ao cap k U hk=>?_)).mono fun e w' h=>Zu h
  · obtain rfl:k=0:=by
     grind
    refine(aaI ⟨#[116]⟩ [⟨0,1,Di,false,true⟩,⟨1,2,Yu,true,false⟩] 0 none (some (Ad wb 0)) none none 0 2 0 0 U (him.below hU) Po (by rfl) (by rfl) (by rfl) (by rfl) (by rfl)).mono ?_;rintro e w' ⟨rfl,hb⟩;exact⟨by rfl,hb⟩
  · rw[Pn];exact VG _ m U rfl (hG.im 0 hG.pos)
  · refine Tn _ ao cap _ U ?_;rw[jB] at hk;rw[(qP _ ix 1 k hk).1];cases ix.getD k 0 <;> rfl
 obtain⟨D,hD⟩:=ex Di;rw[<- hD] at HLK yG;clear hD;have eU:=ai ((aK w.heap.size w).alloc (aI _) (.cells #[Nl,Nl,I 0] 30));have X0:=ai (bO w #[Nl,Nl,I 0] 30);obtain⟨WA,jG⟩:=ex (w.alloc (.cells #[Nl,Nl,I 0] 30));rw[<- jG] at eU X0;have lI:=ai jG;clear jG;go_enter Tryz.func50,Tryz.ntmps50;go_upto_region 1 with fail;rw[<- lI.o];go_upto_region 2 with(first
  | (go_at_call 94;refine(yG.o _).mono ?_;rintro e w1 ⟨rfl,hb1⟩;have dz:=ai (eU.o.trans (hb1.mono eU.o.size));have X1:=ai (aQ X0.o hb1 (aT X0.o));clear hb1)
  | (go_at_call 93;refine(HLK.o _ _ (bO w1 _ _)).mono ?_;rintro e w2 ⟨ar,cr,ah,ch,a1,a2,a3,c1,c2,c3,rfl,h1,h2,h3,h4⟩;have HO:=ai h1;have HH:=ai h2;have gj:=ai h4;clear h1 h2 h4))
 have Zv:=ai (aQ (bM X1.o (.cells #[I 0,I 1,.string D,.bool false,.bool true,I 1,I 2,.string ⟨#[97,98,99]⟩,.bool true,.bool false] 145)) gj.o (by have:=aT X1.o;simp;omega));have HBS:=ai (dz.o.alloc dz.o.size (.cells #[I 0,I 1,.string D,.bool false,.bool true,I 1,I 2,.string ⟨#[97,98,99]⟩,.bool true,.bool false] 145));have kJ:=ai (HBS.o.trans (gj.o.mono HBS.o.size));have Oh:=ai (bM Zv.o (.cells #[.slice ar 2 cr,.slice ah 3 ch,I 16] 30));have HL3:=ai (bO w2 #[.slice ar 2 cr,.slice ah 3 ch,I 16] 30);have p9:Hid (aM (fun b=>b=w.heap.size) w2 (w2.alloc (.cells #[.slice ar 2 cr,.slice ah 3 ch,I 16] 30))):=aM.alloc _ _ _;have HOW:Hid (∀b,bQ (.slice ar 2 cr) b->b≠w.heap.size):=(show ∀b,bQ (.slice ar 2 cr) b->b≠w.heap.size from fun b hb e=>by have:=(HO.o.lt b hb).1;rw[ig] at this;have:=aT X1.o;omega);obtain⟨W4,hW4⟩:=ex (w2.alloc (.cells #[.slice ar 2 cr,.slice ah 3 ch,I 16] 30));obtain⟨lb,hlb⟩:=ex w2.heap.size;rw[<- hW4] at Oh HL3 p9 ⊢;rw[<- hlb] at HL3 ⊢;clear hW4 hlb;obtain⟨l0,l1,l2⟩:=nV HL3.o;obtain⟨y0,y1,y2⟩:=nV Oh.o;have f0:=aO Oh.o 0;have f1:=aO Oh.o 1;have f2:=aO Oh.o 2;have HKU:=ai (p9.o.trans (tR (D:=fun b=>b=w.heap.size) _ w.heap.size 0 1 2 (.slice ar 2 cr) (.slice ah 3 ch) (I 16) rfl) (fun _ _ g=>g));have zk:=ai (dD (dD (dD Oh.o 0 (.slice ar 2 cr)) 1 (.slice ah 3 ch)) 2 (I 16));go_wp2;obtain⟨y0,y1,y2⟩:=nV zk.o;refine cm (v:=.agg #[.slice ar 2 cr,.slice ah 3 ch,I 16]) (by simp[results,Tryz.results50,go_sem,y0,y1,y2]) rfl (cV.o _ _ _ _ a1 a2 a3 c1 c2 c3 _ ?_ ?_ h3 ?_)
 · exact gQ.has (HKU.o.row HO.o (fun b hb e=>HOW.o b hb e))
 · exact UB HH.o Zv.o (fun _ _ h=>nomatch h) (fun _ _ h=>nomatch h) (fun b j v hne hc=>HKU.o.cell hc hne) HKU.o.size
 · exact aM.below kJ.o HKU.o kJ.o.size (fun b hb=>by omega)
open Go.RowKit
open Go.RowKit
open Go.RowKit
def uG (k:aN) (sp:Int):aN×Int×Int:=if dV k sp≠0 then (dK,0,dV k sp) else if k.aj.length=4 then (dK,0,2) else if fL k.aj+dU (ak k.aj sp.toNat).bk>(k.slots.length:Int) then (dK,0,8) else (qV k sp.toNat,(k.aj.length:Int),0)
theorem TB {k:aN} (hR:bc k) {j:Nat} (hj:j<k.aj.length) {s:cO} (hs:s=ak k.aj j) (n:Nat) (hn:n<=s.aU.length):(∀i,i<k.frames.length->-1000000<=(au (eu k s.aU n).frames i).refs/\(au (eu k s.aU n).frames i).refs<=1000000)/\(∀i,i<k.slots.length->-1000000<=(br (eu k s.aU n).slots i).refs/\(br (eu k s.aU n).slots i).refs<=1000000):=by
 subst hs;obtain⟨_,_,_,_,_,h6,h7⟩:=wT hR hj n hn;obtain⟨r1,r2⟩:=oL hR;have hen:=iZ hR hj;have hl:∀(kd i:Int),(iP (ak k.aj j).bk kd i ((ak k.aj j).aU.take n)).length<=512:=fun kd i=>by
  grind [iP]
 refine⟨fun i hi=>?_,fun i hi=>?_⟩
 · rw[h6 i hi];have:=r1 i hi;have:=hl 1 i;show _<=(au k.frames i).refs+_/\(au k.frames i).refs+_<=_;omega
 · rw[h7 i hi];have:=r2 i hi;have:=hl 2 i;show _<=(br k.slots i).refs+_/\(br k.slots i).refs+_<=_;omega
def Yp (WA W:World) (mb:Nat) (k:aN) (X:List Value) (v':Value):Prop:=∃S hs,cW k.aD hs/\bu WA.heap.size mb 104 X W S (bN k hs)/\S.vP=v'/\Below WA.heap.size WA W
theorem QB {w WA W:World} {mb:Nat} {k:aN} {X:List Value} {aG:Option Addr} {nG cG:Nat} (h:Yp WA W mb k X (.slice aG nG cG)) (hRB:∀V,Below WA.heap.size WA V->V.heap[w.heap.size+1]?=some (.cells #[Nl,Nl,Nl,Nl,I 0] 27 (0,0))) (hb0:Below w.heap.size w WA) (hrl:w.heap.size+1<WA.heap.size) (vs:List Value) :
  ∃aS nS cS aF nF cF aL nL cL hd,(W.cell? (Ad mb 0)=some (.slice aS nS cS)/\W.cell? (Ad mb 1)=some (.slice aF nF cF)/\W.cell? (Ad mb 2)=some (.slice aL nL cL)/\W.cell? (Ad mb 3)=some (.slice aG nG cG)/\W.cell? (Ad mb 4)=some (I hd))/\W.heap[w.heap.size+1]?=some (.cells #[Nl,Nl,Nl,Nl,I 0] 27 (0,0))/\∀U,aM (fun b=>b=w.heap.size+1) W U->dg w k vs (.returned (.tuple (Value.agg #[.slice aS nS cS,.slice aF nF cF,.slice aL nL cL,.slice aG nG cG,I hd]::vs).toArray)) U:=by
 obtain⟨S,hs,hsame,iU,hv,hbl⟩:=h;obtain⟨aS,nS,cS,eS⟩:∃b n d,S.vS=.slice b n d:=by obtain⟨b,d,e,_⟩:=aY iU.aD;grind
 obtain⟨aF,nF,cF,eF⟩:∃b n d,S.vF=.slice b n d:=by obtain⟨b,d,e,_⟩:=aY iU.frames;grind
 obtain⟨aL,nL,cL,eL⟩:∃b n d,S.vL=.slice b n d:=by obtain⟨b,d,e,_⟩:=aY iU.slots;grind
 have jQ:Below w.heap.size w W:=hb0.trans (hbl.mono hb0.size);refine⟨aS,nS,cS,aF,nF,cF,aL,nL,cL,_,⟨by grind [bu.c0],by grind [bu.c1],by grind [bu.c2],by grind [bu.c3],iU.c4⟩,hRB _ hbl,fun U hU=>⟨S,hs,hsame,by rw[eS,eF,eL,hv];rfl,(iU.toKr.kp hU (fun b hb e=>by have:=(iU.rV b hb).1;omega)).mono hb0.size,aM.below jQ hU jQ.size (fun b e=>by omega)⟩⟩
theorem TD (Hk:sG) (k:aN) (a:fR) (sp:Int) (w:World) (hK:gD w a k) (hF:iI k) (hsp:eY sp) :
  Calls Tryz.prog 39 #[.agg (bg a k),I sp] w (dg w (uG k sp).1 [I (uG k sp).2.1,I (uG k sp).2.2]):=by
 obtain⟨WA,jG⟩:=ex ((w.alloc (.cells (bg a k) 27)).alloc (.cells #[Nl,Nl,Nl,Nl,I 0] 27));have hb0:Below w.heap.size w WA:=by simp_all [aK,m9]
 have kb:WA.heap[w.heap.size]?=some (.cells (bg a k) 27 (0,0)):=by grind [bM,bO]
 have rb:WA.heap[w.heap.size+1]?=some (.cells #[Nl,Nl,Nl,Nl,I 0] 27 (0,0)):=by
  grind [bO,World.size_alloc]
 have RB:Hid (∀V,Below WA.heap.size WA V->V.heap[w.heap.size+1]?=some (.cells #[Nl,Nl,Nl,Nl,I 0] 27 (0,0))):=fun V hb=>aQ rb hb (aT rb)
 have k0:WA.cell? (Ad w.heap.size 0)=some (.slice a.aS k.aD.length a.cS):=aB kb 0 rfl;have k1:WA.cell? (Ad w.heap.size 1)=some (.slice a.aF k.frames.length a.cF):=aB kb 1 rfl;have k2:WA.cell? (Ad w.heap.size 2)=some (.slice a.aL k.slots.length a.cL):=aB kb 2 rfl;have k3:WA.cell? (Ad w.heap.size 3)=some (.slice a.aP k.aj.length a.cP):=aB kb 3 rfl;have k4:WA.cell? (Ad w.heap.size 4)=some (I k.hand):=aB kb 4 rfl;have lI:=ai jG;have eU:=ai hb0;have hrl:=aT rb;have vY:=ai (xU k a sp WA (hK.below hb0) hF hsp);have RV:Hid (∀(V:World) (C:Int),Below w.heap.size w V->dg w dK [I 0,I C] (.returned (.tuple #[.agg #[Nl,Nl,Nl,Nl,I 0],I 0,I C])) V):=fun V C hV=>oJ _ hV
 by_cases c:dV k sp=0
 · obtain⟨hR,Jy,hj,tv⟩:=pA c;obtain⟨j,hje⟩:∃j:Nat,sp=(j:Int):=⟨sp.toNat,by omega⟩;subst hje;rw[jn] at hj tv;have hsm:=sF hR hF;have vX:Hid (Calls Tryz.prog 69 #[.agg (bg a k),I (j:Int)] WA fun e w'=>∃mb,e=.returned (.tuple #[.pointer (some (Ad mb 0)),I 0])/\WA.heap.size<=mb/\w'.heap[mb]?=some (.cells (nu a k) 104 (0,0))/\Below WA.heap.size WA w'):=vY.o.mono fun e w' ⟨h1,h2⟩=>by
    grind
   obtain⟨pb,po,hpo,hpl,Sv⟩:=hK.aj (by omega);obtain⟨va,ap,cp,v0,v1,v2,hha,SZ,_⟩:=Sv j hj;have Bc:=hha;obtain⟨aa,ca,Av,_⟩:=hha;subst Av;have hrm:=wN k.aj k.aj.length;have hcc:=hR.c;have hA0:uG k (j:Int)=if k.aj.length=4 then (dK,0,2) else if fL k.aj+dU (ak k.aj j).bk>(k.slots.length:Int) then (dK,0,8) else (qV k j,(k.aj.length:Int),0):=by
    unfold uG
    grind
   rw[hA0];have hfit:=(hF.sp j hj).bk;have jQ:∀{V:World},Below WA.heap.size WA V->Below w.heap.size w V:=fun hV=>hb0.trans (hV.mono hb0.size)
   have Sw:(j:Int)<(k.aj.length:Int):=by omega
   have hsj:=hR.sp hj;have Vg:∀n,n<(ak k.aj j).aU.length->((aH (ak k.aj j).aU n).kind=1->0<=(aH (ak k.aj j).aU n).loc/\(aH (ak k.aj j).aU n).loc<(k.frames.length:Int))/\((aH (ak k.aj j).aU n).kind≠1->0<=(aH (ak k.aj j).aU n).loc/\(aH (ak k.aj j).aU n).loc<(k.slots.length:Int)):=fun n hn=>by
    obtain⟨_,e2⟩:=hsj.Hf _ (jc (d:=dW) hn);rcases e2 with⟨e4,e5,e6⟩ | ⟨e4,e5,e6⟩
    · exact⟨fun _=>⟨e5,e6⟩,fun g=>absurd e4 g⟩
    · exact⟨fun g=>absurd (e4.symm.trans g) (by decide),fun _=>⟨e5,e6⟩⟩
   have hen:=iZ hR hj;have har:=kO _ hsj.bk;have SP:=fun n hn=>wT hR hj n hn
   obtain⟨sj,YL⟩:=ex (ak k.aj j);have Dx:qV k j={ eu k sj.aU sj.aU.length with aj:=(eu k sj.aU sj.aU.length).aj++[sj] }:=by rw[YL];rfl
   rw[<- YL] at v0 v1 v2 Bc SZ hfit Vg hen har tv SP ⊢;obtain⟨lv,pH,nN⟩:=sj;simp only at v0 v1 v2 Bc SZ hfit Vg hen har tv SP Dx;have HV:Hid (∀V,Below WA.heap.size WA V->V.cell? (Ad pb (po+j*3))=some (.bool lv)/\V.cell? (Ad pb (po+j*3+1))=some (.slice aa pH.length ca)/\V.cell? (Ad pb (po+j*3+2))=some (.slice ap nN.length cp)):=fun V hV=>⟨((jQ hV).cell (p:=(Ad pb (po+j*3))) hpl).trans v0,((jQ hV).cell (p:=(Ad pb (po+j*3+1))) hpl).trans v1,((jQ hV).cell (p:=(Ad pb (po+j*3+2))) hpl).trans v2⟩
   have YC:Hid (∀(V:World) mb,V.heap[mb]?=some (.cells (nu a k) 104 (0,0))->V.cell? (Ad mb 3)=some (.slice (some (Ad pb po)) k.aj.length a.cP)):=fun V mb h=>by
    have:=aB (v:=.slice a.aP k.aj.length a.cP) h 3 rfl;rw[hpo] at this;omega
   have Vo:Hid (∀(V:World) mb,V.heap[mb]?=some (.cells (nu a k) 104 (0,0))->V.cell? (Ad mb 2)=some (.slice a.aL k.slots.length a.cL)):=fun V mb h=>aB h 2 rfl
   by_cases c4:k.aj.length=4
   · rw[aR c4];have cV:=ai (fun V (h:Below w.heap.size w V)=>RV.o V 2 h);obtain⟨P,hP⟩:=ex (dg w dK [I 0,I 2]);show Calls _ _ _ _ (dg w dK [I 0,I 2]);rw[<- hP] at cV ⊢;have c4i:(k.aj.length:Int)=4:=by omega
     unfold bg at vX lI ⊢;clear hK hF hsp hA0 c hP jG hb0 kb rb vY hR Jy hj Sv v0 v1 v2 Bc SZ hfit hpo hcc hrm hsm c4 RV YL Dx Vg hen har tv SP hsj jQ;go_enter Tryz.func39,Tryz.ntmps39;go_upto_region 1 with fail;rw[<- lI.o];go_upto_region 5 with(go_at_call 69;refine vX.o.mono ?_;rintro e w1 ⟨mb,rfl,rZ,hm2,hb1⟩;have ZZ:=ai hm2;have dz:=ai hb1;have m3:=YC.o _ _ hm2;obtain⟨u0,u1,u2⟩:=HV.o _ hb1;clear rZ hm2 hb1)
     have kJ:=ai (dz.o.alloc dz.o.size (.cells #[.bool lv,.slice aa pH.length ca,.slice ap nN.length cp] 43));have B3:=ai (bO w1 #[.bool lv,.slice aa pH.length ca,.slice ap nN.length cp] 43);have M3:=ai (bM ZZ.o (.cells #[.bool lv,.slice aa pH.length ca,.slice ap nN.length cp] 43));have HMX:Hid (w1.heap.size≠mb):=(show w1.heap.size≠mb from fun e=>by have:=aT ZZ.o;omega);obtain⟨W3,hW3⟩:=ex (w1.alloc (.cells #[.bool lv,.slice aa pH.length ca,.slice ap nN.length cp] 43));obtain⟨fb,Ef⟩:=ex w1.heap.size;rw[<- hW3] at kJ B3 M3 ⊢;rw[<- Ef] at B3 HMX ⊢;clear hW3 Ef m3 u0 u1 u2;have m3:=YC.o _ _ M3.o;go_upto_region 6 with fail;have R1:=ai (RB.o _ kJ.o);have pZ:=ai (eU.o.trans (kJ.o.mono eU.o.size));obtain⟨y0,y1,y2,y3,y4⟩:=fy R1.o;have f0:=aO R1.o 0;have f1:=aO R1.o 1;have f2:=aO R1.o 2;have f3:=aO R1.o 3;have f4:=aO R1.o 4;have h5:=ai (fun V=>kR R1.o Nl Nl Nl Nl (I 0) (V:=V));go_wp2;obtain⟨r1,r2⟩:=h5.out _ rfl;obtain⟨y0,y1,y2,y3,y4⟩:=fy r1;refine cm (v:=.tuple #[.agg #[Nl,Nl,Nl,Nl,I 0],I 0,I 2]) (by simp[results,Tryz.results39,go_sem,y0,y1,y2,y3,y4]) rfl ?_;exact cV.o _ (aM.below pZ.o r2 pZ.o.size (fun b e=>by omega))
   rw[bf c4];have Oj:Hid (∀V mb,Below WA.heap.size WA V->V.heap[mb]?=some (.cells (nu a k) 104 (0,0))->Calls Tryz.prog 83 #[.pointer (some (Ad mb 0))] V fun e w'=>e=.returned (I (fL k.aj))/\Below V.heap.size V w'):=fun V mb hV hm=>Gk k.aj a.aP a.cP mb V (hK.aj.below (jQ hV)) (fun i hi=>(hF.sp i hi).bk) (by omega) (aB hm 3 rfl)
   have HT1:Hid (∀V,Below WA.heap.size WA V->Calls Tryz.prog 54 #[.slice aa pH.length ca] V fun e w'=>e=.returned (I (dU pH))/\Below V.heap.size V w'):=fun V hV=>Ao _ _ V (Bc.below (jQ hV)) hfit
   have hd1:=nr pH;have c4i:¬(k.aj.length:Int)=4:=by omega
   by_cases cr:fL k.aj+dU pH>(k.slots.length:Int)
   · rw[aR cr];obtain⟨RM,Yh⟩:=ex (fL k.aj);obtain⟨T1,hT1⟩:=ex (dU pH);have aeD:0<=RM/\RM<=65025*4:=by
      rw[Yh];unfold fL;omega
     rw[<- hT1] at hd1 HT1 cr;rw[<- Yh] at Oj cr;have cV:=ai (fun V (h:Below w.heap.size w V)=>RV.o V 8 h);obtain⟨P,hP⟩:=ex (dg w dK [I 0,I 8]);show Calls _ _ _ _ (dg w dK [I 0,I 8]);rw[<- hP] at cV ⊢;have c2:(k.slots.length:Int)<RM+T1:=cr;unfold bg at vX lI ⊢;clear hK hF hsp hA0 c hP jG hb0 kb rb vY hR Jy hj Sv v0 v1 v2 Bc SZ hfit hpo hcc hrm hsm c4 RV YL Dx Vg hen har tv SP hsj jQ Yh hT1 cr;go_enter Tryz.func39,Tryz.ntmps39;go_upto_region 1 with fail;rw[<- lI.o];go_upto_region 5 with(go_at_call 69;refine vX.o.mono ?_;rintro e w1 ⟨mb,rfl,rZ,hm2,hb1⟩;have ZZ:=ai hm2;have dz:=ai hb1;have m3:=YC.o _ _ hm2;obtain⟨u0,u1,u2⟩:=HV.o _ hb1;clear rZ hm2 hb1)
     have kJ:=ai (dz.o.alloc dz.o.size (.cells #[.bool lv,.slice aa pH.length ca,.slice ap nN.length cp] 43));have B3:=ai (bO w1 #[.bool lv,.slice aa pH.length ca,.slice ap nN.length cp] 43);have M3:=ai (bM ZZ.o (.cells #[.bool lv,.slice aa pH.length ca,.slice ap nN.length cp] 43));have HMX:Hid (w1.heap.size≠mb):=(show w1.heap.size≠mb from fun e=>by have:=aT ZZ.o;omega);obtain⟨W3,hW3⟩:=ex (w1.alloc (.cells #[.bool lv,.slice aa pH.length ca,.slice ap nN.length cp] 43));obtain⟨fb,Ef⟩:=ex w1.heap.size;rw[<- hW3] at kJ B3 M3 ⊢;rw[<- Ef] at B3 HMX ⊢;clear hW3 Ef m3 u0 u1 u2;have m3:=YC.o _ _ M3.o;go_upto_region 7 with fail;have uP:=gG W3;have q1:∀x:dm W3.heap.size W3,x.world.cell? (Ad fb 1)=some (.slice aa pH.length ca):=fun x=>aB (aQ B3.o x.keeps (aT B3.o)) 1 rfl
     have q2:∀x:dm W3.heap.size W3,x.world.cell? (Ad mb 2)=some (.slice a.aL k.slots.length a.cL):=fun x=>Vo.o _ _ (aQ M3.o x.keeps (aT M3.o))
     have Zz:=ai (fun V (hV:Below W3.heap.size W3 V)=>Oj.o V mb (kJ.o.trans (hV.mono kJ.o.size)) (aQ M3.o hV (aT M3.o)));have Zx:=ai (fun V (hV:Below W3.heap.size W3 V)=>HT1.o V (kJ.o.trans (hV.mono kJ.o.size)));clear m3;refine cA (by kernel_rfl) (by kernel_rfl) ?_
     repeat (first | go_big_quiet_step ((first | (go_at_call 83;exact fJ _ Zz.o) | (go_at_call 54;exact fJ _ Zx.o))) | quiet_step ((first | (go_at_call 83;exact fJ _ Zz.o) | (go_at_call 54;exact fJ _ Zx.o))))
     refine fK ?_;rintro _ ⟨X,rfl⟩;have uO:=ai (kJ.o.trans (X.keeps.mono kJ.o.size));have R1:=ai (RB.o _ uO.o);have pZ:=ai (eU.o.trans (uO.o.mono eU.o.size));obtain⟨y0,y1,y2,y3,y4⟩:=fy R1.o;have f0:=aO R1.o 0;have f1:=aO R1.o 1;have f2:=aO R1.o 2;have f3:=aO R1.o 3;have f4:=aO R1.o 4;have h5:=ai (fun V=>kR R1.o Nl Nl Nl Nl (I 0) (V:=V));go_wp2;obtain⟨r1,r2⟩:=h5.out _ rfl;obtain⟨y0,y1,y2,y3,y4⟩:=fy r1;refine cm (v:=.tuple #[.agg #[Nl,Nl,Nl,Nl,I 0],I 0,I 8]) (by simp[results,Tryz.results39,go_sem,y0,y1,y2,y3,y4]) rfl ?_;exact cV.o _ (aM.below pZ.o r2 pZ.o.size (fun b e=>by omega))
   rw[bf cr];have HOW:Hid (∀V mb,Below WA.heap.size WA V->WA.heap.size<=mb->V.heap[mb]?=some (.cells (nu a k) 104 (0,0))->Calls Tryz.prog 84 #[.pointer (some (Ad mb 0))] V fun e w'=>e=.returned (.tuple #[])/\∃S hs,cW k.aD hs/\bu WA.heap.size mb 104 (gI k) w' S (bN k hs)/\(∀b,S.lab b≠.no->b=mb∨V.heap.size<=b)/\aM (fun b=>b=mb) V w'):=fun V mb hV rZ hm2=>LF Hk k a mb V (hK.below (jQ hV)) hsm hm2 WA.heap.size rZ
   have oD:Hid (∀V n,Below WA.heap.size WA V->n<nN.length->∃eb eo,ap=some (Ad eb eo)/\V.cell? (Ad eb (eo+n*3))=some (I (aH nN n).page)/\V.cell? (Ad eb (eo+n*3+1))=some (I (aH nN n).kind)/\V.cell? (Ad eb (eo+n*3+2))=some (I (aH nN n).loc)):=fun V n hV hn=>by
    obtain⟨eb,eo,e1,e2,e3⟩:=(SZ.below (jQ hV)) (by omega);have z0:=e3 n hn 0 (by omega);rw[fW] at z0;exact⟨eb,eo,e1,z0,e3 n hn 1 (by omega),e3 n hn 2 (by omega)⟩
   have Vr:Hid (∀V S mb hs n,n<nN.length->bu WA.heap.size mb 104 (gI k) V S (bN (eu k nN n) hs)->Calls Tryz.prog 85 #[.pointer (some (Ad mb 0)),.agg #[I (aH nN n).page,I (aH nN n).kind,I (aH nN n).loc],I 1] V fun e w'=>e=.returned (.tuple #[])/\bu WA.heap.size mb 104 (gI k) w' S (bN (eu k nN (n+1)) hs)/\bU S V S w'):=fun V S mb hs n hn hV=>by
    have hp:=SP n (by omega);have KU:=TB hR hj YL n (qc hn);refine(zU (bN (eu k nN n) hs) S V (aH nN n) 1 hV (fun g=>?_) (fun g=>?_) (.inl rfl) ⟨fun g=>?_,fun g=>?_⟩).mono fun e w' ⟨h1,h2,h3⟩=>⟨h1,?_,h3⟩
    · show _/\_<((eu k nN n).frames.length:Int);rw[hp.2.2.2.1];exact(Vg n hn).1 g
    · show _/\_<((eu k nN n).slots.length:Int);rw[hp.2.2.2.2.1];exact(Vg n hn).2 g
    · exact KU.1 _ (by have:=(Vg n hn).1 g;omega)
    · exact KU.2 _ (by have:=(Vg n hn).2 g;omega)
    · rw[Mh] at h2;exact h2
   have SF:Hid (∀n,n<=nN.length->(eu k nN n).aj.length=k.aj.length):=fun n hn=>by rw[(SP n hn).2.2.1]
   have HSK:Hid ((qV k j).aD=k.aD/\(qV k j).hand=k.hand/\(qV k j).aj.length=k.aj.length+1):=by
    have hp:=SP nN.length (aI _);rw[Dx];refine⟨hp.1,hp.2.1,?_⟩;show((eu k nN nN.length).aj++[_]).length=_;rw[fk,hp.2.2.1];rfl
   have HFK:Hid (∀hs,bN (qV k j) hs={ bN (eu k nN nN.length) hs with aj:=(bN (eu k nN nN.length) hs).aj++[⟨lv,pH,nN⟩] }):=fun hs=>by rw[Dx];rfl
   have HHA:Hid (∀V,Below WA.heap.size WA V->fu V (.slice aa pH.length ca) pH/\cJ bj 3 dW V ap nN):=fun V hV=>⟨Bc.below (jQ hV),SZ.below (jQ hV)⟩
   obtain⟨RM,Yh⟩:=ex (fL k.aj);obtain⟨T1,hT1⟩:=ex (dU pH);have aeD:0<=RM/\RM<=65025*4:=by
    rw[Yh];unfold fL;omega
   rw[<- hT1] at hd1 HT1 cr;rw[<- Yh] at Oj cr;obtain⟨P,hP⟩:=ex (dg w (qV k j) [I (k.aj.length:Int),I 0]);show Calls _ _ _ _ (dg w (qV k j) [I (k.aj.length:Int),I 0]);rw[<- hP];have HP:=ai hP;have c2:¬(k.slots.length:Int)<RM+T1:=cr;have arW:k.aj.length<=4:=by omega
   unfold bg at vX lI ⊢;clear hK hF hsp hA0 c hP jG hb0 kb rb vY hR Jy hj Sv v0 v1 v2 Bc SZ hfit hpo hcc hrm hsm c4 RV YL Dx Vg tv SP hsj jQ Yh hT1 cr Hk;go_enter Tryz.func39,Tryz.ntmps39;go_upto_region 1 with fail;rw[<- lI.o];go_upto_region 5 with(go_at_call 69;refine vX.o.mono ?_;rintro e w1 ⟨mb,rfl,rZ,hm2,hb1⟩;have Ji:=ai rZ;have ZZ:=ai hm2;have dz:=ai hb1;have m3:=YC.o _ _ hm2;obtain⟨u0,u1,u2⟩:=HV.o _ hb1;clear rZ hm2 hb1)
   have kJ:=ai (dz.o.alloc dz.o.size (.cells #[.bool lv,.slice aa pH.length ca,.slice ap nN.length cp] 43));have B3:=ai (bO w1 #[.bool lv,.slice aa pH.length ca,.slice ap nN.length cp] 43);have M3:=ai (bM ZZ.o (.cells #[.bool lv,.slice aa pH.length ca,.slice ap nN.length cp] 43));have HMX:Hid (w1.heap.size≠mb):=(show w1.heap.size≠mb from fun e=>by have:=aT ZZ.o;omega);obtain⟨W3,hW3⟩:=ex (w1.alloc (.cells #[.bool lv,.slice aa pH.length ca,.slice ap nN.length cp] 43));obtain⟨fb,Ef⟩:=ex w1.heap.size;rw[<- hW3] at kJ B3 M3 ⊢;rw[<- Ef] at B3 HMX ⊢;clear hW3 Ef m3 u0 u1 u2;have m3:=YC.o _ _ M3.o;go_upto_region 7 with fail;have uP:=gG W3;have q1:∀x:dm W3.heap.size W3,x.world.cell? (Ad fb 1)=some (.slice aa pH.length ca):=fun x=>aB (aQ B3.o x.keeps (aT B3.o)) 1 rfl
   have q2:∀x:dm W3.heap.size W3,x.world.cell? (Ad mb 2)=some (.slice a.aL k.slots.length a.cL):=fun x=>Vo.o _ _ (aQ M3.o x.keeps (aT M3.o))
   have Zz:=ai (fun V (hV:Below W3.heap.size W3 V)=>Oj.o V mb (kJ.o.trans (hV.mono kJ.o.size)) (aQ M3.o hV (aT M3.o)));have Zx:=ai (fun V (hV:Below W3.heap.size W3 V)=>HT1.o V (kJ.o.trans (hV.mono kJ.o.size)));clear m3;refine cA (by kernel_rfl) (by kernel_rfl) ?_
   repeat (first | go_big_quiet_step ((first | (go_at_call 83;exact fJ _ Zz.o) | (go_at_call 54;exact fJ _ Zx.o))) | quiet_step ((first | (go_at_call 83;exact fJ _ Zz.o) | (go_at_call 54;exact fJ _ Zx.o))))
   refine fK ?_;rintro _ ⟨X,rfl⟩;have uO:=ai (kJ.o.trans (X.keeps.mono kJ.o.size));have MX:=ai (aQ M3.o X.keeps (aT M3.o));have BX:=ai (aQ B3.o X.keeps (aT B3.o));clear uP q2 q1 Zz Zx Oj HT1;obtain⟨WX,hWX⟩:=ex X.world;rw[<- hWX] at uO MX BX ⊢;clear hWX;go_upto_region 10 with(go_at_call 84;refine(HOW.o _ _ uO.o Ji.o MX.o).mono ?_;rintro e w4 ⟨rfl,S,hs,hs2,hk2,ahj,ahr⟩;have lR:=ai hs2;have qa:=ai hk2;have Xp:=ai ahj;have aiU:=ai ahr;clear hs2 hk2 ahj ahr)
   have tq:S.lab fb=.no:=xE.1 fun g=>by
    rcases Xp.o fb g with e | e
    · exact HMX.o e
    · have:=aT BX.o;omega
   have HNF:=ai tq;have B4:=ai (aiU.o.keep BX.o HMX.o);have ahL:Below WA.heap.size WA w4:=aM.below uO.o aiU.o uO.o.size (fun b e=>by have:=Ji.o;omega);have pZ:=ai ahL;have x2:w4.cell? (Ad fb 2)=some (.slice ap nN.length cp):=aB B4.o 2 rfl;have aiy:Hid (∀V,aM (fun b=>S.lab b≠.no) w4 V->V.heap[fb]?=some (.cells #[.bool lv,.slice aa pH.length ca,.slice ap nN.length cp] 43 (0,0))/\Below WA.heap.size WA V):=fun V hV=>⟨hV.keep B4.o (fun g=>g HNF.o),aM.below pZ.o hV pZ.o.size (fun b hb=>(qa.o.rV b hb).1)⟩
   clear tq ahL;go_wp2;go_loopw [59] (fun iv wq=>∃n:Nat,n<=nN.length/\iv=I (n:Int)/\bu WA.heap.size mb 104 (gI k) wq S (bN (eu k nN n) hs)/\aM (fun b=>S.lab b≠.no) w4 wq) (fun iv _=>nN.length-(intOf iv).toNat)
   case atStart=>exact⟨0,by omega,rfl,qa.o,aM.refl _ _⟩
   case round =>
    obtain⟨n,hn,rfl,iU,hkq⟩:=hrel;by_cases hlt:n<nN.length
    · have hni:(n:Int)<(nN.length:Int):=by omega
      obtain⟨Ef,Az⟩:=aiy.o wr hkq;obtain⟨eb,eo,hap,z0,z1,z2⟩:=oD.o wr n Az hlt;have tD:Hid (Calls Tryz.prog 85 #[.pointer (some (Ad mb 0)),.agg #[I (aH nN n).page,I (aH nN n).kind,I (aH nN n).loc],I 1] (wr.alloc (.cells #[I (aH nN n).page,I (aH nN n).kind,I (aH nN n).loc] 45)) fun e w'=>e=.returned (.tuple #[])/\bu WA.heap.size mb 104 (gI k) w' S (bN (eu k nN (n+1)) hs)/\aM (fun b=>S.lab b≠.no) w4 w'):=(Vr.o _ S mb hs n hlt (iU.below ((aK _ _).alloc (aI _) _))).mono fun e w' ⟨h1,h2,h3⟩=>⟨h1,h2,(hkq.trans (aM.alloc _ _ _) (fun _ _ g=>g)).trans h3.kp (fun _ _ g=>g)⟩
      obtain⟨en,aas⟩:=ex (aH nN n);rw[<- aas] at z0 z1 z2 tD;obtain⟨g1,g2,g3⟩:=en;simp only at z0 z1 z2 tD;subst hap;clear iU hkq Ef Az aas Vr oD;go_wp2_with (go_at_call 85;refine tD.o.mono ?_;rintro e w5 ⟨rfl,h5,h6⟩;have M5:=ai h5;have HP5:=ai h6;clear h5 h6)
      go_roundw
      case rel=>exact⟨n+1,by omega,by go_num,M5.o,HP5.o⟩
      case measure=>simp[intOf];omega
    · obtain rfl:n=nN.length:=by omega
      obtain⟨Ef,Az⟩:=aiy.o wr hkq;obtain⟨bP,dP,eP,_⟩:=aY iU.aj;have hLl:S.L.length<=1000000:=by
       have:=iU.len;have e:(bN (eu k nN nN.length) hs).aj.length=k.aj.length:=SF.o _ (aI _);omega
      have HLK:Hid (S.L.length=k.aj.length):=by
       have:=iU.len;have e:(bN (eu k nN nN.length) hs).aj.length=k.aj.length:=SF.o _ (aI _);exact(show S.L.length=k.aj.length by omega)
      have Sy:Below wr.heap.size wr wr.drew:=(aK _ _).drew;have BD:wr.drew.heap[fb]?=some (.cells #[.bool lv,.slice aa pH.length ca,.slice ap nN.length cp] 43 (0,0)):=aQ Ef Sy (aT Ef);obtain⟨WD,MZ⟩:=ex wr.drew;rw[<- MZ] at Sy BD;have HWD:=ai MZ;have hkD:=iU.below Sy;have hlD:WA.heap.size<=WD.heap.size:=gy Az.size Sy.size;have acA:Below WA.heap.size WA WD:=Az.trans (Sy.mono Az.size);obtain⟨hh1,hh2⟩:=HHA.o WD acA;have Z3:Hid (Calls Tryz.prog 86 #[.agg #[.bool lv,.slice aa pH.length ca,.slice ap nN.length cp]] WD fun e w'=>∃xa nx cx ya ny cy,e=.returned (.agg #[.bool lv,.slice xa nx cx,.slice ya ny cy])/\kF WD.heap.size w' ⟨lv,.slice xa nx cx,.slice ya ny cy⟩ ⟨lv,pH,nN⟩/\(∀b,bQ (.slice ya ny cy) b->¬bQ (.slice xa nx cx) b)/\Below WD.heap.size WD w'):=(DK ⟨lv,pH,nN⟩ aa ap pH.length ca cp WD hh1 hh2 (by show pH.length<=_;omega) (by show nN.length<=_;omega)).mono fun e w' ⟨va,vp,h1,h2,h3,h4⟩=>by
       obtain⟨xa,cx,ex,_⟩:=aY h2.bk;obtain⟨ya,cy,ey,_⟩:=aY h2.bC;have ex:va=_:=ex;have ey:vp=_:=ey;subst ex ey;exact⟨xa,_,cx,ya,_,cy,h1,h2,h3,h4⟩
      have agd:Hid (∀V,aM (fun b=>bQ S.vP b) WD V->V.cell? (Ad mb 3)=some (.slice bP S.L.length dP)/\V.cell? (Ad fb 0)=some (.bool lv)/\V.cell? (Ad fb 1)=some (.slice aa pH.length ca)/\V.cell? (Ad fb 2)=some (.slice ap nN.length cp)/\V.frozen? (Ad mb 3)=false):=fun V hV=>by
       have b1:=hV.keep hkD.head (fun g=>by have:=iU.lP _ g;rw[iU.lH] at this;simp at this);have b2:=hV.keep BD (fun g=>by have:=iU.lP _ g;rw[HNF.o] at this;simp at this);refine⟨?_,aB b2 0 rfl,aB b2 1 rfl,aB b2 2 rfl,aO b1 3⟩;rw[<- eP];exact aB b1 3 rfl
      have SG:Hid (∀w2 o,Below WD.heap.size WD w2->(w2.alloc o).ownsRow WA.heap.size 43 3 (.slice bP S.L.length dP) S.L.length (S.L.flatMap eT)):=fun w2 o hb=>by
       have:=((aM.cH (D:=fun _=>False) hb).trans (aM.alloc _ w2 o) (fun _ _ g=>g)).row hkD.aj (fun _ _ g=>g);rw[eP] at this;omega
      have UH:Hid (∀w2 w4 O v' l,Below WD.heap.size WD w2->kF WD.heap.size w2 l ⟨lv,pH,nN⟩->(∀b,bQ l.vp b->¬bQ l.va b)->(w2.alloc O).grownBy w4 S.vP.ownBlock->w4.ownsRow WA.heap.size 43 3 v' (S.L.length+1) (S.L.flatMap eT++eT l)->(v'.ownBlock=S.vP.ownBlock∨v'.ownBlock=some (w2.alloc O).heap.size)->Yp WA (w4.setCell (Ad mb 3) v') mb (qV k j) (gI k) v'):=fun w2 w4 O v' l h1 h2 h3 h4 h5 h6=>by
       have m1:=hkD.push hlD h1 h2 h3 h4 h5 h6;have m2:=m1.1;rw[<- HFK.o hs] at m2;exact⟨_,hs,by rw[HSK.o.1];exact lR.o,m2,rfl,aM.below acA m1.2.2 acA.size (fun b hb=>(hkD.rV b hb).1)⟩
      have uT:Hid (∀w2,Below WD.heap.size WD w2->aM (fun b=>bQ S.vP b) WD w2):=fun w2 h=>aM.cH h
      have HEP:=ai eP;obtain⟨i0,hin,hz0,hz1,hz2⟩:=gm Hx;have yG:=ai hin;have Bg:=ai hz0;have Bf:=ai hz1;have Aj:=ai hz2;clear iU hkD hkq Az Ef hh1 hh2 MZ Sy BD eP hin hz0 hz1 hz2 acA Vr oD;go_upto_region 15 with fail;refine m7 (S:=fun V=>aM (fun b=>bQ S.vP b) WD V) (z:=13) (by kernel_rfl) ?_;rw[<- HWD.o];have gq:=agd;have gu:Hid (aM (fun b=>bQ S.vP b) WD WD):=aM.refl _ _;refine cN 0 gu.o ?_ ?_ ?_;rotate_left 1
      · intro V h;obtain⟨k0,k1,k2,k3,k4⟩:=gq.o V h;go_simp
        try with_reducible rfl
      refine cN 1 gu.o ?_ ?_ ?_;rotate_left 1
      · intro V h;obtain⟨k0,k1,k2,k3,k4⟩:=gq.o V h;go_simp
        try with_reducible rfl
      refine cN 2 gu.o ?_ ?_ ?_;rotate_left 1
      · intro V h;obtain⟨k0,k1,k2,k3,k4⟩:=gq.o V h;go_simp
        try with_reducible rfl
      refine cN 3 gu.o ?_ ?_ ?_;rotate_left 1
      · intro V h;obtain⟨k0,k1,k2,k3,k4⟩:=gq.o V h;go_simp
        try with_reducible rfl
      refine cN 4 gu.o ?_ ?_ ?_;rotate_left 1
      · intro V h;obtain⟨k0,k1,k2,k3,k4⟩:=gq.o V h;go_simp
        try with_reducible rfl
      refine cN 5 gu.o ?_ ?_ ?_;rotate_left 1
      · intro V h;obtain⟨k0,k1,k2,k3,k4⟩:=gq.o V h;go_simp
        try with_reducible rfl
      refine cN 6 gu.o ?_ ?_ ?_;rotate_left 1
      · intro V h;obtain⟨k0,k1,k2,k3,k4⟩:=gq.o V h;go_simp
        try with_reducible rfl
      refine bW (rs:=[7]) (by kernel_rfl) (by simp) ?_;refine aJ.cons rfl (fun K hK=>?_) aJ.nil;rw[aR (by rfl)];go_simp;go_at_call 86;refine Z3.o.mono ?_;rintro e w6 ⟨xa,nx,cx,ya,ny,cy,rfl,hso,hap,hb2⟩;have Xo:=ai hso;have Xz:=ai hap;have gj:=ai hb2;have oN:=ai (uT.o _ hb2);clear hso hap hb2;try go_simp;refine hK.out _ _ (fun _=>?_) ?_
      · exact oN.o
      clear hK K
      try simp only[Act.put,bJ,bI,bH]
      refine bW (rs:=[8]) (by kernel_rfl) (by simp) ?_;refine aJ.cons rfl (fun K hK=>?_) aJ.nil;go_simp;refine hK.out _ _ (fun _=>?_) ?_
      · exact oN.o.trans (aM.alloc _ _ _) (fun _ _ g=>g)
      clear hK K
      try simp only[Act.put,bJ,bI,bH]
      have alr:=gj.o.size;refine bW (rs:=[9]) (by kernel_rfl) (by simp) ?_;refine aJ.cons rfl (fun K hK=>?_) aJ.nil;rw[aR (by rfl)];refine dM (P:=Tryz.prog) _ _ 25 rfl WA.heap.size 43 i0 (.agg #[.bool false,Nl,Nl]) 3 56 Tryz.underlying25 yG.o Bg.o Bf.o Aj.o rfl (by decide) (.slice bP S.L.length dP) S.L.length (S.L.flatMap eT) rfl (SG.o _ _ gj.o) (some (Ad w6.heap.size 0)) 1 1 (eT ⟨lv,.slice xa nx cx,.slice ya ny cy⟩) rfl rfl (fun _=>⟨_,rfl,OW w6 _ _⟩) (by intro u hu;simp[eT] at hu;rcases hu with rfl | rfl | rfl <;> rfl) (by unfold maxLen;omega) (by omega) (by rw[ig];omega) ?_;intro vG wG yR Bj Dy;obtain⟨aG,cG,KR,_,_⟩:=aY yR;subst KR;rw[<- HEP.o] at Bj Dy;have Bl:Hid (aM (fun b=>bQ S.vP b) WD wG):=(oN.o.trans (aM.alloc _ _ _) (fun _ _ g=>g)).trans (aM.grown Bj (fun q hq=>hq)) (fun _ _ g=>g);have HPF:=ai (UH.o w6 wG _ _ ⟨lv,.slice xa nx cx,.slice ya ny cy⟩ gj.o Xo.o Xz.o Bj yR Dy);clear yR Bj Dy;refine hK.out _ _ (fun _=>?_) ?_
      · exact Bl.o
      clear hK K
      try simp only[Act.put,bJ,bI,bH]
      refine bW (rs:=[10]) (by kernel_rfl) (by simp) ?_;refine aJ.cons rfl (fun K hK=>?_) aJ.nil;go_simp;refine hK.out _ _ (fun _=>?_) ?_
      · exact Bl.o
      clear hK K
      try simp only[Act.put,bJ,bI,bH]
      refine bW (rs:=[11]) (by kernel_rfl) (by simp) ?_;refine aJ.cons rfl (fun K hK=>?_) aJ.nil;go_simp;refine hK.out _ _ (fun _=>?_) ?_
      · exact Bl.o
      clear hK K
      try simp only[Act.put,bJ,bI,bH]
      refine cN 12 Bl.o ?_ ?_ ?_;rotate_left 1
      · intro V h;obtain⟨k0,k1,k2,k3,k4⟩:=gq.o V h;go_simp
        try with_reducible rfl
      obtain⟨k0,k1,k2,k3,k4⟩:=gq.o _ Bl.o;refine bW (rs:=[13]) (by kernel_rfl) (by simp) ?_;refine aJ.cons rfl (fun K hK=>?_) aJ.nil;go_simp;refine hK.out _ _ (fun g=>absurd rfl g) ?_;refine ij (by kernel_rfl) ?_ _;clear k0 k1 k2 k3 k4;obtain⟨aS,nS,cS,aF,nF,cF,aL,nL,cL,hd,hcells,hr3,hfin⟩:=QB HPF.o RB.o eU.o hrl [I (k.aj.length:Int),I 0];have qK:=ai hfin;have R3:=ai hr3;have Jj:=ai hcells;obtain⟨W5,ZT⟩:=ex (wG.setCell (Ad mb 3) (.slice aG (S.L.length+1) cG));rw[<- ZT] at Jj R3 qK ⊢;clear ZT hfin hr3 hcells;obtain⟨q0,q1,q2,q3,q4⟩:=Jj.o;obtain⟨y0,y1,y2,y3,y4⟩:=fy R3.o;have f0:=aO R3.o 0;have f1:=aO R3.o 1;have f2:=aO R3.o 2;have f3:=aO R3.o 3;have f4:=aO R3.o 4;have h5:=ai (fun V=>kR R3.o (.slice aS nS cS) (.slice aF nF cF) (.slice aL nL cL) (.slice aG (S.L.length+1) cG) (I hd) (V:=V));have SV:¬mb=w.heap.size+1:=by have:=Ji.o;omega
      have ahl:¬w.heap.size+1=mb:=by omega
      go_upto_region 16 with fail;go_region;go_wp2;obtain⟨r1,r2⟩:=h5.out _ rfl;obtain⟨y0,y1,y2,y3,y4⟩:=fy (aQ r1 (aK _ _).drew (aT r1));refine cm (v:=.tuple #[.agg #[.slice aS nS cS,.slice aF nF cF,.slice aL nL cL,.slice aG (S.L.length+1) cG,I hd],I (S.L.length:Int),I 0]) (by simp[results,Tryz.results39,go_sem,y0,y1,y2,y3,y4]) rfl ?_;have e:(I (S.L.length:Int):Value)=I (k.aj.length:Int):=by rw[HLK.o]
      rw[e,HP.o];exact qK.o _ (r2.trans (aM.drew _ _) (fun _ _ g=>g))
 · have hA:uG k sp=(dK,0,dV k sp):=by grind [uG]
   rw[hA];have afL:=ai (IW vY.o c);obtain⟨C,hC2⟩:=ex (dV k sp);rw[<- hC2] at afL c ⊢;have cb:(C != 0)=true:=by grind
   have cV:=ai (fun V (h:Below w.heap.size w V)=>RV.o V C h);obtain⟨P,hP⟩:=ex (dg w dK [I 0,I C]);show Calls _ _ _ _ (dg w dK [I 0,I C]);rw[<- hP] at cV ⊢;unfold bg at afL lI ⊢;clear hK hF hsp hA hC2 c hP jG hb0 kb rb vY RV Hk;go_enter Tryz.func39,Tryz.ntmps39;go_upto_region 1 with fail;rw[<- lI.o];go_upto_region 3 with(go_at_call 69;refine afL.o.mono ?_;rintro e w1 ⟨rfl,hb1⟩;have pZ:=ai (eU.o.trans (hb1.mono eU.o.size));have R1:=ai (RB.o _ hb1);clear hb1)
   obtain⟨y0,y1,y2,y3,y4⟩:=fy R1.o;have f0:=aO R1.o 0;have f1:=aO R1.o 1;have f2:=aO R1.o 2;have f3:=aO R1.o 3;have f4:=aO R1.o 4;have h5:=ai (fun V=>kR R1.o Nl Nl Nl Nl (I 0) (V:=V));go_wp2;obtain⟨r1,r2⟩:=h5.out _ rfl;obtain⟨y0,y1,y2,y3,y4⟩:=fy r1;refine cm (v:=.tuple #[.agg #[Nl,Nl,Nl,Nl,I 0],I 0,I C]) (by simp[results,Tryz.results39,go_sem,y0,y1,y2,y3,y4]) rfl ?_;exact cV.o _ (aM.below pZ.o r2 pZ.o.size (fun b e=>by omega))
open Go.RowKit
theorem ze:sG:=fun k a w hK hs=>LH k a w hK hs
end Go.Proofs.YtpgifpeohlllfaaGreat
