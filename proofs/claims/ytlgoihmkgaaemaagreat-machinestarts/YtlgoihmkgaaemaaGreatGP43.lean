import Derived.Test.YtlgoihmkgaaemaaGreatGP42
set_option maxHeartbeats 20000000
set_option linter.unusedVariables false
set_option maxRecDepth 100000
set_option linter.unusedSimpArgs false
namespace Go.Proofs.YtlgoihmkgaaemaaGreat
open Go.RowKit Tryz
theorem aac (l:List kI) (ao:Option Addr) (cap:Nat) (o:kI) (w:World) (hr:o.i.qH=[]):Calls prog 112 #[.agg (pS o),.slice ao l.length cap] w (Ds (wB l o) w):=by
 have e:wB l o=some []:=by unfold wB;rw[hr];rfl
 rw[e];unfold pS;rw[hr];obtain⟨⟨nm,ns,gs,ys,rs,en⟩,⟨an,cn,ag,cg,ay,cy,ar,cr⟩,bs⟩:=o;simp only at hr ⊢;clear hr e;obtain⟨n1,h1⟩:∃n,n=ns.length:=⟨_,rfl⟩;obtain⟨n2,h2⟩:∃n,n=gs.length:=⟨_,rfl⟩;obtain⟨n3,h3⟩:∃n,n=ys.length:=⟨_,rfl⟩;rw[<- h1,<- h2,<- h3];clear h1 h2 h3;have HB:=aB ((aN w.heap.size w).alloc (aJ _) (.cells #[.string nm,.slice an n1 cn,.slice ag n2 cg,.slice ay n3 cy,.slice ar 0 cr,I en,I bs] 131));have eW:Hid (∀w',Below w.heap.size w w'->Ds (some []) w (.returned (.tuple #[Nl,.bool true])) w'):=λw' hb=>⟨hb,_,rfl,nt _ _ _ _⟩
 generalize Ds (some []) w=P at eW ⊢;simp only[P8];go_enter func112,ntmps112;go_wp2;go_loopw [6,17] (λsv iv wr=>sv=Nl/\iv=I 0/\Below w.heap.size w wr) (λ_ _ _=>0)
 case atStart=>grind [Hid.o]
 case round =>
  obtain⟨rfl,rfl,hb⟩:=hrel;have iI:=aB hb;clear hb;go_wp2;exact eW.o _ iI.o
theorem acS (p:jd) (m:Nat) (w:World) (hn:p.i.needs=[]) (him:qM w p.a p.i):Calls prog 64 #[Cc p,.map (some m)] w (Qw [p] (some [0]) w):=by
 have eW:Hid (∀(w':World) g,w'.heap[g]?=some (.cells #[.string p.i.name,.slice p.a.an p.i.needs.length p.a.cn,.slice p.a.ag p.i.jT.length p.a.cg,.slice p.a.ay p.i.syms.length p.a.cy,.slice p.a.ar p.i.qH.length p.a.cr,I p.i.entry,I 1] 131 (0,0))->Below w.heap.size w w'->Qw [p] (some [0]) w (.returned (.tuple #[.slice (some (Ad g 0)) 1 1,.bool true])) w'):=λw' g h1 h2=>by
  refine⟨h2,⟨Δ,Δ,λj hj=>?_⟩,some (Ad g 0),1,rfl,λ_=>⟨g,0,rfl,aM h1,λk hk=>?_⟩⟩
  . grind
  obtain rfl:k=0:=by have:k<1:=hk;omega
  exact⟨⟨aA h1 0 rfl,aA h1 1 rfl,aA h1 2 rfl,aA h1 3 rfl,aA h1 4 rfl,aA h1 5 rfl,aA h1 6 rfl⟩,him.below h2⟩
 generalize Qw [p] (some [0]) w=P at eW ⊢;clear him;unfold Cc jU;rw[hn] at eW ⊢;obtain⟨⟨nm,ns,gs,ys,rs,en⟩,⟨an,cn,ag,cg,ay,cy,ar,cr⟩⟩:=p;simp only at eW ⊢;clear hn;obtain⟨n2,h2⟩:∃n,n=gs.length:=⟨_,rfl⟩;obtain⟨n3,h3⟩:∃n,n=ys.length:=⟨_,rfl⟩;obtain⟨n4,h4⟩:∃n,n=rs.length:=⟨_,rfl⟩;rw[<- h2,<- h3,<- h4] at eW ⊢;simp only[P8] at eW ⊢;clear h2 h3 h4;have HB:=aB (((aN w.heap.size w).alloc (aJ _) (.cells #[.string nm,.slice an 0 cn,.slice ag n2 cg,.slice ay n3 cy,.slice ar n4 cr,I en] 56)).alloc ξ (.cells #[.string nm,.slice an 0 cn,.slice ag n2 cg,.slice ay n3 cy,.slice ar n4 cr,I en,I 1] 131));have HX:Hid (((w.alloc (.cells #[.string nm,.slice an 0 cn,.slice ag n2 cg,.slice ay n3 cy,.slice ar n4 cr,I en] 56)).alloc (.cells #[.string nm,.slice an 0 cn,.slice ag n2 cg,.slice ay n3 cy,.slice ar n4 cr,I en,I 1] 131)).heap[w.heap.size+1]?=some (.cells #[.string nm,.slice an 0 cn,.slice ag n2 cg,.slice ay n3 cy,.slice ar n4 cr,I en,I 1] 131 (0,0))):=by
  have:=bG (w.alloc (.cells #[.string nm,.slice an 0 cn,.slice ag n2 cg,.slice ay n3 cy,.slice ar n4 cr,I en] 56)) #[.string nm,.slice an 0 cn,.slice ag n2 cg,.slice ay n3 cy,.slice ar n4 cr,I en,I 1] 131;rw[fp] at this;exact this
 go_enter func64,ntmps64;go_wp2;generalize w.heap.size+1=g at HX ⊢;go_loopw [6,7] (λsv iv wr=>sv=.slice (some (Ad g 0)) 1 1/\(∃k:Nat,k<=1/\iv=I (k:Int))/\wr.heap[g]?=some (.cells #[.string nm,.slice an 0 cn,.slice ag n2 cg,.slice ay n3 cy,.slice ar n4 cr,I en,I 1] 131 (0,0))/\Below w.heap.size w wr) (λ_ iv _=>1-(intOf iv).toNat)
 case atStart=>grind [Hid.o]
 case round =>
  obtain⟨rfl,⟨k,hk,rfl⟩,hx,hb⟩:=hrel;have b:=aB hx;have iI:=aB hb;have x1:wr.cell? (Ad g 1)=some (.slice an 0 cn):=aA hx 1 rfl;clear hx hb HX HB;by_cases h0:k=0
  . subst h0;go_wp2;clear x1;go_loopw [6,28] (λsv iv wi=>sv=.slice (some (Ad g 0)) 1 1/\iv=I 0/\wi.heap[g]?=some (.cells #[.string nm,.slice an 0 cn,.slice ag n2 cg,.slice ay n3 cy,.slice ar n4 cr,I en,I 1] 131 (0,0))/\Below w.heap.size w wi) (λ_ _ _=>0)
    case atStart=>exact⟨rfl,rfl,b.o,iI.o⟩
    case round =>
     obtain⟨rfl,rfl,hx,hb⟩:=hrel;have h:=aB hx;have kE:=aB hb;clear hx hb b iI;go_wp2;go_roundw
     case rel=>exact⟨rfl,⟨1,ω,by first | rfl | go_num⟩,h.o,kE.o⟩
     case measure=>simp[intOf]
  obtain rfl:k=1:=by omega
  go_wp2;exact eW.o _ _ b.o iI.o
open Go.RowKit Tryz
def Ae:Array Value:=#[I 16,I 0,I 0,I 0,I 5,I 11,I 1,I 0,I 0,I 40,I 10,I 0,I 1,I 8,I 0,I 9,I 0,I 1,I 1,I 0,I 16,I 0,I 0,I 0,I 1,I 16,I 0,I 0,I 0,I 6]
theorem abM {V:World} {rb:Nat} (h:V.heap[rb]?=some (.cells Ae 108 (0,0))) (k:Nat) (hk:k<6) :
  V.cell? (Ad rb (k*5))=some (I (Bf.getD k GY).op)/\V.cell? (Ad rb (k*5+1))=some (I (Bf.getD k GY).a)/\V.cell? (Ad rb (k*5+2))=some (I (Bf.getD k GY).b)/\V.cell? (Ad rb (k*5+3))=some (I (Bf.getD k GY).c)/\V.cell? (Ad rb (k*5+4))=some (I (Bf.getD k GY).m):=by
 match k,hk with
 | 0,_=>exact⟨aA h 0 rfl,aA h 1 rfl,aA h 2 rfl,aA h 3 rfl,aA h 4 rfl⟩
 | 1,_=>exact⟨aA h 5 rfl,aA h 6 rfl,aA h 7 rfl,aA h 8 rfl,aA h 9 rfl⟩
 | 2,_=>exact⟨aA h 10 rfl,aA h 11 rfl,aA h 12 rfl,aA h 13 rfl,aA h 14 rfl⟩
 | 3,_=>exact⟨aA h 15 rfl,aA h 16 rfl,aA h 17 rfl,aA h 18 rfl,aA h 19 rfl⟩
 | 4,_=>exact⟨aA h 20 rfl,aA h 21 rfl,aA h 22 rfl,aA h 23 rfl,aA h 24 rfl⟩
 | 5,_=>exact⟨aA h 25 rfl,aA h 26 rfl,aA h 27 rfl,aA h 28 rfl,aA h 29 rfl⟩
 | k+6,h=>exact absurd h ω
def Za (w:World) (e:Ending) (w':World):Prop:=∃ar cr ah ch a1 a2 a3 a4 c1 c2 c3 c4,e=.returned (.agg #[.slice ar 1 cr,.slice ah 4 ch,I 16])/\eN w' (.slice ar 1 cr) xe/\gz w' ah (qq a1 a2 a3 a4 c1 c2 c3 c4)/\4<=ch/\Below w.heap.size w w'
theorem agO {a:KM} {w w':World} {e:Ending} (h:aff [⟨kX,a⟩] w e w'):∃ar cr ah ch a1 a2 a3 a4 c1 c2 c3 c4,e=.returned (.tuple #[.agg #[.slice ar 1 cr,.slice ah 4 ch,I 16],I 0])/\eO w.heap.size w' (.slice ar 1 cr) xe/\gz w' ah (qq a1 a2 a3 a4 c1 c2 c3 c4)/\4<=ch/\Below w.heap.size w w':=by
 obtain⟨hb,h2⟩:=h;rw[aQ (aeA a)] at h2;obtain⟨ix,E,r,hs,ao,cap,h3,h4,h5,h6,h7,h8,h9⟩:=h2;rw[SE] at h3;injection h3 with h3;subst h3;rw[aez] at h4 h6 h7;rw[UL] at h4;injection h4 with h4;subst h4;rw[Y9] at h7;rw[Y8] at h6;obtain⟨a1,a2,a3,a4,c1,c2,c3,c4,rfl⟩:=agP h5;obtain⟨ar,cr,hr,_⟩:=Ei h7;subst hr;exact⟨ar,cr,ao,cap,a1,a2,a3,a4,c1,c2,c3,c4,h6,h7,h8,h9,hb⟩
theorem abN {V U:World} {g:Nat} {x y:Value} {n:Int} {ah:Option Addr} {a1 a2 a3 a4:Option Addr} {c1 c2 c3 c4:Nat} (h:gz V ah (qq a1 a2 a3 a4 c1 c2 c3 c4)) (hg:V.heap[g]?=some (.cells #[x,y,I n] 25 (0,0))) (hx:∀k i,x≠.int k i) (hy:∀k i,y≠.int k i) (hk:∀b j v,b≠g->V.cell? (Ad b j)=some v->U.cell? (Ad b j)=some v) (hs:V.heap.size<=U.heap.size):gz U ah (qq a1 a2 a3 a4 c1 c2 c3 c4):=λhl=>by
 obtain⟨b,off,rfl,hb,dZ⟩:=h hl;have hne:b≠g:=λe=>by
  subst e;obtain⟨d0,d1,_,_⟩:=dZ 0 (by unfold qq;simp);rw[Nat.zero_mul,jt] at d0 d1
  match off,d0,d1 with
  | 0,d0,_ =>
   rw[aA hg 0 (v:=x) rfl] at d0;injection d0 with d0;exact hx _ _ d0
  | 1,d0,_ =>
   rw[aA hg 1 (v:=y) rfl] at d0;injection d0 with d0;exact hy _ _ d0
  | 2,_,d1 =>
   have:V.cell? (Ad b 3)=none:=by simp[World.cell?,hg]
   rw[this] at d1;cases d1
  | k+3,d0,_ =>
   have:V.cell? (Ad b (k+3))=none:=by simp[World.cell?,hg]
   rw[this] at d0;cases d0
 refine⟨b,off,rfl,ω,λi hi=>?_⟩;obtain⟨d0,d1,d2,_⟩:=dZ i hi;refine⟨hk _ _ _ hne d0,hk _ _ _ hne d1,hk _ _ _ hne d2,λh0=>?_⟩;exfalso
 match i,hi,h0 with
 | 0,_,h0=>exact gY _ h0
 | 1,_,h0=>exact gY _ h0
 | 2,_,h0=>exact gY _ h0
 | 3,_,h0=>exact gY _ h0
 | i+4,h,_=>exact absurd h (by unfold qq;simp)
theorem Y7 (w:World):Calls prog 37 #[] w (Za w):=by
 have eW:Hid (∀ar cr ah ch a1 a2 a3 a4 c1 c2 c3 c4 (w':World),eN w' (.slice ar 1 cr) xe->gz w' ah (qq a1 a2 a3 a4 c1 c2 c3 c4)->4<=ch->Below w.heap.size w w'->Za w (.returned (.agg #[.slice ar 1 cr,.slice ah 4 ch,I 16])) w'):=λar cr ah ch a1 a2 a3 a4 c1 c2 c3 c4 w' h1 h2 h3 h4=>⟨ar,cr,ah,ch,a1,a2,a3,a4,c1,c2,c3,c4,rfl,h1,h2,h3,h4⟩
 generalize Za w=P at eW ⊢;have PE:Hid (∀(i:eJ) V,Calls prog 84 #[.agg #[I i.op,I i.a,I i.b,I i.c,I i.m]] V λe w'=>e=.returned (.string i.bytes)/\Below V.heap.size V w'):=λi V=>WI i V
 have K:Hid (∀k,xd (k+1)=xd k++(Bf.getD k GY).bytes):=λk=>rfl
 have J:=ai Jf;have B:Hid (∀wb V,V.heap[wb]?=some (.cells #[I 0,I 4,.string H9,.bool true,.bool true] 166 (0,0))->Calls prog 22 #[.agg #[.string ⟨#[116]⟩,Nl,.slice (some (Ad wb 0)) 1 1,Nl,Nl,I 0],Nl] V λe w'=>∃ar cr ah ch a1 a2 a3 a4 c1 c2 c3 c4,e=.returned (.tuple #[.agg #[.slice ar 1 cr,.slice ah 4 ch,I 16],I 0])/\eO V.heap.size w' (.slice ar 1 cr) xe/\gz w' ah (qq a1 a2 a3 a4 c1 c2 c3 c4)/\4<=ch/\Below V.heap.size V w'):=λwb V hV=>by
  have M:qM V ⟨none,0,some (Ad wb 0),1,none,0,none,0⟩ kX:=⟨λh=>absurd h (gY _),λ_=>⟨wb,0,rfl,aM hV,λi hi=>by
   obtain rfl:i=0:=by
    have:i<1:=hi;omega
   exact⟨aA hV 0 rfl,aA hV 1 rfl,aA hV 2 rfl,aA hV 3 rfl,aA hV 4 rfl⟩⟩,λh=>absurd h (gY _),λh=>absurd h (gY _)⟩
  refine(WW ⟨kX,⟨none,0,some (Ad wb 0),1,none,0,none,0⟩⟩ [] none 0 V M (λh=>absurd h ξ) SF ⟨by unfold bM;decide,λk hk=>absurd hk ξ⟩ (λk hk U hU=>?_) (λm D U hG=>?_) (λix ao cap k U hk=>?_)).mono λe w' h=>agO h
  . obtain rfl:k=0:=by
     have:k<1:=hk;omega
    refine(ahK ⟨#[116]⟩ [⟨0,4,H9,true,true⟩] 0 none (some (Ad wb 0)) none none 0 1 0 0 U (M.below hU) SF κ κ κ κ κ).mono ?_;rintro e w' ⟨rfl,hb⟩;exact⟨by rw[show mM (cQ [⟨kX,⟨none,0,some (Ad wb 0),1,none,0,none,0⟩⟩] 0).i=0 by kernel_rfl],hb⟩
  . rw[SE];exact acS _ m U rfl (hG.im 0 hG.pos)
  refine aac _ ao cap _ U ?_;rw[kM] at hk;rw[(uG _ ix 1 k hk).1];cases ix.getD k 0 <;> rfl
 have G:Hid (xd 6=H9):=Y6;generalize H9=D at B G;have eB:=ai (((aN w.heap.size w).alloc (aJ _) (.cells #[Nl,Nl,I 0] 25)).alloc ξ (.cells Ae 108));have X0:=ai (bB (bG w #[Nl,Nl,I 0] 25) (.cells Ae 108));have R0:Hid (((w.alloc (.cells #[Nl,Nl,I 0] 25)).alloc (.cells Ae 108)).heap[w.heap.size+1]?=some (.cells Ae 108 (0,0))):=by
  have:=bG (w.alloc (.cells #[Nl,Nl,I 0] 25)) Ae 108;rw[fp] at this;exact this
 go_enter func37,ntmps37;go_wp2;obtain⟨WA,lQ⟩:=ex ((w.alloc (.cells #[Nl,Nl,I 0] 25)).alloc (.cells Ae 108));have F:=lQ;unfold Ae at F;rw[<- F];rw[<- lQ] at eB X0 R0;clear lQ F;obtain⟨rb,MG⟩:=ex (w.heap.size+1);rw[<- MG] at R0 ⊢;have Kc:=ai MG;clear MG;go_loopw [1,3] (λsv iv wr=>∃k:Nat,k<=6/\iv=I (k:Int)/\sv=.string (xd k)/\wr.heap[rb]?=some (.cells Ae 108 (0,0))/\wr.heap[w.heap.size]?=some (.cells #[Nl,Nl,I 0] 25 (0,0))/\Below w.heap.size w wr) (λ_ iv _=>6-(intOf iv).toNat)
 case atStart=>exact⟨0,ω,rfl,rfl,R0.o,X0.o,eB.o⟩
 case round =>
  obtain⟨k,hk,rfl,rfl,hr,hx,hb⟩:=hrel;have HR:=ai hr;have HX:=ai hx;have HB:=ai hb;clear R0 X0 eB;by_cases hlt:k<6
  . obtain⟨c0,c1,c2,c3,c4⟩:=abM hr k hlt;have hs:=J.o k;have HS:=ai (K.o k);have hz:(Bf.getD k GY).bytes.size=8:=Iq _;have Su:=ai (PE.o (Bf.getD k GY));generalize Bf.getD k GY=i at c0 c1 c2 c3 c4 HS hz Su;obtain⟨Y,hY⟩:=ex i.bytes;generalize xd k=Z at hs HS ⊢;rw[<- hY] at hz HS Su;have Il:(k:Int)<6:=by omega
    clear hY hr hx hb;go_wp2_with (go_at_call 84;refine(Su.o _).mono ?_;rintro e w1 ⟨rfl,y⟩;have dz:=ai (HB.o.trans (y.mono HB.o.size));have Yx:=ai (aO HR.o y (aM HR.o));have Q:=ai (aO HX.o y (aM HX.o));clear y);go_roundw
    case rel=>exact⟨k+1,ω,by go_num,by rw[HS.o],Yx.o,Q.o,dz.o⟩
    case measure=>simp[intOf];omega
  obtain rfl:k=6:=by omega
  rw[G.o];have T:=aM hx;clear hr hx hb K J PE;go_wp2_with fail;have N:=ai (HB.o.alloc HB.o.size (.cells #[I 0,I 4,.string D,.bool true,.bool true] 166));have A:=ai (bB HX.o (.cells #[I 0,I 4,.string D,.bool true,.bool true] 166));have O:=ai (B.o wr.heap.size _ (bG wr #[I 0,I 4,.string D,.bool true,.bool true] 166))
  go_at_call 22
  refine O.o.mono ?_;rintro e w2 ⟨ar,cr,ah,ch,a1,a2,a3,a4,c1,c2,c3,c4,rfl,h1,h2,h3,h4⟩;have HO:=ai h1;have HH:=ai h2;have L:=ai (aO A.o h4 (aM A.o));have iI:=ai (N.o.trans (h4.mono N.o.size));have R:=h4.size;clear h1 h2 h4 O B G A;have q:=ai (bB L.o (.cells #[.slice ar 1 cr,.slice ah 4 ch,I 16] 25));have y0:=aA q.o 0 rfl;have y1:=aA q.o 1 rfl;have y2:=aA q.o 2 rfl;have yf:=br q.o;have Js:=aM q.o;have Dg:Hid (aI (λb=>b=w.heap.size) w2 (w2.alloc (.cells #[.slice ar 1 cr,.slice ah 4 ch,I 16] 25))):=aI.alloc _ w2 _;have r:=ai (Dg.o.trans (vw (D:=λb=>b=w.heap.size) _ w.heap.size 0 1 2 (.slice ar 1 cr) (.slice ah 4 ch) (I 16) rfl) (λ_ _ g=>g));go_wp2;refine bW (v:=.agg #[.slice ar 1 cr,.slice ah 4 ch,I 16]) (by simp[results,results37,go_sem,y0,y1,y2,Js]) rfl (eW.o _ _ _ _ a1 a2 a3 a4 c1 c2 c3 c4 _ ?_ ?_ h3 ?_)
  . exact eO.has (r.o.row HO.o (λb hb e=>by have:=(HO.o.lt b hb).1;simp at this;omega))
  . exact abN HH.o L.o (λ_ _ h=>nomatch h) (λ_ _ h=>nomatch h) (λb j v hne hc=>r.o.cell hc hne) r.o.size
  exact aI.below iI.o r.o iI.o.size (λb hb=>by rw[hb];exact aJ _)
open Go.RowKit Tryz
def y7:ByteArray:=⟨#[1,0,0,0,0,0,0,0,0,0,0,0,0,0,0,0]⟩
def Fu (p:bQ) (l:Array UInt8) (v:Int):bQ:=di p (iq ⟨l⟩) v
def amm:Array UInt8:=#[16,0,0,0,5,0,0,0]
def aml:Array UInt8:=#[11,1,0,0,40,0,0,0]
def ami:Array UInt8:=#[10,0,1,8,0,0,0,0]
def amk:Array UInt8:=#[9,0,1,1,0,0,0,0]
def amj:Array UInt8:=#[16,0,0,0,1,0,0,0]
def amh:Array UInt8:=#[16,0,0,0,6,0,0,0]
def DG:bQ:=lq 16
def DF:=Fu DG amm 1
def DD:=Fu DF aml 0
def DC:=Fu DD ami 0
def VN:=Fu DC amk (Ac ⟨#[1]⟩)
def Cx:=Fu VN amj 0
def Fs:=Fu Cx amh 0
def pM:=Fu DG amm 0
def pE:=Fu pM aml 0
def pD:=Fu pE ami 0
def nO:=Fu pD amk (Ac ⟨#[0]⟩)
def ai4:=Fu nO amj 0
def amn:=Fu ai4 amh 0
def zm (s:mJ):List mJ:=[s,gP,gP,gP,gP,gP,gP,gP]
section
variable (hs:List bD)
def amy:dC aT:=⟨⟨hs,[eG,eG,eG],zm gP,[⟨true,qB,[]⟩],0⟩,[DG],[]⟩
def amx:dC aT:=⟨⟨hs,[⟨zx,2,false,true⟩,eG,eG],zm gP,[⟨true,qB,[⟨1,1,0⟩]⟩,⟨true,qB,[⟨1,1,0⟩]⟩],0⟩,[DF,pM],[]⟩
def amw:dC aT:=⟨⟨hs,[⟨zx,2,false,true⟩,eG,eG],zm gP,[⟨true,qB,[⟨1,1,0⟩]⟩,⟨true,qB,[⟨1,1,0⟩]⟩],0⟩,[DF,pE],[]⟩
def amv:dC aT:=⟨⟨hs,[⟨zx,2,false,true⟩,eG,eG],zm gP,[⟨true,qB,[⟨1,1,0⟩]⟩,⟨true,qB,[⟨1,1,0⟩]⟩],0⟩,[DD,pE],[]⟩
def amu:dC aT:=⟨⟨hs,[⟨zx,2,false,true⟩,⟨y8,1,false,true⟩,⟨Sw,1,true,true⟩],zm gP,[⟨true,qB,[⟨1,1,0⟩]⟩,⟨true,qB,[⟨1,1,0⟩,⟨2,1,1⟩,⟨4,1,2⟩]⟩],0⟩,[DD,pD],[]⟩
def amt:dC aT:=⟨⟨hs,[⟨y8,1,false,true⟩,⟨y7,1,true,true⟩,⟨Sw,1,true,false⟩],zm gP,[⟨true,qB,[⟨2,1,0⟩,⟨4,1,1⟩]⟩,⟨true,qB,[⟨4,1,2⟩]⟩],2⟩,[DC,pD],[]⟩
def ams:dC aT:=⟨⟨hs,[⟨Sw,1,true,true⟩,⟨y7,1,true,false⟩,⟨y8,1,false,false⟩],zm gP,[⟨true,qB,[⟨4,1,1⟩]⟩,⟨true,qB,[⟨2,1,2⟩,⟨4,1,0⟩]⟩],1⟩,[DC,nO],[]⟩
def amr:dC aT:=⟨⟨hs,[⟨Sw,1,true,true⟩,⟨y8,1,false,true⟩,⟨y7,1,true,true⟩],zm gP,[⟨true,qB,[⟨2,1,1⟩,⟨4,1,2⟩]⟩,⟨true,qB,[⟨4,1,0⟩]⟩],0⟩,[VN,nO],[]⟩
def amq:dC aT:=⟨⟨hs,[⟨zw,1,false,true⟩,⟨y8,1,false,false⟩,⟨y7,1,true,false⟩],zm ⟨Sw,1⟩,[⟨true,qB,[⟨2,1,1⟩,⟨4,1,2⟩]⟩,⟨true,qB,[⟨3,1,0⟩,⟨4,2,0⟩]⟩],1⟩,[VN,ai4],[⟨1,nO.r 0⟩]⟩
def amo:dC aT:=⟨⟨hs,[⟨zw,1,false,true⟩,⟨zw,1,false,true⟩,⟨y7,1,true,false⟩],zm ⟨Sw,1⟩,[⟨true,qB,[⟨3,1,1⟩,⟨4,1,2⟩]⟩,⟨true,qB,[⟨3,1,0⟩,⟨4,2,0⟩]⟩],2⟩,[Cx,ai4],[⟨1,nO.r 0⟩,⟨0,VN.r 0⟩]⟩
def ai5:dC aT:=⟨⟨hs,[eG,⟨zw,1,false,true⟩,⟨y7,1,true,false⟩],zm gP,[⟨true,qB,[⟨3,1,1⟩,⟨4,1,2⟩]⟩,⟨false,[],[]⟩],2⟩,[Cx,amn],[⟨1,nO.r 0⟩,⟨0,VN.r 0⟩]⟩
def JZ:dC aT:=⟨⟨hs,[eG,eG,eG],zm gP,[⟨false,[],[]⟩,⟨false,[],[]⟩],2⟩,[Fs,amn],[⟨1,nO.r 0⟩,⟨0,VN.r 0⟩]⟩
end
variable (a1 a2 a3 a4:Option Addr) (d1 d2 d3 d4:Nat)
theorem og {r:Int×dC aT} {s:dC aT} (e:r.1=0) (h1:r.2.mem.aD=s.mem.aD) (h2:r.2.mem.frames=s.mem.frames) (h3:r.2.mem.slots=s.mem.slots) (h4:r.2.mem.aj=s.mem.aj) (h5:r.2.mem.hand=s.mem.hand) (h6:r.2.ps=s.ps) (h7:r.2.out=s.out):r=(0,s):=by
 obtain⟨e',⟨⟨_,_,_,_,_⟩,_,_⟩⟩:=r;obtain⟨⟨_,_,_,_,_⟩,_,_⟩:=s;simp only at e h1 h2 h3 h4 h5 h6 h7;subst e h1 h2 h3 h4 h5 h6 h7;rfl
theorem mz {n:Nat} {s0 s s':dC aT} {p:Int} (h:gK dN qY n (some s0)=some s) (hp:qY.getD n 0=p) (hs:fJ dN s p=(0,s')):gK dN qY (n+1) (some s0)=some s':=by
 unfold gK;rw[h];simp only[hp,hs];rfl
theorem aop:fJ dN (amy (l9 a1 a2 a3 a4 d1 d2 d3 d4)) 0=(0,amx (l9 a1 a2 a3 a4 d1 d2 d3 d4)):=og κ κ κ κ κ κ κ κ
theorem aoo:fJ dN (amx (l9 a1 a2 a3 a4 d1 d2 d3 d4)) 1=(0,amw (l9 a1 a2 a3 a4 d1 d2 d3 d4)):=og κ κ κ κ κ κ κ κ
theorem aon:fJ dN (amw (l9 a1 a2 a3 a4 d1 d2 d3 d4)) 0=(0,amv (l9 a1 a2 a3 a4 d1 d2 d3 d4)):=og κ κ κ κ κ κ κ κ
theorem aom:fJ dN (amv (l9 a1 a2 a3 a4 d1 d2 d3 d4)) 1=(0,amu (l9 a1 a2 a3 a4 d1 d2 d3 d4)):=og κ κ κ κ κ κ κ κ
theorem aol:fJ dN (amu (l9 a1 a2 a3 a4 d1 d2 d3 d4)) 0=(0,amt (l9 a1 a2 a3 a4 d1 d2 d3 d4)):=og κ κ κ κ κ κ κ κ
theorem aok:fJ dN (amt (l9 a1 a2 a3 a4 d1 d2 d3 d4)) 1=(0,ams (l9 a1 a2 a3 a4 d1 d2 d3 d4)):=og κ κ κ κ κ κ κ κ
theorem aoj:fJ dN (ams (l9 a1 a2 a3 a4 d1 d2 d3 d4)) 0=(0,amr (l9 a1 a2 a3 a4 d1 d2 d3 d4)):=og κ κ κ κ κ κ κ κ
theorem aoi:fJ dN (amr (l9 a1 a2 a3 a4 d1 d2 d3 d4)) 1=(0,amq (l9 a1 a2 a3 a4 d1 d2 d3 d4)):=og κ κ κ κ κ κ κ κ
theorem aoh:fJ dN (amq (l9 a1 a2 a3 a4 d1 d2 d3 d4)) 0=(0,amo (l9 a1 a2 a3 a4 d1 d2 d3 d4)):=og κ κ κ κ κ κ κ κ
theorem aog:fJ dN (amo (l9 a1 a2 a3 a4 d1 d2 d3 d4)) 1=(0,ai5 (l9 a1 a2 a3 a4 d1 d2 d3 d4)):=og κ κ κ κ κ κ κ κ
theorem alp:fJ dN (ai5 (l9 a1 a2 a3 a4 d1 d2 d3 d4)) 0=(0,JZ (l9 a1 a2 a3 a4 d1 d2 d3 d4)):=og κ κ κ κ κ κ κ κ
theorem alo:fJ dN (JZ (l9 a1 a2 a3 a4 d1 d2 d3 d4)) 1=(0,JZ (l9 a1 a2 a3 a4 d1 d2 d3 d4)):=og κ κ κ κ κ κ κ κ
theorem aln:fJ dN (JZ (l9 a1 a2 a3 a4 d1 d2 d3 d4)) 0=(0,JZ (l9 a1 a2 a3 a4 d1 d2 d3 d4)):=og κ κ κ κ κ κ κ κ
theorem alm:fJ dN (JZ (l9 a1 a2 a3 a4 d1 d2 d3 d4)) 1=(0,JZ (l9 a1 a2 a3 a4 d1 d2 d3 d4)):=og κ κ κ κ κ κ κ κ
theorem agJ:∃s,gK dN qY 14 (some (ai3 a1 a2 a3 a4 d1 d2 d3 d4))=some s/\YM s=(2,2,0,1,2,0):=by
 have h0:gK dN qY 0 (some (ai3 a1 a2 a3 a4 d1 d2 d3 d4))=some (amy (l9 a1 a2 a3 a4 d1 d2 d3 d4)):=by kernel_rfl
 have h1:=mz h0 rfl (aop a1 a2 a3 a4 d1 d2 d3 d4);have h2:=mz h1 rfl (aoo a1 a2 a3 a4 d1 d2 d3 d4);have h3:=mz h2 rfl (aon a1 a2 a3 a4 d1 d2 d3 d4);have h4:=mz h3 rfl (aom a1 a2 a3 a4 d1 d2 d3 d4);have h5:=mz h4 rfl (aol a1 a2 a3 a4 d1 d2 d3 d4);have h6:=mz h5 rfl (aok a1 a2 a3 a4 d1 d2 d3 d4);have h7:=mz h6 rfl (aoj a1 a2 a3 a4 d1 d2 d3 d4);have h8:=mz h7 rfl (aoi a1 a2 a3 a4 d1 d2 d3 d4);have h9:=mz h8 rfl (aoh a1 a2 a3 a4 d1 d2 d3 d4);have q:=mz h9 rfl (aog a1 a2 a3 a4 d1 d2 d3 d4);have h:=mz q rfl (alp a1 a2 a3 a4 d1 d2 d3 d4);have b:=mz h rfl (alo a1 a2 a3 a4 d1 d2 d3 d4);have y:=mz b rfl (aln a1 a2 a3 a4 d1 d2 d3 d4);have r:=mz y rfl (alm a1 a2 a3 a4 d1 d2 d3 d4);exact⟨_,r,κ⟩
open Go.RowKit Tryz
theorem UE (w:World):Calls prog 38 #[] w λe w'=>(∃pb,e=.returned (.slice (some (Ad pb 0)) 14 14)/\yE w' (some (Ad pb 0)) qY/\pb<w'.heap.size)/\Below w.heap.size w w':=by
 have HN:Hid (∀(V:World),V.heap[w.heap.size]?=some (.cells #[I 0,I 1,I 0,I 1,I 0,I 1,I 0,I 1,I 0,I 1,I 0,I 1,I 0,I 1] 3 (0,0))->yE V (some (Ad w.heap.size 0)) qY):=λV h _=>by
  refine⟨w.heap.size,0,rfl,aM h,λi hi=>?_⟩
  match i,hi with
  | 0,_=>exact aA h 0 rfl
  | 1,_=>exact aA h 1 rfl
  | 2,_=>exact aA h 2 rfl
  | 3,_=>exact aA h 3 rfl
  | 4,_=>exact aA h 4 rfl
  | 5,_=>exact aA h 5 rfl
  | 6,_=>exact aA h 6 rfl
  | 7,_=>exact aA h 7 rfl
  | 8,_=>exact aA h 8 rfl
  | 9,_=>exact aA h 9 rfl
  | 10,_=>exact aA h 10 rfl
  | 11,_=>exact aA h 11 rfl
  | 12,_=>exact aA h 12 rfl
  | 13,_=>exact aA h 13 rfl
  | k+14,h=>exact absurd h (by show ¬k+14<14;omega)
 have HB:=ai ((aN w.heap.size w).alloc (aJ _) (.cells #[I 0,I 1,I 0,I 1,I 0,I 1,I 0,I 1,I 0,I 1,I 0,I 1,I 0,I 1] 3));have HX:=ai (HN.o _ (bG w #[I 0,I 1,I 0,I 1,I 0,I 1,I 0,I 1,I 0,I 1,I 0,I 1,I 0,I 1] 3));go_enter func38,ntmps38;go_wp2;go_ret;exact⟨⟨w.heap.size,rfl,HX.o,ξ⟩,HB.o⟩
def abE (a1 a2 a3 a4:Option Addr) (pM pE pD nO:Nat):iM:=⟨lK xe (qq a1 a2 a3 a4 pM pE pD nO) 3 8,[lq 16],[]⟩
theorem EM (a1 a2 a3 a4:Option Addr) (pM pE pD nO:Nat):kz xe (qq a1 a2 a3 a4 pM pE pD nO) 16 3 8=(abE a1 a2 a3 a4 pM pE pD nO,0)/\fZ gQ (nN (abE a1 a2 a3 a4 pM pE pD nO)):=by
 rcases Mg xe (qq a1 a2 a3 a4 pM pE pD nO) 16 3 8 ⟨ω,ω⟩ with h | ⟨_,_,_,_,_,_,h1,h2⟩
 . exact absurd κ h
 exact⟨h1,h2⟩
theorem YN (a1 a2 a3 a4:Option Addr) (pM pE pD nO:Nat):∃s,yC (abE a1 a2 a3 a4 pM pE pD nO) qY=(A4 s,0)/\YM s=(2,2,0,1,2,0):=by
 obtain⟨s,h1,h2⟩:=agJ a1 a2 a3 a4 pM pE pD nO;refine⟨s,?_,h2⟩;rw[Ns (EM a1 a2 a3 a4 pM pE pD nO).2,aH Δ];have h1:gK dN qY qY.length (some (nN (abE a1 a2 a3 a4 pM pE pD nO)))=some s:=h1;rw[h1]
theorem UF {N:Nat} {c:Array Value} {U:World} {a1 a2 a3 a4:Option Addr} {pM pE pD nO:Nat} (h:ic N (abE a1 a2 a3 a4 pM pE pD nO) c U) (ap:Option Addr) (cp:Nat) (hn:yE U ap qY) (hps:∀b,ap=some b->b.block<U.heap.size) :
  Calls prog 20 #[.agg c,.slice ap 14 cp] U λe w''=>∃t0 k0 DG t1 k1 DF t2 k2 DD t3 k3 DC hc b1 o1 Cx b2 o2 Fs,e=.returned (.tuple #[.agg #[.slice t0 k0 DG,.slice t1 k1 DF,.slice t2 k2 DD,.slice t3 k3 DC,I hc,.slice (some (Ad b1 o1)) 2 Cx,.slice (some (Ad b2 o2)) 2 Fs],I 0])/\(∀X,aI (λb=>b<U.heap.size) w'' X->X.cell? (Ad b1 (o1+22))=some (I 2)/\X.cell? (Ad b1 (o1+23))=some (I 0)/\X.cell? (Ad b2 (o2+1))=some (I 0)/\X.cell? (Ad b2 (o2+3))=some (I 1))/\Below U.heap.size U w'':=by
 obtain⟨s,e1,e2⟩:=YN a1 a2 a3 a4 pM pE pD nO;refine(abr h (EM a1 a2 a3 a4 pM pE pD nO).2 qY ap cp hn (λ_=>hps) (by show(14:Nat)<=_;decide)).mono ?_;rintro e w' ⟨c',g1,g2,g3⟩;rw[e1] at g1 g2;simp only[YM,Prod.mk.injEq] at e2;obtain⟨r1,r2,r3,r4,r5,r6⟩:=e2;obtain⟨hs,a,ar,cr,ao,co,i1,rfl,i3⟩:=g2;have hk:=i3 w' (aI.refl _ _);obtain⟨b1,o1,f1,_,_⟩:=hk.procs (by show 0<s.ps.length;omega);obtain⟨b2,o2,f2,_,_⟩:=hk.out (by show 0<s.out.length;omega);subst f1 f2;have g1:e=.returned (.tuple #[.agg #[.slice a.aS hs.length a.cS,.slice a.aF s.mem.frames.length a.cF,.slice a.aL s.mem.slots.length a.cL,.slice a.aP s.mem.aj.length a.cP,I s.mem.hand,.slice (some (Ad b1 o1)) s.ps.length cr,.slice (some (Ad b2 o2)) s.out.length co],I 0]):=g1;rw[r1,r2] at g1;refine⟨_,_,_,_,_,_,_,_,_,_,_,_,_,b1,o1,cr,b2,o2,co,g1,λX hX=>?_,g3⟩;have hu:=i3 X hX;obtain⟨b3,o3,f3,_,l3⟩:=hu.procs (by show 0<s.ps.length;omega);obtain⟨b4,o4,f4,_,l4⟩:=hu.out (by show 0<s.out.length;omega);injection f3 with f3;injection f4 with f4;injection f3 with u1 u2;injection f4 with u3 u4;subst u1 u2 u3 u4;obtain⟨_,_,_,_,_,_,_,_,_,k9,q,_,_⟩:=l3 1 (by show 1<s.ps.length;omega);obtain⟨_,k1⟩:=l4 0 (by show 0<s.out.length;omega);obtain⟨_,k2⟩:=l4 1 (by show 1<s.out.length;omega);have k9:X.cell? (Ad b1 (o1+1*13+9))=some (I (aR s.ps 1).st):=k9;have q:X.cell? (Ad b1 (o1+1*13+10))=some (I (aR s.ps 1).cd):=q;have k1:X.cell? (Ad b2 (o2+0*2+1))=some (I (mD s.out 0).value):=k1;have k2:X.cell? (Ad b2 (o2+1*2+1))=some (I (mD s.out 1).value):=k2;rw[r5] at k9;rw[r6] at q;rw[r3] at k1;rw[r4] at k2;exact⟨k9,q,k1,k2⟩
theorem YO (w:World):Calls prog 13 #[] w λe w'=>e=.returned (.bool true)/\Below w.heap.size w w':=by
 have J:=ai Y7;have MI:=ai UE;have G:Hid (∀V ar cr ah ch a1 a2 a3 a4 pM pE pD nO,eN V (.slice ar 1 cr) xe->gz V ah (qq a1 a2 a3 a4 pM pE pD nO)->4<=ch->Calls prog 10 #[.agg #[.slice ar 1 cr,.slice ah 4 ch,I 16],I 3,I 8] V λe w'=>∃s0 n0 q0 s1 n1 zx s2 n2 y8 s3 n3 zw hd s5 y7 s6 q6,e=.returned (.tuple #[.agg #[.slice s0 n0 q0,.slice s1 n1 zx,.slice s2 n2 y8,.slice s3 n3 zw,I hd,.slice s5 1 y7,.slice s6 0 q6],I 0])/\(∀U,aI (λb=>b<V.heap.size) w' U->∀ap cp,yE U ap qY->(∀b,ap=some b->b.block<U.heap.size)->Calls prog 20 #[.agg #[.slice s0 n0 q0,.slice s1 n1 zx,.slice s2 n2 y8,.slice s3 n3 zw,I hd,.slice s5 1 y7,.slice s6 0 q6],.slice ap 14 cp] U λe w''=>∃t0 k0 DG t1 k1 DF t2 k2 DD t3 k3 DC hc b1 o1 Cx b2 o2 Fs,e=.returned (.tuple #[.agg #[.slice t0 k0 DG,.slice t1 k1 DF,.slice t2 k2 DD,.slice t3 k3 DC,I hc,.slice (some (Ad b1 o1)) 2 Cx,.slice (some (Ad b2 o2)) 2 Fs],I 0])/\(∀X,aI (λb=>b<U.heap.size) w'' X->X.cell? (Ad b1 (o1+22))=some (I 2)/\X.cell? (Ad b1 (o1+23))=some (I 0)/\X.cell? (Ad b2 (o2+1))=some (I 0)/\X.cell? (Ad b2 (o2+3))=some (I 1))/\Below U.heap.size U w'')/\Below V.heap.size V w'):=λV ar cr ah ch a1 a2 a3 a4 pM pE pD nO h1 h2 h3=>by
  have h:=OG xe (qq a1 a2 a3 a4 pM pE pD nO) 16 3 8 (.slice ar 1 cr) ah ch V h1 abP h2 (abO a1 a2 a3 a4 pM pE pD nO) h3 (by unfold cR;decide);rw[(EM a1 a2 a3 a4 pM pE pD nO).1] at h;refine h.mono ?_;rintro e w' ⟨c,g1,g2,g3⟩;obtain⟨s0,n0,q0,s1,n1,zx,s2,n2,y8,s3,n3,zw,hd,s5,y7,s6,q6,hc⟩:=g2.cells;subst hc;exact⟨s0,n0,q0,s1,n1,zx,s2,n2,y8,s3,n3,zw,hd,s5,y7,s6,q6,g1,λU hU ap cp hn hb=>UF (g2.later hU) ap cp hn hb,g3⟩
 go_enter func13,ntmps13;go_wp2_with fail
 go_at_call 37
 refine(J.o _).mono ?_;rintro e w1 ⟨ar,cr,ah,ch,a1,a2,a3,a4,pM,pE,pD,nO,rfl,h1,h2,h3,h4⟩;have dz:=ai h4;have Th:=ai (G.o w1 ar cr ah ch a1 a2 a3 a4 pM pE pD nO h1 h2 h3);clear h1 h2 h3 h4 J G;go_wp2_with fail
 go_at_call 10
 refine Th.o.mono ?_;rintro e w2 ⟨s0,n0,q0,s1,n1,zx,s2,n2,y8,s3,n3,zw,hd,s5,y7,s6,q6,rfl,h1,h2⟩;have PF:=ai h1;have iI:=ai (dz.o.trans (h2.mono dz.o.size));have R:=h2.size;clear h1 h2 Th;go_wp2_with fail;have jo:=ai (iI.o.alloc iI.o.size (.cells #[.slice s0 n0 q0,.slice s1 n1 zx,.slice s2 n2 y8,.slice s3 n3 zw,I hd,.slice s5 1 y7,.slice s6 0 q6] 34));have X0:=ai (bG w2 #[.slice s0 n0 q0,.slice s1 n1 zx,.slice s2 n2 y8,.slice s3 n3 zw,I hd,.slice s5 1 y7,.slice s6 0 q6] 34);have UD:Hid (Below w2.heap.size w2 (w2.alloc (.cells #[.slice s0 n0 q0,.slice s1 n1 zx,.slice s2 n2 y8,.slice s3 n3 zw,I hd,.slice s5 1 y7,.slice s6 0 q6] 34))):=(aN w2.heap.size w2).alloc (aJ _) _;generalize w2.alloc (.cells #[.slice s0 n0 q0,.slice s1 n1 zx,.slice s2 n2 y8,.slice s3 n3 zw,I hd,.slice s5 1 y7,.slice s6 0 q6] 34)=W at jo X0 UD ⊢;obtain⟨fb,Zu⟩:=ex w2.heap.size;have M:w.heap.size<=fb:=by rw[Zu];exact iI.o.size
 rw[<- Zu] at X0 ⊢;clear Zu;have xB:=ai (aN W.heap.size W).drew;have A:Hid (W.drew.heap[fb]?=some (.cells #[.slice s0 n0 q0,.slice s1 n1 zx,.slice s2 n2 y8,.slice s3 n3 zw,I hd,.slice s5 1 y7,.slice s6 0 q6] 34 (0,0))):=X0.o;obtain⟨x0,x1,x2,x3,x4,x5,x6⟩:=lD X0.o;go_cut [3] (λx3 wx=>∃t0 k0 DG t1 k1 DF t2 k2 DD t3 k3 DC hc b1 o1 Cx b2 o2 Fs,x3=I 0/\wx.heap[fb]?=some (.cells #[.slice t0 k0 DG,.slice t1 k1 DF,.slice t2 k2 DD,.slice t3 k3 DC,I hc,.slice (some (Ad b1 o1)) 2 Cx,.slice (some (Ad b2 o2)) 2 Fs] 34 (0,0))/\(wx.cell? (Ad b1 (o1+22))=some (I 2)/\wx.cell? (Ad b1 (o1+23))=some (I 0)/\wx.cell? (Ad b2 (o2+1))=some (I 0)/\wx.cell? (Ad b2 (o2+3))=some (I 1))/\Below w.heap.size w wx)
 case first =>
  go_region_law (first
   | (go_simp;go_at_call 38;refine(MI.o _).mono ?_;rintro e w3 ⟨⟨pb,rfl,hn,F⟩,r⟩;have H8:=ai (xB.o.trans (r.mono xB.o.size));have X3:=ai (aO A.o r (aM A.o));obtain⟨y0,y1,y2,y3,y4,y5,y6⟩:=lD X3.o;have N:=ai (PF.o w3 (aI.cA (UD.o.trans (H8.o.mono UD.o.size))) (some (Ad pb 0)) 14 hn (λb hb=>by injection hb with hb;subst hb;exact F));clear hn F r;go_simp)
   | (go_simp;go_at_call 20;refine N.o.mono ?_;rintro e w4 ⟨t0,k0,DG,t1,k1,DF,t2,k2,DD,t3,k3,DC,hc,b1,o1,Cx,b2,o2,Fs,rfl,Zv,y⟩;have ZH:=ai Zv;have vX:=ai y;have X4:=ai (aO X3.o y (aM X3.o));obtain⟨z0,z1,z2,z3,z4,z5,z6⟩:=lD X4.o;have zf:=br X4.o;clear Zv y;go_simp))
  all_goals
   go_wp2_with fail
   go_meet
   case rel =>
    have K:=aM X3.o;have kU:=pC w4 fb (.slice t0 k0 DG) (.slice t1 k1 DF) (.slice t2 k2 DD) (.slice t3 k3 DC) (I hc) (.slice (some (Ad b1 o1)) 2 Cx) (.slice (some (Ad b2 o2)) 2 Fs);refine⟨t0,k0,DG,t1,k1,DF,t2,k2,DD,t3,k3,DC,hc,b1,o1,Cx,b2,o2,Fs,rfl,dm (dm (dm (dm (dm (dm (dm X4.o 0 _) 1 _) 2 _) 3 _) 4 _) 5 _) 6 _,ZH.o _ (kU.mono (λb _ e=>by rw[e];exact K)),?_⟩;have hb:Below w.heap.size w w4:=(jo.o.trans (H8.o.mono jo.o.size)).trans (vX.o.mono (jo.o.trans (H8.o.mono jo.o.size)).size);exact aI.below hb kU hb.size (λb e=>by rw[e];exact M)
 case rest =>
  obtain⟨t0,k0,DG,t1,k1,DF,t2,k2,DD,t3,k3,DC,hc,b1,o1,Cx,b2,o2,Fs,rfl,hx,⟨j1,j2,j3,j4⟩,hb⟩:=hcut;have HB:=ai hb;have yL:=iH wc;have q:=@fG wc;have l0:=aM hx;have l1:=nu _ _ j1;have l2:=nu _ _ j3;have e2:∀x:cM wc.heap.size wc,x.world.cell? (Ad fb 5)=some (.slice (some (Ad b1 o1)) 2 Cx):=λx=>(q x _ _ l0).trans (aA hx 5 rfl)
  have e3:∀x:cM wc.heap.size wc,x.world.cell? (Ad fb 6)=some (.slice (some (Ad b2 o2)) 2 Fs):=λx=>(q x _ _ l0).trans (aA hx 6 rfl)
  have e4:∀x:cM wc.heap.size wc,x.world.cell? (Ad b1 (o1+22))=some (I 2):=λx=>(q x _ _ l1).trans j1
  have O:∀x:cM wc.heap.size wc,x.world.cell? (Ad b1 (o1+13+9))=some (I 2):=λx=>(q x _ _ l1).trans j1
  have e5:∀x:cM wc.heap.size wc,x.world.cell? (Ad b1 (o1+23))=some (I 0):=λx=>(q x _ _ l1).trans j2
  have Q:∀x:cM wc.heap.size wc,x.world.cell? (Ad b1 (o1+13+10))=some (I 0):=λx=>(q x _ _ l1).trans j2
  have e6:∀x:cM wc.heap.size wc,x.world.cell? (Ad b2 (o2+1))=some (I 0):=λx=>(q x _ _ l2).trans j3
  have e7:∀x:cM wc.heap.size wc,x.world.cell? (Ad b2 (o2+2+1))=some (I 1):=λx=>(q x _ _ l2).trans j4
  have e8:∀x:cM wc.heap.size wc,x.world.cell? (Ad b2 (o2+3))=some (I 1):=λx=>(q x _ _ l2).trans j4
  clear q hx j1 j2 j3 j4 hb MI PF UD xB A X0 x0 x1 x2 x3 x4 x5 x6 l0 l1 l2;go_wp2_with fail;refine cB κ κ ?_
  repeat (first | go_big_quiet_step (fail) | quiet_step (fail))
  refine fL ?_;intro _ L;obtain⟨x,B⟩:=L;subst B;go_wp2;go_ret;exact⟨ξ,HB.o.trans (x.keeps.mono HB.o.size)⟩
open Go.RowKit Go.Deep
theorem KH:prog.cellsOf 9=1:=by rfl
theorem uD:prog.cellsOf 3=1:=by rfl
theorem Z3:prog.cellsOf 4=1:=by rfl
theorem Ap (n:Int) (h:(Lit.int .i64 n).wf=true):cR n:=agU n h
theorem Hq {w:World} {b o:Nat} {v:Value} (h:w.cell? (Ad b o)=some v):b<w.heap.size:=by
 grind [World.cell?]
instance:Inhabited qw:=⟨Ir⟩
instance:Inhabited WT:=⟨al1⟩
instance:Inhabited Tz:=⟨al2⟩
def qG {H:Type} (t:TypeId) (d:DataW H):Prop:=∀n∈d.weights prog t,n<=reachBytes
theorem Dl {H:Type} {e:TypeId}:∀{l:List (DataW H)} {d:DataW H},d∈l->∀n∈d.weights prog e,n∈DataW.weightsAll prog e l
 | y::r,d,h,n,hn=>by
  simp only[DataW.weightsAll,mj];rcases rC.1 h with h | h
  . grind
  exact .inr (Dl h n hn)
theorem zK {H:Type} {t:TypeId} {b:List UInt8} (h:qG (H:=H) t (.lit (.string b))):b.length<=reachBytes:=h _ (by simp[DataW.weights])
theorem vH {H:Type} {t e:TypeId} {el sp:List (DataW H)} (hu:prog.underlying t=some (.slice e)) (h:qG t (.slice el sp)):(el.length+sp.length)*prog.bytesOf e<=reachBytes/\∀d∈el,qG e d:=by
 refine⟨h _ (by grind [DataW.weights]),λd hd n hn=>h n ?_⟩
 grind [DataW.weights,Dl]
theorem mF {H:Type} {t:TypeId} {fs:Array Field} {ps:List (DataW H)} (hu:prog.underlying t=some (.struct fs)) (h:qG t (.agg ps)) {j:Nat} {u:TypeId} {d:DataW H} (ht:(fs.toList.map (·.type))[j]?=some u) (hd:ps[j]?=some d):qG u d:=λn hn=>h n (by
 grind [DataW.weights,DataW.weights_mem_each])
section
variable {H:Type} {enc:TypeId×Value->H} {w:World} {base:Nat} {spare:Nat->Bool} {held:Bool}
theorem o7 {t e:TypeId} {fuel:Nat} {v:Value} {x:DataW H×List MemPlace} (ht:prog.underlying t=some (.slice e)) (h:DataW.trod enc prog w base spare held fuel t [v]=some x):∃a len cap,v=.slice a len cap:=by
 rcases open_slice ht h with⟨b,_⟩ | ⟨a,q,r,m,n,D,Pl,b,_⟩
 . grind
 grind
end
open Go.RowKit Go.Deep
theorem acW:prog.cellsOf 226=2:=by rfl
theorem acU:prog.cellsOf 145=3:=by rfl
theorem acV:prog.cellsOf 25=3:=by rfl
theorem aah:prog.cellsOf 143=1:=by rfl
theorem N4:prog.cellsOf 23=1:=by rfl
theorem N5:prog.cellsOf 22=1:=by rfl
theorem acY:prog.bytesOf 226=24:=by rfl
theorem acX:prog.bytesOf 145=48:=by rfl
theorem QY:prog.bytesOf 139=32:=by rfl
instance:Inhabited mZ:=⟨Rh⟩
instance:Inhabited bD:=⟨zi⟩
section
variable {H:Type} {enc:TypeId×Value->H} {w:World} {base:Nat} {spare:Nat->Bool} {held:Bool}
theorem acR {n:Nat} {a:Addr} {cs:List Value} {x:DataW H×List MemPlace} (hc:w.cells? base a 2=some cs) (h:DataW.trod enc prog w base spare held n 226 cs=some x) (hw:qG 226 x.1) :
  ∃(x0:Int) (x1:ByteArray),(w.cell? (a.add 0)=some (I x0)/\cR x0)/\(w.cell? (a.add 1)=some (.string x1)/\bM x1.size):=by
 obtain⟨_,q,b⟩:=Kt hc;obtain⟨xs,k,hk,A,_,y,hf⟩:=tS underlying226 h;rw[A] at hw
 match cs,q with
 | [v0,v1],_ =>
  have g0:DataW.trod enc prog w base spare held k 3 (([v0,v1].drop 0).take (prog.cellsOf 3))=xs[0]?:=hf 0 _ rfl;have g1:DataW.trod enc prog w base spare held k 9 (([v0,v1].drop 1).take (prog.cellsOf 9))=xs[1]?:=hf 1 _ rfl;simp only[uD,KH] at g0 g1;have e0:=b 0 ω;have e1:=b 1 ω
  match xs,y with
  | [y0,y1],_ =>
   obtain⟨m0,c0,_,w0⟩:=D4 underlying3 (show DataW.trod enc prog w base spare held k 3 [v0]=some y0 from g0);obtain⟨m1,c1,r,_⟩:=Qf underlying9 (show DataW.trod enc prog w base spare held k 9 [v1]=some y1 from g1);have u1:=mF underlying226 hw (j:=1) (u:=9) (d:=y1.1) rfl rfl;rw[r] at u1;have w1:bM m1.size:=by have:=zK u1;unfold bM;unfold reachBytes at this;rw[Lib.size_eq];omega
   simp only[rE,qJ] at c0 c1;subst c0;subst c1;exact⟨m0,m1,⟨e0,Ap _ w0⟩,⟨e1,w1⟩⟩
theorem af5 {fuel:Nat} {a0:Option Addr} {len cap:Nat} {x:DataW H×List MemPlace} (h:DataW.trod enc prog w base spare held fuel 143 [.slice a0 len cap]=some x) (hw:qG 143 x.1) :
  ∃l:List mZ,l.length=len/\mS w a0 l/\bM l.length/\∀k,k<l.length->Xj (l8 l k):=by
 rcases open_slice underlying143 h with⟨q,_⟩ | ⟨a,M,N,m,n,D,Pl,q,hb,hl,hm,O,rfl,hx⟩
 . simp at q;obtain⟨rfl,rfl,rfl⟩:=q;exact⟨[],rfl,λh=>absurd h ξ,by grind [bM],λk hk=>absurd hk ξ⟩
 simp at q;obtain⟨rfl,rfl,rfl⟩:=q;have R:len<=m:=by grind
 obtain⟨F,G⟩:=vH underlying143 hw;rw[acY] at F;unfold reachBytes at F;have L:len<=140737488351232:=by grind
 have each:∀i,i<len->∃y:mZ,w.cell? (a.add (i*2+0))=some (I y.off)/\w.cell? (a.add (i*2+1))=some (.string y.bytes)/\Xj y:=by
  intro i hi;obtain⟨Q,h1,h2⟩:=hx i ω;have hd:D i∈(List.range len).map D:=zB.2 ⟨i,uO.2 hi,rfl⟩;rw[acW] at h1;obtain⟨x0,x1,⟨e0,z0⟩,⟨e1,z1⟩⟩:=acR h1 h2 (G _ hd);simp only[add_add] at e0 e1;exact⟨⟨x0,x1⟩,e0,e1,⟨z0,z1⟩⟩
 obtain⟨g,hg⟩:=choose_lt each;have J:∀i,i<len->l8 ((List.range len).map g) i=g i:=by
  grind [l8]
 refine⟨(List.range len).map g,ξ,λh0=>?_,by grind [bM],λk hk=>?_⟩
 . have K:0<len:=by grind
   obtain⟨b,off,A⟩:=a;have hc:=(hg 0 K).1;have r:A=none:=by simpa [Addr.add] using Kq hc
   subst r;rw[rG] at hc;refine⟨b,off,rfl,Hq hc,λi hi=>?_⟩;have B:i<len:=by grind
   rw[J i B];obtain⟨e0,e1,_⟩:=hg i B;simp only[rG] at e0 e1
   grind
 grind
theorem TA {n:Nat} {v0 v1 v2:Value} {x:DataW H×List MemPlace} (h:DataW.trod enc prog w base spare held n 145 [v0,v1,v2]=some x) (hw:qG 145 x.1) :
  ∃s:bD,v0=I s.page/\v1=.string s.data/\v2=.slice s.ao s.df.length s.cap/\mS w s.ao s.df/\ym s:=by
 obtain⟨xs,k,hk,q,_,r,hf⟩:=tS underlying145 h;rw[q] at hw;have g0:DataW.trod enc prog w base spare held k 3 (([v0,v1,v2].drop 0).take (prog.cellsOf 3))=xs[0]?:=hf 0 _ rfl;have g1:DataW.trod enc prog w base spare held k 9 (([v0,v1,v2].drop 1).take (prog.cellsOf 9))=xs[1]?:=hf 1 _ rfl;have g2:DataW.trod enc prog w base spare held k 143 (([v0,v1,v2].drop 2).take (prog.cellsOf 143))=xs[2]?:=hf 2 _ rfl;simp only[uD,KH,aah] at g0 g1 g2
 match xs,r with
 | [y0,y1,y2],_ =>
  obtain⟨m0,c0,_,w0⟩:=D4 underlying3 (show DataW.trod enc prog w base spare held k 3 [v0]=some y0 from g0);obtain⟨m1,c1,b,_⟩:=Qf underlying9 (show DataW.trod enc prog w base spare held k 9 [v1]=some y1 from g1);have u1:=mF underlying145 hw (j:=1) (u:=9) (d:=y1.1) rfl rfl;have u2:=mF underlying145 hw (j:=2) (u:=143) (d:=y2.1) rfl rfl;rw[b] at u1;have w1:bM m1.size:=by have:=zK u1;unfold bM;unfold reachBytes at this;rw[Lib.size_eq];omega
  have t2:DataW.trod enc prog w base spare held k 143 [v2]=some y2:=g2;obtain⟨ao,ln,cp,d2⟩:=o7 underlying143 t2;subst d2;obtain⟨fs,n1,n2,n3,n4⟩:=af5 t2 u2;simp only[rE,qJ] at c0 c1;subst c0;subst c1;subst n1;exact⟨⟨m0,m1,fs,ao,cp⟩,rfl,rfl,rfl,n2,⟨Ap _ w0,w1,n3,n4⟩⟩
end
end Go.Proofs.YtlgoihmkgaaemaaGreat
