import Derived.Test.YtlgoihmkgaaemaaGreatGP11
set_option maxHeartbeats 20000000
set_option linter.unusedVariables false
set_option maxRecDepth 100000
set_option linter.unusedSimpArgs false
namespace Go.Proofs.YtlgoihmkgaaemaaGreat
open Go.RowKit Tryz
theorem rJ {k:IntKind} {a b:Int} (h:a=b):Ending.returned (.int k a)=.returned (.int k b):=by rw[h]
theorem KR (l:List aU) (va vs:Value) (en:Int) (w:World) (ha:eN w va l) (hf:dG l) (hc:bf l=0) (he:cR en) (Ec:∃ao n c,va=.slice ao n c) (hvs:∃ao n c,vs=.slice ao n c) :
  Calls prog 121 #[.agg #[va,vs,I en]] w λe w'=>e=.returned (.bool (wK l en))/\Below w.heap.size w w':=by
 have Mk:Hid (bc l (en.tdiv 16)=bE l (en.tdiv 16)):=by show _=_;grind [bc]
 have Ke:=aB (Iz l hc (en.tdiv 16));have HE:Hid (wK l en=((bE l (en.tdiv 16)).2&&(decide (2<=(bE l (en.tdiv 16)).1.gh)&&decide (en.tmod 8=0)))):=rfl;have Tj:Hid (∀W,Below w.heap.size w W->Calls prog 77 #[va,I (en.tdiv 16)] W λe w'=>e=.returned (.tuple #[.agg (ou (bE l (en.tdiv 16)).1),.bool (bE l (en.tdiv 16)).2])/\Below W.heap.size W w'):=λW hb=>by
  have h:=zg l va (en.tdiv 16) W (ha.below hb) hf;rw[Mk.o] at h;exact h
 generalize bE l (en.tdiv 16)=r at Ke HE Tj;clear Mk ha hf hc;obtain⟨⟨pg,pn,pr,zr⟩,ok⟩:=r;simp only[ou] at Tj Ke HE;obtain⟨aa,na,ca,rfl⟩:=Ec;obtain⟨ao,no,co,rfl⟩:=hvs;unfold cR at he;have HB:=aB ((aN w.heap.size w).alloc (aJ _) (.cells #[.slice aa na ca,.slice ao no co,I en] 25));have BX:=aB (bG w #[.slice aa na ca,.slice ao no co,I en] 25);rw[HE.o];cases ok with
 | false =>
  go_enter func121,ntmps121;go_wp2_with (go_at_call 77;refine(Tj.o _ HB.o).mono ?_;rintro e w1 ⟨rfl,hb⟩;have HB:=aB (HB.o.trans (hb.mono HB.o.size));clear hb);go_ret;exact⟨rfl,HB.o.alloc HB.o.size _⟩
 | true =>
  have b:=Iw (Ke.o rfl);have b0:bits BinOp.and IntKind.i64 0 2=0:=by decide
  have b1:bits BinOp.and IntKind.i64 1 2=0:=by decide
  have b2:bits BinOp.and IntKind.i64 2 2=2:=by decide
  have b3:bits BinOp.and IntKind.i64 3 2=2:=by decide
  clear Ke;by_cases h8:en.tmod 8=0
  . rcases b with rfl | rfl | rfl | rfl
    all_goals
     go_enter func121,ntmps121;go_wp2_with (go_at_call 77;refine(Tj.o _ HB.o).mono ?_;rintro e w1 ⟨rfl,hb⟩;have HB:=aB (HB.o.trans (hb.mono HB.o.size));have BX:=aB (aO BX.o hb (aM BX.o));have E7:=aM BX.o;have x2:=aA BX.o 2 rfl;clear hb);go_ret;exact⟨ij (by simp[h8]),HB.o.alloc HB.o.size _⟩
  have q:(en.tmod 8==0)=false:=by grind
  rcases b with rfl | rfl | rfl | rfl
  all_goals
   go_enter func121,ntmps121;go_wp2_with (go_at_call 77;refine(Tj.o _ HB.o).mono ?_;rintro e w1 ⟨rfl,hb⟩;have HB:=aB (HB.o.trans (hb.mono HB.o.size));have BX:=aB (aO BX.o hb (aM BX.o));have E7:=aM BX.o;have x2:=aA BX.o 2 rfl;clear hb);go_ret;exact⟨ij (by simp[h8]),HB.o.alloc HB.o.size _⟩
theorem JC {w:World} {v:Value} {l:List aU} (h:eN w v l):∃ao n c,v=.slice ao n c:=by
 obtain⟨ao,cap,h,_⟩:=h
 grind
theorem W4 (l:List aU) (hs:List bD) (en:Int) (va:Value) (ao:Option Addr) (cap:Nat) (w:World) (ha:eN w va l) (hf:dG l) (h:gz w ao hs) (Jv:m6 hs) (hcap:hs.length<=cap) (he:cR en) :
  Calls prog 69 #[.agg #[va,.slice ao hs.length cap,I en]] w λe w'=>e=.returned (I (iF l hs en))/\Below w.heap.size w w':=by
 have zh:Hid (∀W,Below w.heap.size w W->Calls prog 117 #[va] W λe w'=>e=.returned (I (bf l))/\Below W.heap.size W w'):=λW hb=>jL l va W (ha.below hb) hf
 have HZ:Hid (∀W,Below w.heap.size w W->Calls prog 118 #[va] W λe w'=>e=.returned (.bool (mH l))/\Below W.heap.size W w'):=λW hb=>Q4 l va W (ha.below hb) hf
 have b:Hid (bf l=0->∀W,Below w.heap.size w W->Calls prog 119 #[.agg #[va,.slice ao hs.length cap,I en]] W λe w'=>e=.returned (.bool (jV l hs))/\Below W.heap.size W w'):=λhc W hb=>QW l hs en va ao cap W (ha.below hb) hc (h.below hb) Jv.1 hcap
 have y:Hid (∀W,Below w.heap.size w W->Calls prog 120 #[.slice ao hs.length cap] W λe w'=>e=.returned (.bool (tv hs))/\Below W.heap.size W w'):=λW hb=>Jz hs ao cap W (h.below hb) Jv
 have vt:Hid (bf l=0->∀W,Below w.heap.size w W->Calls prog 121 #[.agg #[va,.slice ao hs.length cap,I en]] W λe w'=>e=.returned (.bool (wK l en))/\Below W.heap.size W w'):=λhc W hb=>KR l va _ en W (ha.below hb) hf hc he (JC ha) ⟨_,_,_,rfl⟩
 have HR:Hid (iF l hs en=if bf l=0 then (if !mH l&&(jV l hs&&(tv hs&&wK l en)) then 0 else 1) else bf l):=rfl;obtain⟨aa,na,ca,rfl⟩:=JC ha;clear ha hf h Jv hcap he;generalize hs.length=N at b y vt ⊢;generalize mH l=z at HZ HR;generalize jV l hs=q at b HR;generalize tv hs=s at y HR;generalize wK l en=r at vt HR;generalize bf l=C at zh b vt HR;rw[HR.o];clear HR;have HB:=aB ((aN w.heap.size w).alloc (aJ _) (.cells #[.slice aa na ca,.slice ao N cap,I en] 25));have BX:=aB (bG w #[.slice aa na ca,.slice ao N cap,I en] 25);by_cases hc:C=0
 . subst hc;have A:=aB (b.o rfl);have B:=aB (vt.o rfl);clear b vt;rw[aQ rfl];cases z <;> cases q <;> cases s <;> cases r
   all_goals
    go_enter func69,ntmps69;go_wp2_with (first
     | (go_at_call 117;refine(zh.o _ HB.o).mono ?_;rintro e w1 ⟨rfl,hb⟩;have HB:=aB (HB.o.trans (hb.mono HB.o.size));have BX:=aB (aO BX.o hb (aM BX.o));have x0:=aA BX.o 0 rfl;clear hb)
     | (go_at_call 118;refine(HZ.o _ HB.o).mono ?_;rintro e w1 ⟨rfl,hb⟩;have HB:=aB (HB.o.trans (hb.mono HB.o.size));have BX:=aB (aO BX.o hb (aM BX.o));have x0:=aA BX.o 0 rfl;have x1:=aA BX.o 1 rfl;have x2:=aA BX.o 2 rfl;clear hb)
     | (go_at_call 119;refine(A.o _ HB.o).mono ?_;rintro e w1 ⟨rfl,hb⟩;have HB:=aB (HB.o.trans (hb.mono HB.o.size));have BX:=aB (aO BX.o hb (aM BX.o));have x1:=aA BX.o 1 rfl;clear hb)
     | (go_at_call 120;refine(y.o _ HB.o).mono ?_;rintro e w1 ⟨rfl,hb⟩;have HB:=aB (HB.o.trans (hb.mono HB.o.size));have BX:=aB (aO BX.o hb (aM BX.o));have x0:=aA BX.o 0 rfl;have x1:=aA BX.o 1 rfl;have x2:=aA BX.o 2 rfl;clear hb)
     | (go_at_call 121;refine(B.o _ HB.o).mono ?_;rintro e w1 ⟨rfl,hb⟩;have HB:=aB (HB.o.trans (hb.mono HB.o.size));clear hb))
    go_ret;exact⟨rfl,HB.o⟩
 have F:(C==0)=false:=by grind
 rw[aH hc];go_enter func69,ntmps69;go_wp2_with (go_at_call 117;refine(zh.o _ HB.o).mono ?_;rintro e w1 ⟨rfl,hb⟩;have HB:=aB (HB.o.trans (hb.mono HB.o.size));clear hb);go_ret;exact⟨rfl,HB.o⟩
theorem acT (o:kI) (w:World) (h:qM w o.a o.i) (hc:mM o.i=0) (h0:0<=o.base) (h1:o.base<=100000) :
  Calls prog 65 #[.agg (pS o)] w λe w'=>e=.returned (I (yl o))/\Below w.heap.size w w':=by
 have hl:=FW hc;have hn:=wL hc;have HS:=h.jT;obtain⟨⟨nm,ns,gs,ys,rs,en⟩,⟨an,cn,ag,cg,ay,cy,ar,cr⟩,ba⟩:=o;simp only[pS];simp only at HS hn h0 h1;obtain⟨b,off,r,y,dZ⟩:=HS ω;subst r;have E:Hid (yl ⟨⟨nm,ns,gs,ys,rs,en⟩,⟨an,cn,some (Ad b off),cg,ay,cy,ar,cr⟩,ba⟩=ba+(fh gs (gs.length-1)).page+(fh gs (gs.length-1)).aY):=rfl;have q:0<=(fh gs (gs.length-1)).page/\1<=(fh gs (gs.length-1)).aY/\(fh gs (gs.length-1)).page+(fh gs (gs.length-1)).aY<=255:=hl;obtain⟨c0,c1,c2,c3,c4⟩:=dZ (gs.length-1) ω;rw[E.o];generalize fh gs (gs.length-1)=s at c0 c1 c2 c3 c4 q ⊢;clear hl dZ HS h E;generalize gs.length=G at c0 c1 c2 c3 c4 hn ⊢;clear hc;have HB:=aB ((aN w.heap.size w).alloc (aJ _) (.cells #[.string nm,.slice an ns.length cn,.slice (some (Ad b off)) G cg,.slice ay ys.length cy,.slice ar rs.length cr,I en,I ba] 131));go_enter func65,ntmps65;go_wp2;go_ret;exact⟨rfl,HB.o.alloc HB.o.size _⟩
theorem Q5 (o:kI) (Zy:Int) (w:World) (h0:0<=o.base) (h1:o.base<=100000) (h2:0<=Zy) (h3:Zy<=100000) :
  Calls prog 68 #[.agg (pS o),I Zy] w λe w'=>e=.returned (I (yN o Zy))/\Below w.heap.size w w':=by
 obtain⟨⟨nm,ns,gs,ys,rs,en⟩,⟨an,cn,ag,cg,ay,cy,ar,cr⟩,ba⟩:=o;simp only[pS,yN];simp only at h0 h1;go_enter func68,ntmps68;go_wp2;go_ret;exact⟨rfl,(aN _ _).alloc (aJ _) _⟩
theorem aab (s:qw) (w:World) :
  Calls prog 116 #[.agg #[I s.page,I s.aY,.string s.data,.bool s.wr,.bool s.ex]] w λe w'=>e=.returned (I (wA s))/\Below w.heap.size w w':=by
 obtain⟨pg,pn,dt,wr,ex⟩:=s;have b1:bits BinOp.or IntKind.i64 0 1=1:=by decide
 have b2:bits BinOp.or IntKind.i64 0 2=2:=by decide
 have b3:bits BinOp.or IntKind.i64 1 2=3:=by decide
 cases wr <;> cases ex
 all_goals
  go_enter func116,ntmps116;go_wp2;go_ret;simp[wA,aN,pG]
open Go.RowKit Go.WideMaps Go.Maps
def akB (l:List jd) (w:World) (e:Ending) (w':World):Prop:=Below w.heap.size w w' /\
 if pj l=0 then ∃m D,e=.returned (.tuple #[.map (some m),I 0])/\w'.ownsMap prog 9 aam m l.length D/\Lb l l.length D
 else e=.returned (.tuple #[.map none,I (pj l)])
theorem vJ {α:Type} (f:α->List Value) (c:Nat) (hc:∀x,(f x).length=c) (d:α):∀(l:List α) (i j:Nat),i<l.length->j<c->(l.flatMap f)[i*c+j]?=(f (l.getD i d))[j]?
 | a::r,0,j,_,hj=>by
  grind
 | a::r,i+1,j,hi,hj=>by
  rw[oF,Eb Γ,hc,show(i+1)*c+j-c=i*c+j by grind];exact vJ f c hc d r i j Γ hj
def Qw (all:List jd) (R:Option (List Nat)) (w:World) (e:Ending) (w':World):Prop:=Below w.heap.size w w'/\match R with
 | none=>e=.returned (.tuple #[Nl,.bool false])
 | some ix=>Ht all ix/\∃ao cap,e=.returned (.tuple #[.slice ao ix.length cap,.bool true])/\Lg w' ao (fB all 1 ix)
structure al3 (all:List jd) (m:Nat) (D:DataW Value) (w:World):Prop where
 pos:0<all.length
 few:all.length<=7
 chk:∀j,j<all.length->mM (cQ all j).i=0
 fit:∀j,j<all.length->KL (cQ all j).i
 once:yg (ku all)=true
 im:∀j,j<all.length->qM w (cQ all j).a (cQ all j).i
 map:w.ownsMap prog 9 aam m all.length D
 nm:Lb all all.length D
theorem Eh {w w':World} {base:Nat} {e:TypeId} {size:Nat} {v:Value} {n:Nat} {xs:List Value} (h:w.ownsRow base e size v n xs) (hb:Below w.heap.size w w'):w'.ownsRow base e size v n xs:=by
 refine⟨h.1,?_⟩;rcases h.2 with h2 | ⟨g,cap,q,hv,b,hg,rest⟩
 . grind
 exact .inr ⟨g,cap,q,hv,b,(hb.block g (aM hg)).trans hg,rest⟩
theorem MW (s:bD) (w:World) (h:mS w s.ao s.df) (hf:ym s) :
  Calls prog 138 #[.agg (pT s)] w λe w'=>e=.returned (.bool (cK s))/\Below w.heap.size w w':=by
 obtain⟨f1,f2,f3,f4⟩:=hf;obtain⟨pg,dt,fs,ao,cap⟩:=s;simp only at f1 f2 f3 f4;unfold cR at f1;unfold bM at f2 f3;simp only[pT];have F4:=aB f4;have HH:=aB h;clear f4 h;have HB:=aB ((aN w.heap.size w).alloc (aJ _) (.cells #[I pg,.string dt,.slice ao fs.length cap] 145));have BX:=aB (bG w #[I pg,.string dt,.slice ao fs.length cap] 145);by_cases h1:1<=pg/\pg<=255
 . have d1:decide (1<=pg/\pg<=255)=true:=dW h1;by_cases h3:dt.size=16
   . by_cases h4:fs.length<=16
     . have K:(dt.size:Int)=16:=by omega
       have F:¬(16:Int)<(fs.length:Int):=by omega
       have e:lW ⟨pg,dt,fs,ao,cap⟩=true:=by
        grind [lW]
       have E:Hid (cK ⟨pg,dt,fs,ao,cap⟩=dK fs fs.length):=by
        show _=_
        grind [cK]
       clear e h3;go_enter func138,ntmps138;go_wp2_with (go_at_call 33;refine(ir _ _ _ _).mono ?_;rintro e w' ⟨rfl,rfl⟩;rw[d1]);go_loopw [4,3] (λi en wr=>∃k:Nat,k<=fs.length/\i=I k/\en=I (ow fs k)/\dK fs k=true/\Below w.heap.size w wr/\wr.heap[w.heap.size]?=some (.cells #[I pg,.string dt,.slice ao fs.length cap] 145 (0,0))) (λi _ _=>fs.length-(intOf i).toNat)
       case atStart=>exact⟨0,ω,rfl,rfl,rfl,HB.o,BX.o⟩
       case round =>
        obtain⟨k,hk,rfl,rfl,hg,hb,E7⟩:=hrel;have HG:=aB hg;have pI:=aB hb;have A:=aB E7;have x2:=aA E7 2 rfl;clear hg E7;by_cases hlt:k<fs.length
        . obtain⟨b,off,B,J,dZ⟩:=(HH.o.below hb) ω;subst B;obtain⟨c0,c1⟩:=dZ k hlt;obtain⟨g1,g2⟩:=F4.o k hlt;have G:=oO fs k HG.o;obtain⟨f,r⟩:=ex (l8 fs k);rw[<- r] at c0 c1 g1 g2;unfold cR at g1;unfold bM at g2;have Ti:=aB r;clear r dZ hb;obtain⟨en,q⟩:=ex (ow fs k);rw[<- q] at G;have vt:=aB q;rw[<- q];clear q;have jo:=aB (pI.o.alloc pI.o.size (.cells #[I f.off,.string f.bytes] 226));have y:=aB (bB A.o (.cells #[I f.off,.string f.bytes] 226));by_cases q1:en<=f.off/\f.off<=16
          . have z1:decide (en<=f.off/\f.off<=16)=true:=dW q1;by_cases q3:1<=(f.bytes.size:Int)/\(f.bytes.size:Int)<=16-f.off
            . have z2:decide (1<=(f.bytes.size:Int)/\(f.bytes.size:Int)<=16-f.off)=true:=dW q3;have HX:Hid (dK fs (k+1)=true):=by
               show _=_;simp only[dK,cV];exact⟨HG.o,by rw[<- Ti.o,<- vt.o];exact(vK _ _).2 ω⟩
              have HY:Hid (ow fs (k+1)=f.off+(f.bytes.size:Int)):=by show _=_;simp only[ow];rw[<- Ti.o]
              go_wp2_with (first | (go_at_call 33;refine(ir _ _ _ _).mono ?_;rintro e w' ⟨rfl,rfl⟩;rw[z2]) | (go_at_call 33;refine(ir _ _ _ _).mono ?_;rintro e w' ⟨rfl,rfl⟩;rw[z1];have FA:=trivial))
              go_roundw
              case rel=>exact⟨k+1,ω,by go_num,by rw[HY.o],HX.o,jo.o,y.o⟩
              case measure=>simp[intOf];omega
            have z2:decide (1<=(f.bytes.size:Int)/\(f.bytes.size:Int)<=16-f.off)=false:=eH q3;have HX:Hid (dK fs fs.length=false):=tW fs k hlt (by rw[<- Ti.o,<- vt.o];exact xK ω);go_wp2_with (first | (go_at_call 33;refine(ir _ _ _ _).mono ?_;rintro e w' ⟨rfl,rfl⟩;rw[z2]) | (go_at_call 33;refine(ir _ _ _ _).mono ?_;rintro e w' ⟨rfl,rfl⟩;rw[z1];have FA:=trivial));go_ret;exact⟨ij (by rw[E.o,HX.o]),jo.o⟩
          have z1:decide (en<=f.off/\f.off<=16)=false:=eH q1;have HX:Hid (dK fs fs.length=false):=tW fs k hlt (by rw[<- Ti.o,<- vt.o];exact xK ω);go_wp2_with (go_at_call 33;refine(ir _ _ _ _).mono ?_;rintro e w' ⟨rfl,rfl⟩;rw[z1]);go_ret;exact⟨ij (by rw[E.o,HX.o]),jo.o⟩
        obtain rfl:k=fs.length:=by omega
        go_wp2;go_ret;exact⟨ij (by rw[E.o,HG.o]),pI.o⟩
     have F:(16:Int)<(fs.length:Int):=by omega
     have e:cK ⟨pg,dt,fs,ao,cap⟩=false:=by
      unfold cK;cases e:dK fs fs.length
      . grind
      have:=oO fs fs.length e;omega
     rw[e];go_enter func138,ntmps138;go_wp2_with (go_at_call 33;refine(ir _ _ _ _).mono ?_;rintro e w' ⟨rfl,rfl⟩;rw[d1]);go_ret;exact⟨rfl,HB.o⟩
   have e:cK ⟨pg,dt,fs,ao,cap⟩=false:=by
    grind [cK,lW]
   rw[e];go_enter func138,ntmps138;go_wp2_with (go_at_call 33;refine(ir _ _ _ _).mono ?_;rintro e w' ⟨rfl,rfl⟩;rw[d1]);go_ret;exact⟨rfl,HB.o⟩
 have d1:decide (1<=pg/\pg<=255)=false:=eH h1;have e:cK ⟨pg,dt,fs,ao,cap⟩=false:=by
  grind [cK,lW]
 rw[e];go_enter func138,ntmps138;go_wp2_with (go_at_call 33;refine(ir _ _ _ _).mono ?_;rintro e w' ⟨rfl,rfl⟩;rw[d1]);go_ret;exact⟨rfl,HB.o⟩
theorem TC (s:bD) (w:World) (h:mS w s.ao s.df) (hf:ym s) (hs:cK s=true) :
  Calls prog 148 #[.agg (pT s)] w λe w'=>e=.returned (.string (o9 s))/\Below w.heap.size w w':=by
 obtain⟨f1,f2,f3,f4⟩:=hf;obtain⟨pg,dt,fs,ao,cap⟩:=s;simp only at f1 f2 f3 f4;unfold bM at f2 f3;simp only[pT];have HH:=aB h;clear f4 h f1;have HB:=aB ((aN w.heap.size w).alloc (aJ _) (.cells #[I pg,.string dt,.slice ao fs.length cap] 145));have BX:=aB (bG w #[I pg,.string dt,.slice ao fs.length cap] 145);have HN:Hid (o9 ⟨pg,dt,fs,ao,cap⟩=nU dt fs fs.length):=rfl;obtain⟨hd,A⟩:lW ⟨pg,dt,fs,ao,cap⟩=true/\dK fs fs.length=true:=by
  grind [cK]
 have G:dt.size=16:=by
  grind [lW]
 have y:=aB A;clear hs hd A;rw[HN.o];go_enter func148,ntmps148;go_wp2;go_loopw [4,3] (λi d wr=>∃k:Nat,k<=fs.length/\i=I k/\d=.string (nU dt fs k)/\Below w.heap.size w wr/\wr.heap[w.heap.size]?=some (.cells #[I pg,.string dt,.slice ao fs.length cap] 145 (0,0))) (λi _ _=>fs.length-(intOf i).toNat)
 case atStart=>exact⟨0,ω,rfl,rfl,HB.o,BX.o⟩
 case round =>
  obtain⟨k,hk,rfl,rfl,hb,E7⟩:=hrel;have pI:=aB hb;have r:=aB E7;have x2:=aA E7 2 rfl;clear E7;by_cases hlt:k<fs.length
  . obtain⟨b,off,J,M,dZ⟩:=(HH.o.below hb) ω;subst J;obtain⟨c0,c1⟩:=dZ k hlt;have B:=(vK _ _).1 (CL fs fs.length y.o k hlt);have q:dK fs k=true:=by
     cases e:dK fs k
     . rw[tX fs k fs.length ω e] at y;cases y
     rfl
    have N:=oO fs k q;have L:=wJ dt fs G k q;have uy:Hid (nU dt fs (k+1)=iT (nU dt fs k) (l8 fs k).off.toNat (l8 fs k).bytes):=rfl;generalize l8 fs k=f at c0 c1 B uy;generalize nU dt fs k=D at L uy ⊢;obtain⟨o,ho⟩:∃o:Nat,f.off=(o:Int):=⟨f.off.toNat,ω⟩;rw[ho] at c0 B;rw[ho,kq] at uy;have F:=aB (Iu wr);clear q dZ hb;go_wp2
    go_region_law (go_simp;go_at_call 103;refine(abU D f.bytes o _ ω ω).mono ?_;rintro e w3 ⟨rfl,hb⟩;have kE:=aB (pI.o.trans ((F.o.trans hb).mono pI.o.size));have K:=aB (aO (aO r.o F.o (aM r.o)) hb (by have:=aM r.o;simpa using this));clear hb;go_simp)
    all_goals
     go_wp2;go_roundw
     case rel=>exact⟨k+1,ω,by go_num,by rw[uy.o],kE.o,K.o⟩
     case measure=>simp[intOf];omega
  obtain rfl:k=fs.length:=by omega
  go_wp2;go_ret;exact⟨rfl,pI.o⟩
theorem fy {P:Program} {f:FuncId} {args:Array Value} {v:Value} {w:World} (x:cM w.heap.size w) (h:∀W,Below w.heap.size w W->Calls P f args W λe w'=>e=.returned v/\Below W.heap.size W w') :
  Calls P f args x.world λe w''=>e=.returned v/\∃y:cM w.heap.size w,w''=y.world :=
 (h x.world x.keeps).mono λe w'' ⟨he,hb⟩=>⟨he,⟨w'',x.keeps.trans (hb.mono x.keeps.size)⟩,rfl⟩
theorem BW (hs:List bD) (ao:Option Addr) (cap:Nat) (w:World) (h:gz w ao hs) (hf:m6 hs) :
  Calls prog 81 #[.slice ao hs.length cap] w λe w'=>e=.returned (.bool (dR hs))/\Below w.heap.size w w':=by
 have HF:=aB hf;have HH:=aB h;have hn:hs.length<=140737488351232:=hf.1;clear h hf;go_enter func81,ntmps81;go_wp2;go_loopw [3] (λi wr=>∃k:Nat,k<=hs.length/\i=I k/\ji hs k=true/\Below w.heap.size w wr) (λi _=>hs.length-(intOf i).toNat)
 case atStart=>exact⟨0,ω,rfl,rfl,aN _ _⟩
 case round =>
  obtain⟨k,hk,rfl,hz,hb⟩:=hrel;have HZ:=aB hz;have pI:=aB hb;clear hz;by_cases hlt:k<hs.length
  . obtain⟨b,off,L,B,dZ⟩:=(HH.o.below hb) ω;subst L;obtain⟨c0,c1,c2,c3⟩:=dZ k hlt;have Pc:=HF.o.2 k hlt;have HE:Hid (ji hs (k+1)=(cK (aZ hs k)&&ng hs k)):=by
     show _=_;simp only[ji];rw[HZ.o,ju]
    have YL:Hid ((cK (aZ hs k)&&ng hs k)=false->dR hs=false):=λe=>N6 hs k hlt e
    have yL:=iH wr;have y:=@fG wr;have F:Hid (0<k->wr.cell? ⟨b,off+(k-1)*3,none⟩=some (I (aZ hs (k-1)).page)):=λh0=>(dZ (k-1) ω).1
    have r:Hid (ng hs k=(k==0 || decide ((aZ hs (k-1)).page<(aZ hs k).page))):=rfl;generalize aZ hs k=s at c0 c1 c2 c3 Pc HE YL r;have e0:∀x:cM wr.heap.size wr,x.world.cell? (Ad b (off+k*3))=some (I s.page):=λx=>by rw[y x _ _ B,c0]
    have e1:∀x:cM wr.heap.size wr,x.world.cell? (Ad b (off+k*3+1))=some (.string s.data):=λx=>by rw[y x _ _ B,c1]
    have e2:∀x:cM wr.heap.size wr,x.world.cell? (Ad b (off+k*3+2))=some (.slice s.ao s.df.length s.cap):=λx=>by rw[y x _ _ B,c2]
    have HC:Hid (∀W,Below wr.heap.size wr W->Calls prog 138 #[.agg #[I s.page,.string s.data,.slice s.ao s.df.length s.cap]] W λe w'=>e=.returned (.bool (cK s))/\Below W.heap.size W w'):=λW hb=>MW s W (c3.below hb) Pc
    clear dZ hb c0 c1 c2 c3 Pc;cases e:cK s with
    | false =>
     have HX:=aB (YL.o (by rw[e];rfl));rw[e] at HC;clear e HE YL r F y;go_wp2;refine cB κ κ ?_
     repeat (first | go_big_quiet_step ((go_at_call 138;exact fy _ HC.o)) | quiet_step ((go_at_call 138;exact fy _ HC.o)))
     refine fL ?_;intro _ A;obtain⟨x,q⟩:=A;subst q;go_wp2;go_ret;exact⟨ij HX.o.symm,pI.o.trans (x.keeps.mono pI.o.size)⟩
    | true =>
     rw[e] at HC HE YL;rw[ju] at HE YL;clear e;by_cases hk0:k=0
     . have z1:decide ((0:Int)<(k:Int))=false:=by simp;omega
       have z2:decide (0<k)=false:=by simp;omega
       have HX:Hid (ng hs k=true):=by show _=_;rw[r.o,hk0];rfl
       rw[HX.o] at HE;clear hk0 YL r F y HX;go_wp2;refine cB κ κ ?_
       repeat (first | go_big_quiet_step ((go_at_call 138;exact fy _ HC.o)) | quiet_step ((go_at_call 138;exact fy _ HC.o)))
       refine fL ?_;intro _ A;obtain⟨x,q⟩:=A;subst q;go_wp2;go_roundw
       case rel=>exact⟨k+1,ω,by go_num,HE.o,pI.o.trans (x.keeps.mono pI.o.size)⟩
       case measure=>simp[intOf];omega
     have N:(1:Int)<=(k:Int):=by omega
     have M:0<k:=by omega
     have O:(0:Int)<(k:Int):=by omega
     have J:(k==0)=false:=by simpa using hk0
     obtain⟨p,hp⟩:=ex ((aZ hs (k-1)).page);have G:=F.o M;rw[<- hp] at G r;rw[J,Bool.false_or] at r;have e3:∀x:cM wr.heap.size wr,x.world.cell? ⟨b,off+(k-1)*3,none⟩=some (I p):=λx=>by rw[y x _ _ B,G]
     clear hp G hk0 F y J;by_cases Am:p<s.page
     . have HX:Hid (ng hs k=true):=by show _=_;rw[r.o,dW Am]
       rw[HX.o] at HE;have K:¬s.page<=p:=by omega
       clear YL r HX;go_wp2;refine cB κ κ ?_
       repeat (first | go_big_quiet_step ((go_at_call 138;exact fy _ HC.o)) | quiet_step ((go_at_call 138;exact fy _ HC.o)))
       refine fL ?_;intro _ A;obtain⟨x,q⟩:=A;subst q;go_wp2;go_roundw
       case rel=>exact⟨k+1,ω,by go_num,HE.o,pI.o.trans (x.keeps.mono pI.o.size)⟩
       case measure=>simp[intOf];omega
     have HX:Hid (dR hs=false):=YL.o (by rw[r.o,eH Am]);have K:s.page<=p:=by omega
     clear HE YL r;go_wp2;refine cB κ κ ?_
     repeat (first | go_big_quiet_step ((go_at_call 138;exact fy _ HC.o)) | quiet_step ((go_at_call 138;exact fy _ HC.o)))
     refine fL ?_;intro _ A;obtain⟨x,q⟩:=A;subst q;go_wp2;go_ret;exact⟨ij HX.o.symm,pI.o.trans (x.keeps.mono pI.o.size)⟩
  obtain rfl:k=hs.length:=by omega
  go_wp2;go_ret;exact⟨ij HZ.o.symm,pI.o⟩
end Go.Proofs.YtlgoihmkgaaemaaGreat
