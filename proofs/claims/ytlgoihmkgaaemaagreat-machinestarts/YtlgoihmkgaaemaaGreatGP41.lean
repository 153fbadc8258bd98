import Derived.Test.YtlgoihmkgaaemaaGreatGP40
set_option maxHeartbeats 20000000
set_option linter.unusedVariables false
set_option maxRecDepth 100000
set_option linter.unusedSimpArgs false
namespace Go.Proofs.YtlgoihmkgaaemaaGreat
open Go.RowKit Tryz
theorem zL {lo:Nat} {w w':World} {v:Value} {l:List aU} (h:eO lo w v l) (hb:Below w.heap.size w w'):eO lo w' v l:=Eh h hb
theorem Ei {lo:Nat} {w:World} {v:Value} {l:List aU} (h:eO lo w v l):∃ao cap,v=.slice ao l.length cap/\(0<l.length->∃g,ao=some (Ad g 0)):=by
 rcases h.2 with⟨hv,h0⟩ | ⟨g,cap,b,hv,_⟩
 . grind
 grind
theorem Q0 (l:List kI) (ao:Option Addr) (cap:Nat) (w:World) (h:Q6 l ao w) (hl7:l.length<=7) :
  Calls prog 67 #[.slice ao l.length cap] w λe w'=>∃r,e=.returned r/\eO w.heap.size w' r (sG l)/\Below w.heap.size w w':=by
 have HO:=aB h;clear h;go_enter func67,ntmps67;go_wp2;go_loopw [11,3] (λi v wr=>∃(a:Nat),a<=l.length/\i=I a/\eO w.heap.size wr v (CN l a)/\Below w.heap.size w wr) (λi _ _=>l.length-(intOf i).toNat)
 case atStart=>exact⟨0,ω,rfl,eO.nil _ _,aN _ _⟩
 case round =>
  obtain⟨a,ah,rfl,y,hb⟩:=hrel;have A:=aB y;have pI:=aB hb;by_cases hlt:a<l.length
  . have X:=aB (HO.o.below hb);obtain⟨b,off,a3,ab,dZ⟩:=X.o.has ω;obtain⟨⟨c0,c1,c2,c3,c4,c5,c6⟩,a4⟩:=dZ a hlt;have aa:=HO.o.base a hlt;have Dk:=HO.o.chk a hlt;obtain⟨b2,ZL,a8,a6,ZT⟩:=HO.o.has ω;have Ww:=(ZT a hlt).2;have uy:Hid (CN l (a+1)=F7 (dX l a) (CN l a) (dX l a).i.jT.length):=rfl;generalize dX l a=o at c0 c1 c2 c3 c4 c5 c6 Ww aa Dk uy;have DB:=aB (JF l a);generalize CN l a=L at A uy DB;have af:=wL Dk;have ad:=aB (yh Dk);obtain⟨bs,ZK,U,ac,Y⟩:=Ww.jT ω;have a5:=aB Y;rw[U] at c2;clear dZ hb y a4 Y U Ww ZT a8 a6 Dk;subst a3;have jo:=aB (pI.o.alloc pI.o.size (.cells #[.string o.i.name,.slice o.a.an o.i.needs.length o.a.cn,.slice (some (Ad bs ZK)) o.i.jT.length o.a.cg,.slice o.a.ay o.i.syms.length o.a.cy,.slice o.a.ar o.i.qH.length o.a.cr,I o.i.entry,I o.base] 131));have PC:=aB ((aN wr.heap.size wr).alloc (aJ _) (.cells #[.string o.i.name,.slice o.a.an o.i.needs.length o.a.cn,.slice (some (Ad bs ZK)) o.i.jT.length o.a.cg,.slice o.a.ay o.i.syms.length o.a.cy,.slice o.a.ar o.i.qH.length o.a.cr,I o.i.entry,I o.base] 131));have BO:=aB (bG wr #[.string o.i.name,.slice o.a.an o.i.needs.length o.a.cn,.slice (some (Ad bs ZK)) o.i.jT.length o.a.cg,.slice o.a.ay o.i.syms.length o.a.cy,.slice o.a.ar o.i.qH.length o.a.cr,I o.i.entry,I o.base] 131);have M:=aB (zL A.o PC.o);go_wp2;generalize wr.alloc (.cells #[.string o.i.name,.slice o.a.an o.i.needs.length o.a.cn,.slice (some (Ad bs ZK)) o.i.jT.length o.a.cg,.slice o.a.ay o.i.syms.length o.a.cy,.slice o.a.ar o.i.qH.length o.a.cr,I o.i.entry,I o.base] 131)=W1 at jo PC BO M ⊢;generalize wr.heap.size=ob at BO ⊢;clear PC A pI X c0 c1 c2 c3 c4 c5 c6 ab;go_loopw [19,3] (λi v wm=>∃(k:Nat),k<=o.i.jT.length/\i=I k/\eO w.heap.size wm v (F7 o L k)/\Below w.heap.size w wm/\Below W1.heap.size W1 wm) (λi _ _=>o.i.jT.length-(intOf i).toNat)
    case atStart=>exact⟨0,ω,rfl,M.o,jo.o,aN _ _⟩
    case round =>
     obtain⟨k,hk,rfl,y,hb,J⟩:=hrel;have A:=aB y;have F:=aB hb;have dz:=aB J;clear M jo;by_cases hlk:k<o.i.jT.length
     . obtain⟨c0,c1,c2,c3,c4⟩:=Aw hb ac a5.o k hlk;have O8:=ad.o k hlk;have ZG:=aB (Rj o L DB.o k);have G:Hid (F7 o L (k+1)=M6 o (F7 o L k) (fh o.i.jT k)):=rfl;generalize fh o.i.jT k=s at c0 c1 c2 c3 c4 O8 G;generalize F7 o L k=L2 at A ZG G;obtain⟨pg,pn,dt,wb,q⟩:=s;simp only at c0 c1 c2 c3 c4 O8;have jo:=aB (F.o.alloc F.o.size (.cells #[I pg,I pn,.string dt,.bool wb,.bool q] 166));have PC:=aB ((aN wr.heap.size wr).alloc (aJ _) (.cells #[I pg,I pn,.string dt,.bool wb,.bool q] 166));have BS:=aB (bG wr #[I pg,I pn,.string dt,.bool wb,.bool q] 166);have K:=aB (bB (aO BO.o dz.o (aM BO.o)) (.cells #[I pg,I pn,.string dt,.bool wb,.bool q] 166));have N:=aB (dz.o.alloc dz.o.size (.cells #[I pg,I pn,.string dt,.bool wb,.bool q] 166));have a1:=aB (zL A.o PC.o);clear y hb J;go_wp2;generalize wr.alloc (.cells #[I pg,I pn,.string dt,.bool wb,.bool q] 166)=WA at jo BS K N a1 ⊢;generalize wr.heap.size=sb at BS ⊢;clear PC A F dz c0 c1 c2 c3 c4;have HS:Hid (∀V,Below WA.heap.size WA V->V.cell? (Ad ob 6)=some (I o.base)/\V.cell? (Ad sb 0)=some (I pg)/\V.cell? (Ad sb 1)=some (I pn)/\V.cell? (Ad sb 2)=some (.string dt)/\V.cell? (Ad sb 3)=some (.bool wb)/\V.cell? (Ad sb 4)=some (.bool q)):=λV hb=>by
        have h1:=aO K.o hb (aM K.o);have h2:=aO BS.o hb (aM BS.o);exact⟨aA h1 6 rfl,aA h2 0 rfl,aA h2 1 rfl,aA h2 2 rfl,aA h2 3 rfl,aA h2 4 rfl⟩
       have Ke:Hid (∀V,Calls prog 116 #[.agg #[I pg,I pn,.string dt,.bool wb,.bool q]] V λe w'=>e=.returned (I (wA ⟨pg,pn,dt,wb,q⟩))/\Below V.heap.size V w'):=λV=>aab ⟨pg,pn,dt,wb,q⟩ V
       have O:Hid (∀V,Below WA.heap.size WA V->Calls prog 115 #[u3,I (o.base+pg),I pn,I (wA ⟨pg,pn,dt,wb,q⟩)] V λe w'=>∃r,e=.returned (.tuple #[r,I (jz L2 (o.base+pg) pn (wA ⟨pg,pn,dt,wb,q⟩)).2])/\eO V.heap.size w' r (jz L2 (o.base+pg) pn (wA ⟨pg,pn,dt,wb,q⟩)).1/\Below V.heap.size V w'):=λV hb=>SU L2 u3 (o.base+pg) pn _ V (zL a1.o hb).has ZG.o (by unfold uA;omega) (by unfold uA;omega)
       have Q:Hid (M6 o L2 ⟨pg,pn,dt,wb,q⟩=(jz L2 (o.base+pg) pn (wA ⟨pg,pn,dt,wb,q⟩)).1):=rfl;generalize wA ⟨pg,pn,dt,wb,q⟩=PR at Ke O Q;generalize jz L2 (o.base+pg) pn PR=MN at O Q;have ae:IntKind.i64.wrap (o.base+pg)=o.base+pg:=wh _ ω;have xB:=aB (aN WA.heap.size WA).drew;have o5:=aB (HS.o _ xB.o)
       go_region_held3 (λV=>V.cell? (Ad ob 6)=some (I o.base)/\V.cell? (Ad sb 0)=some (I pg)/\V.cell? (Ad sb 1)=some (I pn)/\V.cell? (Ad sb 2)=some (.string dt)/\V.cell? (Ad sb 3)=some (.bool wb)/\V.cell? (Ad sb 4)=some (.bool q)) (first | exact Fq.o | exact Cu.o | exact o5.o)
        (first
         | (go_at_call 116;refine(Ke.o _).mono ?_;rintro e w2 ⟨rfl,hb⟩;have Aa:=aB (xB.o.trans (hb.mono xB.o.size));have Cu:=aB (HS.o _ Aa.o);clear hb)
         | (go_at_call 115;refine(O.o _ Aa.o).mono ?_;rintro e w3 ⟨v8,rfl,Z,hb⟩;have H8:=aB (Aa.o.trans (hb.mono Aa.o.size));have Fq:=aB (HS.o _ H8.o);have a9:=aB Z;clear hb Z))
       go_wp2;go_roundw
       case rel=>exact⟨k+1,ω,by go_num,by rw[G.o,Q.o];exact a9.o.mono (gj jo.o.size Aa.o.size),jo.o.trans (H8.o.mono jo.o.size),N.o.trans (H8.o.mono N.o.size)⟩
       case measure=>simp[intOf];omega
     obtain rfl:k=o.i.jT.length:=by omega
     clear y hb J;go_wp2;go_roundw
     case rel=>exact⟨a+1,ω,by go_num,by rw[uy.o];exact A.o,F.o⟩
     case measure=>simp[intOf];omega
  obtain rfl:a=l.length:=by omega
  have YS:Hid (sG l=qa (CN l l.length) (CN l l.length).length):=(Xg _).symm;have DB:=aB (JF l l.length);generalize CN l l.length=L at A YS DB;have ag:=DB.o.2;obtain⟨ar,cr,hv,hg⟩:=Ei A.o;subst hv;have HG:=aB hg;clear y hb hg DB;go_wp2;go_loopw [41] (λi wr=>∃(k:Nat),k<=L.length/\i=I k/\eO w.heap.size wr (.slice ar L.length cr) (qa L k)/\Below w.heap.size w wr) (λi _=>L.length-(intOf i).toNat)
  case atStart=>exact⟨0,ω,rfl,A.o,pI.o⟩
  case round =>
   obtain⟨k,hk,rfl,y,hb⟩:=hrel;have R:=aB y;have W:=aB hb;clear A pI y hb;by_cases hlt:k<L.length
   . obtain⟨g,hg⟩:=HG.o ω;subst hg;have T:=zj L k;have B:Hid (wr.ownsRow w.heap.size 139 4 (.slice (some (Ad g 0)) L.length cr) L.length (b9 (qa L k))):=by
      have h:=R.o;unfold eO at h;rw[T] at h;exact h
     have a2:=aB (B.o.stored (k*4+3) (.bool false));have uy:Hid (b9 (qa L (k+1))=(b9 (qa L k)).set (k*4+3) (.bool false)):=(Dw false (qa L k) k ω).symm;have a0:=zj L (k+1);have a7:=aB a0;have aj:=B.o.lt g rfl;have q3:=(B.o.cellAt (k*4+3) ω).trans (l7 (qa L k) k 3 ω ω);have qf:=B.o.frozenAt (k*4+3);clear T a0;go_wp2;go_roundw
     case rel=>exact⟨k+1,ω,by go_num,by unfold eO;rw[a7.o,uy.o];exact a2.o.1,W.o.setCell (by simp;omega) _⟩
     case measure=>simp[intOf];omega
   obtain rfl:k=L.length:=by omega
   go_wp2;go_ret;exact⟨_,rfl,by rw[YS.o];exact R.o,W.o⟩
open Go.RowKit Tryz
def qP (x:jd):List Value:=(jU x.a x.i).toList
def mn (all:List jd):Int :=
 if 7<all.length then 2
 else if pj all=0 then
  match M7 all all.length 0 [0] with
  | none=>6
  | some ix=>if 256<jW all 1 ix then 3 else
   match tu (fB all 1 ix) with
   | none=>7
   | some _=>0
 else pj all
theorem TJ {l:List jd} (h:pj l=0):(∀k,k<l.length->mM (cQ l k).i=0)/\yg (ku l)=true:=by
 grind [pj,IC]
theorem aal {all:List jd} (hc:∀j,j<all.length->mM (cQ all j).i=0) (h7:all.length<=7) {ix:List Nat} (ho:Ht all ix) (k:Nat) (hk:k<(fB all 1 ix).length):1<=(dX (fB all 1 ix) k).base/\(dX (fB all 1 ix) k).base<=2000:=by
 rw[kM] at hk;rw[(uG all ix 1 k hk).2.2];have h:=Ce all hc (ix.take k) 1 (λj hj=>ho.lt j (List.mem_of_mem_take hj));have h2:=ho.le
 grind
open Go.RowKit Tryz
theorem af6:(prog.info? 56).map (λi=>(i.zero,i.size,i.bytes))=some (some (.agg #[.string ⟨#[]⟩,Nl,Nl,Nl,Nl,I 0]),6,120):=by rfl
theorem aaf {w:World} {b off:Nat} {l:List jd} (h:Ld w b off l):∀j u,(l.flatMap qP)[j]?=some u->w.cell? (((Ad b off):Addr).add j)=some u:=λj u hj=>by
 obtain⟨k,r,hr,rfl⟩:∃k r,r<6/\j=k*6+r:=⟨j/6,j%6,ω,ω⟩;have hlen:∀l:List jd,(l.flatMap qP).length=l.length*6:=λl=>by
  induction l with
  | nil=>rfl
  | cons a r ih=>rw[oF,gM,ih,D5];show 6+_=_;omega
 have hk:k<l.length:=by
  grind
 rw[vJ qP 6 (λ_=>rfl) ac5 l k r hk hr] at hj;obtain⟨⟨c0,c1,c2,c3,c4,c5⟩,_⟩:=h k hk;rw[rG,<- zC]
 match r,hr with
 | 0,_=>exact c0.trans hj
 | 1,_=>exact c1.trans hj
 | 2,_=>exact c2.trans hj
 | 3,_=>exact c3.trans hj
 | 4,_=>exact c4.trans hj
 | 5,_=>exact c5.trans hj
theorem af2 {w:World} {base:Nat} {g cap:Nat} {l:List jd} (h:w.ownsRow base 56 6 (.slice (some (Ad g 0)) l.length cap) l.length (l.flatMap qP)) (hg:g<w.heap.size) (hi:∀k,k<l.length->qM w (cQ l k).a (cQ l k).i) :
  Em w (some (Ad g 0)) l:=λhl=>by
 refine⟨g,0,rfl,hg,λk hk=>?_⟩;rw[mi];have hh:∀j,j<6->w.cell? (Ad g (k*6+j))=(qP (cQ l k))[j]?:=λj hj=>(h.cellAt _ ω).trans (vJ qP 6 (λ_=>rfl) ac5 l k j hk hj)
 exact⟨⟨hh 0 ω,hh 1 ω,hh 2 ω,hh 3 ω,hh 4 ω,hh 5 ω⟩,hi k hk⟩
theorem FH {ops:Array Oper} {rest:List Oper} {o:Oper} {a:Act} {w:World} {Q:Exit->Act->World->Prop} (hgd:o.guard=none) (s x:Operand)
  (ho:o.op=.call { callee:=.builtin .append,args:=#[s,x],argTypes:=#[57,57] })
  (base:Nat) (p:jd) (g0:Nat) (hs:a.eval s=.slice (some (Ad g0 0)) 1 1) (hown:w.ownsRow base 56 6 (.slice (some (Ad g0 0)) 1 1) 1 (qP p))
  (ao:Option Addr) (c:Nat) (libs:List jd) (hx:a.eval x=.slice ao libs.length c) (dZ:Em w ao libs) (h6:libs.length<=6) (hbase:base<=w.heap.size)
  (h:∀g cap w',w'.ownsRow base 56 6 (.slice (some (Ad g 0)) (libs.length+1) cap) (libs.length+1) ((p::libs).flatMap qP)->w.grownBy w' (some g0)->g<w'.heap.size->wpList prog ops Q rest (a.put o.dst (.slice (some (Ad g 0)) (libs.length+1) cap)) w'):wpList prog ops Q (o::rest) a w:=by
 obtain⟨i0,B,L,J,G⟩:=mQ af6;by_cases h0:0<libs.length
 . obtain⟨b,off,rfl,hb,hl⟩:=dZ h0;have q:∀l:List jd,(l.flatMap qP).length=l.length*6:=λl=>by
    induction l with
    | nil=>rfl
    | cons a r ih=>rw[oF,gM,ih,D5];show 6+_=_;omega
   have A:∀u∈libs.flatMap qP,u.oneCell'=true:=λu hu=>by
    obtain⟨y,_,hy⟩:=uP.1 hu;simp only[qP,jU] at hy;simp at hy;rcases hy with rfl | rfl | rfl | rfl | rfl | rfl <;> rfl
   refine Ku w hgd s x 57 ho base 56 i0 (.agg #[.string ⟨#[]⟩,Nl,Nl,Nl,Nl,I 0]) 6 120 underlying57 B L J G rfl Δ _ 1 _ hs hown (Ad b off) libs.length c (libs.flatMap qP) hx (q _) (aaf hl) A h0 (by grind [maxLen]) ω hbase _ rfl ?_;intro g cap w' h2 h3 _ h5;have e:1+libs.length=libs.length+1:=Nat.add_comm _ _;rw[e] at h2 ⊢;exact h g cap w' h2 h3 h5
 have e0:libs=[]:=mR ω;subst e0;have N:g0<w.heap.size:=(hown.lt g0 rfl).2;refine wpList_plain hgd λK hK=>?_
 have F:Src prog i0.size 57 (.slice ao 0 c) 0 [] w:=⟨.inl ⟨_,underlying57⟩,λw'=>ρ,by cases ao <;> simp[Builtin.firstCells,loadCells,loadCellsFrom],by cases ao <;> simp[Builtin.firstCells,loadCells,loadCellsFrom],ξ,ξ⟩;have hr:=run_append_nothing (P:=prog) w 57 57 o.type 56 i0 underlying57 B (some (Ad g0 0)) 1 1 (aJ _) (.slice ao 0 c) F;have M:a.eval x=.slice ao 0 c:=hx;unfold Oper.wp execOp;simp only[ho,resolve,invoke,builtin,Sem.run_bind,Sem.run_pure,Wj,List.map_toArray,Kl,List.map_nil,hs,M,hr];refine hK _ _ (h g0 1 w ?_ ⟨rfl,rfl,rfl,aJ _,λ_ _ _=>rfl⟩ N)
 grind
open Go.RowKit Go.WideMaps Go.Maps
def aff (all:List jd) (w:World) (e:Ending) (w':World):Prop:=Below w.heap.size w w' /\
 if mn all=0 then ∃(ix:List Nat) (E:List F8) (r:Value) (hs:List bD) (ao:Option Addr) (cap:Nat),M7 all all.length 0 [0]=some ix/\tu (fB all 1 ix)=some E/\hs.map eD=E /\
  e=.returned (.tuple #[.agg #[r,.slice ao hs.length cap,I (yN (dX (fB all 1 ix) 0) (cQ all 0).i.entry)],I 0])/\eO w.heap.size w' r (sG (fB all 1 ix))/\gz w' ao hs/\hs.length<=cap
 else e=.returned (.tuple #[.agg #[Nl,Nl,I 0],I (mn all)])
theorem tU (V:World) (rb b j:Nat) (u0 u1 u2:Value) (h:b≠rb):(((V.setCell (Ad rb 0) u0).setCell (Ad rb 1) u1).setCell (Ad rb 2) u2).cell? (Ad b j)=V.cell? (Ad b j):=by
 grind [World.cell?_setCell_far]
def KP (V:World) (rb:Nat) (u0 u1 u2:Value):World:=((V.setCell (Ad rb 0) u0).setCell (Ad rb 1) u1).setCell (Ad rb 2) u2
theorem KO (V:World) (rb:Nat) (u0 u1 u2:Value):(KP V rb u0 u1 u2).heap.size=V.heap.size:=by simp[KP]
theorem aae {V:World} {rb b off:Nat} {t:TypeId} {x:Int} {y:ByteArray} (h:V.heap[rb]?=some (.cells #[Nl,Nl,I 0] t (0,0))) (c0:V.cell? (Ad b off)=some (I x)) (c1:V.cell? (Ad b (off+1))=some (.string y)):b≠rb:=λe=>by
 grind [World.cell?]
theorem WZ {V:World} {rb:Nat} {t:TypeId} (h:V.heap[rb]?=some (.cells #[Nl,Nl,I 0] t (0,0))) {ao:Option Addr} {l:List mZ} (g:mS V ao l) (u0 u1 u2:Value):mS (KP V rb u0 u1 u2) ao l:=λhl=>by
 obtain⟨b,off,e,hb,dZ⟩:=g hl;obtain⟨c0,c1⟩:=dZ 0 hl;have hne:=aae h c0 c1;refine⟨b,off,e,by grind [KO],λk hk=>?_⟩;obtain⟨d0,d1⟩:=dZ k hk;exact⟨(tU V rb b _ u0 u1 u2 hne).trans d0,(tU V rb b _ u0 u1 u2 hne).trans d1⟩
theorem WY {V:World} {rb:Nat} {t:TypeId} (h:V.heap[rb]?=some (.cells #[Nl,Nl,I 0] t (0,0))) {ao:Option Addr} {l:List bD} (g:gz V ao l) (u0 u1 u2:Value):gz (KP V rb u0 u1 u2) ao l:=λhl=>by
 obtain⟨b,off,e,hb,dZ⟩:=g hl;obtain⟨c0,c1,_,_⟩:=dZ 0 hl;have hne:=aae h c0 c1;refine⟨b,off,e,by grind [KO],λk hk=>?_⟩;obtain⟨d0,d1,d2,d3⟩:=dZ k hk;exact⟨(tU V rb b _ u0 u1 u2 hne).trans d0,(tU V rb b _ u0 u1 u2 hne).trans d1,(tU V rb b _ u0 u1 u2 hne).trans d2,WZ h d3 u0 u1 u2⟩
theorem aad {V:World} {rb lo:Nat} {v:Value} {l:List aU} (h:eO lo V v l) (hlt:rb<lo) (u0 u1 u2:Value):eO lo (KP V rb u0 u1 u2) v l :=
 Hl (Hl (Hl h hlt _) hlt _) hlt _
open Go.RowKit Tryz
open Go.RowKit Tryz
open Go.RowKit Tryz
open Go.RowKit Tryz
open Go.RowKit Tryz
open Go.RowKit Tryz
section
variable {σ:Type} {Hd:World->(Nat->Prop)->σ->Prop} {Ok:σ->List Bool->Prop} {o:iZ σ} {lo mb gb:Nat} {w w':World} {D:Nat->Prop} {vr vo:Value} {st:dC σ}
end
open Go.RowKit Tryz
open Go.RowKit Tryz
open Go.RowKit Tryz
open Go.RowKit Tryz
open Go.RowKit Tryz
open Go.RowKit Tryz
open Go.RowKit Tryz
open Go.RowKit Tryz
open Go.RowKit Tryz
open Go.RowKit Tryz
open Go.RowKit Tryz
open Go.RowKit Tryz
open Go.RowKit Tryz
open Go.RowKit Tryz
variable {σ:Type} {Hd:World->(Nat->Prop)->σ->Prop} {Ok:σ->List Bool->Prop} {o:iZ σ} {lo mb gb:Nat} {D:Nat->Prop} {vr vo:Value} {st:dC σ}
open Go.RowKit Tryz
section
variable {σ:Type} {Hd:World->(Nat->Prop)->σ->Prop} {Ok:σ->List Bool->Prop} {o:iZ σ} {lo mb gb:Nat} {w w':World} {D:Nat->Prop} {vo:Value} {st:dC σ}
end
open Go.RowKit Tryz
variable {σ:Type} {Hd:World->(Nat->Prop)->σ->Prop} {Ok:σ->List Bool->Prop} {o:iZ σ} {lo mb gb:Nat} {D:Nat->Prop} {vr vo:Value} {st:dC σ}
open Go.RowKit Tryz
variable {σ:Type} {Hd:World->(Nat->Prop)->σ->Prop} {Ok:σ->List Bool->Prop} {o:iZ σ} {lo mb gb:Nat} {D:Nat->Prop} {vr vo:Value} {st:dC σ}
open Go.RowKit Tryz
variable {σ:Type} {Hd:World->(Nat->Prop)->σ->Prop} {Ok:σ->List Bool->Prop} {o:iZ σ} {lo mb gb:Nat} {D:Nat->Prop} {vr vo:Value} {st:dC σ}
open Go.RowKit Tryz
variable {σ:Type} {Hd:World->(Nat->Prop)->σ->Prop} {Ok:σ->List Bool->Prop} {o:iZ σ} {lo mb gb:Nat} {D:Nat->Prop} {vr vo:Value} {st:dC σ}
open Go.RowKit Tryz
variable {σ:Type} {Hd:World->(Nat->Prop)->σ->Prop} {Ok:σ->List Bool->Prop} {o:iZ σ} {lo mb gb:Nat} {D:Nat->Prop} {vr vo:Value} {st:dC σ}
open Go.RowKit Tryz
variable {σ:Type} {Hd:World->(Nat->Prop)->σ->Prop} {Ok:σ->List Bool->Prop} {o:iZ σ} {lo mb gb:Nat} {D:Nat->Prop} {vr vo:Value} {st:dC σ}
open Go.RowKit Tryz
variable {σ:Type} {Hd:World->(Nat->Prop)->σ->Prop} {Ok:σ->List Bool->Prop} {o:iZ σ} {lo mb gb:Nat} {D:Nat->Prop} {vr vo:Value} {st:dC σ}
open Go.RowKit Tryz
section
variable {σ:Type} {Hd:World->(Nat->Prop)->σ->Prop} {Ok:σ->List Bool->Prop} {o:iZ σ} {lo mb gb:Nat} {w w':World} {D:Nat->Prop} {vo:Value} {st:dC σ}
end
variable {σ:Type} {Hd:World->(Nat->Prop)->σ->Prop} {Ok:σ->List Bool->Prop} {o:iZ σ} {lo mb gb:Nat} {D:Nat->Prop} {vr vo:Value} {st:dC σ}
open Go.RowKit Tryz
def ai8 (ps:List bQ):Prop:=∀k,k<ps.length->qN (aR ps k)
open Go.RowKit Tryz
open Go.RowKit Tryz
open Go.RowKit Tryz
def GY:eJ:=⟨0,0,0,0,0⟩
def Bf:List eJ:=[⟨16,0,0,0,5⟩,⟨11,1,0,0,40⟩,⟨10,0,1,8,0⟩,⟨9,0,1,1,0⟩,⟨16,0,0,0,1⟩,⟨16,0,0,0,6⟩]
def xd:Nat->ByteArray
 | 0=>⟨#[]⟩
 | k+1=>xd k++(Bf.getD k GY).bytes
theorem Jf:∀k,(xd k).size=k*8
 | 0=>rfl
 | k+1=>by
  show(xd k++(Bf.getD k GY).bytes).size=_;rw[ByteArray.size_append,Jf k,Iq];omega
def ajc:ByteArray:=⟨#[16,0,0,0,5,0,0,0,11,1,0,0,40,0,0,0]⟩
def ajb:ByteArray:=⟨#[10,0,1,8,0,0,0,0,9,0,1,1,0,0,0,0]⟩
def aja:ByteArray:=⟨#[16,0,0,0,1,0,0,0,16,0,0,0,6,0,0,0]⟩
def ai9:ByteArray:=⟨#[0,0,0,0,0,0,0,0,0,0,0,0,0,0,0,0]⟩
def H9:ByteArray:=⟨#[16,0,0,0,5,0,0,0,11,1,0,0,40,0,0,0,10,0,1,8,0,0,0,0,9,0,1,1,0,0,0,0,16,0,0,0,1,0,0,0,16,0,0,0,6,0,0,0]⟩
theorem Y6:xd 6=H9:=by kernel_rfl
def kX:xz:=⟨⟨#[116]⟩,[],[⟨0,4,H9,true,true⟩],[],[],0⟩
theorem SF:KL kX:=by
 refine⟨by unfold bM kX;decide,by unfold bM kX;decide,λk hk=>absurd hk (by unfold kX;simp),by unfold bM kX;decide,λk hk=>?_,by unfold bM kX;decide,λk hk=>absurd hk (by unfold kX;simp),by unfold bM kX;decide,λk hk=>absurd hk (by unfold kX;simp),by unfold cR kX;decide⟩;have:k=0:=by unfold kX at hk;simp at hk;omega
 subst this;exact⟨by unfold cR kX fh;decide,by unfold cR kX fh;decide,by unfold bM;show(48:Nat)<=_;decide⟩
theorem aeA (a:KM):mn [⟨kX,a⟩]=0:=by kernel_rfl
theorem SE (a:KM):M7 [⟨kX,a⟩] [(⟨kX,a⟩:jd)].length 0 [0]=some [0]:=by kernel_rfl
theorem aez (a:KM):fB [⟨kX,a⟩] 1 [0]=[⟨kX,a,1⟩]:=by kernel_rfl
def QC:List F8:=[⟨1,ajc,[]⟩,⟨2,ajb,[]⟩,⟨3,aja,[]⟩,⟨4,ai9,[]⟩]
theorem UL (a:KM):tu [⟨kX,a,1⟩]=some QC:=by kernel_rfl
def xe:List aU:=[⟨1,4,3,false⟩]
theorem Y9 (a:KM):sG [⟨kX,a,1⟩]=xe:=by kernel_rfl
theorem Y8 (a:KM):yN (dX [⟨kX,a,1⟩] 0) (cQ [⟨kX,a⟩] 0).i.entry=16:=by kernel_rfl
def qq (a1 a2 a3 a4:Option Addr) (c1 c2 c3 c4:Nat):List bD:=[⟨1,ajc,[],a1,c1⟩,⟨2,ajb,[],a2,c2⟩,⟨3,aja,[],a3,c3⟩,⟨4,ai9,[],a4,c4⟩]
theorem agP {hs:List bD} (h:hs.map eD=QC):∃a1 a2 a3 a4 c1 c2 c3 c4,hs=qq a1 a2 a3 a4 c1 c2 c3 c4:=by
 match hs,h with
 | [⟨g1,d1,f1,a1,c1⟩,⟨g2,d2,f2,a2,c2⟩,⟨g3,d3,f3,a3,c3⟩,⟨g4,d4,f4,a4,c4⟩],h =>
  simp only[Kl,List.map_nil,eD,QC,rE,F8.mk.injEq,qJ] at h;obtain⟨⟨rfl,rfl,rfl⟩,⟨rfl,rfl,rfl⟩,⟨rfl,rfl,rfl⟩,rfl,rfl,rfl⟩:=h;exact⟨a1,a2,a3,a4,c1,c2,c3,c4,rfl⟩
 | [],h=>cases dO List.length h
 | [_],h=>cases dO List.length h
 | [_,_],h=>cases dO List.length h
 | [_,_,_],h=>cases dO List.length h
 | _::_::_::_::_::_,h =>
  have:=dO List.length h;simp[QC] at this
theorem abP:dG xe:=kH _ κ
theorem abO (a1 a2 a3 a4:Option Addr) (c1 c2 c3 c4:Nat):m6 (qq a1 a2 a3 a4 c1 c2 c3 c4):=by
 have one:∀(g:Int) (d:ByteArray) (a:Option Addr) (c:Nat),cR g->d.size<=140737488351232->ym ⟨g,d,[],a,c⟩:=λg d a c h1 h2=>⟨h1,h2,by unfold bM;show 0<=_;exact rB _,λk hk=>absurd hk (gY _)⟩
 refine⟨by unfold bM qq;show(4:Nat)<=_;decide,λk hk=>?_⟩
 match k,hk with
 | 0,_=>exact one 1 ajc a1 c1 (by unfold cR;decide) (by show(16:Nat)<=_;decide)
 | 1,_=>exact one 2 ajb a2 c2 (by unfold cR;decide) (by show(16:Nat)<=_;decide)
 | 2,_=>exact one 3 aja a3 c3 (by unfold cR;decide) (by show(16:Nat)<=_;decide)
 | 3,_=>exact one 4 ai9 a4 c4 (by unfold cR;decide) (by show(16:Nat)<=_;decide)
 | k+4,h=>exact absurd h (by unfold qq;simp)
open Go.RowKit Tryz
theorem WI (i:eJ) (w:World):Calls prog 84 #[.agg i.cells] w λe w'=>e=.returned (.string i.bytes)/\Below w.heap.size w w':=by
 obtain⟨o,a,b,c,m⟩:=i;unfold eJ.cells eJ.bytes;simp only;have eB:=bJ ((aN w.heap.size w).alloc (aJ _) (.cells #[I o,I a,I b,I c,I m] 108));have BX:=bJ (bG w #[I o,I a,I b,I c,I m] 108);obtain⟨W,hW⟩:=ex (w.alloc (.cells #[I o,I a,I b,I c,I m] 108));have HW:=bJ hW;rw[<- hW] at eB BX;have yL:=iH W;have Js:=aM BX.o;have k0:∀x:cM W.heap.size W,x.world.cell? (Ad w.heap.size 0)=some (I o):=λx=>by grind [fG,aA,Hid.o]
 have k1:∀x:cM W.heap.size W,x.world.cell? (Ad w.heap.size 1)=some (I a):=λx=>by grind [fG,aA,Hid.o]
 have k2:∀x:cM W.heap.size W,x.world.cell? (Ad w.heap.size 2)=some (I b):=λx=>by grind [fG,aA,Hid.o]
 have k3:∀x:cM W.heap.size W,x.world.cell? (Ad w.heap.size 3)=some (I c):=λx=>by grind [fG,aA,Hid.o]
 have k4:∀x:cM W.heap.size W,x.world.cell? (Ad w.heap.size 4)=some (I m):=λx=>by grind [fG,aA,Hid.o]
 have HA:Hid (∀n V,Calls prog 58 #[I n,I 1] V λe w'=>e=.returned (.string (xD 1 n))/\Below V.heap.size V w'):=λn U=>Mu n 1 U ω
 have HM:Hid (∀V,Calls prog 58 #[I m,I 4] V λe w'=>e=.returned (.string (xD 4 m))/\Below V.heap.size V w'):=λU=>Mu m 4 U ω
 have s1:=Av 1 o;have s2:=Av 1 a;have s3:=Av 1 b;have s4:=Av 1 c;have s5:=Av 4 m;have t1:(xD 1 o++xD 1 a).size=2:=by rfl
 have t2:(xD 1 o++xD 1 a++xD 1 b).size=3:=by rfl
 have t3:(xD 1 o++xD 1 a++xD 1 b++xD 1 c).size=4:=by rfl
 clear hW;go_enter func84,ntmps84;go_wp2;rw[<- HW.o];refine cB ρ κ ?_
 repeat (first | go_big_quiet_step ((go_at_call 58;first | with_reducible exact ig (HA.o _) _ | with_reducible exact ig HM.o _)) | quiet_step ((go_at_call 58;first | with_reducible exact ig (HA.o _) _ | with_reducible exact ig HM.o _)))
 refine fL ?_;intro _ q;obtain⟨x,h⟩:=q;subst h;go_wp2;go_ret;exact⟨rfl,eB.o.trans (x.keeps.mono eB.o.size)⟩
end Go.Proofs.YtlgoihmkgaaemaaGreat
