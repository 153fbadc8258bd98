import Derived.Test.YtlgoihmkgaaemaaGreatGP20
set_option maxHeartbeats 20000000
set_option linter.unusedVariables false
set_option maxRecDepth 100000
set_option linter.unusedSimpArgs false
namespace Go.Proofs.YtlgoihmkgaaemaaGreat
open Go.RowKit Tryz
def il (x:Int×Int):Array Value:=#[I x.1,I x.2]
theorem yF {N g:Nat} {w W:World} (h:Below N w W) (hg:N<=g) (v0 v1:Value):Below N w ((W.setCell (Ad g 0) v0).setCell (Ad g 1) v1):=(h.setCell (p:=(Ad g 0)) hg v0).setCell (p:=(Ad g 1)) hg v1
theorem VZ (l:List aU) (v:Value) (a size way:Int) (w:World) (h:eN w v l) (hf:dG l) (ha:-9223372036854775808<=a/\a<=9223372036854775807) (hz:size<=9223372036854775807) :
  Calls prog 283 #[v,I a,I size,I way] w λe w'=>e=.returned (.agg (il (dh l a size way)))/\Below w.heap.size w w':=by
 have Tj:=ai (λp V (hV:eN V v l)=>zg l v p V hV hf);have HH:=ai h;have eB:=ai ((aN w.heap.size w).alloc (aJ _) (.cells #[I 0,I 0] 75));have X0:=ai (bG w #[I 0,I 0] 75);have HF:Hid (dh l a size way=if way=2/\¬a%8=0 then (3,a) else dw l a way size.toNat):=rfl;obtain⟨⟨R1,R2⟩,hR⟩:∃R,R=dh l a size way:=⟨_,rfl⟩;rw[<- hR] at HF ⊢;clear hR h hf;unfold il;simp only;obtain⟨ao,vn,cap,rfl⟩:∃ao n cap,v=.slice ao n cap:=by
  obtain⟨ao,cap,h,_⟩:=HH.o
  grind
 have U:a.tmod 8=0↔a%8=0:=by grind
 by_cases L:way=2/\¬a%8=0
 . have HR:Hid ((R1,R2)=(3,a)):=by grind
   obtain⟨rfl,L⟩:=L;have h8:(a.tmod 8==0)=false:=by grind
   clear U L;go_enter func283,ntmps283;go_wp2;exact bW (v:=.agg #[I 3,I a]) (by simp[results,results283,go_sem]) rfl ⟨by grind [Hid.o],(aN w.heap.size w).alloc (aJ _) _⟩
 have HR:Hid ((R1,R2)=dw l a way size.toNat):=by grind
 clear HF;rcases(show((way==2)=true/\a.tmod 8=0)\/(way==2)=false by grind) with⟨a0,h8⟩ | a0
 all_goals
  clear U L;go_enter func283,ntmps283;go_wp2_with fail;go_loopw [23] (λiv wr=>∃k:Nat,k<=size.toNat/\iv=I (k:Int)/\dw l a way k=(0,0)/\wr.heap[w.heap.size]?=some (.cells #[I 0,I 0] 75 (0,0))/\Below w.heap.size w wr) (λiv _=>size.toNat-(intOf iv).toNat)
  case atStart=>exact⟨0,ω,rfl,rfl,X0.o,eB.o⟩
  case round =>
   obtain⟨k,hk,rfl,Ju,hx,hb⟩:=hrel;have HN:=ai Ju;have HX:=ai hx;have HB:=ai hb;clear Ju hx hb X0 eB;by_cases hlt:(k:Int)<size
   . have a1:-9223372036854775808<=a+k/\a+k<=9223372036854775807:=by
      cases k with
      | zero=>omega
      | succ j =>
       have:=Bj HN.o;omega
     have r:=ai (yG HN.o);have Ti:Hid (∀f:Int×Int,dw l a way (k+1)=f->¬f.1=0->(R1,R2)=f):=λf h1 h2=>HR.o.trans (Ji h1 h2 _ ω)
     have I9:=ai (λV hV=>Tj.o ((a+k).tdiv 16) V hV);have HQ:Hid (0<=a+k->(a+k).tdiv 16=(a+k)/16):=λh=>Wt h
     obtain⟨⟨⟨pp,pn,pt,pz⟩,ok⟩,hF⟩:∃F,F=bc l ((a+k).tdiv 16):=⟨_,rfl⟩;have PF:=ai hF;rw[<- hF] at I9;have O:Hid (∀V,eN V (.slice ao vn cap) l->Calls prog 77 #[.slice ao vn cap,I ((a+k).tdiv 16)] V λe w'=>e=.returned (.tuple #[.agg #[I pp,I pn,I pt,.bool pz],.bool ok])/\Below V.heap.size V w'):=I9;clear hF I9;have A:Hid ((a+k<0->mE l (a+k) way=(1,a+k))/\(0<=a+k->ok=false->mE l (a+k) way=(1,a+k))/\(0<=a+k->ok=true->0<=pt/\pt<=3/\(rU pt way=true->mE l (a+k) way=(2,a+k))/\(rU pt way=false->mE l (a+k) way=(0,0)))):=by
      refine⟨λh=>OQ (.inl h),λh h2=>?_,λh h2=>?_⟩
      . grind [OQ,Hid.o]
      have e1:=PF.o;rw[HQ.o h] at e1;have h3:(bc l ((a+k)/16)).2=true:=by grind
      have h4:=sM (xh h3) h3
      grind [UQ,aeH]
     clear PF;by_cases hneg:a+k<0
     . have q:=ai (Ti.o _ (r.o.trans (A.o.1 hneg)) ξ);clear A Ti r;go_wp2_with (go_at_call 77;refine(O.o _ (HH.o.below HB.o)).mono ?_;rintro e w1 ⟨rfl,b⟩;have dz:=ai (cJ HB.o b);have X1:=ai (aO HX.o b (aM HX.o));clear b;have Te:=aM X1.o;obtain⟨x0,x1⟩:=s8 X1.o;have f0:∀k,w1.frozen? (Ad w.heap.size k)=false:=λk=>br X1.o k);exact bW (v:=.agg #[I 1,I (a+k)]) (by simp[results,results283,go_sem,x0,x1,Te]) rfl ⟨by rw[(Bz q.o).1,(Bz q.o).2],(yF dz.o (aJ _) _ _).alloc (by simp;omega) _⟩
     have T:0<=a+k:=by omega
     have N:=O;rw[HQ.o T] at N;clear hneg O HQ;cases ok with
     | false =>
      have q:=ai (Ti.o _ (r.o.trans (A.o.2.1 ω rfl)) ξ);clear A Ti r;go_wp2_with (go_at_call 77;refine(N.o _ (HH.o.below HB.o)).mono ?_;rintro e w1 ⟨rfl,b⟩;have dz:=ai (cJ HB.o b);have X1:=ai (aO HX.o b (aM HX.o));clear b;have Te:=aM X1.o;obtain⟨x0,x1⟩:=s8 X1.o;have f0:∀k,w1.frozen? (Ad w.heap.size k)=false:=λk=>br X1.o k);exact bW (v:=.agg #[I 1,I (a+k)]) (by simp[results,results283,go_sem,x0,x1,Te]) rfl ⟨by rw[(Bz q.o).1,(Bz q.o).2],(yF dz.o (aJ _) _ _).alloc (by simp;omega) _⟩
     | true =>
      have J:=A.o.2.2 T rfl;have y:=UO pt way J.1 J.2.1;have K:=ai J.2.2;have PC:Hid (∀V,Calls prog 289 #[I way] V λe w'=>e=.returned (I (xU way))/\Below V.heap.size V w'):=λV=>(Zb way V).mono λe w' ⟨h1,h2⟩=>⟨h1,by grind [Below.refl]⟩
      clear J A;obtain⟨RN,Q⟩:=ex (xU way);rw[<- Q] at y PC;clear Q;go_wp2_with (go_at_call 77;refine(N.o _ (HH.o.below HB.o)).mono ?_;rintro e w1 ⟨rfl,b⟩;have dz:=ai (cJ HB.o b);have X1:=ai (aO HX.o b (aM HX.o));clear b;have Te:=aM X1.o);obtain⟨W,hW⟩:=ex (w1.alloc (.cells #[I pp,I pn,I pt,.bool pz] 139));have HW:=ai hW;have hs:W.heap.size=w1.heap.size+1:=by simp_all
      have yL:=iH W;have Z:=@fG W;have c2:∀x:cM W.heap.size W,x.world.cell? (Ad w1.heap.size 2)=some (I pt):=λx=>by simp_all
      have EO:Hid (Below w.heap.size w W):=by show Below _ _ _;rw[hW];exact dz.o.alloc dz.o.size _
      have XW:Hid (W.heap[w.heap.size]?=some (.cells #[I 0,I 0] 75 (0,0))):=by show _=_;rw[hW];exact bB X1.o _
      clear hW hs Z;rw[<- HW.o];cases ZQ:rU pt way with
      | true =>
       rw[ZQ] at y;have Y:(bits BinOp.and IntKind.i64 pt RN==RN)=false:=y;have q:=ai (Ti.o _ (r.o.trans (K.o.1 ZQ)) ξ);clear Ti r K y ZQ;refine cB ρ κ ?_
       repeat (first | go_big_quiet_step ((go_at_call 289;exact ig PC.o _)) | quiet_step ((go_at_call 289;exact ig PC.o _)))
       refine fL ?_;intro _ M;obtain⟨x,B⟩:=M;subst B;have iI:=ai (cJ EO.o x.keeps);have X2:=ai (aO XW.o x.keeps (aM XW.o));obtain⟨w2,G⟩:=ex x.world;rw[<- G] at iI X2 ⊢;clear G c2;obtain⟨x0,x1⟩:=s8 X2.o;have f0:∀k,w2.frozen? (Ad w.heap.size k)=false:=λk=>br X2.o k
       go_wp2;exact bW (v:=.agg #[I 2,I (a+k)]) (by simp[results,results283,go_sem,x0,x1]) rfl ⟨by rw[(Bz q.o).1,(Bz q.o).2],yF iI.o (aJ _) _ _⟩
      | false =>
       rw[ZQ] at y;have Y:(bits BinOp.and IntKind.i64 pt RN==RN)=true:=y;have uy:=ai (r.o.trans (K.o.2 ZQ));clear Ti r K y ZQ;refine cB ρ κ ?_
       repeat (first | go_big_quiet_step ((go_at_call 289;exact ig PC.o _)) | quiet_step ((go_at_call 289;exact ig PC.o _)))
       refine fL ?_;intro _ M;obtain⟨x,B⟩:=M;subst B;have iI:=ai (cJ EO.o x.keeps);have X2:=ai (aO XW.o x.keeps (aM XW.o));obtain⟨w2,G⟩:=ex x.world;rw[<- G] at iI X2 ⊢;clear G c2;go_wp2
       grind [intOf,Hid.o]
   have X:k=size.toNat:=by omega
   have q:Hid ((R1,R2)=(0,0)):=by grind [Hid.o]
   obtain⟨x0,x1⟩:=s8 HX.o;have f0:∀k,wr.frozen? (Ad w.heap.size k)=false:=λk=>br HX.o k
   clear X;go_wp2;exact bW (v:=.agg #[I 0,I 0]) (by simp[results,results283,go_sem,x0,x1]) rfl ⟨by rw[(Bz q.o).1,(Bz q.o).2],yF HB.o (aJ _) _ _⟩
theorem yq {l:List aU} {a n way:Int} (h1:1<=n) (h8:n<=8) (h:(dh l a n way).1=0):dh l a n way=(0,0)/\16<=a/\a+n<=4096/\∀i,0<=i->i<n->(bc l ((a+i)/16)).2=true:=by
 have hb:dh l a n way=dw l a way n.toNat:=by
  unfold dh at h ⊢;by_cases c:way=2/\¬a%8=0
  . rw[aQ c] at h;cases h
  rw[aH c]
 rw[hb] at h ⊢;have all:∀m:Nat,(dw l a way m).1=0->dw l a way m=(0,0)/\∀i:Nat,i<m->(mE l (a+i) way).1=0:=λm=>by
  induction m with
  | zero=>intro _;exact⟨rfl,λi hi=>ω⟩
  | succ m ih =>
   intro hm;have h0:(dw l a way m).1=0:=by
    by_cases c:(dw l a way m).1=0
    . exact c
    rw[dw,aH c] at hm;exact hm
   obtain⟨e,hi⟩:=ih h0;rw[yG e] at hm ⊢;refine⟨(xj hm).1,λi hlt=>?_⟩;by_cases c:i=m
   . subst c;exact hm
   exact hi i ω
 obtain⟨e,hi⟩:=all n.toNat h;obtain⟨m,hm⟩:∃m,n.toNat=m+1:=⟨n.toNat-1,ω⟩;have hs:=Bj (l:=l) (a:=a) (way:=way) (k:=m) (by rw[<- hm];exact e);refine⟨e,hs.1,ω,λi h0 hn=>?_⟩;have:=hi i.toNat ω;rw[show a+(i.toNat:Int)=a+i by omega] at this;exact(xj this).2.2.1
theorem Gb {lo mb:Nat} {tt:TypeId} {X:List Value} (k:aT) (S:gv) (w:World) (j:Nat) (a n way:Int) (h:bO lo mb tt X w S k) (hR:bg k) (hj:j<k.aj.length) (ha:cR a) (hn:1<=n/\n<=8) (hf:(dh (ak k.aj j).bu a n way).1≠0) :
  Calls prog 272 #[.pointer (some (Ad mb 0)),I (j:Int),I a,I n,I way] w λe w'=>e=.returned (.tuple #[Nl,.agg #[I (dh (ak k.aj j).bu a n way).1,I (dh (ak k.aj j).bu a n way).2]])/\Below w.heap.size w w':=by
 have y:=hR.c;obtain⟨pb,cP,A⟩:=h.toKr.sp ω;have c3:=h.c3;rw[A.v] at c3;have a1:=A.x1 j hj;have b:dG (ak k.aj j).bu:=kH _ (hR.sp hj).bu;have DB:=ai (λV (hb:Below w.heap.size w V)=>VZ _ _ a n way V (eN.below (h.toKr.bu hj) hb) b ha ω);obtain⟨ax,cx,Ec,_,_⟩:=bh (h.each j hj).bu;rw[Ec] at DB a1;have B:(j:Int)<(k.aj.length:Int):=by omega
 have NQ:=h.lt;have r:=A.lt;unfold il at DB;generalize dh (ak k.aj j).bu a n way=F at DB hf ⊢;obtain⟨f0,f1⟩:=F;simp only at DB hf ⊢;have fb:(f0 != 0)=true:=by simpa using hf
 have eB:=ai ((aN w.heap.size w).alloc (aJ _) (.cells #[I 0,I 0] 75));have R0:=ai (bG w #[I 0,I 0] 75);have d3:=(eB.o.cell (p:=(Ad mb 3)) NQ).trans c3;have d1:=(eB.o.cell (p:=(Ad pb (j*3+1))) r).trans a1;generalize k.aj.length=np at d3 B;generalize (ak k.aj j).bu.length=na at d1 DB;clear h hR hj A c3 a1 b Ec hf y ha hn;go_enter func272,ntmps272;go_upto_region 3 with(go_at_call 283;refine(DB.o _ eB.o).mono ?_;rintro e w1 ⟨rfl,q⟩;have dz:=ai (cJ eB.o q);have R1:=ai (aO R0.o q (aM R0.o));have FX:=ai (bG w1 #[I f0,I f1] 75);obtain⟨y0,y1⟩:=s8 FX.o;clear q);have jo:=ai (dz.o.alloc dz.o.size (.cells #[I f0,I f1] 75));have Te:=aM R1.o;have R2:=ai (bB R1.o (.cells #[I f0,I f1] 75));obtain⟨z0,z1⟩:=s8 R2.o;have q0:=br R2.o 0;have q1:=br R2.o 1;have G:¬w.heap.size=w1.heap.size:=by omega
 generalize w1.alloc (.cells #[I f0,I f1] 75)=W at jo R2 z0 z1 q0 q1 y0 y1 ⊢;go_region;go_wp2;have R3:((W.setCell (Ad w.heap.size 0) (I f0)).setCell (Ad w.heap.size 1) (I f1)).heap[w.heap.size]?=some (.cells #[I f0,I f1] 75 (0,0)):=dm (dm R2.o 0 _) 1 _;obtain⟨v0,v1⟩:=s8 R3;refine bW (v:=.tuple #[Nl,.agg #[I f0,I f1]]) (by simp[results,results272,go_sem,v0,v1]) rfl ?_;exact⟨rfl,by first | exact((jo.o.setCell (p:=(Ad w.heap.size 0)) (aJ _) _).setCell (p:=(Ad w.heap.size 1)) (aJ _) _).drew | exact(jo.o.setCell (p:=(Ad w.heap.size 0)) (aJ _) _).setCell (p:=(Ad w.heap.size 1)) (aJ _) _⟩
structure arn where
 slots:Int
 aj:List aje
theorem Bb {l:List aU} (hc:bf l=0) {x:Int}:x∈gG l↔(bc l x).2=true:=(Ms hc x).symm
theorem UI {l:List aU} (hc:bf l=0) {x:Int} (h:x∈gG l):1<=x/\x<256:=by
 have:=sM hc (Bb hc |>.1 h);omega
theorem YV (l:List aU) (p way:Int):0<=(mE l p way).1/\(mE l p way).1<=4:=by
 unfold mE;split
 . exact⟨by simp[dw,bZ],by simp[dw,bZ]⟩
 split <;> exact⟨by simp[dw,bZ],by simp[dw,bZ]⟩
theorem Jc (l:List aU) (a way:Int):∀k,0<=(dw l a way k).1/\(dw l a way k).1<=4
 | 0=>⟨by simp[dw,bZ],by simp[dw,bZ]⟩
 | k+1=>by
  rw[dw];split
  . exact YV _ _ _
  exact Jc l a way k
theorem Jb (l:List aU) (a n way:Int):0<=(dh l a n way).1/\(dh l a n way).1<=4:=by
 unfold dh;split
 . exact⟨by simp[dw,bZ],by simp[dw,bZ]⟩
 exact Jc _ _ _ _
theorem aem (q:Int) (s:dg):0<=(fw q s).2/\(fw q s).2<=10:=by
 unfold fw;split <;> exact⟨by simp[dw,bZ],by simp[dw,bZ]⟩
theorem YU (s:dg):0<=(bZ s).2/\(bZ s).2<=10:=⟨by simp[dw,bZ],by simp[dw,bZ]⟩
theorem Sz (q:Int) (s:dg):0<=(cO q s).2/\(cO q s).2<=10:=by
 unfold cO;split <;> exact⟨by simp[dw,bZ],by simp[dw,bZ]⟩
theorem VQ (F:Nat->dg) (how:dg->dg×Int) (hh:∀s,0<=(how s).2/\(how s).2<=10):∀c n,0<=gI F how n c/\gI F how n c<=10
 | 0,n=>⟨by show(0:Int)<=0;omega,by show(0:Int)<=10;omega⟩
 | c+1,n=>by
  unfold gI;split
  . exact VQ F how hh c (n+1)
  exact hh _
theorem abH (l:List aU):0<=bf l/\bf l<=10:=by
 unfold bf;split
 . exact⟨by simp[dw,bZ],by simp[dw,bZ]⟩
 split <;> exact⟨by simp[dw,bZ],by simp[dw,bZ]⟩
theorem A9 (l:List aU) (p n q:Int) (how:dg->dg×Int) (hh:∀s,0<=(how s).2/\(how s).2<=10):0<=(dV l p n q how).2/\(dV l p n q how).2<=10:=by
 unfold dV;split
 . split
   . split
     . exact⟨by simp[dw,bZ],by simp[dw,bZ]⟩
     exact VQ _ _ hh _ _
   exact⟨by simp[dw,bZ],by simp[dw,bZ]⟩
 exact abH l
def iD (k:aT) (j:Nat):List aU:=(ak k.aj j).bu
def iG (k:aT) (j:Nat) (a n way:Int):(ByteArray×(Int×Int))×aT :=
 if ¬(1<=n/\n<=8) then ((⟨#[]⟩,(0,0)),k) else if (dh (iD k j) a n way).1=0 then ((m7 k j a n way,(0,0)),(bk k j a n way).2) else ((⟨#[]⟩,dh (iD k j) a n way),k)
def jQ (k:aT) (j:Nat) (a:Int) (d:ByteArray):(Int×Int)×aT :=
 if (dh (iD k j) a d.size 1).1=0 then ((0,0),nY k j a d) else (dh (iD k j) a d.size 1,k)
def je (k:aT) (j:Nat) (r:List aU×Int):Int×aT :=
 if ¬r.2=0 then (r.2,k) else if dJ k.aj-bR (iD k j)+bR r.1>(k.slots.length:Int) then (8,k) else (0,lj k j r.1)
def jf (k:aT) (j:Nat):Int×aT :=
 if k.aj.length=4 then (2,k) else if dJ k.aj+bR (iD k j)>(k.slots.length:Int) then (8,k) else (0,oD k j)
def dN:iZ aT:=⟨iG,jQ,λk j p n q=>je k j (jz (iD k j) p n q),λk j p n=>je k j (gL (iD k j) p n),λk j p n q=>je k j (fV (iD k j) p n q),jf,ql⟩
structure gQ (k:aT) (fl:List Bool):Prop where
 right:bg k
 flags:fl=k.aj.map (·.live)
theorem aea {l:List cZ} {j:Nat} (h:(l.map (·.live)).getD j false=true):j<l.length/\(ak l j).live=true:=by
 by_cases c:j<l.length
 . refine⟨c,?_⟩;unfold ak
   grind
 grind
theorem YF {l r:List cZ} (hn:r.length=l.length) (h:∀m,m<l.length->(ak r m).live=(ak l m).live):r.map (·.live)=l.map (·.live):=by
 apply List.ext_getElem (by simp[hn]);intro i h1 h2;have:=h i (by simpa using h2);unfold ak at this
 grind
variable {k:aT} {fl:List Bool} {j:Nat}
theorem gQ.at_ (h:gQ k fl) (hk:fl.getD j false=true):j<k.aj.length/\(ak k.aj j).live=true:=by
 rw[h.flags] at hk;exact aea hk
theorem oL {a n way:Int} (h1:1<=n) (h8:n<=8) (hf:(dh (iD k j) a n way).1=0):eZ k j (a/16)/\eZ k j (dH a n)/\(16<=a/\a+n<=4096):=by
 obtain⟨_,q,h,b⟩:=yq h1 h8 hf;refine⟨?_,?_,q,h⟩
 . have:=b 0 ω ω;rw[Kk] at this;exact this
 have:=b (n-1) ω ω;unfold dH;rw[show a+n-1=a+(n-1) by omega];exact this
theorem JY (h:gQ k fl) {k':aT} (hr:bg k') (hn:k'.aj.length=k.aj.length) (hl:∀m,m<k.aj.length->(ak k'.aj m).live=(ak k.aj m).live):gQ k' fl:=⟨hr,by rw[h.flags,YF hn hl]⟩
theorem GQ {a n way:Int} (h:¬(1<=n/\n<=8)):iG k j a n way=((⟨#[]⟩,(0,0)),k):=by grind [iG]
theorem vq {a n way:Int} (h1:1<=n) (h8:n<=8) (hf:¬(dh (iD k j) a n way).1=0):iG k j a n way=((⟨#[]⟩,dh (iD k j) a n way),k):=by grind [iG]
theorem tO {a n way:Int} (h1:1<=n) (h8:n<=8) (hf:(dh (iD k j) a n way).1=0):iG k j a n way=((m7 k j a n way,(0,0)),(bk k j a n way).2):=by grind [iG]
theorem vT {a:Int} {d:ByteArray} (hf:¬(dh (iD k j) a d.size 1).1=0):jQ k j a d=(dh (iD k j) a d.size 1,k):=by grind [jQ]
theorem ui {a:Int} {d:ByteArray} (hf:(dh (iD k j) a d.size 1).1=0):jQ k j a d=((0,0),nY k j a d):=by grind [jQ]
theorem JW (h:gQ k fl) (hk:fl.getD j false=true) {r:List aU×Int} (hr:r.2=0->bf r.1=0/\DA (iD k j) r.1):gQ (je k j r).2 fl:=by
 obtain⟨hj,hl⟩:=h.at_ hk;unfold je;by_cases c:r.2=0
 . rw[aH (λx=>x c)];by_cases c2:dJ k.aj-bR (iD k j)+bR r.1>(k.slots.length:Int)
   . rw[aQ c2];exact h
   rw[aH c2];obtain⟨g1,g2⟩:=hr c;obtain⟨_,_,_,_,hn,hs⟩:=wW k hj r.1;refine JY h (R8 h.right hj hl g1 g2 (by unfold iD at c2;omega)) hn (λm hm=>?_);have:=hs m hm
   grind
 rw[aQ c];exact h
theorem GN {r:List aU×Int} (h:0<=r.2/\r.2<=10):0<=(je k j r).1/\(je k j r).1<=10:=by grind [je]
theorem jF:uK dN gQ where
 load:=λs fl k a n way h hk=>by
  show gQ (iG s k a n way).2 fl;obtain⟨hj,hl⟩:=h.at_ hk;by_cases c:1<=n/\n<=8
  . by_cases g:(dh (iD s k) a n way).1=0
    . rw[tO c.1 c.2 g];obtain⟨m1,m2,_⟩:=oL c.1 c.2 g;have R:=qd h.right hj a n way m1 m2;exact JY h R.right R.kept.np R.kept.live
    rw[vq c.1 c.2 g];exact h
  rw[GQ c];exact h
 size:=λs fl k a n way h hk h1 h8 hf=>by
  have hf:(iG s k a n way).1.2.1=0:=hf;show((iG s k a n way).1.1.size:Int)=n;obtain⟨hj,hl⟩:=h.at_ hk;by_cases g:(dh (iD s k) a n way).1=0
  . rw[tO h1 h8 g];obtain⟨m1,m2,_⟩:=oL h1 h8 g;show((m7 s k a n way).size:Int)=n;rw[AY h.right hj a n way m1 m2,XX ⟨qg h.right hj m1,qg h.right hj m2⟩ h1 h8];omega
  rw[vq h1 h8 g] at hf;exact absurd hf g
 fault:=λs fl k a n way h hk=>by
  show 0<=(iG s k a n way).1.2.1/\(iG s k a n way).1.2.1<=4/\((iG s k a n way).1.2.1=0->(iG s k a n way).1.2=(0,0));have:=Jb (iD s k) a n way;by_cases c:1<=n/\n<=8
  . by_cases g:(dh (iD s k) a n way).1=0
    . rw[tO c.1 c.2 g];simp
    rw[vq c.1 c.2 g];exact⟨this.1,this.2,λx=>absurd x g⟩
  rw[GQ c];simp
 none:=λs fl k a n way h hk hf=>by
  have hf:¬(iG s k a n way).1.2.1=0:=hf;show(iG s k a n way).1.1=⟨#[]⟩
  grind [iG]
 store:=λs fl k a d h hk h1 h8=>by
  show gQ (jQ s k a d).2 fl;obtain⟨hj,hl⟩:=h.at_ hk;by_cases g:(dh (iD s k) a d.size 1).1=0
  . rw[ui g];obtain⟨m1,m2,_⟩:=oL ω ω g;have R:=zR h.right hj a d ω ω m1 m2;exact JY h R.right R.np R.live
  rw[vT g];exact h
 WE:=λs fl k a d h hk=>by
  show 0<=(jQ s k a d).1.1/\(jQ s k a d).1.1<=4/\((jQ s k a d).1.1=0->(jQ s k a d).1=(0,0));have:=Jb (iD s k) a d.size 1;by_cases g:(dh (iD s k) a d.size 1).1=0
  . rw[ui g];simp
  rw[vT g];exact⟨this.1,this.2,λx=>absurd x g⟩
 map:=λs fl k p n q h hk=>JW h hk (λe=>TX e)
 ry:=λs fl k p n h hk=>JW h hk (λe=>Ps e)
 kL:=λs fl k p n q h hk=>JW h hk (λe=>LG e)
 Wz:=λs fl k h hk hf=>by
  have hf:¬(jf s k).1=0:=hf;show gQ (jf s k).2 fl;have:(jf s k).2=s:=by grind [jf]
  rw[this];exact h
 Qu:=λs fl k h hk hf=>by
  have hf:(jf s k).1=0:=hf;show gQ (jf s k).2 (fl++[true]);obtain⟨hj,hl⟩:=h.at_ hk;unfold jf at hf ⊢;by_cases c:s.aj.length=4
  . rw[aQ c] at hf;cases hf
  rw[aH c] at hf ⊢;by_cases c2:dJ s.aj+bR (iD s k)>(s.slots.length:Int)
  . rw[aQ c2] at hf;cases hf
  rw[aH c2];have F:=Co h.right hj;refine⟨T8 h.right hj c (by unfold iD at c2;omega),?_⟩;show _=(oD s k).aj.map _;rw[F.aj,P7,h.flags,<- hl];rfl
 aj3:=λs fl k p n q h hk=>GN (A9 _ _ _ _ _ (aem q))
 Wc:=λs fl k p n h hk=>GN (A9 _ _ _ _ _ YU)
 Kh:=λs fl k p n q h hk=>GN (A9 _ _ _ _ _ (Sz q))
 few:=λs fl h=>by rw[h.flags,jw];exact h.right.c.2.2.1.2
 drop:=λs fl k h hk=>by
  show gQ (ql s k) (fl.set k false);obtain⟨hj,hl⟩:=h.at_ hk;refine⟨Ua h.right hj,?_⟩;show _=((dn s k (λ_=>true)).aj.set k rP).map _;rw[iW,rD,h.flags,List.map_set];rfl
def rM (k:aT) (j:Nat) (a n way:Int):Nat->aT
 | 0=>k
 | 1=>(fD k j a way).2
 | _=>(kO k j a n way).2
def qR (k:aT) (j:Nat) (a n way:Int):Nat->List Int
 | 0=>[]
 | 1=>[((fD k j a way).1:Int)]
 | _=>[((fD k j a way).1:Int),((kO k j a n way).1:Int)]
def CO (l:List Nat):List Int:=l.map λx:Nat=>(x:Int)
def oH (a n:Int):Nat:=if dH a n=a/16 then 1 else 2
theorem Cg (k:aT) (j:Nat) (a n way:Int):bk k j a n way=((bk k j a n way).1,rM k j a n way (oH a n))/\CO (bk k j a n way).1=qR k j a n way (oH a n)/\(bk k j a n way).1.length=oH a n:=by
 unfold bk oH;by_cases c:dH a n=a/16
 . rw[aQ c,aQ c];exact⟨rfl,rfl,rfl⟩
 rw[aH c,aH c];exact⟨rfl,rfl,rfl⟩
theorem anD (k:aT) (j:Nat) (a n way:Int):rM k j a n way 0=k:=rfl
theorem ah2 (k:aT) (j:Nat) (a n way:Int):rM k j a n way 1=(dU k j (a/16) way []).2:=by rfl
theorem anC (k:aT) (j:Nat) (a n way:Int):rM k j a n way 2=(dU (dU k j (a/16) way []).2 j (dH a n) way [((dU k j (a/16) way []).1:Int)]).2:=by rfl
theorem anF (k:aT) (j:Nat) (a n way:Int):qR k j a n way 0=[]:=rfl
theorem ah3 (k:aT) (j:Nat) (a n way:Int):qR k j a n way 1=[((dU k j (a/16) way []).1:Int)]:=by rfl
theorem anE (k:aT) (j:Nat) (a n way:Int):qR k j a n way 2=[((dU k j (a/16) way []).1:Int)]++[((dU (dU k j (a/16) way []).2 j (dH a n) way [((dU k j (a/16) way []).1:Int)]).1:Int)]:=by rfl
theorem al4.local {S S':gv} {w w2 w3:World} {D:Nat->Prop} (h:cU S w S' w2) (k:aI D w2 w3) (hd:∀b,D b->w.heap.size<=b):cU S w S' w3:=⟨⟨k.os.trans h.kp.os,k.tape.trans h.kp.tape,k.output.trans h.kp.output,gj h.kp.size k.size,λb hb hn=>(k.block b (gm hb h.kp.size) (λg=>Γ)).trans (h.kp.block b hb hn)⟩,h.no,h.eS,h.eF,h.eL,h.eP⟩
theorem Vq (k:aT) (j:Nat) (a n way:Int) (m:Nat) (hm:m<=2):(qR k j a n way m).length=m:=by
 rcases(ω:m=0\/m=1\/m=2) with rfl | rfl | rfl <;> rfl
theorem IH {lo mb:Nat} {tt:TypeId} {X:List Value} (k:aT) (S:gv) (w:World) (j:Nat) (a n way:Int) (h:bO lo mb tt X w S k) (hR:bg k) (hj:j<k.aj.length) (ha:cR a) (hn:1<=n/\n<=8) (hf:(dh (ak k.aj j).bu a n way).1=0) (hX:Lp X k.aD) :
  Calls prog 272 #[.pointer (some (Ad mb 0)),I (j:Int),I a,I n,I way] w λe w'=>∃av cv S',e=.returned (.tuple #[.slice av (bk k j a n way).1.length cv,.agg #[I 0,I 0]])/\nW w' S' av (CO (bk k j a n way).1)/\bO lo mb tt X w' S' (bk k j a n way).2/\cU S w S' w':=by
 have ay:=hR.c;obtain⟨a3,aQ,an,J⟩:=yq hn.1 hn.2 hf;have vW:eZ k j (a/16):=by
  have:=J 0 ω ω;rw[Kk] at this;exact this
 have aw:eZ k j (dH a n):=by
  have:=J (n-1) ω ω;unfold dH;rw[show a+n-1=a+(n-1) by omega];exact this
 have K:dH a n=a/16+((oH a n:Nat):Int)-1:=by
  unfold oH
  grind [Ni]
 have aX:oH a n=1\/oH a n=2:=by unfold oH;grind
 have A1:=(rQ hR hj vW way (held:=[]) ξ).1;obtain⟨a7,ar,aL⟩:=Cg k j a n way;have ag:∀m,m<oH a n->bg (rM k j a n way m)/\j<(rM k j a n way m).aj.length/\eZ (rM k j a n way m) j (a/16+(m:Int))/\(rM k j a n way m).aD=k.aD/\(dU (rM k j a n way m) j (a/16+(m:Int)) way (qR k j a n way m)).2=rM k j a n way (m+1)/\qR k j a n way (m+1)=qR k j a n way m++[((dU (rM k j a n way m) j (a/16+(m:Int)) way (qR k j a n way m)).1:Int)]:=λm hm=>by
  rcases(ω:m=0\/(m=1/\oH a n=2)) with rfl | ⟨rfl,h2⟩
  . grind [anD,anF,ah2,ah3]
  grind [ah2,ah3,anC,anE,fY.right,fY.kept,fT.mapped,fT.aD,fT.np]
 have M:Hid (∀V S' m av nv cv,m<oH a n->nv=m->bO lo mb tt X V S' (rM k j a n way m)->nW V S' av (qR k j a n way m)->Calls prog 284 #[.pointer (some (Ad mb 0)),I (j:Int),I (a/16+(m:Int)),I way,.slice av nv cv] V λe w'=>∃i:Nat,e=.returned (I (i:Int))/\qR k j a n way (m+1)=qR k j a n way m++[(i:Int)]/\∃S2,bO lo mb tt X w' S2 (rM k j a n way (m+1))/\cU S' V S2 w'):=λV S' m av nv cv hm hnv hV hh=>by
  obtain⟨q1,q2,q3,q4,q5,q6⟩:=ag m hm;have r:=Vq k j a n way m ω;have:=Xu (rM k j a n way m) S' V j (a/16+(m:Int)) way (qR k j a n way m) av cv hV q1 q2 q3 Γ ω hh;rw[r] at this;subst hnv;refine this.mono λe w' ⟨g1,S2,g2,g3⟩=>⟨_,g1,q6,S2,q5 ▸ g2,g3⟩
 have eW:Hid (∀V S' av nv cv,nv=oH a n->nW V S' av (qR k j a n way (oH a n))->bO lo mb tt X V S' (rM k j a n way (oH a n))->cU S w S' V->(∃av' cv' S'',Ending.returned (.tuple #[.slice av nv cv,.agg #[I 0,I 0]])=.returned (.tuple #[.slice av' (bk k j a n way).1.length cv',.agg #[I 0,I 0]])/\nW V S'' av' (CO (bk k j a n way).1)/\bO lo mb tt X V S'' (bk k j a n way).2/\cU S w S'' V)):=λV S' av nv cv e1 g1 g2 g3=>by
  have e2:(bk k j a n way).2=rM k j a n way (oH a n):=dO Prod.snd a7;exact⟨av,cv,S',Γ,Γ,Γ,g3⟩
 obtain⟨P,hP⟩:∃P:Ending->World->Prop,P=λe w'=>∃av cv S',e=.returned (.tuple #[.slice av (bk k j a n way).1.length cv,.agg #[I 0,I 0]])/\nW w' S' av (CO (bk k j a n way).1)/\bO lo mb tt X w' S' (bk k j a n way).2/\cU S w S' w':=⟨_,rfl⟩
 have Dh:Hid (∀V S' av nv cv,nv=oH a n->nW V S' av (qR k j a n way (oH a n))->bO lo mb tt X V S' (rM k j a n way (oH a n))->cU S w S' V->P (.returned (.tuple #[.slice av nv cv,.agg #[I 0,I 0]])) V):=λV S' av nv cv e1 g1 g2 g3=>by grind
 rw[<- hP];obtain⟨pb,cP,A⟩:=h.toKr.sp ω;have c3:=h.c3;rw[A.v] at c3;have a1:=A.x1 j hj;have U:dG (ak k.aj j).bu:=kH _ (hR.sp hj).bu;have DB:=ai (λV (hb:Below w.heap.size w V)=>VZ _ _ a n way V (eN.below (h.toKr.bu hj) hb) U ha ω);rw[a3] at DB;obtain⟨ax,cx,Ec,_,_⟩:=bh (h.each j hj).bu;rw[Ec] at DB a1;have aC:(j:Int)<(k.aj.length:Int):=by omega
 have NQ:=h.lt;have ao:=A.lt;unfold il at DB;simp only at DB;have eB:=ai ((aN w.heap.size w).alloc (aJ _) (.cells #[I 0,I 0] 75));have R0:=ai (bG w #[I 0,I 0] 75);have d3:=(eB.o.cell (p:=(Ad mb 3)) NQ).trans c3;have d1:=(eB.o.cell (p:=(Ad pb (j*3+1))) ao).trans a1;generalize k.aj.length=np at d3 aC;generalize (ak k.aj j).bu.length=na at d1 DB;have n0:Hid (S.lab w.heap.size=.no):=h.toKr.new (aJ _);have Z:=ai h;have O:(a+n-1)/16=a/16+((oH a n:Nat):Int)-1:=K;have a0:=ai (Vq k j a n way);generalize oH a n=PG at M Dh aX O;have ae:0<=a:=by omega
 have af:0<=a+n-1:=by omega
 have b2:IntKind.i64.wrap (a+n)=a+n:=wh _ ω;have b8:IntKind.i64.wrap (a+n-1)=a+n-1:=wh _ ω;obtain⟨i0,a4,al,ah,a8⟩:=mQ Nw;have PE:=ai a4;have aq:=ai al;have ZA:=ai ah;have Ih:=ai a8;have aS:a/16<=256:=by omega
 have ap:0<=a/16:=by omega
 obtain⟨Q,hQ⟩:=ex (a/16);have HQ:=ai hQ;rw[<- hQ] at M O aS ap;have b6:a.tdiv 16=Q:=by rw[hQ];exact Wt ae
 have b0:(a+n-1).tdiv 16=Q+(PG:Int)-1:=by rw[<- O];exact Wt af
 clear h hR hj A c3 a1 U Ec a3 ay ha J vW aw K A1 a7 ar aL ag eW hP hX hf aQ an ae af hQ a4 al ah a8 O;go_enter func272,ntmps272;go_wp2_with (go_at_call 283;refine(DB.o _ eB.o).mono ?_;rintro e w1 ⟨rfl,Y⟩;have dz:=ai (cJ eB.o Y);have R1:=ai (aO R0.o Y (aM R0.o));have FX:=ai (bG w1 #[I 0,I 0] 75);obtain⟨y0,y1⟩:=s8 FX.o;clear Y);have jo:=ai (dz.o.alloc dz.o.size (.cells #[I 0,I 0] 75));have R2:=ai (bB R1.o (.cells #[I 0,I 0] 75));generalize w1.alloc (.cells #[I 0,I 0] 75)=W at jo R2 y0 y1 ⊢;clear y0 y1 FX R1 dz;go_loopw [13,14] (λfv pv wr=>∃(m:Nat) (S':gv) (av:Option Addr) (cv:Nat),m<=PG/\pv=I (Q+(m:Int))/\fv=.slice av m cv/\wr.ownsRow W.heap.size 3 1 (.slice av m cv) m ((qR k j a n way m).flatMap iL)/\(∀b,bN (.slice av m cv) b->S'.lab b=.no)/\bO lo mb tt X wr S' (rM k j a n way m)/\cU S W S' wr) (λ_ pv _=>(Q+(PG:Int)-intOf pv).toNat)
 case atStart=>exact⟨0,S,none,0,ω,ξ,rfl,nt _ _ _ _,λb hb=>(by cases hb),Z.o.below jo.o,cU.refl _ _⟩
 case round =>
  obtain⟨m,S',av,cv,hm,rfl,rfl,y,F,mL,B⟩:=hrel;have Yw:=ai y;have sS:=ai F;have OJ:=ai B;by_cases hlt:m<PG
  . have b4:Q+(m:Int)<=Q+(PG:Int)-1:=by omega
    have r:=a0.o m ω;have G:=y;rw[<- r] at G;have Ao:=(Gd (S:=S') (n:=m) (l:=qR k j a n way m) (by rw[r];omega) F).2;have aE:=ai (M.o wr S' m av m cv hlt rfl mL Ao);clear y F mL B G Ao r Z;go_wp2_with (first
     | (at_builtin;refine qm (P:=prog) rfl _ _ 48 rfl W.heap.size 3 i0 (I 0) 1 8 underlying48 PE.o aq.o ZA.o Ih.o rfl Δ (.slice av m cv) m ((qR k j a n way m).flatMap iL) rfl Kf.o (some (Ad w2.heap.size 0)) 1 1 [I (i:Int)] rfl rfl (λ_=>⟨_,rfl,EW (bG w2 _ _)⟩) (by intro u hu;simp at hu;rw[hu];rfl) (by unfold maxLen;omega) ω (by have:=vd.o.kp.size;simp;omega) ?_;intro v' w' L ab ac;obtain⟨aG,cG,au,_,_⟩:=bh L;subst au;have aP:=ai L;have aF:=ai ab;have C2:=ai ac;clear L ab ac)
     | (go_at_call 284;refine aE.o.mono ?_;rintro e w2 ⟨i,rfl,a6,S2,a5,R⟩;have az:=ai a6;have Aa:=ai a5;have vd:=ai (OJ.o.trans R);have aa:=ai (R.kp.row Yw.o (λb hb z=>z (sS.o b hb)));have Nt:=ai (λb (hb:bN (.slice av m cv) b)=>R.no b (Yw.o.lt b hb).2 (sS.o b hb));have Kf:=ai (aa.o.alloc (.cells #[I (i:Int)] 3));clear a6 a5 R))
    go_roundw
    case rel =>
     have kA:aI (λb=>bN (.slice av m cv) b) w2 (w2.alloc (.cells #[I (i:Int)] 3)):=aI.alloc _ _ _;have kB:=kA.trans (aI.grown (D:=λb=>bN (.slice av m cv) b) aF.o (λq hq=>hq)) (λ_ _ g=>g);have a9:∀b,bN (.slice aG (m+1) cG) b->S2.lab b=.no:=λb hb=>by
      rcases C2.o with g | g
      . exact Nt.o b (by show Value.ownBlock _=_;rw[<- g];exact hb)
      have hb:Value.ownBlock _=some b:=hb;rw[g] at hb;injection hb with hb;rw[fp] at hb;exact Aa.o.toKr.new ω
     refine⟨m+1,S2,aG,cG,ω,by go_num,rfl,?_,a9,?_,?_⟩
     . rw[az.o,wk];have e:[(i:Int)].flatMap iL=[I (i:Int)]:=rfl;rw[e];exact aP.o
     . exact Aa.o.kp kB (λb hb g=>hb (Nt.o b g))
     exact al4.local vd.o kB (λb g=>(aa.o.lt b g).1)
    case measure=>simp[intOf];omega
  obtain rfl:m=PG:=by omega
  have b1:¬Q+(m:Int)<=Q+(m:Int)-1:=by omega
  have r:=a0.o m ω;have Ao:=(Gd (S:=S') (n:=m) (l:=qR k j a n way m) (by rw[r];omega) F).2;have N:=ai Ao;have ad:=ai mL;have RW:=ai (B.keep R2.o n0.out);obtain⟨y0,y1⟩:=s8 RW.o;have q0:=br RW.o 0;have q1:=br RW.o 1;have am:=ai ((cU.below jo.o).trans B);have a2:S'.lab w.heap.size=.no:=B.no _ (aM R2.o) n0.out;have T:Hid (∀V,V=(wr.setCell (Ad w.heap.size 0) (I 0)).setCell (Ad w.heap.size 1) (I 0)->nW V S' av (qR k j a n way m)/\bO lo mb tt X V S' (rM k j a n way m)/\cU S w S' V/\V.heap[w.heap.size]?=some (.cells #[I 0,I 0] 75 (0,0))):=λV hV=>by
   have kp:aI (λb=>b=w.heap.size) wr V:=by rw[hV];exact(aI.set (λb=>b=w.heap.size) wr (Ad w.heap.size 0) _ rfl).trans (aI.set (λb=>b=w.heap.size) _ (Ad w.heap.size 1) _ rfl) (λ_ _ g=>g)
   refine⟨⟨Vr.kp N.o.has kp (λb off e z=>?_),N.o.no,λb off e=>gm (N.o.lt b off e) kp.size⟩,ad.o.kp kp (λb hb z=>hb (by rw[z];exact a2)),al4.local am.o kp (λb z=>ω),by rw[hV];exact dm (dm RW.o 0 _) 1 _⟩;have:W.heap.size<=b:=by
    subst e;rcases Yw.o.2 with⟨h0,_⟩ | ⟨g,aY,b5,hv,b3,_⟩
    . cases h0
    injection hv with e1 _ _;injection e1 with e1;injection e1 with e1 _ _;omega
   have:=aM R2.o;omega
  have aH:=ai (λV (hV:V=(wr.setCell (Ad w.heap.size 0) (I 0)).setCell (Ad w.heap.size 1) (I 0))=>Dh.o V S' av m cv rfl (T.o V hV).1 (T.o V hV).2.1 (T.o V hV).2.2.1);clear y F mL B Ao r Z N ad am a2 M;go_wp2;obtain⟨v0,v1⟩:=s8 (T.o _ rfl).2.2.2;refine bW (v:=.tuple #[.slice av m cv,.agg #[I 0,I 0]]) (by simp[results,results272,go_sem,v0,v1]) rfl ?_;exact aH.o _ rfl
structure Dx (k:aT):Prop where
 aD:k.aD.length<=1000000
 df:∀i,i<k.aD.length->(aZ k.aD i).df.length<=1000000
 frames:k.frames.length<=1000000
 slots:k.slots.length<=1000000
 aj:k.aj.length<=1000000
 bu:∀i,i<k.aj.length->(ak k.aj i).bu.length<=1000000
 bl:∀i,i<k.aj.length->(ak k.aj i).bl.length<=1000000
def zN (w:World) (k:aT) (e:Ending) (w':World):Prop:=∃S hs,cD k.aD hs/\e=.returned (.agg #[S.vS,S.vF,S.vL,S.vP,I k.hand])/\Kr w.heap.size w' S (aV k hs)/\Below w.heap.size w w'
def si:Prop:=∀(k:aT) (a:gN) (w:World),iB w a k->Dx k->Calls prog 79 #[.agg (bj a k)] w (zN w k)
def jq (k:aT):List Value:=rN (mq k.aD k.aD.length) 256
theorem N9 {k:aT} (hr:dR k.aD=true) {hs:List bD} (h:cD k.aD hs):Lp (jq k) hs:=λn hn=>by
 grind [jq,Gf,Gg,Gr]
theorem ID {hs:List bD} (h:dR hs=true) (i:Nat) (hi:i<hs.length):(aZ hs i).df.length<=16:=by
 have all:∀n,ji hs n=true->∀i,i<n->cK (aZ hs i)=true:=λn=>by
  induction n with
  | zero=>omega
  | succ n ih =>
   grind [ji]
 have hb:=all hs.length h i hi;unfold cK at hb;rw[cV] at hb;have:=oO _ _ hb.2;omega
theorem AA {k:aT} (hR:bg k) (hF:kN k):Dx k:=by
 have hc:=hR.c;refine⟨ω,λi hi=>?_,ω,ω,ω,λi hi=>?_,λi hi=>by grind [oP]⟩
 . grind [ID,bg.m9]
 have:=mK _ (hR.sp hi).bu;omega
theorem ah1 {lo mb:Nat} {w' V:World} {S:gv} {k:aT} {hs:List bD} {k0:aT} {a:gN} (hr:Kr lo w' S (aV k hs)) (hm:w'.heap[mb]?=some (.cells (tY a k0) 158 (0,0))) (hlb:lo<=mb) (hno:S.lab mb=.no) (ht:jq k0=jq k)
  (hV:V=((((w'.setCell (Ad mb 0) S.vS).setCell (Ad mb 1) S.vF).setCell (Ad mb 2) S.vL).setCell (Ad mb 3) S.vP).setCell (Ad mb 4) (I k.hand)) :
  bO lo mb 158 (jq k) V ⟨λb=>if b=mb then .head else S.lab b,S.vS,S.vF,S.vL,S.vP,S.L⟩ (aV k hs):=by
 have kp:aI (λb=>b=mb) w' V:=by
  rw[hV];exact((((aI.set (λb=>b=mb) w' (Ad mb 0) _ rfl).trans (aI.set (λb=>b=mb) _ (Ad mb 1) _ rfl) (λ_ _ g=>g)).trans (aI.set (λb=>b=mb) _ (Ad mb 2) _ rfl) (λ_ _ g=>g)).trans (aI.set (λb=>b=mb) _ (Ad mb 3) _ rfl) (λ_ _ g=>g)).trans (aI.set (λb=>b=mb) _ (Ad mb 4) _ rfl) (λ_ _ g=>g)
 have r1:=hr.kp kp (λb hb e=>hb Γ);have lb:∀b c,S.lab b=c->c≠.no->(if b=mb then ma.head else S.lab b)=c:=λb c e hc=>by
  grind
 refine⟨⟨λb hb=>?_,r1.aD,r1.df,r1.frames,r1.slots,r1.aj,r1.len,r1.each,λb hb=>lb b _ (r1.lS b hb) ξ,λi hi b hb=>lb b _ (r1.lX i hi b hb) ξ,λb hb=>lb b _ (r1.lF b hb) ξ,λb hb=>lb b _ (r1.lL b hb) ξ,λb hb=>lb b _ (r1.lP b hb) ξ,λi hi b hb=>lb b _ (r1.lA i hi b hb) ξ,λi hi b hb=>lb b _ (r1.lE i hi b hb) ξ⟩,?_,aQ rfl⟩
 . by_cases c:b=mb
   . simp_all [aM]
   have hb:(if b=mb then ma.head else S.lab b)≠.no:=hb;rw[aH c] at hb;exact r1.vD b hb
 rw[hV,dm (dm (dm (dm (dm hm 0 S.vS) 1 S.vF) 2 S.vL) 3 S.vP) 4 (I k.hand)];unfold tY mW;rw[<- ht];congr 2
theorem Rp (FE:si) (k:aT) (a:gN) (mb:Nat) (w:World) (hK:iB w a k) (hsm:Dx k) (hm:w.heap[mb]?=some (.cells (tY a k) 158 (0,0))) (lo:Nat) (hlo:lo<=mb) :
  Calls prog 267 #[.pointer (some (Ad mb 0))] w λe w'=>e=.returned (.tuple #[])/\∃S hs,cD k.aD hs/\bO lo mb 158 (jq k) w' S (aV k hs)/\(∀b,S.lab b≠.no->b=mb\/w.heap.size<=b)/\aI (λb=>b=mb) w w':=by
 have B:=ai (FE k a w hK hsm);have NQ:=aM hm;have HM:=ai hm;have eW:Hid (∀w1 S hs V,cD k.aD hs->Kr w.heap.size w1 S (aV k hs)->Below w.heap.size w w1->V=((((w1.setCell (Ad mb 0) S.vS).setCell (Ad mb 1) S.vF).setCell (Ad mb 2) S.vL).setCell (Ad mb 3) S.vP).setCell (Ad mb 4) (I k.hand)->∃S hs,cD k.aD hs/\bO lo mb 158 (jq k) V S (aV k hs)/\(∀b,S.lab b≠.no->b=mb\/w.heap.size<=b)/\aI (λb=>b=mb) w V):=λw1 S hs V h1 h2 h3 h4=>by
  have vW:=aO HM.o h3 NQ;have F:S.lab mb=.no:=BC.1 λx=>by grind [Kr.vD]
  have r1:Kr lo w1 S (aV k hs):=h2.mono ω;have m:=ah1 r1 vW hlo F rfl h4;refine⟨_,hs,h1,m,λb hb=>?_,?_⟩
  . by_cases c:b=mb
    . omega
    have hb:(if b=mb then ma.head else S.lab b)≠.no:=hb;rw[aH c] at hb;exact .inr (h2.vD b hb).1
  have kp:aI (λb=>b=mb) w1 V:=by
   rw[h4];exact((((aI.set (λb=>b=mb) w1 (Ad mb 0) _ rfl).trans (aI.set (λb=>b=mb) _ (Ad mb 1) _ rfl) (λ_ _ g=>g)).trans (aI.set (λb=>b=mb) _ (Ad mb 2) _ rfl) (λ_ _ g=>g)).trans (aI.set (λb=>b=mb) _ (Ad mb 3) _ rfl) (λ_ _ g=>g)).trans (aI.set (λb=>b=mb) _ (Ad mb 4) _ rfl) (λ_ _ g=>g)
  exact(aI.cA h3).trans kp (λ_ _ g=>g)
 have y:Hid (Calls prog 79 #[.agg (bj a k)] w λe w'=>∃S hs aS nS cS aF nF cF aL nL cL aP nP cP,S.vS=.slice aS nS cS/\S.vF=.slice aF nF cF/\S.vL=.slice aL nL cL/\S.vP=.slice aP nP cP/\cD k.aD hs/\e=.returned (.agg #[.slice aS nS cS,.slice aF nF cF,.slice aL nL cL,.slice aP nP cP,I k.hand])/\Kr w.heap.size w' S (aV k hs)/\Below w.heap.size w w'):=B.o.mono λe w' ⟨S,hs,h1,h2,h3,h4⟩=>by
  obtain⟨aS,cS,eS,_⟩:=bh h3.aD;obtain⟨aF,cF,eF,_⟩:=bh h3.frames;obtain⟨aL,cL,eL,_⟩:=bh h3.slots;obtain⟨aP,cP,eP,_⟩:=bh h3.aj
  grind
 have c0:w.cell? (Ad mb 0)=some (.slice a.aS k.aD.length a.cS):=aA hm 0 rfl;have c1:w.cell? (Ad mb 1)=some (.slice a.aF k.frames.length a.cF):=aA hm 1 rfl;have c2:w.cell? (Ad mb 2)=some (.slice a.aL k.slots.length a.cL):=aA hm 2 rfl;have c3:w.cell? (Ad mb 3)=some (.slice a.aP k.aj.length a.cP):=aA hm 3 rfl;have c4:w.cell? (Ad mb 4)=some (I k.hand):=aA hm 4 rfl;have G:Hid (∀V,Below w.heap.size w V->(V.cell? (Ad mb 0)=some (.slice a.aS k.aD.length a.cS)/\V.cell? (Ad mb 1)=some (.slice a.aF k.frames.length a.cF)/\V.cell? (Ad mb 2)=some (.slice a.aL k.slots.length a.cL)/\V.cell? (Ad mb 3)=some (.slice a.aP k.aj.length a.cP)/\V.cell? (Ad mb 4)=some (I k.hand))/\V.frozen? (Ad mb 0)=false/\V.frozen? (Ad mb 1)=false/\V.frozen? (Ad mb 2)=false/\V.frozen? (Ad mb 3)=false/\V.frozen? (Ad mb 4)=false):=λV hb=>by
  have h1:=aO HM.o hb NQ;exact⟨⟨aA h1 0 rfl,aA h1 1 rfl,aA h1 2 rfl,aA h1 3 rfl,aA h1 4 rfl⟩,br h1 0,br h1 1,br h1 2,br h1 3,br h1 4⟩
 unfold bj at y;clear hm hK hsm B;go_enter func267,ntmps267;go_wp2_with (go_at_call 79;refine y.o.mono ?_;rintro e w1 ⟨S,hs,aS,nS,cS,aF,nF,cF,aL,nL,cL,aP,nP,cP,eS,eF,eL,eP,h,rfl,r,q⟩;have A:=ai (λV=>eW.o w1 S hs V h r q);rw[eS,eF,eL,eP] at A;obtain⟨⟨y0,y1,y2,y3,y4⟩,f0,f1,f2,f3,f4⟩:=G.o w1 q;clear h r q eS eF eL eP);refine vY (v:=.tuple #[]) (by simp[results,results267,go_sem]) rfl ?_;exact⟨rfl,A.o _ rfl⟩
end Go.Proofs.YtlgoihmkgaaemaaGreat
