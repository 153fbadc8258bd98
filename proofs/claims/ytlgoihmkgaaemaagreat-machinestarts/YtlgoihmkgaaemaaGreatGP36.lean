import Derived.Test.YtlgoihmkgaaemaaGreatGP35
set_option maxHeartbeats 20000000
set_option linter.unusedVariables false
set_option maxRecDepth 100000
set_option linter.unusedSimpArgs false
namespace Go.Proofs.YtlgoihmkgaaemaaGreat
open Go.RowKit Tryz
theorem IP (p:Int):∀(hs:List bD) (i:Nat),i<hs.length->(∀j,j<i->(aZ hs j).page≠p)->(aZ hs i).page=p->dB hs p=some (aZ hs i)
 | s::r,0,_,_,h=>List.find?_cons_of_pos (dW h)
 | s::r,i+1,hi,hn,h=>by
  have ih:=IP p r i (BG hi) (λj hj=>hn (j+1) ω) h;unfold dB at ih ⊢;have hne:decide (s.page=p)=false:=eH (hn 0 ω);rw[List.find?_cons,hne];exact ih
theorem Ry (p:Int):∀(hs:List bD),(∀j,j<hs.length->(aZ hs j).page≠p)->dB hs p=none
 | [],_=>rfl
 | s::r,hn=>by
  have ih:=Ry p r (λj hj=>hn (j+1) Γ);unfold dB at ih ⊢;have hne:decide (s.page=p)=false:=eH (hn 0 ξ)
  grind
def JN (hs:List bD) (p:Int):bD:=(dB hs p).getD zi
theorem Gi (hs:List bD) (ao:Option Addr) (cap:Nat) (p:Int) (w:World) (h:gz w ao hs) (hn:bM hs.length) :
  Calls prog 147 #[.slice ao hs.length cap,I p] w λe w'=>e=.returned (.tuple #[.agg #[I (JN hs p).page,.string (JN hs p).data,.slice (JN hs p).ao (JN hs p).df.length (JN hs p).cap],.bool (dB hs p).isSome])/\Below w.heap.size w w':=by
 obtain⟨WA,lQ⟩:=ex (w.alloc (.cells #[I 0,.string ⟨#[]⟩,Nl] 145));have q:Below w.heap.size w WA:=by grind [Below.refl,Below.alloc]
 have rb:WA.heap[w.heap.size]?=some (.cells #[I 0,.string ⟨#[]⟩,Nl] 145 (0,0)):=by grind [bG]
 have HH:Hid (∀i,i<hs.length->∃b off,ao=some (Ad b off)/\b≠w.heap.size/\WA.cell? (Ad b (off+i*3))=some (I (aZ hs i).page)/\WA.cell? (Ad b (off+i*3+1))=some (.string (aZ hs i).data)/\WA.cell? (Ad b (off+i*3+2))=some (.slice (aZ hs i).ao (aZ hs i).df.length (aZ hs i).cap)):=λi hi=>by
  obtain⟨b,off,e1,e2,e3⟩:=(h.below q) ω;obtain⟨d0,d1,d2,_⟩:=e3 i hi;obtain⟨b',K,M,O,_⟩:=h ω
  grind
 obtain⟨y0,y1,y2⟩:=uo rb;have f0:=br rb 0;have f1:=br rb 1;have f2:=br rb 2;have Kc:=ai rb;have ot:=ai lQ;have eB:=ai q;have F:Hid (∀(x:Value) (y:Value) (z:Value),(((WA.setCell (Ad w.heap.size 0) x).setCell (Ad w.heap.size 1) y).setCell (Ad w.heap.size 2) z).heap[w.heap.size]?=some (.cells #[x,y,z] 145 (0,0))/\Below w.heap.size w (((WA.setCell (Ad w.heap.size 0) x).setCell (Ad w.heap.size 1) y).setCell (Ad w.heap.size 2) z)):=λx y z=>⟨dm (dm (dm rb 0 x) 1 y) 2 z,aI.below q (vw (D:=λb=>b=w.heap.size) _ w.heap.size 0 1 2 x y z rfl) q.size (λb e=>ω)⟩
 have A:Hid (∀i,i<hs.length->(∀j,j<i->(aZ hs j).page≠p)->(aZ hs i).page=p->dB hs p=some (aZ hs i)):=λi=>IP p hs i
 have r:Hid ((∀j,j<hs.length->(aZ hs j).page≠p)->dB hs p=none):=Ry p hs;have L:hs.length<=140737488351232:=hn;unfold JN;generalize dB hs p=o at A r ⊢;clear q rb lQ h hn;go_enter func147,ntmps147;go_upto_region 1 with fail;rw[<- ot.o];go_wp2;go_loopw [6] (λiv wq=>∃i:Nat,i<=hs.length/\iv=I (i:Int)/\wq=WA/\∀j,j<i->(aZ hs j).page≠p) (λiv _=>hs.length-(intOf iv).toNat)
 case atStart=>grind
 case round =>
  obtain⟨i,hi,rfl,J,B⟩:=hrel;subst J;have sS:=ai B;clear B;by_cases hlt:i<hs.length
  . have Q:(i:Int)<(hs.length:Int):=by omega
    obtain⟨b,off,G,N,d0,d1,d2⟩:=HH.o i hlt;have YL:=ai (λg=>A.o i hlt sS.o g);have uy:Hid ((aZ hs i).page≠p->∀j,j<i+1->(aZ hs j).page≠p):=λg j hj=>by
     by_cases e:j=i
     . grind
     exact sS.o j ω
    generalize aZ hs i=s at d0 d1 d2 YL uy;obtain⟨pg,dt,fx,ax,cx⟩:=s;simp only at d0 d1 d2 YL uy;subst G;clear HH A r;by_cases g:pg=p
    . have e:=YL.o g;subst e;subst g;clear YL uy sS;go_wp2;obtain⟨q1,q2⟩:=F.o (I pg) (.string dt) (.slice ax fx.length cx);obtain⟨y0,y1,y2⟩:=uo q1;refine bW (v:=.tuple #[.agg #[I pg,.string dt,.slice ax fx.length cx],.bool true]) (by simp[results,results147,go_sem,y0,y1,y2]) rfl ⟨rfl,q2⟩
    have gb:(pg==p)=false:=by grind
    have Nt:=ai (uy.o g);clear YL uy sS;go_wp2;go_roundw
    case rel=>exact⟨i+1,ω,by go_num,Γ,Nt.o⟩
    case measure=>simp[intOf];omega
  obtain rfl:i=hs.length:=by omega
  have e:=r.o sS.o;subst e;clear HH A r sS;go_wp2;obtain⟨q1,q2⟩:=F.o (I 0) (.string ⟨#[]⟩) Nl;obtain⟨y0,y1,y2⟩:=uo q1;refine bW (v:=.tuple #[.agg #[I 0,.string ⟨#[]⟩,Nl],.bool false]) (by simp[results,results147,go_sem,y0,y1,y2]) rfl ⟨rfl,q2⟩
theorem aaI (k:aT) (a:gN) (w:World) (hP:su w a.aP k.aj) (hc:∀i,i<k.aj.length->bf (ak k.aj i).bu=0) (hn:k.aj.length<=1000000) :
  Calls prog 91 #[.agg (bj a k)] w λe w'=>e=.returned (I (dJ k.aj))/\Below w.heap.size w w':=by
 obtain⟨WA,lQ⟩:=ex (w.alloc (.cells (bj a k) 30));have q:Below w.heap.size w WA:=by grind [Below.refl,Below.alloc]
 have kb:WA.heap[w.heap.size]?=some (.cells (bj a k) 30 (0,0)):=by grind [bG]
 have DY:Hid (∀V,Below WA.heap.size WA V->V.cell? (Ad w.heap.size 3)=some (.slice a.aP k.aj.length a.cP)):=λV hV=>aA (aO kb hV (aM kb)) 3 rfl
 have HH:Hid (∀V i,Below WA.heap.size WA V->i<k.aj.length->∃b off aa ca,a.aP=some (Ad b off)/\V.cell? (Ad b (off+i*3+1))=some (.slice aa (ak k.aj i).bu.length ca)/\Calls prog 34 #[.slice aa (ak k.aj i).bu.length ca] V λe w'=>e=.returned (I (bR (ak k.aj i).bu))/\Below V.heap.size V w'):=λV i hV hi=>by
  obtain⟨b,off,e1,e2,e3⟩:=(hP.below (q.trans (hV.mono q.size))) ω;obtain⟨va,ap,cp,c0,c1,c2,c3,_⟩:=e3 i hi;have J:=c3;obtain⟨aa,ca,rfl,_⟩:=c3;exact⟨b,off,aa,ca,e1,c1,EZ _ _ V J (hc i hi)⟩
 have Kc:=ai (xL k.aj);have Me:Hid (∀i,iU k.aj (i+1)=iU k.aj i+bR (ak k.aj i).bu):=λi=>rfl
 have ot:=ai lQ;have eB:=ai q;obtain⟨n0,y⟩:=ex k.aj.length;unfold dJ;unfold bj at ot ⊢;rw[<- y] at DY HH hn ot ⊢;clear q kb lQ hP hc y;go_enter func91,ntmps91;go_upto_region 1 with fail;rw[<- ot.o];go_wp2;go_loopw [3,4] (λsv iv wq=>∃i:Nat,i<=n0/\iv=I (i:Int)/\sv=I (iU k.aj i)/\Below WA.heap.size WA wq) (λ_ iv _=>n0-(intOf iv).toNat)
 case atStart=>exact⟨0,ω,rfl,rfl,aN _ _⟩
 case round =>
  obtain⟨i,hi,rfl,rfl,hb⟩:=hrel;have HB:=ai hb;have c3:=DY.o _ hb;have MG:=Kc.o i;by_cases hlt:i<n0
  . have K:(i:Int)<(n0:Int):=by omega
    obtain⟨b,off,aa,ca,B,c1,r⟩:=HH.o _ i hb hlt;have h:=Me.o i;have G:=mI (ak k.aj i).bu;have VM:=ai r;obtain⟨R,hR⟩:=ex (iU k.aj i);generalize (ak k.aj i).bu.length=na at c1 VM;generalize bR (ak k.aj i).bu=T at VM h G;rw[<- hR] at h MG ⊢;have F:=ai h;rw[B] at c3;clear r hR h hb B HH Kc Me DY;go_wp2_with (go_at_call 34;refine VM.o.mono ?_;rintro e w1 ⟨rfl,A⟩;have dz:=ai (HB.o.trans (A.mono HB.o.size));clear A);go_roundw
    case rel=>exact⟨i+1,ω,by go_num,by rw[F.o],dz.o⟩
    case measure=>simp[intOf];omega
  obtain rfl:i=n0:=by omega
  clear HH Kc Me hb;go_wp2;go_ret;exact⟨rfl,eB.o.trans (HB.o.mono eB.o.size)⟩
def aaF (d:Nat):Array Value:=madeCells #[.int .u8 0] d
theorem adn (V:World):(Instr.makeSlice 203 (I 16) (I 16)).run prog V=.ok (.slice (some (Ad V.heap.size 0)) 16 16) (V.alloc (.cells (aaF 16) 5)):=by
 rfl
theorem adq (V:World):(convert 203 9 (.slice (some (Ad V.heap.size 0)) 16 16)).run prog (V.alloc (.cells (aaF 16) 5))=.ok (.string vQ) (V.alloc (.cells (aaF 16) 5)):=by
 have e:vQ=strOfNums (List.replicate 16 0):=by rfl
 rw[e];refine Kw _ 203 5 underlying203 underlying5 _ 0 16 16 _ ξ ?_ 9 underlying9;intro i hi;rw[mi];refine aA (bG V (aaF 16) _) i ?_;rw[jI,Wo,aQ hi]
 simp_all [aaF,madeCells,Nat.mod_one]
theorem XH {w:World} {ao:Option Addr} {hs:List bD} {p:Int} {s:bD} (h:gz w ao hs) (hf:m6 hs) (hr:dR hs=true) (e:dB hs p=some s):mS w s.ao s.df/\ym s/\cK s=true:=by
 obtain⟨i,hi,e2⟩:=jE zi (Qr e);have e3:aZ hs i=s:=e2;obtain⟨b,off,_,_,h3⟩:=h ω;have h4:mS w (aZ hs i).ao (aZ hs i).df:=(h3 i hi).2.2.2;rw[e3] at h4;have h5:=hf.2 i hi;have h6:=(oG hs hs.length hr i hi).1
 grind
theorem Rz (k:aT) (a:gN) (g1 g2 g3:Int) (z:Bool) (p:Int) (w:World) (hH:gz w a.aS k.aD) (hf:m6 k.aD) (hr:dR k.aD=true) (hz:z=false->(dB k.aD p).isSome=true) :
  Calls prog 93 #[.agg (bj a k),.agg #[I g1,I g2,I g3,.bool z],I p] w λe w'=>e=.returned (.string (fM k.aD p z))/\Below w.heap.size w w':=by
 obtain⟨WA,lQ⟩:=ex ((w.alloc (.cells (bj a k) 30)).alloc (.cells #[I g1,I g2,I g3,.bool z] 139));have b:Below w.heap.size w WA:=by simp_all [aN,pG]
 have kb:WA.heap[w.heap.size]?=some (.cells (bj a k) 30 (0,0)):=by grind [bB,bG]
 have ab:WA.heap[w.heap.size+1]?=some (.cells #[I g1,I g2,I g3,.bool z] 139 (0,0)):=by
  grind [bG,World.size_alloc]
 have k0:WA.cell? (Ad w.heap.size 0)=some (.slice a.aS k.aD.length a.cS):=aA kb 0 rfl;have x3:WA.cell? (Ad (w.heap.size+1) 3)=some (.bool z):=aA ab 3 rfl;have ot:=ai lQ;have eB:=ai b;cases z with
 | true =>
  have e1:=adn;have e2:=adq;have ef:fM k.aD p true=vQ:=rfl;rw[ef];unfold bj at ot ⊢;clear hH hf hr hz b kb ab lQ ef;go_enter func93,ntmps93;go_upto_region 1 with fail;rw[<- ot.o];go_wp2;go_ret;exact⟨rfl,eB.o.alloc eB.o.size _⟩
 | false =>
  obtain⟨s,hs⟩:=Option.isSome_iff_exists.1 (hz rfl);have ef:fM k.aD p false=o9 s:=by
   grind [fM,fE]
  rw[ef];have h:=ai (Gi k.aD a.aS a.cS p WA (hH.below b) hf.1);unfold JN at h;rw[hs] at h;have Dh:Hid (∀V,Below WA.heap.size WA V->Calls prog 148 #[.agg #[I s.page,.string s.data,.slice s.ao s.df.length s.cap]] V λe w'=>e=.returned (.string (o9 s))/\Below V.heap.size V w'):=λV hV=>by
   obtain⟨h1,h2,h3⟩:=XH (hH.below (b.trans (hV.mono b.size))) hf hr hs;exact TC s V h1 h2 h3
  generalize o9 s=D at Dh ⊢;obtain⟨pg,dt,fx,ax,cx⟩:=s;have y:Hid (Calls prog 147 #[.slice a.aS k.aD.length a.cS,I p] WA λe w'=>e=.returned (.tuple #[.agg #[I pg,.string dt,.slice ax fx.length cx],.bool true])/\Below WA.heap.size WA w'):=h.o;simp only at Dh;unfold bj at ot ⊢;clear hH hf hr hz b kb ab lQ ef h hs;go_enter func93,ntmps93;go_upto_region 1 with fail;rw[<- ot.o];go_wp2_with (first
   | (go_at_call 147;refine y.o.mono ?_;rintro e w1 ⟨rfl,q⟩;have dz:=ai q;clear q)
   | (go_at_call 148;refine(Dh.o _ (dz.o.alloc dz.o.size _)).mono ?_;rintro e w2 ⟨rfl,r⟩;have iI:=ai ((dz.o.alloc dz.o.size _).trans (r.mono (dz.o.alloc dz.o.size _).size));clear r))
  go_ret;exact⟨rfl,eB.o.trans (iI.o.mono eB.o.size)⟩
structure Fj (w:World) (k0:Array Value) (x:uJ) (W:World):Prop where
 kb:W.heap[w.heap.size]?=some (.cells k0 30 (0,0))
 rb:W.heap[w.heap.size+1]?=some (.cells #[I 0,I 0,I 0,.bool false] 139 (0,0))
 ab:W.heap[w.heap.size+2]?=some (.cells #[I x.FO.page,I x.FO.aY,I x.FO.gh,.bool x.FO.zero] 139 (0,0))
 Tq:Below w.heap.size w W
theorem Fj.below {w W V:World} {k0:Array Value} {x:uJ} (h:Fj w k0 x W) (hb:Below W.heap.size W V):Fj w k0 x V:=⟨aO h.kb hb (aM h.kb),aO h.rb hb (aM h.rb),aO h.ab hb (aM h.ab),h.Tq.trans (hb.mono h.Tq.size)⟩
theorem Fj.lay {w W V:World} {k0:Array Value} {x y:uJ} (h:Fj w k0 x W) (hV:V=(((W.setCell (Ad (w.heap.size+2) 0) (I y.FO.page)).setCell (Ad (w.heap.size+2) 1) (I y.FO.aY)).setCell (Ad (w.heap.size+2) 2) (I y.FO.gh)).setCell (Ad (w.heap.size+2) 3) (.bool y.FO.zero)):Fj w k0 y V:=by
 have kp:aI (λb=>b=w.heap.size+2) W V:=by
  rw[hV];have k:∀(A:World) (j:Nat) (v:Value),aI (λb=>b=w.heap.size+2) A (A.setCell (Ad (w.heap.size+2) j) v):=λA j v=>aI.set _ A (Ad (w.heap.size+2) j) v rfl
  exact(((k _ _ _).trans (k _ _ _) (λ_ _ g=>g)).trans (k _ _ _) (λ_ _ g=>g)).trans (k _ _ _) (λ_ _ g=>g)
 exact⟨kp.keep h.kb ω,kp.keep h.rb ω,by rw[hV];exact dm (dm (dm (dm h.ab 0 _) 1 _) 2 _) 3 _,aI.below h.Tq kp h.Tq.size (λb e=>ω)⟩
theorem TV (k:aT) (a:gN) (kd at_:Int) (w:World) (hP:su w a.aP k.aj) (hc:∀i,i<k.aj.length->bf (ak k.aj i).bu=0) (hn:k.aj.length<=4) (he:∀i,i<k.aj.length->(ak k.aj i).bl.length<=65025) :
  Calls prog 92 #[.agg (bj a k),I kd,I at_] w λe w'=>e=.returned (.tuple #[I (gw k.aj kd at_).n,I (gw k.aj kd at_).page,.bool (gw k.aj kd at_).fine,.agg #[I (gw k.aj kd at_).FO.page,I (gw k.aj kd at_).FO.aY,I (gw k.aj kd at_).FO.gh,.bool (gw k.aj kd at_).FO.zero]])/\Below w.heap.size w w':=by
 obtain⟨n0,W⟩:=ex k.aj.length;obtain⟨WA,lQ⟩:=ex (((w.alloc (.cells #[.slice a.aS k.aD.length a.cS,.slice a.aF k.frames.length a.cF,.slice a.aL k.slots.length a.cL,.slice a.aP n0 a.cP,I k.hand] 30)).alloc (.cells #[I 0,I 0,I 0,.bool false] 139)).alloc (.cells #[I 0,I 0,I 0,.bool false] 139));have ad:Below w.heap.size w WA:=by rw[lQ];exact(((aN _ _).alloc (aJ _) _).alloc ξ _).alloc (by simp;omega) _
 have L:Hid (Fj w #[.slice a.aS k.aD.length a.cS,.slice a.aF k.frames.length a.cF,.slice a.aL k.slots.length a.cL,.slice a.aP n0 a.cP,I k.hand] XV WA):=by
  rw[lQ];refine⟨bB (bB (bG w _ _) _) _,bB ?_ _,?_,Γ⟩
  . grind [bG,World.size_alloc]
  have:=bG ((w.alloc (.cells #[.slice a.aS k.aD.length a.cS,.slice a.aF k.frames.length a.cF,.slice a.aL k.slots.length a.cL,.slice a.aP n0 a.cP,I k.hand] 30)).alloc (.cells #[I 0,I 0,I 0,.bool false] 139)) #[I 0,I 0,I 0,.bool false] 139;rw[fp,fp] at this;exact this
 have Yr:Hid (∀j,j<n0->∃b off aa ca ap cp,a.aP=some (Ad b off)/\(∀V,Below w.heap.size w V->V.cell? (Ad b (off+j*3+1))=some (.slice aa (ak k.aj j).bu.length ca)/\V.cell? (Ad b (off+j*3+2))=some (.slice ap (ak k.aj j).bl.length cp)/\∀m,m<(ak k.aj j).bl.length->∃eb eo,ap=some (Ad eb eo)/\V.cell? (Ad eb (eo+m*3))=some (I (aW (ak k.aj j).bl m).page)/\V.cell? (Ad eb (eo+m*3+1))=some (I (aW (ak k.aj j).bl m).kind)/\V.cell? (Ad eb (eo+m*3+2))=some (I (aW (ak k.aj j).bl m).loc))/\∀U p,Below w.heap.size w U->Calls prog 82 #[.slice aa (ak k.aj j).bu.length ca,I p] U λe w'=>e=.returned (.tuple #[.agg #[I (bc (ak k.aj j).bu p).1.page,I (bc (ak k.aj j).bu p).1.aY,I (bc (ak k.aj j).bu p).1.gh,.bool (bc (ak k.aj j).bu p).1.zero],.bool (bc (ak k.aj j).bu p).2])/\Below U.heap.size U w'):=λj hj=>by
  have hj:j<k.aj.length:=by omega
  obtain⟨b,off,e1,e2,e3⟩:=hP ω;obtain⟨va,ap,cp,c0,c1,c2,c3,c4,_⟩:=e3 j hj;have ah:=c3;obtain⟨aa,ca,rfl,_⟩:=c3;refine⟨b,off,aa,ca,ap,cp,e1,λV hV=>⟨(hV.cell (p:=(Ad b (off+j*3+1))) e2).trans c1,(hV.cell (p:=(Ad b (off+j*3+2))) e2).trans c2,λm hm=>?_⟩,λU p hU=>Db _ _ p U (ah.below hU) (hc j hj)⟩;obtain⟨eb,eo,g1,_,g3⟩:=(c4.below hV) ω;have z0:=g3 m hm 0 ω;rw[jt] at z0;exact⟨eb,eo,g1,z0,g3 m hm 1 ω,g3 m hm 2 ω⟩
 have Z:Hid (∀j,AW k.aj kd at_ (j+1)=qW (ak k.aj j).bu (ak k.aj j).bl kd at_ (AW k.aj kd at_ j) (ak k.aj j).bl.length):=λj=>rfl
 have a2:Hid (∀ar es x m,qW ar es kd at_ x (m+1)=Gu ar kd at_ (qW ar es kd at_ x m) (aW es m)):=λar es x m=>rfl
 have a0:Hid (∀j,j<n0->(ak k.aj j).bl.length<=65025):=λj hj=>he j ω
 have ot:=ai lQ;unfold gw;rw[<- W] at hn;unfold bj;rw[<- W];clear hP hc he ad lQ W;obtain⟨C0,a8⟩:∃C0:Array Value,C0=#[.slice a.aS k.aD.length a.cS,.slice a.aF k.frames.length a.cF,.slice a.aL k.slots.length a.cL,.slice a.aP n0 a.cP,I k.hand]:=⟨_,rfl⟩;have DY:Hid (∀(V:World) x,Fj w C0 x V->V.cell? (Ad w.heap.size 3)=some (.slice a.aP n0 a.cP)):=λV x h=>by grind [aA,Fj.kb]
 rw[<- a8] at L;clear a8;go_enter func92,ntmps92;go_upto_region 3 with fail;rw[<- ot.o];go_wp2;go_loopw [10,11,12,14] (λv1 v2 v3 iv wq=>∃j:Nat,∃x:uJ,j<=n0/\iv=I (j:Int)/\x=AW k.aj kd at_ j/\v1=I x.n/\v2=I x.page/\v3=.bool x.fine/\(0<=x.n/\x.n<=65025*j)/\Fj w C0 x wq) (λ_ _ _ iv _=>n0-(intOf iv).toNat)
 case atStart=>exact⟨0,XV,ω,rfl,rfl,rfl,rfl,rfl,by grind [XV],L.o⟩
 case round =>
  obtain⟨j,x,hj,rfl,hx,rfl,rfl,rfl,a6,MH⟩:=hrel;have Sr:=ai MH;have HX:=ai hx;have c3:=DY.o _ _ MH;by_cases hlt:j<n0
  . have an:(j:Int)<(n0:Int):=by omega
    obtain⟨b,off,aa,ca,ap,cp,a4,M,Y⟩:=Yr.o j hlt;have al:=a0.o j hlt;have K:=ai (Z.o j);rw[<- HX.o] at K;obtain⟨xy,a7⟩:=ex ((ak k.aj j).bu);generalize (ak k.aj j).bl=es at M al K;rw[<- a7] at M Y K;rw[a4] at c3 DY;have vt:=ai M;have a1:=ai Y;have Nt:=ai (a2.o xy es x);have HZ:Hid (qW xy es kd at_ x 0=x):=rfl;clear hx MH a4 M Y a7 Yr Z a0 L a2 HX;go_wp2;go_loopw [10,11,12,15] (λv1 v2 v3 iv wq=>∃m:Nat,∃y:uJ,m<=es.length/\iv=I (m:Int)/\y=qW xy es kd at_ x m/\v1=I y.n/\v2=I y.page/\v3=.bool y.fine/\(0<=y.n/\y.n<=65025*j+m)/\Fj w C0 y wq) (λ_ _ _ iv _=>es.length-(intOf iv).toNat)
    case atStart=>exact⟨0,x,ω,rfl,HZ.o.symm,rfl,rfl,rfl,ω,Sr.o⟩
    case round =>
     obtain⟨m,y,hm,rfl,hy,rfl,rfl,rfl,ae,MH⟩:=hrel;have HY:=ai hy;have R:=ai MH;have c3:=DY.o _ _ MH;obtain⟨c1,c2,T⟩:=vt.o _ MH.Tq;clear HZ Sr a6 hy;by_cases hmt:m<es.length
     . have aq:(m:Int)<(es.length:Int):=by omega
       obtain⟨eb,eo,a9,z0,z1,z2⟩:=T m hmt;have Cu:=ai (Nt.o m);rw[<- HY.o] at Cu;generalize aW es m=en at z0 z1 z2 Cu;obtain⟨pg,kx,lx⟩:=en;simp only at z0 z1 z2;subst a9;have vv:=ai (λU hU=>a1.o U pg hU);clear T vt a1 DY Nt HY MH;obtain⟨W1,N⟩:=ex (wr.alloc (.cells #[I pg,I kx,I lx] 174));have A:Below wr.heap.size wr W1:=by rw[N];exact(aN _ _).alloc (aJ _) _
       have a3:W1.heap[wr.heap.size]?=some (.cells #[I pg,I kx,I lx] 174 (0,0)):=by rw[N];exact bG _ _ _
       have Th:=ai (R.o.below A);have t1:∀{q:Nat} {o:Nat} {u:Value},wr.cell? (Ad q o)=some u->W1.cell? (Ad q o)=some u:=λ{q o u} h=>(A.cell (p:=(Ad q o)) (nu wr _ h)).trans h
       have d3:=t1 c3;have d1:=t1 c1;obtain⟨x0,x1,x2⟩:=uo a3;have G:=ai a3;have Fp:=ai N;clear N A t1 a3;by_cases hk:kx=kd/\lx=at_
       . obtain⟨rfl,rfl⟩:=hk;have J:qW xy es kx lx x (m+1)=qV y pg (bc xy pg).1:=by
          rw[Cu.o];unfold Gu;rw[aQ ⟨rfl,rfl⟩]
         have PA:=ai J;clear J;generalize bc xy pg=F at PA vv;obtain⟨⟨g1,g2,g3,g4⟩,gf⟩:=F;simp only at vv PA;clear Cu;go_upto_region 10 with fail;rw[<- Fp.o];go_upto_region 11 with fail;clear c1 c2 c3 z0 z1 z2;have xB:=ai (Th.o.below (aN W1.heap.size W1).drew).Tq;have Dg:=ai (Th.o.below ((aN W1.heap.size W1).alloc (aJ _) (.cells #[I 0,I 0,I 0,.bool false] 139)).drew).Tq;have UD:=ai (aN W1.heap.size W1).drew;have VJ:=ai ((aN W1.heap.size W1).alloc (aJ _) (.cells #[I 0,I 0,I 0,.bool false] 139)).drew;generalize wr.heap.size=xb at G x0 x1 x2 ⊢;have au:(W1.alloc (.cells #[I 0,I 0,I 0,.bool false] 139)).cell? (Ad xb 0)=some (I pg):=aA (bB G.o _) 0 rfl;have tb:∀{q:Nat} {o:Nat} {u:Value},W1.cell? (Ad q o)=some u->(W1.alloc (.cells #[I 0,I 0,I 0,.bool false] 139)).cell? (Ad q o)=some u:=λ{q o u} h=>(((aN W1.heap.size W1).alloc (aJ _) _).cell (p:=(Ad q o)) (nu W1 _ h)).trans h
         have am:=tb d3;have ao:=tb d1;clear tb;have Q:Hid (((W1.alloc (.cells #[I 0,I 0,I 0,.bool false] 139)).drew).heap[W1.heap.size]?=some (.cells #[I 0,I 0,I 0,.bool false] 139 (0,0))):=bG W1 #[I 0,I 0,I 0,.bool false] 139;go_cut [17,18] (λx17 x18 wx=>∃g,x17=.pointer (some (Ad g 0))/\x18=.bool gf/\wx.heap[g]?=some (.cells #[I g1,I g2,I g3,.bool g4] 139 (0,0))/\Below W1.heap.size W1 wx)
         case first =>
          go_region_law (go_simp;go_at_call 82;first | (refine(vv.o _ xB.o).mono ?_;rintro e w1 ⟨rfl,A⟩;have dz:=ai (UD.o.trans (A.mono UD.o.size));clear A;go_simp) | (refine(vv.o _ Dg.o).mono ?_;rintro e w1 ⟨rfl,A⟩;have dz:=ai (VJ.o.trans (A.mono VJ.o.size));have hz:=aO Q.o A (aM Q.o);have af:=ai hz;obtain⟨k0,k1,k2,k3⟩:=agV hz;have kf:=br hz;clear hz A;go_simp))
          all_goals
           go_wp2_with fail
           go_meet
           case rel=>exact⟨_,rfl,rfl,by first | exact dm (dm (dm (dm af.o 0 _) 1 _) 2 _) 3 _ | exact bG w1 _ _,by first | exact dz.o.alloc dz.o.size _ | exact(((dz.o.setCell (p:=(Ad W1.heap.size 0)) (aJ _) _).setCell (p:=(Ad W1.heap.size 1)) (aJ _) _).setCell (p:=(Ad W1.heap.size 2)) (aJ _) _).setCell (p:=(Ad W1.heap.size 3)) (aJ _) _⟩
         case rest =>
          obtain⟨g,rfl,rfl,a5,X⟩:=hcut;have B:=Th.o.below X;obtain⟨x0,x1,x2⟩:=uo (aO G.o X (aM G.o));obtain⟨y0,y1,y2,y3⟩:=agV a5;obtain⟨v0,v1,v2,v3⟩:=agV B.ab;have f0:=br B.ab 0;have f1:=br B.ab 1;have f2:=br B.ab 2;have f3:=br B.ab 3;have O:Hid (∀V,V=(((wc.setCell (Ad (w.heap.size+2) 0) (I g1)).setCell (Ad (w.heap.size+2) 1) (I g2)).setCell (Ad (w.heap.size+2) 2) (I g3)).setCell (Ad (w.heap.size+2) 3) (.bool g4)->Fj w C0 (qV y pg ⟨g1,g2,g3,g4⟩) V):=λV hV=>B.lay hV
          obtain⟨yn,yp,yf,⟨q1,q2,q3,q4⟩⟩:=y;simp only at v0 v1 v2 v3 ae;clear a5 X B xB Dg UD VJ Q vv Th G R;rcases(show yf=false\/(yf=true/\yn=0)\/(yf=true/\¬yn=0/\¬pg=yp)\/(yf=true/\¬yn=0/\pg=yp) by cases yf <;> simp <;> omega) with h1 | ⟨h1,h2⟩ | ⟨h1,h2,h3⟩ | ⟨h1,h2,h3⟩
          . subst h1;go_wp2;go_roundw
            case rel=>exact⟨m+1,qV ⟨yn,yp,false,⟨q1,q2,q3,q4⟩⟩ pg ⟨g1,g2,g3,g4⟩,ω,by go_num,PA.o.symm,rfl,rfl,rfl,by show 0<=yn+1/\yn+1<=65025*(j:Int)+((m+1:Nat):Int);omega,O.o _ rfl⟩
            case measure=>simp[intOf];omega
          . subst h1;subst h2;go_wp2;go_roundw
            case rel=>exact⟨m+1,qV ⟨0,yp,true,⟨q1,q2,q3,q4⟩⟩ pg ⟨g1,g2,g3,g4⟩,ω,by go_num,PA.o.symm,rfl,rfl,rfl,by show 0<=(0:Int)+1/\(0:Int)+1<=65025*(j:Int)+((m+1:Nat):Int);omega,O.o _ rfl⟩
            case measure=>simp[intOf];omega
          . subst h1;have b2:(yn==0)=false:=by simpa using h2
            have b3:(pg==yp)=false:=by simpa using h3
            go_wp2;go_roundw
            case rel=>exact⟨m+1,qV ⟨yn,yp,true,⟨q1,q2,q3,q4⟩⟩ pg ⟨g1,g2,g3,g4⟩,ω,by go_num,PA.o.symm,rfl,rfl,by unfold qV;simp[h2,h3],by show 0<=yn+1/\yn+1<=65025*(j:Int)+((m+1:Nat):Int);omega,O.o _ rfl⟩
            case measure=>simp[intOf];omega
          subst h1;subst h3;have b2:(yn==0)=false:=by simpa using h2
          go_wp2;go_roundw
          case rel=>exact⟨m+1,qV ⟨yn,pg,true,⟨q1,q2,q3,q4⟩⟩ pg ⟨g1,g2,g3,g4⟩,ω,by go_num,PA.o.symm,rfl,rfl,by unfold qV;simp[h2],by show 0<=yn+1/\yn+1<=65025*(j:Int)+((m+1:Nat):Int);omega,O.o _ rfl⟩
          case measure=>simp[intOf];omega
       have J:qW xy es kd at_ x (m+1)=y:=by
        rw[Cu.o];unfold Gu;rw[aH hk]
       have PA:=ai J;clear Cu vv J;rcases(ω:¬kx=kd\/(kx=kd/\¬lx=at_)) with h1 | ⟨h1,h2⟩
       . have b1:(kx != kd)=true:=by simpa using h1
         go_upto_region 10 with fail;rw[<- Fp.o];go_wp2;go_roundw
         case rel=>exact⟨m+1,y,ω,by go_num,PA.o.symm,rfl,rfl,rfl,ω,Th.o⟩
         case measure=>simp[intOf];omega
       subst h1;have b2:(lx != at_)=true:=by simpa using h2
       go_upto_region 10 with fail;rw[<- Fp.o];go_wp2;go_roundw
       case rel=>exact⟨m+1,y,ω,by go_num,PA.o.symm,rfl,rfl,rfl,ω,Th.o⟩
       case measure=>simp[intOf];omega
     obtain rfl:m=es.length:=by omega
     have ac:Hid (y=AW k.aj kd at_ (j+1)):=HY.o.trans K.o.symm;clear vt a1 Nt T;go_wp2;go_roundw
     case rel=>exact⟨j+1,y,ω,by go_num,ac.o,rfl,rfl,rfl,ω,R.o⟩
     case measure=>simp[intOf];omega
  obtain rfl:j=n0:=by omega
  have ZQ:=MH.rb;obtain⟨y0,y1,y2,y3⟩:=agV MH.ab;obtain⟨v0,v1,v2,v3⟩:=agV ZQ;have f0:=br ZQ 0;have f1:=br ZQ 1;have f2:=br ZQ 2;have f3:=br ZQ 3;have ag:Hid (∀p q r s:Value,((((wr.setCell (Ad (w.heap.size+1) 0) p).setCell (Ad (w.heap.size+1) 1) q).setCell (Ad (w.heap.size+1) 2) r).setCell (Ad (w.heap.size+1) 3) s).heap[w.heap.size+1]?=some (.cells #[p,q,r,s] 139 (0,0))/\Below w.heap.size w ((((wr.setCell (Ad (w.heap.size+1) 0) p).setCell (Ad (w.heap.size+1) 1) q).setCell (Ad (w.heap.size+1) 2) r).setCell (Ad (w.heap.size+1) 3) s)):=λp q r s=>⟨dm (dm (dm (dm ZQ 0 p) 1 q) 2 r) 3 s,by
   have hb:=MH.Tq;exact(((hb.setCell (p:=(Ad (w.heap.size+1) 0)) (iO _) _).setCell (p:=(Ad (w.heap.size+1) 1)) (iO _) _).setCell (p:=(Ad (w.heap.size+1) 2)) (iO _) _).setCell (p:=(Ad (w.heap.size+1) 3)) (iO _) _⟩
  obtain⟨xn,xp,xf,⟨q1,q2,q3,q4⟩⟩:=x;simp only at y0 y1 y2 y3;clear hx MH ZQ Yr Z a0 L a2 Sr a6;go_upto_region 16 with fail;go_region;go_wp2;obtain⟨r1,r2⟩:=ag.o (I q1) (I q2) (I q3) (.bool q4);obtain⟨y0,y1,y2,y3⟩:=agV (aO r1 (aN _ _).drew (aM r1));refine bW (v:=.tuple #[I xn,I xp,.bool xf,.agg #[I q1,I q2,I q3,.bool q4]]) (by simp[results,results92,go_sem,y0,y1,y2,y3]) rfl ⟨by rw[<- HX.o],r2.drew⟩
def xm (n a b:Int):Bool:=decide (a<=n/\n<=b)
theorem J7 (n a b:Int):xm n a b=true↔a<=n/\n<=b:=⟨λh=>kr h,λh=>dW h⟩
theorem xX (n a b:Int) (w:World):Calls prog 33 #[I n,I a,I b] w λe w'=>e=.returned (.bool (xm n a b))/\w=w':=ir n a b w
theorem Jl (a:aU):(fF a.page a.aY&&jg a.gh)=true↔xm a.page 1 255=true/\xm a.aY 1 255=true/\a.page+a.aY-1<=255/\xm a.gh 0 3=true:=by
 grind [lG,G5,J7]
variable (l:List aU)
theorem U6 (hn:¬255<l.length) (h:i9 l l.length=false):bf l=1:=by
 unfold bf;rw[aH hn,aH];intro hg;have:=(E3 l l.length hg).1
 grind
theorem U5 (hn:¬255<l.length) (h:kG l l.length=false):bf l=1:=by
 unfold bf;rw[aH hn,aH];intro hg;have:=(E3 l l.length hg).2
 grind
theorem Jm (hn:¬255<l.length) (h:i9 l l.length=true):bf l=0↔gH (dA l)=l:=by
 grind [NM,sF,ME]
theorem ab8 (hn:¬255<l.length) (h:bf l≠0):bf l=1:=by
 grind [bf]
theorem Zq (ao:Option Addr) (cap:Nat) (w:World) :
  Calls prog 136 #[.slice ao 0 cap] w λe w'=>∃C,e=.returned (.tuple #[.agg C,.bool (kG [] 0)])/\MB [] C/\Below w.heap.size w w':=by
 obtain⟨Z,hZ⟩:=ex (jD (λ_=>0));have hz:=Zj;rw[<- hZ] at hz;have HZ:Hid (Z=jD (λ_=>0)):=hZ;have r:Z.size=256:=by grind [xu]
 have q:Z.all (·.oneCell')=true:=by grind [Df]
 have h:Hid (Z.all (·.oneCell')=true):=q;clear hZ q;have HR:Hid (((w.alloc (.cells Z 245)).alloc (.cells Z 245)).heap[w.heap.size]?=some (.cells Z 245 (0,0))):=bB (bG w Z 245) _;have HA:Hid (((w.alloc (.cells Z 245)).alloc (.cells Z 245)).heap[w.heap.size+1]?=some (.cells Z 245 (0,0))):=by
  grind [World.alloc]
 have HB:Hid (Below w.heap.size w ((w.alloc (.cells Z 245)).alloc (.cells Z 245))):=((aN _ _).alloc (aJ _) _).alloc ξ _;go_enter func136,ntmps136;go_wp2;refine zE 1 ?_;rw[zz];go_wp2_with (first | (refine vZ rfl 245 _ rfl (w.heap.size+1) rfl 245 Z (0,0) _ HA.o underlying245 rfl (by grind [oY]) ?_) | (refine yc rfl 245 _ _ rfl w.heap.size Z rfl rfl 245 Z HR.o (by rw[r];exact oY) rfl h.o ?_));have b:=pW _ _ _ Z 245 (0,0) HR.o;have y:=Wf (P:=prog) _ _ 245 245 Z (0,0) _ b underlying245 rfl (by grind [oY]);refine bW (v:=.tuple #[.agg Z,.bool true]) ?_ rfl ⟨Z,rfl,⟨r,h.o,λ_=>HZ.o⟩,below_setRow HB.o (aJ _) _⟩;rw[Wi rfl]
 simp_all [asAddr]
theorem SY (v:Value) (w:World) (h:eN w v l) (he:i9 l l.length=true) (hn:l.length<=255) :
  Calls prog 136 #[v] w λe w'=>∃C,e=.returned (.tuple #[.agg C,.bool (kG l l.length)])/\MB l C/\Below w.heap.size w w':=by
 obtain⟨ao,cap,rfl,h⟩:=h;rcases h with rfl | ⟨b,off,rfl,hl⟩
 . exact Zq ao cap w
 exact PX l b off cap w hl he hn
theorem NI (v:Value) (w:World) (h:eN w v l) (he:i9 l l.length=true) (hn:¬255<l.length) (ao:Option Addr) (cap:Nat) (hv:v=.slice ao l.length cap)
  (alO:∀i,i<l.length->∃b off,ao=some (Ad b off)/\ru w b off l) :
  Calls prog 80 #[.slice ao l.length cap] w λe w'=>e=.returned (I (bf l))/\Below w.heap.size w w':=by
 have HH:Hid (eN w (.slice ao l.length cap) l):=by show eN _ _ _;grind
 have HE:Hid (i9 l l.length=true):=he;have HL:Hid (∀i,i<l.length->∃b off,ao=some (Ad b off)/\ru w b off l):=alO;have B:Hid (¬255<l.length):=hn;have W:¬(255:Int)<(l.length:Int):=by omega
 obtain⟨Z,hZ⟩:=ex (jD (λ_=>0));have hz:=Zj;rw[<- hZ] at hz;have X:Z.size=256:=by grind [xu]
 clear h he hv alO hZ;go_enter func80,ntmps80;go_wp2;go_loopw [3] (λi wr=>∃k:Nat,k<=l.length/\i=I k/\Below w.heap.size w wr) (λi _=>l.length-(intOf i).toNat)
 case atStart=>grind [Below.refl]
 case round =>
  obtain⟨k,hk,rfl,hb⟩:=hrel;have HB:Hid (Below w.heap.size w wr):=hb;by_cases hlt:k<l.length
  . obtain⟨b,off,Q,hl⟩:=HL.o k hlt;obtain⟨c0,c1,c2,c3⟩:=hl.below hb k hlt;have hw:=E5 l _ HE.o k hlt;have N:=(Jl (bw l k)).1 (by rw[hw.1,hw.2];rfl);have O:=(lG _ _).1 hw.1;generalize bw l k=a at c0 c1 c2 c3 N O;clear hb hl hw;subst Q;obtain⟨d1,d2,d3,d4⟩:=N;have Y:¬255<a.page+a.aY-1:=by omega
    have Il:(k:Int)<(l.length:Int):=by omega
    go_wp2_with (first | (go_at_call 33;refine(xX _ _ _ _).mono ?_;rintro e w' ⟨rfl,rfl⟩))
    go_roundw
    case rel=>exact⟨k+1,ω,by go_num,HB.o.alloc HB.o.size _⟩
    case measure=>simp[intOf];omega
  obtain rfl:k=l.length:=by omega
  clear hb;go_wp2_with fail;refine(SY l (.slice ao l.length cap) _ (HH.o.below HB.o) HE.o ω).mono ?_;rintro e w2 ⟨C,rfl,hC,M⟩;have Tk:Hid (MB l C):=hC;have A:C.size=256:=hC.1;have K:C.all (·.oneCell')=true:=hC.2.1;have G:Hid (C.all (·.oneCell')=true):=K;have iI:Hid (Below w.heap.size w w2):=HB.o.trans (M.mono HB.o.size);clear hC K M;have Br:Hid ((w2.alloc (.cells Z 245)).heap[w2.heap.size]?=some (.cells Z 245 (0,0))):=bG w2 Z 245;have J:Hid (((w2.alloc (.cells Z 245)).setRow w2.heap.size C).heap[w2.heap.size]?=some (.cells C 245 (0,0))):=pW _ _ _ _ 245 (0,0) Br.out;have kE:Hid (Below w.heap.size w ((w2.alloc (.cells Z 245)).setRow w2.heap.size C)):=below_setRow (iI.o.alloc iI.o.size _) iI.o.size _;by_cases hr:kG l l.length=true
  . have T:Hid (C=zy (dA l)):=Tk.o.2.2 hr;go_wp2_with (first | (refine yc rfl 245 _ _ rfl w2.heap.size C rfl rfl 245 Z Br.out (by rw[A];exact oY) ω G.o ?_) | (refine vZ rfl 245 _ rfl w2.heap.size rfl 245 C (0,0) _ J.o underlying245 rfl (by rw[A];exact oY) ?_));refine wp_load_row 245 _ rfl w2.heap.size rfl 245 C (0,0) _ J.o underlying245 rfl (by rw[A];exact oY) ?_;go_wp2_with fail;have y:=S4 (dA l) (ME l HE.o) ((w2.alloc (.cells Z 245)).setRow w2.heap.size C);rw[show jD (λn=>qF (dA l n))=C from T.out.symm] at y;refine y.mono ?_;clear y;rintro e w3 ⟨v3,rfl,h3,L⟩;have vX:Hid (Below w.heap.size w w3):=kE.o.trans (L.mono kE.o.size);have U:Hid (eN w3 v3 (gH (dA l))):=h3;clear L h3;go_wp2_with fail;refine(OT (gH (dA l)) l v3 (.slice ao l.length cap) _ U.o (HH.o.below vX.o) (by have:=sN (dA l) 256;unfold gH;omega) ω).mono ?_;rintro e w4 ⟨r,rfl,F,Hp⟩;have J0:Hid (Below w.heap.size w w4):=vX.o.trans (Hp.mono vX.o.size);have Ii:Hid (r=true↔gH (dA l)=l):=F;clear Hp F;cases r
    . have q:Hid (bf l=1):=ab8 l B.o (λe=>by have:=Ii.o.2 ((Jm l B.o HE.o).1 e);cases this);go_wp2;go_ret;exact⟨lT q.out.symm,J0.o⟩
    have q:Hid (bf l=0):=(Jm l B.o HE.o).2 (Ii.o.1 rfl);go_wp2;go_ret;exact⟨lT q.out.symm,J0.o⟩
  have R:kG l l.length=false:=by simpa using hr
  have q:Hid (bf l=1):=U5 l B.o R;go_wp2_with (refine yc rfl 245 _ _ rfl w2.heap.size C rfl rfl 245 Z Br.out (by rw[A];exact oY) ω G.o ?_);go_ret;exact⟨lT q.out.symm,kE.o⟩
theorem PQ (b off cap:Nat) (w:World) (hl:ru w b off l) (hf:∀i,i<l.length->Ag (bw l i)) (he:i9 l l.length=false) (hn:¬255<l.length) :
  Calls prog 80 #[.slice (some (Ad b off)) l.length cap] w λe w'=>e=.returned (I (bf l))/\Below w.heap.size w w':=by
 have h:Hid (bf l=1):=U6 l hn he;have HE:Hid (i9 l l.length=false):=he;have J:¬(255:Int)<(l.length:Int):=by omega
 clear he;go_enter func80,ntmps80;go_wp2;go_loopw [3] (λi wr=>∃k:Nat,k<=l.length/\i=I k/\i9 l k=true/\Below w.heap.size w wr) (λi _=>l.length-(intOf i).toNat)
 case atStart=>exact⟨0,ω,rfl,rfl,aN _ _⟩
 case round =>
  obtain⟨k,hk,rfl,r,hb⟩:=hrel;have HB:Hid (Below w.heap.size w wr):=hb;have q:Hid (i9 l k=true):=r;clear r;by_cases hlt:k<l.length
  . obtain⟨c0,c1,c2,c3⟩:=hl.below hb k hlt;obtain⟨f1,f2,f3⟩:=hf k hlt;have hw:=Jl (bw l k);obtain⟨a,ha⟩:=ex (bw l k);rw[<- ha] at c0 c1 c2 c3 f1 f2 f3 hw;have HW:Hid ((fF a.page a.aY&&jg a.gh)=true↔xm a.page 1 255=true/\xm a.aY 1 255=true/\a.page+a.aY-1<=255/\xm a.gh 0 3=true):=hw;have HA:Hid (a=bw l k):=ha;clear ha hb hw;have Il:(k:Int)<(l.length:Int):=by omega
    by_cases d1:xm a.page 1 255=true
    . have b1:=(J7 _ _ _).1 d1;by_cases d2:xm a.aY 1 255=true
      . have b2:=(J7 _ _ _).1 d2;by_cases d3:a.page+a.aY-1<=255
        . have y:¬255<a.page+a.aY-1:=by omega
          by_cases d4:xm a.gh 0 3=true
          . have A:Hid (i9 l (k+1)=true):=by show _=_;simp only[i9,q.o,ju];rw[<- HA.o];exact HW.o.2 ⟨d1,d2,d3,d4⟩
            go_wp2_with (first | (go_at_call 33;refine(xX _ _ _ _).mono ?_;rintro e w' ⟨rfl,rfl⟩))
            go_roundw
            case rel=>exact⟨k+1,ω,by go_num,A.out,HB.o.alloc HB.o.size _⟩
            case measure=>simp[intOf];omega
          have G:xm a.gh 0 3=false:=by simpa using d4
          clear d4;go_wp2_with (first | (go_at_call 33;refine(xX _ _ _ _).mono ?_;rintro e w' ⟨rfl,rfl⟩));go_ret;exact⟨lT h.out.symm,HB.o.alloc HB.o.size _⟩
        have y:255<a.page+a.aY-1:=by omega
        go_wp2_with (first | (go_at_call 33;refine(xX _ _ _ _).mono ?_;rintro e w' ⟨rfl,rfl⟩))
        go_ret;exact⟨lT h.out.symm,HB.o.alloc HB.o.size _⟩
      have B:xm a.aY 1 255=false:=by simpa using d2
      clear d2;go_wp2_with (first | (go_at_call 33;refine(xX _ _ _ _).mono ?_;rintro e w' ⟨rfl,rfl⟩));go_ret;exact⟨lT h.out.symm,HB.o.alloc HB.o.size _⟩
    have F:xm a.page 1 255=false:=by simpa using d1
    clear d1;go_wp2_with (first | (go_at_call 33;refine(xX _ _ _ _).mono ?_;rintro e w' ⟨rfl,rfl⟩));go_ret;exact⟨lT h.out.symm,HB.o.alloc HB.o.size _⟩
  exfalso;obtain rfl:k=l.length:=by omega
  have:=q.o;rw[HE.o] at this
  grind
theorem NJ (n:Nat) (ao:Option Addr) (cap:Nat) (w:World) (hn:255<n) (hm:n<=140737488351232) :
  Calls prog 80 #[.slice ao n cap] w λe w'=>e=.returned (I 2)/\Below w.heap.size w w':=by
 have b:(255:Int)<(n:Int):=by omega
 go_enter func80,ntmps80;go_wp2;go_ret;exact⟨rfl,aN _ _⟩
theorem Fw (v:Value) (w:World) (h:eN w v l) (hf:dG l) :
  Calls prog 80 #[v] w λe w'=>e=.returned (I (bf l))/\Below w.heap.size w w':=by
 have h':=h;obtain⟨ao,cap,rfl,hh⟩:=h;by_cases hn:255<l.length
 . have e:bf l=2:=by grind [bf]
   rw[e];exact NJ l.length ao cap w hn hf.2
 by_cases he:i9 l l.length=true
 . refine NI l _ w h' he hn ao cap rfl (λi hi=>?_)
   grind
 have q:i9 l l.length=false:=by grind
 rcases hh with e | ⟨b,off,r,hl⟩
 . subst e;simp[i9] at q
 subst r;exact PQ l b off cap w hl hf.1 q hn
end Go.Proofs.YtlgoihmkgaaemaaGreat
