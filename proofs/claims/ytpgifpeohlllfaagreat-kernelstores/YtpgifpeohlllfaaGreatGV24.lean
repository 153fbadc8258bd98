import Derived.Test.YtpgifpeohlllfaaGreatGV23
set_option maxHeartbeats 20000000
set_option linter.unusedVariables false
set_option maxRecDepth 100000
set_option linter.unusedSimpArgs false
namespace Go.Proofs.YtpgifpeohlllfaaGreat
namespace Go.Proofs.YtpgifpeohlllfaaGreat
open Go.RowKit
theorem yJ (k:aN) (l:List Nat) (s:ByteArray):∀n,(ll k l s n).frames.length=k.frames.length
 | 0=>rfl
 | n+1=>by
  unfold ll nu;show(List.set _ _ _).length=_;rw[jk,yJ k l s n]
theorem XT {lo mb:Nat} {tt:TypeId} {X:List Value} (k:aN) (S:dN) (w:World) (l:List Nat) (s:ByteArray) (av:Option Addr) (cv:Nat) (h:bQ lo mb tt X w S k) (hH:kL w S av (AJ l)) (hl:∀n,n<l.length->l.getD n 0<k.frames.length) (hll:l.length<=2) (hs:l.length*16<=s.size) (hs2:s.size<=1000) (rU:0<k.frames.length) :
  Calls Tryz.prog 66 #[.pointer (some (Ad mb 0)),.slice av l.length cv,.string s] w (kW lo mb tt X w S (.tuple #[]) (ll k l s l.length)):=by
 have HH:=ai hH;have HL:=ai hl;have Kv:Hid (∀V n,n<l.length->bQ lo mb tt X V S (ll k l s n)->∃fb cF,¬mb=fb/\V.cell? (Ad mb 1)=some (.slice (some (Ad fb 0)) k.frames.length cF)/\(∀V',Below V.heap.size V V'->V'.cell? (Ad fb (l.getD n 0*4))=some (.string (au (ll k l s n).frames (l.getD n 0)).data)/\V'.frozen? (Ad fb (l.getD n 0*4))=false/\bQ lo mb tt X (V'.setCell (Ad fb (l.getD n 0*4)) (.string (s.extract (n*16) (n*16+16)))) S (ll k l s (n+1))/\dI S V S (V'.setCell (Ad fb (l.getD n 0*4)) (.string (s.extract (n*16) (n*16+16)))))):=fun V n hn hV=>by
  obtain⟨fb,cF,A⟩:=hV.toiZ.fr (by grind [yJ]);have c1:=hV.c1;rw[A.v,yJ] at c1;refine⟨fb,cF,fun e=>by have:=A.lab;grind [bQ.lH],c1,fun V' hb=>?_⟩;have hV':=hV.below hb;obtain⟨fb',cF',A'⟩:=hV'.toiZ.fr (by grind [yJ]);have e:fb'=fb:=by
   have:=A'.v;rw[A.v] at this
   grind
  subst e;have hi:l.getD n 0<(ll k l s n).frames.length:=by grind [yJ]
  exact⟨A'.x0 _ hi,A'.fz _,hV'.Ch A'.v hi (j:=0) (by omega) rfl,(dI.below hb).trans (tV hV'.toiZ A'.v)⟩
 have HPA:Hid (∀V n,n<l.length->Calls Tryz.prog 63 #[.string s,I ((n:Int)*16),I 16] V fun e w'=>e=.returned (.tuple #[.string (s.extract (n*16) (n*16+16)),I 0])/\Below V.heap.size V w'):=fun V n hn=>by
  have:=Fa s (n*16) 16 V (by omega) (by omega);rw[show((n*16:Nat):Int)=(n:Int)*16 by omega,show((16:Nat):Int)=16 from rfl] at this;exact this
 have rz:=ai h;have cZ:Hid (∀V,bQ lo mb tt X V S (ll k l s l.length)->dI S w S V->kW lo mb tt X w S (.tuple #[]) (ll k l s l.length) (.returned (.tuple #[])) V):=fun V h1 h2=>⟨rfl,h1,h2⟩
 obtain⟨P,hP⟩:=ex (kW lo mb tt X w S (.tuple #[]) (ll k l s l.length));rw[<- hP] at cZ ⊢;obtain⟨nf,Xc⟩:=ex k.frames.length;rw[<- Xc] at Kv HL;clear h hH hl rU Xc hs hs2 hP;go_enter Tryz.func66,Tryz.ntmps66;go_wp2;go_loopw [10] (fun iv wr=>∃n:Nat,n<=l.length/\iv=I (n:Int)/\bQ lo mb tt X wr S (ll k l s n)/\dI S w S wr) (fun iv _=>l.length-(intOf iv).toNat)
 case atStart=>exact⟨0,by omega,rfl,rz.o,dI.refl _ _⟩
 case round =>
  obtain⟨n,hn,rfl,jn,hch⟩:=hrel;by_cases hlt:n<l.length
  · have hni:(n:Int)<(l.length:Int):=by omega
    have yA:=HH.o.ch hch;obtain⟨eb,eo,hao,hbl,fG⟩:=yA.has (by rw[CM];omega);subst hao;have y0:=fG n (by rw[CM];exact hlt) 0 (by omega);rw[gV,NC] at y0;have e0:=Tc l n hlt;have x0:wr.cell? (Ad eb (eo+n))=some (I ((l.getD n 0:Nat):Int)):=by
     rw[<- e0];exact y0
    have hq:=HL.o n hlt;obtain⟨fb,cF,hmf,c1,hwr⟩:=Kv.o wr n hlt jn;have HWR:=ai hwr;have ajU:=ai (fun V=>HPA.o V n hlt);have TE:=ai hch;obtain⟨q,hqe⟩:=ex (l.getD n 0);rw[<- hqe] at x0 hq HWR;obtain⟨FD,hFD⟩:=ex ((au (ll k l s n).frames q).data);rw[<- hFD] at HWR;obtain⟨PD,hPD⟩:=ex (s.extract (n*16) (n*16+16));rw[<- hPD] at HWR ajU;have hqi:(q:Int)<(nf:Int):=by omega
    have Bk:mb<wr.heap.size:=nQ wr _ c1;have hmu:IntKind.i64.wrap ((n:Int)*16)=(n:Int)*16:=mP _ (by omega);clear fG y0 e0 hqe hFD hPD jn hch hwr yA rz;go_upto_region 3 with fail;have rz:=ai (aK wr.heap.size wr).drew;have gj:Hid (wr.drew.cell? (Ad mb 1)=some (.slice (some (Ad fb 0)) nf cF)):=(rz.o.cell (p:=(Ad mb 1)) Bk).trans c1
    go_region_held3 (fun V=>V.cell? (Ad mb 1)=some (.slice (some (Ad fb 0)) nf cF)) (first | exact vr.o | exact gj.o | exact HS4.o)
     ((go_at_call 63;refine(ajU.o _).mono ?_;rintro r w5 ⟨rfl,Cf⟩;have Bj:=ai (rz.o.trans (Cf.mono rz.o.size));have vr:Hid (w5.cell? (Ad mb 1)=some (.slice (some (Ad fb 0)) nf cF)):=(Bj.o.cell (p:=(Ad mb 1)) Bk).trans c1;have HS4:Hid ((w5.setCell (Ad fb (q*4)) (.string PD)).cell? (Ad mb 1)=some (.slice (some (Ad fb 0)) nf cF)):=(fO _ _ _ _ _ _ hmf).trans vr.o;obtain⟨z0,z1,z2,z3⟩:=HWR.o w5 Bj.o;have BI:=ai z2;have HZ3:=ai z3;clear Cf z2 z3))
    all_goals clear gj vr HS4 ajU
    all_goals go_wp2
    go_roundw
    case rel=>exact⟨n+1,by omega,by go_num,BI.o,TE.o.trans HZ3.o⟩
    case measure=>simp[intOf];omega
  · obtain rfl:n=l.length:=by omega
    have HX:=ai (cZ.o wr jn hch);clear jn hch;go_wp2
    first
     | exact HX.o
     | (refine q9 (v:=.tuple #[]) (by simp[results,Tryz.results66,go_sem]) rfl ?_;exact HX.o)
theorem gY {W:World} {rb:Nat} (hr:W.heap[rb]?=some (.cells #[Nl,Nl,Nl,Nl,I 0] 27 (0,0))) (s f l p h:Value) {V:World} (hV:V=((((W.setCell (Ad rb 0) s).setCell (Ad rb 1) f).setCell (Ad rb 2) l).setCell (Ad rb 3) p).setCell (Ad rb 4) h) :
  V.heap[rb]?=some (.cells #[s,f,l,p,h] 27 (0,0))/\aH (fun b=>b=rb) W V:=by
 subst hV;refine⟨dG (dG (dG (dG (dG hr 0 s) 1 f) 2 l) 3 p) 4 h,?_⟩;have k:∀(A:World) (j:Nat) (v:Value),aH (fun b=>b=rb) A (A.setCell (Ad rb j) v):=fun A j v=>aH.set _ A (Ad rb j) v rfl
 exact((((k _ _ _).trans (k _ _ _) (fun _ _ g=>g)).trans (k _ _ _) (fun _ _ g=>g)).trans (k _ _ _) (fun _ _ g=>g)).trans (k _ _ _) (fun _ _ g=>g)
theorem Re {l:List bc} {hs:List bM} {en:Int} (h:pP l hs en=0):br l=0/\fJ hs=true/\(hs.length:Int)=cI l:=by
 grind [Ra,La,cI]
def Og (l:List bc) (hs:List bM) (nf ns:Int):aN:=⟨hs,List.replicate nf.toNat gD,List.replicate ns.toNat nU,[⟨true,l,[]⟩],0⟩
def Oh (l:List bc) (hs:List bM) (en nf ns:Int):aN×Int:=if pP l hs en≠0 then (cJ,pP l hs en) else if nf<3 then (cJ,9) else if nf>64∨ns<0∨ns>512 then (cJ,3) else if cI l>ns then (cJ,8) else (Og l hs nf ns,0)
def ru (n:Nat):Array Value:=madeCells #[.string ⟨#[]⟩,I 0,.bool false,.bool false] (n*4)
def rq (n:Nat):Array Value:=madeCells #[.string ⟨#[]⟩,I 0] (n*2)
theorem aeM:(Tryz.prog.info? 40).map (fun i=>(i.zero,i.size,i.bytes))=some (some (.agg #[.string ⟨#[]⟩,I 0,.bool false,.bool false]),4,32):=by rfl
theorem aeL:(Tryz.prog.info? 86).map (fun i=>(i.zero,i.size,i.bytes))=some (some (.agg #[.string ⟨#[]⟩,I 0]),2,24):=by rfl
theorem aju (V:World) (n:Int) (h0:0<=n) (hn:n<=1000):(Instr.makeSlice 23 (I n) (I n)).run Tryz.prog V=.ok (.slice (some (Ad V.heap.size 0)) n.toNat n.toNat) (V.alloc (.cells (ru n.toNat) 40)):=by
 obtain⟨i0,hi,hz0,hz1,hz2⟩:=iq aeM;have h:=run_make (P:=Tryz.prog) V 23 40 i0 _ Tryz.underlying23 hi hz0 .i64 .i64 n n h0 (zG _) (by grind) (by omega);rw[hz1] at h;exact h
theorem ajt (V:World) (n:Int) (h0:0<=n) (hn:n<=1000):(Instr.makeSlice 24 (I n) (I n)).run Tryz.prog V=.ok (.slice (some (Ad V.heap.size 0)) n.toNat n.toNat) (V.alloc (.cells (rq n.toNat) 86)):=by
 obtain⟨i0,hi,hz0,hz1,hz2⟩:=iq aeL;have h:=run_make (P:=Tryz.prog) V 24 86 i0 _ Tryz.underlying24 hi hz0 .i64 .i64 n n h0 (zG _) (by grind) (by omega);rw[hz1] at h;exact h
theorem SV {α:Type} (x d:α) (n i:Nat) (hi:i<n):(List.replicate n x).getD i d=x:=by
 grind
theorem Pe (c:Array Value) (n i j m:Nat) (hc:c.size=m) (hi:i<n) (hj:j<m):(madeCells c (n*m))[i*m+j]?=c[j]?:=by
 have h1:i*m+j<n*m:=by
  have:(i+1)*m<=n*m:=Nat.mul_le_mul_right m hi
  grind
 grind [Nat.mul_comm,Nat.mul_add_mod,Nat.mod_eq_of_lt,madeCells]
theorem aao {W:World} {l:List bc} {hs:List bM} {nf ns:Nat} {va:Value} {ao:Option Addr} {cap fb sb pb:Nat} (ha:eU W va l) (hh:iM W ao hs) (hf:W.heap[fb]?=some (.cells (ru nf) 40 (0,0))) (hl:W.heap[sb]?=some (.cells (rq ns) 86 (0,0))) (hp:W.heap[pb]?=some (.cells #[.bool true,va,Nl] 43 (0,0))) :
  fT W ⟨ao,cap,some (Ad fb 0),nf,some (Ad sb 0),ns,some (Ad pb 0),1⟩ ⟨hs,List.replicate nf gD,List.replicate ns nU,[⟨true,l,[]⟩],0⟩:=by
 refine⟨hh,fun _=>⟨fb,0,rfl,aO hf,fun i hi j hj=>?_⟩,fun _=>⟨sb,0,rfl,aO hl,fun i hi j hj=>?_⟩,fun _=>⟨pb,0,rfl,aO hp,fun i hi=>?_⟩⟩
 · rw[Co] at hi;rw[SV _ _ _ _ hi];have e:=Pe #[.string ⟨#[]⟩,I 0,.bool false,.bool false] nf i j 4 rfl hi hj;rw[iI]
   match j,hj with
   | 0,_=>exact aB hf _ e
   | 1,_=>exact aB hf _ e
   | 2,_=>exact aB hf _ e
   | 3,_=>exact aB hf _ e
   | j+4,h=>omega
 · rw[Co] at hi;rw[SV _ _ _ _ hi];have e:=Pe #[.string ⟨#[]⟩,I 0] ns i j 2 rfl hi hj;rw[iI]
   match j,hj with
   | 0,_=>exact aB hl _ e
   | 1,_=>exact aB hl _ e
   | j+2,h=>omega
 · obtain rfl:i=0:=by
    grind
   exact⟨va,none,0,aB hp 0 rfl,aB hp 1 rfl,aB hp 2 rfl,ha,fun h=>absurd h (jQ _),aM _⟩
theorem UJ {l:List bc} {hs:List bM} {en:Int} (h:pP l hs en=0) (nf ns:Nat) (hf:nf<=1000) (hn:ns<=1000):yH ⟨hs,List.replicate nf gD,List.replicate ns nU,[⟨true,l,[]⟩],0⟩:=by
 obtain⟨h1,h2,h3⟩:=Re h;have h4:=nZ l;have h5:=kg _ h1;refine⟨by grind,fun i hi=>?_,by grind,by grind,by grind,fun i hi=>?_,fun i hi=>?_⟩
 · grind [Gs]
 · obtain rfl:i=0:=by
    grind
   show l.length<=_;omega
 · obtain rfl:i=0:=by
    grind
   exact ql _
theorem nN (V:World) (A:Obj) (c:Array Value) (t:TypeId):((V.alloc A).alloc (.cells c t)).heap[V.heap.size+1]?=some (.cells c t (0,0)):=by
 grind [bG,World.size_alloc]
theorem qg (V:World) (A A':Obj) (c:Array Value) (t:TypeId):(((V.alloc A).alloc A').alloc (.cells c t)).heap[V.heap.size+1+1]?=some (.cells c t (0,0)):=by
 grind [bG,World.size_alloc]
theorem aam (zw:oD) (l:List bc) (hs:List bM) (en nf ns:Int) (va:Value) (ao:Option Addr) (cap:Nat) (w:World) (ha:eU w va l) (hf:ed l) (h:iM w ao hs) (Ks:qI hs) (hcap:hs.length<=cap) (he:dY en) :
  Calls Tryz.prog 18 #[.agg #[va,.slice ao hs.length cap,I en],I nf,I ns] w (bN w (Oh l hs en nf ns).1 [I (Oh l hs en nf ns).2]):=by
 obtain⟨aa,ca,yt,_⟩:=id ha;subst yt;obtain⟨WA,iK⟩:=ex ((w.alloc (.cells #[.slice aa l.length ca,.slice ao hs.length cap,I en] 30)).alloc (.cells #[Nl,Nl,Nl,Nl,I 0] 27));have hb0:Below w.heap.size w WA:=by simp_all [aK,mq]
 have kb:WA.heap[w.heap.size]?=some (.cells #[.slice aa l.length ca,.slice ao hs.length cap,I en] 30 (0,0)):=by grind [bE,bG]
 have rb:WA.heap[w.heap.size+1]?=some (.cells #[Nl,Nl,Nl,Nl,I 0] 27 (0,0)):=by grind [nN]
 have RB:Hid (∀V,Below WA.heap.size WA V->V.heap[w.heap.size+1]?=some (.cells #[Nl,Nl,Nl,Nl,I 0] 27 (0,0))):=fun V hb=>aQ rb hb (aO rb)
 have KB:Hid (∀V,Below WA.heap.size WA V->V.heap[w.heap.size]?=some (.cells #[.slice aa l.length ca,.slice ao hs.length cap,I en] 30 (0,0))):=fun V hb=>aQ kb hb (aO kb)
 have k0:WA.cell? (Ad w.heap.size 0)=some (.slice aa l.length ca):=aB kb 0 rfl;have k1:WA.cell? (Ad w.heap.size 1)=some (.slice ao hs.length cap):=aB kb 1 rfl;have k2:WA.cell? (Ad w.heap.size 2)=some (I en):=aB kb 2 rfl;have iG:=ai iK;have eO:=ai hb0;have hrl:=aO rb;have LK:=ai (Uu l hs en (.slice aa l.length ca) ao cap WA (ha.below hb0) hf (h.below hb0) Ks hcap he);have HTT:Hid (∀V,Below WA.heap.size WA V->Calls Tryz.prog 54 #[.slice aa l.length ca] V fun e w'=>e=.returned (I (cI l))/\Below V.heap.size V w'):=fun V hV=>uY l _ V (ha.below (hb0.trans (hV.mono hb0.size))) hf
 have y9:Hid (∀(V:World) (C:Int),Below w.heap.size w V->bN w cJ [I C] (.returned (.tuple #[.agg #[Nl,Nl,Nl,Nl,I 0],I C])) V):=fun V C hV=>mo _ hV
 unfold Oh;by_cases c:pP l hs en=0
 · rw[bl (fun x=>x c)];have HCP:pP l hs en=0->3<=nf->nf<=64->0<=ns->ns<=512->Hid (∀(W:World) fb sb pb,Below WA.heap.size WA W->W.heap[fb]?=some (.cells (ru nf.toNat) 40 (0,0))->W.heap[sb]?=some (.cells (rq ns.toNat) 86 (0,0))->W.heap[pb]?=some (.cells #[.bool true,.slice aa l.length ca,Nl] 43 (0,0))->Calls Tryz.prog 55 #[.agg #[.slice ao hs.length cap,.slice (some (Ad fb 0)) nf.toNat nf.toNat,.slice (some (Ad sb 0)) ns.toNat ns.toNat,.slice (some (Ad pb 0)) 1 1,I 0]] W fun e w'=>∃aS nS cS aF nF cF aL nL cL aP nP cP,e=.returned (.agg #[.slice aS nS cS,.slice aF nF cF,.slice aL nL cL,.slice aP nP cP,I 0])/\Below WA.heap.size WA w'/\w'.heap[w.heap.size+1]?=some (.cells #[Nl,Nl,Nl,Nl,I 0] 27 (0,0))/\∀U,aH (fun b=>b=w.heap.size+1) w' U->bN w (Og l hs nf ns) [I 0] (.returned (.tuple #[.agg #[.slice aS nS cS,.slice aF nF cF,.slice aL nL cL,.slice aP nP cP,I 0],I 0])) U):=fun hc h3 h64 h0 awn W fb sb pb hW g1 g2 g3=>by
    have iF:Below w.heap.size w W:=hb0.trans (hW.mono hb0.size);have hk:=aao (cap:=cap) (ha.below iF) (h.below iF) g1 g2 g3;have hcl:=zw _ _ W hk (UJ hc nf.toNat ns.toNat (by omega) (by omega));unfold aT at hcl;simp only[Co,zN] at hcl;refine hcl.mono fun e w' ⟨S,hs',hsame,e1,hr,hb⟩=>?_
    obtain⟨aS,nS,cS,eS⟩:∃b n d,S.vS=.slice b n d:=by obtain⟨b,d,e,_⟩:=aY hr.aA;exact⟨b,_,d,e⟩
    obtain⟨aF,nF,cF,eF⟩:∃b n d,S.vF=.slice b n d:=by obtain⟨b,d,e,_⟩:=aY hr.frames;exact⟨b,_,d,e⟩
    obtain⟨aL,nL,cL,eL⟩:∃b n d,S.vL=.slice b n d:=by obtain⟨b,d,e,_⟩:=aY hr.slots;exact⟨b,_,d,e⟩
    obtain⟨aP,nP,cP,eP⟩:∃b n d,S.vP=.slice b n d:=by obtain⟨b,d,e,_⟩:=aY hr.aj;exact⟨b,_,d,e⟩
    rw[eS,eF,eL,eP] at e1;have hbl:Below WA.heap.size WA w':=hW.trans (hb.mono hW.size);have alV:Below w.heap.size w w':=hb0.trans (hbl.mono hb0.size);have hWz:=hW.size;refine⟨aS,nS,cS,aF,nF,cF,aL,nL,cL,aP,nP,cP,e1,hbl,RB.o _ hbl,fun U hU=>⟨S,hs',hsame,by rw[eS,eF,eL,eP];rfl,(hr.kp hU (fun b hb e=>by have:=(hr.qF b hb).1;omega)).mono iF.size,aH.below alV hU alV.size (fun b e=>by omega)⟩⟩
   have ahB:=HCP c;rw[c] at LK;clear HCP ha hf h Ks he hcap hb0 kb rb iK;by_cases c3:nf<3
   · rw[bf c3];have cZ:=ai (fun V (h:Below w.heap.size w V)=>y9.o V 9 h);obtain⟨P,hP⟩:=ex (bN w cJ [I 9]);show Calls _ _ _ _ (bN w cJ [I 9]);rw[<- hP] at cZ ⊢;clear hP y9 ahB c HTT;go_enter Tryz.func18,Tryz.ntmps18;go_upto_region 1 with fail;rw[<- iG.o];go_upto_region 5 with(go_at_call 53;refine LK.o.mono ?_;rintro e w1 ⟨rfl,hb1⟩;have kO:=ai (eO.o.trans (hb1.mono eO.o.size));have R1:=ai (RB.o _ hb1);clear hb1)
     obtain⟨y0,y1,y2,y3,y4⟩:=dx R1.o;have f0:=aJ R1.o 0;have f1:=aJ R1.o 1;have f2:=aJ R1.o 2;have f3:=aJ R1.o 3;have f4:=aJ R1.o 4;have h5:=ai (fun V=>gY R1.o Nl Nl Nl Nl (I 0) (V:=V));go_wp2;obtain⟨r1,r2⟩:=h5.out _ rfl;obtain⟨y0,y1,y2,y3,y4⟩:=dx r1;refine bR (v:=.tuple #[.agg #[Nl,Nl,Nl,Nl,I 0],I 9]) (by simp[results,Tryz.results18,go_sem,y0,y1,y2,y3,y4]) rfl ?_;exact cZ.o _ (aH.below kO.o r2 kO.o.size (fun b e=>by omega))
   rw[bl c3];by_cases cr:nf>64∨ns<0∨ns>512
   · rw[bf cr];rcases(show 64<nf∨(¬64<nf/\ns<0)∨(¬64<nf/\¬ns<0/\512<ns) by omega) with g1 | ⟨g1,g2⟩ | ⟨g1,g2,g3⟩
     all_goals
      clear cr;have cZ:=ai (fun V (h:Below w.heap.size w V)=>y9.o V 3 h);obtain⟨P,hP⟩:=ex (bN w cJ [I 3]);show Calls _ _ _ _ (bN w cJ [I 3]);rw[<- hP] at cZ ⊢;clear hP y9 ahB c HTT;go_enter Tryz.func18,Tryz.ntmps18;go_upto_region 1 with fail;rw[<- iG.o];go_upto_region 7 with(go_at_call 53;refine LK.o.mono ?_;rintro e w1 ⟨rfl,hb1⟩;have kO:=ai (eO.o.trans (hb1.mono eO.o.size));have R1:=ai (RB.o _ hb1);clear hb1)
      obtain⟨y0,y1,y2,y3,y4⟩:=dx R1.o;have f0:=aJ R1.o 0;have f1:=aJ R1.o 1;have f2:=aJ R1.o 2;have f3:=aJ R1.o 3;have f4:=aJ R1.o 4;have h5:=ai (fun V=>gY R1.o Nl Nl Nl Nl (I 0) (V:=V));go_wp2;obtain⟨r1,r2⟩:=h5.out _ rfl;obtain⟨y0,y1,y2,y3,y4⟩:=dx r1;refine bR (v:=.tuple #[.agg #[Nl,Nl,Nl,Nl,I 0],I 3]) (by simp[results,Tryz.results18,go_sem,y0,y1,y2,y3,y4]) rfl ?_;exact cZ.o _ (aH.below kO.o r2 kO.o.size (fun b e=>by omega))
   rw[bl cr];have g1:¬64<nf:=by omega
   have g2:¬ns<0:=by omega
   have g3:¬512<ns:=by omega
   have HNC:=ahB (by omega) (by omega) (by omega) (by omega);have e2:=fun V:World=>aju V nf (by omega) (by omega)
   have e3:=fun V:World=>ajt V ns (by omega) (by omega)
   clear cr ahB c;have htb:=nZ l;obtain⟨T1,hT1⟩:=ex (cI l);rw[<- hT1] at HTT htb ⊢;clear hT1;by_cases ct:T1>ns
   · rw[bf ct];have c2:ns<T1:=ct;have cZ:=ai (fun V (h:Below w.heap.size w V)=>y9.o V 8 h);obtain⟨P,hP⟩:=ex (bN w cJ [I 8]);show Calls _ _ _ _ (bN w cJ [I 8]);rw[<- hP] at cZ ⊢;clear hP y9 HNC e2 e3 ct;go_enter Tryz.func18,Tryz.ntmps18;go_upto_region 1 with fail;rw[<- iG.o];go_upto_region 9 with(first
      | (go_at_call 53;refine LK.o.mono ?_;rintro e w1 ⟨rfl,hb1⟩;have cT:=ai hb1;obtain⟨j0,j1,j2⟩:=og (KB.o _ hb1);clear hb1)
      | (go_at_call 54;refine(HTT.o _ cT.o).mono ?_;rintro e w2 ⟨rfl,hb2⟩;have hb3:=cT.o.trans (hb2.mono cT.o.size);have kO:=ai (eO.o.trans (hb3.mono eO.o.size));have R1:=ai (RB.o _ hb3);clear hb2 hb3))
     obtain⟨y0,y1,y2,y3,y4⟩:=dx R1.o;have f0:=aJ R1.o 0;have f1:=aJ R1.o 1;have f2:=aJ R1.o 2;have f3:=aJ R1.o 3;have f4:=aJ R1.o 4;have h5:=ai (fun V=>gY R1.o Nl Nl Nl Nl (I 0) (V:=V));go_wp2;obtain⟨r1,r2⟩:=h5.out _ rfl;obtain⟨y0,y1,y2,y3,y4⟩:=dx r1;refine bR (v:=.tuple #[.agg #[Nl,Nl,Nl,Nl,I 0],I 8]) (by simp[results,Tryz.results18,go_sem,y0,y1,y2,y3,y4]) rfl ?_;exact cZ.o _ (aH.below kO.o r2 kO.o.size (fun b e=>by omega))
   rw[bl ct];have c2:¬ns<T1:=ct;obtain⟨P,hP⟩:=ex (bN w (Og l hs nf ns) [I 0]);show Calls _ _ _ _ (bN w (Og l hs nf ns) [I 0]);rw[<- hP] at HNC ⊢;obtain⟨NF,hNF⟩:=ex nf.toNat
   obtain⟨NS,hNS⟩:=ex ns.toNat
   rw[<- hNF] at HNC;rw[<- hNS] at HNC;simp only[<- hNF] at e2;simp only[<- hNS] at e3;clear hP hNF hNS y9 ct;go_enter Tryz.func18,Tryz.ntmps18;go_upto_region 1 with fail;rw[<- iG.o];go_upto_region 10 with(first
    | (go_at_call 53;refine LK.o.mono ?_;rintro e w1 ⟨rfl,hb1⟩;have cT:=ai hb1;obtain⟨j0,j1,j2⟩:=og (KB.o _ hb1);clear hb1)
    | (go_at_call 54;refine(HTT.o _ cT.o).mono ?_;rintro e w2 ⟨rfl,hb2⟩;have fq:=ai (cT.o.trans (hb2.mono cT.o.size));clear hb2))
   clear j0 j1 j2 LK HTT;have ij:Hid (∀V,Below WA.heap.size WA V->V.cell? (Ad w.heap.size 0)=some (.slice aa l.length ca)/\V.cell? (Ad w.heap.size 1)=some (.slice ao hs.length cap)):=fun V hV=>⟨aB (KB.o _ hV) 0 rfl,aB (KB.o _ hV) 1 rfl⟩
   refine nB (S:=fun V=>V.cell? (Ad w.heap.size 0)=some (.slice aa l.length ca)/\V.cell? (Ad w.heap.size 1)=some (.slice ao hs.length cap)) (z:=13) (by kernel_rfl) ?_;have gj:=ai (fq.o.drew);obtain⟨V0,hV0⟩:=ex w2.drew;rw[<- hV0] at gj ⊢;clear hV0;refine cB 0 (ij.o _ gj.o) ?_ ?_ ?_;rotate_left 1
   · intro V h;obtain⟨k0,k1⟩:=h;go_simp
     try with_reducible rfl
   refine cB 1 (ij.o _ gj.o) ?_ ?_ ?_;rotate_left 1
   · intro V h;obtain⟨k0,k1⟩:=h;go_simp
     try with_reducible rfl
   refine cB 2 (ij.o _ gj.o) ?_ ?_ ?_;rotate_left 1
   · intro V h;obtain⟨k0,k1⟩:=h;go_simp
     try with_reducible rfl
   refine cB 4 (ij.o _ gj.o) ?_ ?_ ?_;rotate_left 1
   · intro V h;obtain⟨k0,k1⟩:=h;go_simp
     try with_reducible rfl
   refine cB 6 (ij.o _ gj.o) ?_ ?_ ?_;rotate_left 1
   · intro V h;obtain⟨k0,k1⟩:=h;go_simp
     try with_reducible rfl
   refine cB 7 (ij.o _ gj.o) ?_ ?_ ?_;rotate_left 1
   · intro V h;obtain⟨k0,k1⟩:=h;go_simp
     try with_reducible rfl
   refine cB 8 (ij.o _ gj.o) ?_ ?_ ?_;rotate_left 1
   · intro V h;obtain⟨k0,k1⟩:=h;go_simp
     try with_reducible rfl
   refine ck (rs:=[3,5,9]) (by kernel_rfl) (by simp) ?_;refine aU.cons rfl (fun K hK=>?_) (aU.cons rfl (fun K hK=>?_) (aU.cons rfl (fun K hK=>?_) aU.nil))
   · go_simp;refine hK.out _ _ (fun _=>?_) ?_
     · exact ij.o _ (gj.o.alloc gj.o.size _)
     clear hK K;have mg:=ai (gj.o.alloc gj.o.size (.cells (ru NF) 40));have BF:=ai (bG V0 (ru NF) 40);obtain⟨V1,hV1⟩:=ex (V0.alloc (.cells (ru NF) 40));obtain⟨bF,hbF⟩:=ex V0.heap.size;rw[<- hV1] at mg BF ⊢;rw[<- hbF] at BF ⊢;clear hV1 hbF
     try simp only[Act.put,bW,bV,bU]
     refine ck (rs:=[5,9]) (by kernel_rfl) (by simp) ?_;refine aU.cons rfl (fun K hK=>?_) (aU.cons rfl (fun K hK=>?_) aU.nil)
     · go_simp;refine hK.out _ _ (fun _=>?_) ?_
       · exact ij.o _ (mg.o.alloc mg.o.size _)
       clear hK K;have qd:=ai (mg.o.alloc mg.o.size (.cells (rq NS) 86));have BF:=ai (bE BF.o (.cells (rq NS) 86));have BL:=ai (bG V1 (rq NS) 86);obtain⟨V2,hV2⟩:=ex (V1.alloc (.cells (rq NS) 86));obtain⟨bL,hbL⟩:=ex V1.heap.size;rw[<- hV2] at qd BF BL ⊢;rw[<- hbL] at BL ⊢;clear hV2 hbL
       try simp only[Act.put,bW,bV,bU]
       refine ck (rs:=[9]) (by kernel_rfl) (by simp) ?_;refine aU.cons rfl (fun K hK=>?_) aU.nil;go_simp;refine hK.out _ _ (fun _=>?_) ?_
       · exact ij.o _ (qd.o.alloc qd.o.size _)
       clear hK K;have vr:=ai (qd.o.alloc qd.o.size (.cells #[.bool true,.slice aa l.length ca,Nl] 43));have BF:=ai (bE BF.o (.cells #[.bool true,.slice aa l.length ca,Nl] 43));have BL:=ai (bE BL.o (.cells #[.bool true,.slice aa l.length ca,Nl] 43));have BP:=ai (bG V2 #[.bool true,.slice aa l.length ca,Nl] 43);obtain⟨V3,Xn⟩:=ex (V2.alloc (.cells #[.bool true,.slice aa l.length ca,Nl] 43));obtain⟨bP,hbP⟩:=ex V2.heap.size;rw[<- Xn] at vr BF BL BP ⊢;rw[<- hbP] at BP ⊢;clear Xn hbP
       try simp only[Act.put,bW,bV,bU]
       refine cB 10 (ij.o _ vr.o) ?_ ?_ ?_;rotate_left 1
       · intro V h;obtain⟨k0,k1⟩:=h;go_simp
         try with_reducible rfl
       refine ck (rs:=[11]) (by kernel_rfl) (by simp) ?_;refine aU.cons rfl (fun K hK=>?_) aU.nil;rw[bf (by rfl)];go_simp;go_at_call 55;refine(HNC.o _ _ _ _ vr.o BF.o BL.o BP.o).mono ?_;rintro e w6 ⟨aS,nS,cS,aF,nF,cF,aL,nL,cL,aP,nP,cP,rfl,Bi,SI,hfin⟩;have V9:=ai Bi;have R6:=ai SI;have qN:=ai hfin;clear Bi SI hfin;try go_simp;refine hK.out _ _ (fun _=>?_) ?_
       · exact ij.o _ V9.o
       clear hK K
       try simp only[Act.put,bW,bV,bU]
       obtain⟨y0,y1,y2,y3,y4⟩:=dx R6.o;have f0:=aJ R6.o 0;have f1:=aJ R6.o 1;have f2:=aJ R6.o 2;have f3:=aJ R6.o 3;have f4:=aJ R6.o 4;have h5:=ai (fun V=>gY R6.o (.slice aS nS cS) (.slice aF nF cF) (.slice aL nL cL) (.slice aP nP cP) (I 0) (V:=V));refine ck (rs:=[12]) (by kernel_rfl) (by simp) ?_;refine aU.cons rfl (fun K hK=>?_) aU.nil;go_simp;obtain⟨r1,r2⟩:=h5.out _ rfl;refine hK.out _ _ (fun _=>?_) ?_
       · have:=r2.keep (KB.o _ V9.o) (show ¬w.heap.size=w.heap.size+1 by omega);exact⟨aB this 0 rfl,aB this 1 rfl⟩
       clear hK K
       try simp only[Act.put,bW,bV,bU]
       refine ck (rs:=[13]) (by kernel_rfl) (by simp) ?_;refine aU.cons rfl (fun K hK=>?_) aU.nil;go_simp;refine hK.out _ _ (fun g=>absurd rfl g) ?_;refine jL (by kernel_rfl) ?_ _;go_wp2;obtain⟨y0,y1,y2,y3,y4⟩:=dx r1;refine bR (v:=.tuple #[.agg #[.slice aS nS cS,.slice aF nF cF,.slice aL nL cL,.slice aP nP cP,I 0],I 0]) (by simp[results,Tryz.results18,go_sem,y0,y1,y2,y3,y4]) rfl ?_;exact qN.o _ r2
     · go_simp;refine hK.out _ _ (fun _=>?_) ?_
       · exact ij.o _ (mg.o.alloc mg.o.size _)
       clear hK K;have qd:=ai (mg.o.alloc mg.o.size (.cells #[.bool true,.slice aa l.length ca,Nl] 43));have BF:=ai (bE BF.o (.cells #[.bool true,.slice aa l.length ca,Nl] 43));have BP:=ai (bG V1 #[.bool true,.slice aa l.length ca,Nl] 43);obtain⟨V2,hV2⟩:=ex (V1.alloc (.cells #[.bool true,.slice aa l.length ca,Nl] 43));obtain⟨bP,hbP⟩:=ex V1.heap.size;rw[<- hV2] at qd BF BP ⊢;rw[<- hbP] at BP ⊢;clear hV2 hbP
       try simp only[Act.put,bW,bV,bU]
       refine ck (rs:=[5]) (by kernel_rfl) (by simp) ?_;refine aU.cons rfl (fun K hK=>?_) aU.nil;go_simp;refine hK.out _ _ (fun _=>?_) ?_
       · exact ij.o _ (qd.o.alloc qd.o.size _)
       clear hK K;have vr:=ai (qd.o.alloc qd.o.size (.cells (rq NS) 86));have BF:=ai (bE BF.o (.cells (rq NS) 86));have BP:=ai (bE BP.o (.cells (rq NS) 86));have BL:=ai (bG V2 (rq NS) 86);obtain⟨V3,Xn⟩:=ex (V2.alloc (.cells (rq NS) 86));obtain⟨bL,hbL⟩:=ex V2.heap.size;rw[<- Xn] at vr BF BP BL ⊢;rw[<- hbL] at BL ⊢;clear Xn hbL
       try simp only[Act.put,bW,bV,bU]
       refine cB 10 (ij.o _ vr.o) ?_ ?_ ?_;rotate_left 1
       · intro V h;obtain⟨k0,k1⟩:=h;go_simp
         try with_reducible rfl
       refine ck (rs:=[11]) (by kernel_rfl) (by simp) ?_;refine aU.cons rfl (fun K hK=>?_) aU.nil;rw[bf (by rfl)];go_simp;go_at_call 55;refine(HNC.o _ _ _ _ vr.o BF.o BL.o BP.o).mono ?_;rintro e w6 ⟨aS,nS,cS,aF,nF,cF,aL,nL,cL,aP,nP,cP,rfl,Bi,SI,hfin⟩;have V9:=ai Bi;have R6:=ai SI;have qN:=ai hfin;clear Bi SI hfin;try go_simp;refine hK.out _ _ (fun _=>?_) ?_
       · exact ij.o _ V9.o
       clear hK K
       try simp only[Act.put,bW,bV,bU]
       obtain⟨y0,y1,y2,y3,y4⟩:=dx R6.o;have f0:=aJ R6.o 0;have f1:=aJ R6.o 1;have f2:=aJ R6.o 2;have f3:=aJ R6.o 3;have f4:=aJ R6.o 4;have h5:=ai (fun V=>gY R6.o (.slice aS nS cS) (.slice aF nF cF) (.slice aL nL cL) (.slice aP nP cP) (I 0) (V:=V));refine ck (rs:=[12]) (by kernel_rfl) (by simp) ?_;refine aU.cons rfl (fun K hK=>?_) aU.nil;go_simp;obtain⟨r1,r2⟩:=h5.out _ rfl;refine hK.out _ _ (fun _=>?_) ?_
       · have:=r2.keep (KB.o _ V9.o) (show ¬w.heap.size=w.heap.size+1 by omega);exact⟨aB this 0 rfl,aB this 1 rfl⟩
       clear hK K
       try simp only[Act.put,bW,bV,bU]
       refine ck (rs:=[13]) (by kernel_rfl) (by simp) ?_;refine aU.cons rfl (fun K hK=>?_) aU.nil;go_simp;refine hK.out _ _ (fun g=>absurd rfl g) ?_;refine jL (by kernel_rfl) ?_ _;go_wp2;obtain⟨y0,y1,y2,y3,y4⟩:=dx r1;refine bR (v:=.tuple #[.agg #[.slice aS nS cS,.slice aF nF cF,.slice aL nL cL,.slice aP nP cP,I 0],I 0]) (by simp[results,Tryz.results18,go_sem,y0,y1,y2,y3,y4]) rfl ?_;exact qN.o _ r2
   · go_simp;refine hK.out _ _ (fun _=>?_) ?_
     · exact ij.o _ (gj.o.alloc gj.o.size _)
     clear hK K;have mg:=ai (gj.o.alloc gj.o.size (.cells (rq NS) 86));have BL:=ai (bG V0 (rq NS) 86);obtain⟨V1,hV1⟩:=ex (V0.alloc (.cells (rq NS) 86));obtain⟨bL,hbL⟩:=ex V0.heap.size;rw[<- hV1] at mg BL ⊢;rw[<- hbL] at BL ⊢;clear hV1 hbL
     try simp only[Act.put,bW,bV,bU]
     refine ck (rs:=[3,9]) (by kernel_rfl) (by simp) ?_;refine aU.cons rfl (fun K hK=>?_) (aU.cons rfl (fun K hK=>?_) aU.nil)
     · go_simp;refine hK.out _ _ (fun _=>?_) ?_
       · exact ij.o _ (mg.o.alloc mg.o.size _)
       clear hK K;have qd:=ai (mg.o.alloc mg.o.size (.cells (ru NF) 40));have BL:=ai (bE BL.o (.cells (ru NF) 40));have BF:=ai (bG V1 (ru NF) 40);obtain⟨V2,hV2⟩:=ex (V1.alloc (.cells (ru NF) 40));obtain⟨bF,hbF⟩:=ex V1.heap.size;rw[<- hV2] at qd BL BF ⊢;rw[<- hbF] at BF ⊢;clear hV2 hbF
       try simp only[Act.put,bW,bV,bU]
       refine ck (rs:=[9]) (by kernel_rfl) (by simp) ?_;refine aU.cons rfl (fun K hK=>?_) aU.nil;go_simp;refine hK.out _ _ (fun _=>?_) ?_
       · exact ij.o _ (qd.o.alloc qd.o.size _)
       clear hK K;have vr:=ai (qd.o.alloc qd.o.size (.cells #[.bool true,.slice aa l.length ca,Nl] 43));have BL:=ai (bE BL.o (.cells #[.bool true,.slice aa l.length ca,Nl] 43));have BF:=ai (bE BF.o (.cells #[.bool true,.slice aa l.length ca,Nl] 43));have BP:=ai (bG V2 #[.bool true,.slice aa l.length ca,Nl] 43);obtain⟨V3,Xn⟩:=ex (V2.alloc (.cells #[.bool true,.slice aa l.length ca,Nl] 43));obtain⟨bP,hbP⟩:=ex V2.heap.size;rw[<- Xn] at vr BL BF BP ⊢;rw[<- hbP] at BP ⊢;clear Xn hbP
       try simp only[Act.put,bW,bV,bU]
       refine cB 10 (ij.o _ vr.o) ?_ ?_ ?_;rotate_left 1
       · intro V h;obtain⟨k0,k1⟩:=h;go_simp
         try with_reducible rfl
       refine ck (rs:=[11]) (by kernel_rfl) (by simp) ?_;refine aU.cons rfl (fun K hK=>?_) aU.nil;rw[bf (by rfl)];go_simp;go_at_call 55;refine(HNC.o _ _ _ _ vr.o BF.o BL.o BP.o).mono ?_;rintro e w6 ⟨aS,nS,cS,aF,nF,cF,aL,nL,cL,aP,nP,cP,rfl,Bi,SI,hfin⟩;have V9:=ai Bi;have R6:=ai SI;have qN:=ai hfin;clear Bi SI hfin;try go_simp;refine hK.out _ _ (fun _=>?_) ?_
       · exact ij.o _ V9.o
       clear hK K
       try simp only[Act.put,bW,bV,bU]
       obtain⟨y0,y1,y2,y3,y4⟩:=dx R6.o;have f0:=aJ R6.o 0;have f1:=aJ R6.o 1;have f2:=aJ R6.o 2;have f3:=aJ R6.o 3;have f4:=aJ R6.o 4;have h5:=ai (fun V=>gY R6.o (.slice aS nS cS) (.slice aF nF cF) (.slice aL nL cL) (.slice aP nP cP) (I 0) (V:=V));refine ck (rs:=[12]) (by kernel_rfl) (by simp) ?_;refine aU.cons rfl (fun K hK=>?_) aU.nil;go_simp;obtain⟨r1,r2⟩:=h5.out _ rfl;refine hK.out _ _ (fun _=>?_) ?_
       · have:=r2.keep (KB.o _ V9.o) (show ¬w.heap.size=w.heap.size+1 by omega);exact⟨aB this 0 rfl,aB this 1 rfl⟩
       clear hK K
       try simp only[Act.put,bW,bV,bU]
       refine ck (rs:=[13]) (by kernel_rfl) (by simp) ?_;refine aU.cons rfl (fun K hK=>?_) aU.nil;go_simp;refine hK.out _ _ (fun g=>absurd rfl g) ?_;refine jL (by kernel_rfl) ?_ _;go_wp2;obtain⟨y0,y1,y2,y3,y4⟩:=dx r1;refine bR (v:=.tuple #[.agg #[.slice aS nS cS,.slice aF nF cF,.slice aL nL cL,.slice aP nP cP,I 0],I 0]) (by simp[results,Tryz.results18,go_sem,y0,y1,y2,y3,y4]) rfl ?_;exact qN.o _ r2
     · go_simp;refine hK.out _ _ (fun _=>?_) ?_
       · exact ij.o _ (mg.o.alloc mg.o.size _)
       clear hK K;have qd:=ai (mg.o.alloc mg.o.size (.cells #[.bool true,.slice aa l.length ca,Nl] 43));have BL:=ai (bE BL.o (.cells #[.bool true,.slice aa l.length ca,Nl] 43));have BP:=ai (bG V1 #[.bool true,.slice aa l.length ca,Nl] 43);obtain⟨V2,hV2⟩:=ex (V1.alloc (.cells #[.bool true,.slice aa l.length ca,Nl] 43));obtain⟨bP,hbP⟩:=ex V1.heap.size;rw[<- hV2] at qd BL BP ⊢;rw[<- hbP] at BP ⊢;clear hV2 hbP
       try simp only[Act.put,bW,bV,bU]
       refine ck (rs:=[3]) (by kernel_rfl) (by simp) ?_;refine aU.cons rfl (fun K hK=>?_) aU.nil;go_simp;refine hK.out _ _ (fun _=>?_) ?_
       · exact ij.o _ (qd.o.alloc qd.o.size _)
       clear hK K;have vr:=ai (qd.o.alloc qd.o.size (.cells (ru NF) 40));have BL:=ai (bE BL.o (.cells (ru NF) 40));have BP:=ai (bE BP.o (.cells (ru NF) 40));have BF:=ai (bG V2 (ru NF) 40);obtain⟨V3,Xn⟩:=ex (V2.alloc (.cells (ru NF) 40));obtain⟨bF,hbF⟩:=ex V2.heap.size;rw[<- Xn] at vr BL BP BF ⊢;rw[<- hbF] at BF ⊢;clear Xn hbF
       try simp only[Act.put,bW,bV,bU]
       refine cB 10 (ij.o _ vr.o) ?_ ?_ ?_;rotate_left 1
       · intro V h;obtain⟨k0,k1⟩:=h;go_simp
         try with_reducible rfl
       refine ck (rs:=[11]) (by kernel_rfl) (by simp) ?_;refine aU.cons rfl (fun K hK=>?_) aU.nil;rw[bf (by rfl)];go_simp;go_at_call 55;refine(HNC.o _ _ _ _ vr.o BF.o BL.o BP.o).mono ?_;rintro e w6 ⟨aS,nS,cS,aF,nF,cF,aL,nL,cL,aP,nP,cP,rfl,Bi,SI,hfin⟩;have V9:=ai Bi;have R6:=ai SI;have qN:=ai hfin;clear Bi SI hfin;try go_simp;refine hK.out _ _ (fun _=>?_) ?_
       · exact ij.o _ V9.o
       clear hK K
       try simp only[Act.put,bW,bV,bU]
       obtain⟨y0,y1,y2,y3,y4⟩:=dx R6.o;have f0:=aJ R6.o 0;have f1:=aJ R6.o 1;have f2:=aJ R6.o 2;have f3:=aJ R6.o 3;have f4:=aJ R6.o 4;have h5:=ai (fun V=>gY R6.o (.slice aS nS cS) (.slice aF nF cF) (.slice aL nL cL) (.slice aP nP cP) (I 0) (V:=V));refine ck (rs:=[12]) (by kernel_rfl) (by simp) ?_;refine aU.cons rfl (fun K hK=>?_) aU.nil;go_simp;obtain⟨r1,r2⟩:=h5.out _ rfl;refine hK.out _ _ (fun _=>?_) ?_
       · have:=r2.keep (KB.o _ V9.o) (show ¬w.heap.size=w.heap.size+1 by omega);exact⟨aB this 0 rfl,aB this 1 rfl⟩
       clear hK K
       try simp only[Act.put,bW,bV,bU]
       refine ck (rs:=[13]) (by kernel_rfl) (by simp) ?_;refine aU.cons rfl (fun K hK=>?_) aU.nil;go_simp;refine hK.out _ _ (fun g=>absurd rfl g) ?_;refine jL (by kernel_rfl) ?_ _;go_wp2;obtain⟨y0,y1,y2,y3,y4⟩:=dx r1;refine bR (v:=.tuple #[.agg #[.slice aS nS cS,.slice aF nF cF,.slice aL nL cL,.slice aP nP cP,I 0],I 0]) (by simp[results,Tryz.results18,go_sem,y0,y1,y2,y3,y4]) rfl ?_;exact qN.o _ r2
   · go_simp;refine hK.out _ _ (fun _=>?_) ?_
     · exact ij.o _ (gj.o.alloc gj.o.size _)
     clear hK K;have mg:=ai (gj.o.alloc gj.o.size (.cells #[.bool true,.slice aa l.length ca,Nl] 43));have BP:=ai (bG V0 #[.bool true,.slice aa l.length ca,Nl] 43);obtain⟨V1,hV1⟩:=ex (V0.alloc (.cells #[.bool true,.slice aa l.length ca,Nl] 43));obtain⟨bP,hbP⟩:=ex V0.heap.size;rw[<- hV1] at mg BP ⊢;rw[<- hbP] at BP ⊢;clear hV1 hbP
     try simp only[Act.put,bW,bV,bU]
     refine ck (rs:=[3,5]) (by kernel_rfl) (by simp) ?_;refine aU.cons rfl (fun K hK=>?_) (aU.cons rfl (fun K hK=>?_) aU.nil)
     · go_simp;refine hK.out _ _ (fun _=>?_) ?_
       · exact ij.o _ (mg.o.alloc mg.o.size _)
       clear hK K;have qd:=ai (mg.o.alloc mg.o.size (.cells (ru NF) 40));have BP:=ai (bE BP.o (.cells (ru NF) 40));have BF:=ai (bG V1 (ru NF) 40);obtain⟨V2,hV2⟩:=ex (V1.alloc (.cells (ru NF) 40));obtain⟨bF,hbF⟩:=ex V1.heap.size;rw[<- hV2] at qd BP BF ⊢;rw[<- hbF] at BF ⊢;clear hV2 hbF
       try simp only[Act.put,bW,bV,bU]
       refine ck (rs:=[5]) (by kernel_rfl) (by simp) ?_;refine aU.cons rfl (fun K hK=>?_) aU.nil;go_simp;refine hK.out _ _ (fun _=>?_) ?_
       · exact ij.o _ (qd.o.alloc qd.o.size _)
       clear hK K;have vr:=ai (qd.o.alloc qd.o.size (.cells (rq NS) 86));have BP:=ai (bE BP.o (.cells (rq NS) 86));have BF:=ai (bE BF.o (.cells (rq NS) 86));have BL:=ai (bG V2 (rq NS) 86);obtain⟨V3,Xn⟩:=ex (V2.alloc (.cells (rq NS) 86));obtain⟨bL,hbL⟩:=ex V2.heap.size;rw[<- Xn] at vr BP BF BL ⊢;rw[<- hbL] at BL ⊢;clear Xn hbL
       try simp only[Act.put,bW,bV,bU]
       refine cB 10 (ij.o _ vr.o) ?_ ?_ ?_;rotate_left 1
       · intro V h;obtain⟨k0,k1⟩:=h;go_simp
         try with_reducible rfl
       refine ck (rs:=[11]) (by kernel_rfl) (by simp) ?_;refine aU.cons rfl (fun K hK=>?_) aU.nil;rw[bf (by rfl)];go_simp;go_at_call 55;refine(HNC.o _ _ _ _ vr.o BF.o BL.o BP.o).mono ?_;rintro e w6 ⟨aS,nS,cS,aF,nF,cF,aL,nL,cL,aP,nP,cP,rfl,Bi,SI,hfin⟩;have V9:=ai Bi;have R6:=ai SI;have qN:=ai hfin;clear Bi SI hfin;try go_simp;refine hK.out _ _ (fun _=>?_) ?_
       · exact ij.o _ V9.o
       clear hK K
       try simp only[Act.put,bW,bV,bU]
       obtain⟨y0,y1,y2,y3,y4⟩:=dx R6.o;have f0:=aJ R6.o 0;have f1:=aJ R6.o 1;have f2:=aJ R6.o 2;have f3:=aJ R6.o 3;have f4:=aJ R6.o 4;have h5:=ai (fun V=>gY R6.o (.slice aS nS cS) (.slice aF nF cF) (.slice aL nL cL) (.slice aP nP cP) (I 0) (V:=V));refine ck (rs:=[12]) (by kernel_rfl) (by simp) ?_;refine aU.cons rfl (fun K hK=>?_) aU.nil;go_simp;obtain⟨r1,r2⟩:=h5.out _ rfl;refine hK.out _ _ (fun _=>?_) ?_
       · have:=r2.keep (KB.o _ V9.o) (show ¬w.heap.size=w.heap.size+1 by omega);exact⟨aB this 0 rfl,aB this 1 rfl⟩
       clear hK K
       try simp only[Act.put,bW,bV,bU]
       refine ck (rs:=[13]) (by kernel_rfl) (by simp) ?_;refine aU.cons rfl (fun K hK=>?_) aU.nil;go_simp;refine hK.out _ _ (fun g=>absurd rfl g) ?_;refine jL (by kernel_rfl) ?_ _;go_wp2;obtain⟨y0,y1,y2,y3,y4⟩:=dx r1;refine bR (v:=.tuple #[.agg #[.slice aS nS cS,.slice aF nF cF,.slice aL nL cL,.slice aP nP cP,I 0],I 0]) (by simp[results,Tryz.results18,go_sem,y0,y1,y2,y3,y4]) rfl ?_;exact qN.o _ r2
     · go_simp;refine hK.out _ _ (fun _=>?_) ?_
       · exact ij.o _ (mg.o.alloc mg.o.size _)
       clear hK K;have qd:=ai (mg.o.alloc mg.o.size (.cells (rq NS) 86));have BP:=ai (bE BP.o (.cells (rq NS) 86));have BL:=ai (bG V1 (rq NS) 86);obtain⟨V2,hV2⟩:=ex (V1.alloc (.cells (rq NS) 86));obtain⟨bL,hbL⟩:=ex V1.heap.size;rw[<- hV2] at qd BP BL ⊢;rw[<- hbL] at BL ⊢;clear hV2 hbL
       try simp only[Act.put,bW,bV,bU]
       refine ck (rs:=[3]) (by kernel_rfl) (by simp) ?_;refine aU.cons rfl (fun K hK=>?_) aU.nil;go_simp;refine hK.out _ _ (fun _=>?_) ?_
       · exact ij.o _ (qd.o.alloc qd.o.size _)
       clear hK K;have vr:=ai (qd.o.alloc qd.o.size (.cells (ru NF) 40));have BP:=ai (bE BP.o (.cells (ru NF) 40));have BL:=ai (bE BL.o (.cells (ru NF) 40));have BF:=ai (bG V2 (ru NF) 40);obtain⟨V3,Xn⟩:=ex (V2.alloc (.cells (ru NF) 40));obtain⟨bF,hbF⟩:=ex V2.heap.size;rw[<- Xn] at vr BP BL BF ⊢;rw[<- hbF] at BF ⊢;clear Xn hbF
       try simp only[Act.put,bW,bV,bU]
       refine cB 10 (ij.o _ vr.o) ?_ ?_ ?_;rotate_left 1
       · intro V h;obtain⟨k0,k1⟩:=h;go_simp
         try with_reducible rfl
       refine ck (rs:=[11]) (by kernel_rfl) (by simp) ?_;refine aU.cons rfl (fun K hK=>?_) aU.nil;rw[bf (by rfl)];go_simp;go_at_call 55;refine(HNC.o _ _ _ _ vr.o BF.o BL.o BP.o).mono ?_;rintro e w6 ⟨aS,nS,cS,aF,nF,cF,aL,nL,cL,aP,nP,cP,rfl,Bi,SI,hfin⟩;have V9:=ai Bi;have R6:=ai SI;have qN:=ai hfin;clear Bi SI hfin;try go_simp;refine hK.out _ _ (fun _=>?_) ?_
       · exact ij.o _ V9.o
       clear hK K
       try simp only[Act.put,bW,bV,bU]
       obtain⟨y0,y1,y2,y3,y4⟩:=dx R6.o;have f0:=aJ R6.o 0;have f1:=aJ R6.o 1;have f2:=aJ R6.o 2;have f3:=aJ R6.o 3;have f4:=aJ R6.o 4;have h5:=ai (fun V=>gY R6.o (.slice aS nS cS) (.slice aF nF cF) (.slice aL nL cL) (.slice aP nP cP) (I 0) (V:=V));refine ck (rs:=[12]) (by kernel_rfl) (by simp) ?_;refine aU.cons rfl (fun K hK=>?_) aU.nil;go_simp;obtain⟨r1,r2⟩:=h5.out _ rfl;refine hK.out _ _ (fun _=>?_) ?_
       · have:=r2.keep (KB.o _ V9.o) (show ¬w.heap.size=w.heap.size+1 by omega);exact⟨aB this 0 rfl,aB this 1 rfl⟩
       clear hK K
       try simp only[Act.put,bW,bV,bU]
       refine ck (rs:=[13]) (by kernel_rfl) (by simp) ?_;refine aU.cons rfl (fun K hK=>?_) aU.nil;go_simp;refine hK.out _ _ (fun g=>absurd rfl g) ?_;refine jL (by kernel_rfl) ?_ _;go_wp2;obtain⟨y0,y1,y2,y3,y4⟩:=dx r1;refine bR (v:=.tuple #[.agg #[.slice aS nS cS,.slice aF nF cF,.slice aL nL cL,.slice aP nP cP,I 0],I 0]) (by simp[results,Tryz.results18,go_sem,y0,y1,y2,y3,y4]) rfl ?_;exact qN.o _ r2
 · rw[bf c];obtain⟨C,hC⟩:=ex (pP l hs en);rw[<- hC] at LK c ⊢;have cb:(C != 0)=true:=by grind
   have cZ:=ai (fun V (h:Below w.heap.size w V)=>y9.o V C h);obtain⟨P,hP⟩:=ex (bN w cJ [I C]);show Calls _ _ _ _ (bN w cJ [I C]);rw[<- hP] at cZ ⊢;clear ha hf h Ks he hcap hb0 kb rb iK hC c hP y9 HTT;go_enter Tryz.func18,Tryz.ntmps18;go_upto_region 1 with fail;rw[<- iG.o];go_upto_region 3 with(go_at_call 53;refine LK.o.mono ?_;rintro e w1 ⟨rfl,hb1⟩;have kO:=ai (eO.o.trans (hb1.mono eO.o.size));have R1:=ai (RB.o _ hb1);clear hb1)
   obtain⟨y0,y1,y2,y3,y4⟩:=dx R1.o;have f0:=aJ R1.o 0;have f1:=aJ R1.o 1;have f2:=aJ R1.o 2;have f3:=aJ R1.o 3;have f4:=aJ R1.o 4;have h5:=ai (fun V=>gY R1.o Nl Nl Nl Nl (I 0) (V:=V));go_wp2;obtain⟨r1,r2⟩:=h5.out _ rfl;obtain⟨y0,y1,y2,y3,y4⟩:=dx r1;refine bR (v:=.tuple #[.agg #[Nl,Nl,Nl,Nl,I 0],I C]) (by simp[results,Tryz.results18,go_sem,y0,y1,y2,y3,y4]) rfl ?_;exact cZ.o _ (aH.below kO.o r2 kO.o.size (fun b e=>by omega))
end Go.Proofs.YtpgifpeohlllfaaGreat
end Go.Proofs.YtpgifpeohlllfaaGreat
