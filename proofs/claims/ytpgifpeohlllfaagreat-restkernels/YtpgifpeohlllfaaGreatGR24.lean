import Derived.Test.YtpgifpeohlllfaaGreatGR23
set_option maxHeartbeats 20000000
set_option linter.unusedVariables false
set_option maxRecDepth 100000
set_option linter.unusedSimpArgs false
namespace Go.Proofs.YtpgifpeohlllfaaGreat
open Go.RowKit
theorem wM (k:aN) (l:List Nat) (s:ByteArray):∀n,(j3 k l s n).frames.length=k.frames.length
 | 0=>rfl
 | n+1=>by
  unfold j3 sQ;show(List.set _ _ _).length=_;rw[iG,wM k l s n]
theorem TF {lo mb:Nat} {tt:TypeId} {X:List Value} (k:aN) (S:dE) (w:World) (l:List Nat) (s:ByteArray) (av:Option Addr) (cv:Nat) (h:bu lo mb tt X w S k) (hH:jD w S av (yu l)) (hl:∀n,n<l.length->l.getD n 0<k.frames.length) (hll:l.length<=2) (hs:l.length*16<=s.size) (hs2:s.size<=1000) (tq:0<k.frames.length) :
  Calls Tryz.prog 66 #[.pointer (some (Ad mb 0)),.slice av l.length cv,.string s] w (jN lo mb tt X w S (.tuple #[]) (j3 k l s l.length)):=by
 have HH:=ai hH;have HL:=ai hl;have Hg:Hid (∀V n,n<l.length->bu lo mb tt X V S (j3 k l s n)->∃fb cF,¬mb=fb/\V.cell? (Ad mb 1)=some (.slice (some (Ad fb 0)) k.frames.length cF)/\(∀V',Below V.heap.size V V'->V'.cell? (Ad fb (l.getD n 0*4))=some (.string (au (j3 k l s n).frames (l.getD n 0)).data)/\V'.frozen? (Ad fb (l.getD n 0*4))=false/\bu lo mb tt X (V'.setCell (Ad fb (l.getD n 0*4)) (.string (s.extract (n*16) (n*16+16)))) S (j3 k l s (n+1))/\bU S V S (V'.setCell (Ad fb (l.getD n 0*4)) (.string (s.extract (n*16) (n*16+16)))))):=fun V n hn hV=>by
  obtain⟨fb,cF,A⟩:=hV.toKr.fr (by rw[wM];exact tq);have c1:=hV.c1;rw[A.v,wM] at c1;refine⟨fb,cF,fun e=>by have:=A.lab;rw[<- e,hV.lH] at this;simp at this,c1,fun V' hb=>?_⟩;have hV':=hV.below hb;obtain⟨YZ,cF',A'⟩:=hV'.toKr.fr (by rw[wM];exact tq);have e:YZ=fb:=by
   have:=A'.v;rw[A.v] at this;injection this with e1 _ _;injection e1 with e1;injection e1 with e1 _ _;exact e1.symm
  subst e;have hi:l.getD n 0<(j3 k l s n).frames.length:=by rw[wM];exact hl n hn
  exact⟨A'.x0 _ hi,A'.fz _,hV'.Bb A'.v hi (j:=0) (by omega) rfl,(bU.below hb).trans (sL hV'.toKr A'.v)⟩
 have YA:Hid (∀V n,n<l.length->Calls Tryz.prog 63 #[.string s,I ((n:Int)*16),I 16] V fun e w'=>e=.returned (.tuple #[.string (s.extract (n*16) (n*16+16)),I 0])/\Below V.heap.size V w'):=fun V n hn=>by
  have:=CL s (n*16) 16 V (by omega) (by omega);rw[show((n*16:Nat):Int)=(n:Int)*16 by omega,show((16:Nat):Int)=16 from rfl] at this;exact this
 have pL:=ai h;have cV:Hid (∀V,bu lo mb tt X V S (j3 k l s l.length)->bU S w S V->jN lo mb tt X w S (.tuple #[]) (j3 k l s l.length) (.returned (.tuple #[])) V):=fun V h1 h2=>⟨rfl,h1,h2⟩
 obtain⟨P,hP⟩:=ex (jN lo mb tt X w S (.tuple #[]) (j3 k l s l.length));rw[<- hP] at cV ⊢;obtain⟨nf,SU⟩:=ex k.frames.length;rw[<- SU] at Hg HL;clear h hH hl tq SU hs hs2 hP;go_enter Tryz.func66,Tryz.ntmps66;go_wp2;go_loopw [10] (fun iv wr=>∃n:Nat,n<=l.length/\iv=I (n:Int)/\bu lo mb tt X wr S (j3 k l s n)/\bU S w S wr) (fun iv _=>l.length-(intOf iv).toNat)
 case atStart=>exact⟨0,by omega,rfl,pL.o,bU.refl _ _⟩
 case round =>
  obtain⟨n,hn,rfl,iU,hch⟩:=hrel;by_cases hlt:n<l.length
  · have hni:(n:Int)<(l.length:Int):=by omega
    have wk:=HH.o.ch hch;obtain⟨eb,eo,hao,hbl,eI⟩:=wk.has (by rw[zS];omega);subst hao;have y0:=eI n (by rw[zS];exact hlt) 0 (by omega);rw[fW,J9] at y0;have e0:=O0 l n hlt;have x0:wr.cell? (Ad eb (eo+n))=some (I ((l.getD n 0:Nat):Int)):=by
     rw[<- e0];exact y0
    have hq:=HL.o n hlt;obtain⟨fb,cF,hmf,c1,hwr⟩:=Hg.o wr n hlt iU;have HWR:=ai hwr;have afH:=ai (fun V=>YA.o V n hlt);have Pv:=ai hch;obtain⟨q,hqe⟩:=ex (l.getD n 0);rw[<- hqe] at x0 hq HWR;obtain⟨FD,hFD⟩:=ex ((au (j3 k l s n).frames q).data);rw[<- hFD] at HWR;obtain⟨PD,hPD⟩:=ex (s.extract (n*16) (n*16+16));rw[<- hPD] at HWR afH;have hqi:(q:Int)<(nf:Int):=by omega
    have yT:mb<wr.heap.size:=oc wr _ c1;have hmu:IntKind.i64.wrap ((n:Int)*16)=(n:Int)*16:=m8 _ (by omega);clear eI y0 e0 hqe hFD hPD iU hch hwr wk pL;go_upto_region 3 with fail;have pL:=ai (aK wr.heap.size wr).drew;have gu:Hid (wr.drew.cell? (Ad mb 1)=some (.slice (some (Ad fb 0)) nf cF)):=(pL.o.cell (p:=(Ad mb 1)) yT).trans c1
    go_region_held3 (fun V=>V.cell? (Ad mb 1)=some (.slice (some (Ad fb 0)) nf cF)) (first | exact oN.o | exact gu.o | exact HS4.o)
     ((go_at_call 63;refine(afH.o _).mono ?_;rintro r w5 ⟨rfl,Bk⟩;have M5:=ai (pL.o.trans (Bk.mono pL.o.size));have oN:Hid (w5.cell? (Ad mb 1)=some (.slice (some (Ad fb 0)) nf cF)):=(M5.o.cell (p:=(Ad mb 1)) yT).trans c1;have HS4:Hid ((w5.setCell (Ad fb (q*4)) (.string PD)).cell? (Ad mb 1)=some (.slice (some (Ad fb 0)) nf cF)):=(eQ _ _ _ _ _ _ hmf).trans oN.o;obtain⟨z0,z1,z2,z3⟩:=HWR.o w5 M5.o;have Aj:=ai z2;have HZ3:=ai z3;clear Bk z2 z3))
    all_goals clear gu oN HS4 afH
    all_goals go_wp2
    go_roundw
    case rel=>exact⟨n+1,by omega,by go_num,Aj.o,Pv.o.trans HZ3.o⟩
    case measure=>simp[intOf];omega
  · obtain rfl:n=l.length:=by omega
    have HX:=ai (cV.o wr iU hch);clear iU hch;go_wp2
    first
     | exact HX.o
     | (refine pE (v:=.tuple #[]) (by simp[results,Tryz.results66,go_sem]) rfl ?_;exact HX.o)
open Go.RowKit
theorem kR {W:World} {rb:Nat} (hr:W.heap[rb]?=some (.cells #[Nl,Nl,Nl,Nl,I 0] 27 (0,0))) (s f l p h:Value) {V:World} (hV:V=((((W.setCell (Ad rb 0) s).setCell (Ad rb 1) f).setCell (Ad rb 2) l).setCell (Ad rb 3) p).setCell (Ad rb 4) h) :
  V.heap[rb]?=some (.cells #[s,f,l,p,h] 27 (0,0))/\aM (fun b=>b=rb) W V:=by
 subst hV;refine⟨dD (dD (dD (dD (dD hr 0 s) 1 f) 2 l) 3 p) 4 h,?_⟩;have k:∀(A:World) (j:Nat) (v:Value),aM (fun b=>b=rb) A (A.setCell (Ad rb j) v):=fun A j v=>aM.set _ A (Ad rb j) v rfl
 exact((((k _ _ _).trans (k _ _ _) (fun _ _ g=>g)).trans (k _ _ _) (fun _ _ g=>g)).trans (k _ _ _) (fun _ _ g=>g)).trans (k _ _ _) (fun _ _ g=>g)
open Go.RowKit
theorem DC {l:List aZ} {hs:List bR} {en:Int} (h:ld l hs en=0):bB l=0/\ed hs=true/\(hs.length:Int)=dU l:=by
 rw[Ny] at h;unfold Hw at h;by_cases c:bB l=0
 · rw[aR c] at h;by_cases d:(decide ((hs.length:Int)=gV l l.length)&&(ed hs&&(xM l hs hs.length&&xO l en)))=true
   · simp only[cR,gP] at d;refine⟨c,d.2.1,?_⟩;unfold dU;rw[aR c];exact d.1
   · rw[bf d] at h;cases h
 · rw[bf c] at h;exact absurd h c
def rp (l:List aZ) (hs:List bR) (nf ns:Int):aN:=⟨hs,List.replicate nf.toNat eW,List.replicate ns.toNat jS,[⟨true,l,[]⟩],0⟩
def uk (l:List aZ) (hs:List bR) (en nf ns:Int):aN×Int:=if ld l hs en≠0 then (dK,ld l hs en) else if nf<3 then (dK,9) else if nf>64∨ns<0∨ns>512 then (dK,3) else if dU l>ns then (dK,8) else (rp l hs nf ns,0)
def jk (n:Nat):Array Value:=madeCells #[.string ⟨#[]⟩,I 0,.bool false,.bool false] (n*4)
def ji (n:Nat):Array Value:=madeCells #[.string ⟨#[]⟩,I 0] (n*2)
theorem aaV:(Tryz.prog.info? 40).map (fun i=>(i.zero,i.size,i.bytes))=some (some (.agg #[.string ⟨#[]⟩,I 0,.bool false,.bool false]),4,32):=by kernel_rfl
theorem aaU:(Tryz.prog.info? 86).map (fun i=>(i.zero,i.size,i.bytes))=some (some (.agg #[.string ⟨#[]⟩,I 0]),2,24):=by kernel_rfl
theorem aaT (V:World) (n:Int) (h0:0<=n) (hn:n<=1000):(Instr.makeSlice 23 (I n) (I n)).run Tryz.prog V=.ok (.slice (some (Ad V.heap.size 0)) n.toNat n.toNat) (V.alloc (.cells (jk n.toNat) 40)):=by
 obtain⟨i0,hi,hz0,hz1,hz2⟩:=gm aaV;have h:=run_make (P:=Tryz.prog) V 23 40 i0 _ Tryz.underlying23 hi hz0 .i64 .i64 n n h0 (xy _) (by rw[hz2];omega) (by omega);rw[hz1] at h;exact h
theorem aaS (V:World) (n:Int) (h0:0<=n) (hn:n<=1000):(Instr.makeSlice 24 (I n) (I n)).run Tryz.prog V=.ok (.slice (some (Ad V.heap.size 0)) n.toNat n.toNat) (V.alloc (.cells (ji n.toNat) 86)):=by
 obtain⟨i0,hi,hz0,hz1,hz2⟩:=gm aaU;have h:=run_make (P:=Tryz.prog) V 24 86 i0 _ Tryz.underlying24 hi hz0 .i64 .i64 n n h0 (xy _) (by rw[hz2];omega) (by omega);rw[hz1] at h;exact h
theorem Db {α:Type} (x d:α) (n i:Nat) (hi:i<n):(List.replicate n x).getD i d=x:=by
 rw[lU,P4,aR hi];rfl
theorem Lz (c:Array Value) (n i j m:Nat) (hc:c.size=m) (hi:i<n) (hj:j<m):(madeCells c (n*m))[i*m+j]?=c[j]?:=by
 have h1:i*m+j<n*m:=by
  have:(i+1)*m<=n*m:=Kw m hi;rw[Nat.add_mul,Nat.one_mul] at this;omega
 have h2:(i*m+j)%m=j:=by rw[Nat.mul_comm,Nat.mul_add_mod,Nat.mod_eq_of_lt hj]
 have h3:j<c.size:=by omega
 unfold madeCells;simp[h1,hc,h2];rw[getElem!_pos c j h3,Array.getElem?_eq_getElem h3]
theorem LA {W:World} {l:List aZ} {hs:List bR} {nf ns:Nat} {va:Value} {ao:Option Addr} {cap fb sb pb:Nat} (ha:fu W va l) (hh:fX W ao hs) (hf:W.heap[fb]?=some (.cells (jk nf) 40 (0,0))) (hl:W.heap[sb]?=some (.cells (ji ns) 86 (0,0))) (hp:W.heap[pb]?=some (.cells #[.bool true,va,Nl] 43 (0,0))) :
  gD W ⟨ao,cap,some (Ad fb 0),nf,some (Ad sb 0),ns,some (Ad pb 0),1⟩ ⟨hs,List.replicate nf eW,List.replicate ns jS,[⟨true,l,[]⟩],0⟩:=by
 refine⟨hh,fun _=>⟨fb,0,rfl,aT hf,fun i hi j hj=>?_⟩,fun _=>⟨sb,0,rfl,aT hl,fun i hi j hj=>?_⟩,fun _=>⟨pb,0,rfl,aT hp,fun i hi=>?_⟩⟩
 · rw[pG] at hi;rw[Db _ _ _ _ hi];have e:=Lz #[.string ⟨#[]⟩,I 0,.bool false,.bool false] nf i j 4 rfl hi hj;rw[gM]
   match j,hj with
   | 0,_=>exact aB hf _ e
   | 1,_=>exact aB hf _ e
   | 2,_=>exact aB hf _ e
   | 3,_=>exact aB hf _ e
   | j+4,h=>exact absurd h (by omega)
 · rw[pG] at hi;rw[Db _ _ _ _ hi];have e:=Lz #[.string ⟨#[]⟩,I 0] ns i j 2 rfl hi hj;rw[gM]
   match j,hj with
   | 0,_=>exact aB hl _ e
   | 1,_=>exact aB hl _ e
   | j+2,h=>exact absurd h (by omega)
 · obtain rfl:i=0:=by
    have:i<1:=hi;omega
   exact⟨va,none,0,aB hp 0 rfl,aB hp 1 rfl,aB hp 2 rfl,ha,fun h=>absurd h (gN _),aI _⟩
theorem Gd {l:List aZ} {hs:List bR} {en:Int} (h:ld l hs en=0) (nf ns:Nat) (hf:nf<=1000) (hn:ns<=1000):zg ⟨hs,List.replicate nf eW,List.replicate ns jS,[⟨true,l,[]⟩],0⟩:=by
 obtain⟨h1,h2,h3⟩:=DC h;have h4:=nr l;have h5:=kO _ h1;refine⟨by show hs.length<=_;omega,fun i hi=>?_,by show(List.replicate nf eW).length<=_;rw[pG];omega,by show(List.replicate ns jS).length<=_;rw[pG];omega,by show 1<=1000000;omega,fun i hi=>?_,fun i hi=>?_⟩
 · have:=DF h2 i hi;show(aV hs i).cM.length<=_;omega
 · obtain rfl:i=0:=by
    have:i<1:=hi;omega
   show l.length<=_;omega
 · obtain rfl:i=0:=by
    have:i<1:=hi;omega
   exact oO _
open Go.RowKit
theorem kX (V:World) (A:Obj) (c:Array Value) (t:TypeId):((V.alloc A).alloc (.cells c t)).heap[V.heap.size+1]?=some (.cells c t (0,0)):=by
 grind [bO,World.size_alloc]
theorem aaR (V:World) (A A':Obj) (c:Array Value) (t:TypeId):(((V.alloc A).alloc A').alloc (.cells c t)).heap[V.heap.size+1+1]?=some (.cells c t (0,0)):=by
 grind [bO,World.size_alloc]
theorem Lx (Hk:sG) (l:List aZ) (hs:List bR) (en nf ns:Int) (va:Value) (ao:Option Addr) (cap:Nat) (w:World) (ha:fu w va l) (hf:fU l) (h:fX w ao hs) (Qc:nk hs) (hcap:hs.length<=cap) (he:eY en) :
  Calls Tryz.prog 18 #[.agg #[va,.slice ao hs.length cap,I en],I nf,I ns] w (dg w (uk l hs en nf ns).1 [I (uk l hs en nf ns).2]):=by
 obtain⟨aa,ca,Av,_⟩:=id ha;subst Av;obtain⟨WA,jG⟩:=ex ((w.alloc (.cells #[.slice aa l.length ca,.slice ao hs.length cap,I en] 30)).alloc (.cells #[Nl,Nl,Nl,Nl,I 0] 27));have hb0:Below w.heap.size w WA:=by simp_all [aK,m9]
 have kb:WA.heap[w.heap.size]?=some (.cells #[.slice aa l.length ca,.slice ao hs.length cap,I en] 30 (0,0)):=by grind [bM,bO]
 have rb:WA.heap[w.heap.size+1]?=some (.cells #[Nl,Nl,Nl,Nl,I 0] 27 (0,0)):=by grind [kX]
 have RB:Hid (∀V,Below WA.heap.size WA V->V.heap[w.heap.size+1]?=some (.cells #[Nl,Nl,Nl,Nl,I 0] 27 (0,0))):=fun V hb=>aQ rb hb (aT rb)
 have KB:Hid (∀V,Below WA.heap.size WA V->V.heap[w.heap.size]?=some (.cells #[.slice aa l.length ca,.slice ao hs.length cap,I en] 30 (0,0))):=fun V hb=>aQ kb hb (aT kb)
 have k0:WA.cell? (Ad w.heap.size 0)=some (.slice aa l.length ca):=aB kb 0 rfl;have k1:WA.cell? (Ad w.heap.size 1)=some (.slice ao hs.length cap):=aB kb 1 rfl;have k2:WA.cell? (Ad w.heap.size 2)=some (I en):=aB kb 2 rfl;have lI:=ai jG;have eU:=ai hb0;have hrl:=aT rb;have Ir:=ai (Qn l hs en (.slice aa l.length ca) ao cap WA (ha.below hb0) hf (h.below hb0) Qc hcap he);have HTT:Hid (∀V,Below WA.heap.size WA V->Calls Tryz.prog 54 #[.slice aa l.length ca] V fun e w'=>e=.returned (I (dU l))/\Below V.heap.size V w'):=fun V hV=>Ao l _ V (ha.below (hb0.trans (hV.mono hb0.size))) hf
 have RV:Hid (∀(V:World) (C:Int),Below w.heap.size w V->dg w dK [I C] (.returned (.tuple #[.agg #[Nl,Nl,Nl,Nl,I 0],I C])) V):=fun V C hV=>oJ _ hV
 unfold uk;by_cases c:ld l hs en=0
 · rw[bf (fun x=>x c)];have Z3:ld l hs en=0->3<=nf->nf<=64->0<=ns->ns<=512->Hid (∀(W:World) fb sb pb,Below WA.heap.size WA W->W.heap[fb]?=some (.cells (jk nf.toNat) 40 (0,0))->W.heap[sb]?=some (.cells (ji ns.toNat) 86 (0,0))->W.heap[pb]?=some (.cells #[.bool true,.slice aa l.length ca,Nl] 43 (0,0))->Calls Tryz.prog 55 #[.agg #[.slice ao hs.length cap,.slice (some (Ad fb 0)) nf.toNat nf.toNat,.slice (some (Ad sb 0)) ns.toNat ns.toNat,.slice (some (Ad pb 0)) 1 1,I 0]] W fun e w'=>∃aS nS cS aF nF cF aL nL cL aP nP cP,e=.returned (.agg #[.slice aS nS cS,.slice aF nF cF,.slice aL nL cL,.slice aP nP cP,I 0])/\Below WA.heap.size WA w'/\w'.heap[w.heap.size+1]?=some (.cells #[Nl,Nl,Nl,Nl,I 0] 27 (0,0))/\∀U,aM (fun b=>b=w.heap.size+1) w' U->dg w (rp l hs nf ns) [I 0] (.returned (.tuple #[.agg #[.slice aS nS cS,.slice aF nF cF,.slice aL nL cL,.slice aP nP cP,I 0],I 0])) U):=fun hc h3 h64 h0 aih W fb sb pb hW g1 g2 g3=>by
    have jQ:Below w.heap.size w W:=hb0.trans (hW.mono hb0.size);have hk:=LA (cap:=cap) (ha.below jQ) (h.below jQ) g1 g2 g3;have hcl:=Hk _ _ W hk (Gd hc nf.toNat ns.toNat (by omega) (by omega));unfold bg at hcl;simp only[pG,vt] at hcl;refine hcl.mono fun e w' ⟨S,hs',hsame,e1,hr,hb⟩=>?_
    obtain⟨aS,nS,cS,eS⟩:∃b n d,S.vS=.slice b n d:=by obtain⟨b,d,e,_⟩:=aY hr.aD;exact⟨b,_,d,e⟩
    obtain⟨aF,nF,cF,eF⟩:∃b n d,S.vF=.slice b n d:=by obtain⟨b,d,e,_⟩:=aY hr.frames;exact⟨b,_,d,e⟩
    obtain⟨aL,nL,cL,eL⟩:∃b n d,S.vL=.slice b n d:=by obtain⟨b,d,e,_⟩:=aY hr.slots;exact⟨b,_,d,e⟩
    obtain⟨aP,nP,cP,eP⟩:∃b n d,S.vP=.slice b n d:=by obtain⟨b,d,e,_⟩:=aY hr.aj;exact⟨b,_,d,e⟩
    rw[eS,eF,eL,eP] at e1;have hbl:Below WA.heap.size WA w':=hW.trans (hb.mono hW.size);have aax:Below w.heap.size w w':=hb0.trans (hbl.mono hb0.size);have hWz:=hW.size;refine⟨aS,nS,cS,aF,nF,cF,aL,nL,cL,aP,nP,cP,e1,hbl,RB.o _ hbl,fun U hU=>⟨S,hs',hsame,by rw[eS,eF,eL,eP];rfl,(hr.kp hU (fun b hb e=>by have:=(hr.rV b hb).1;omega)).mono jQ.size,aM.below aax hU aax.size (fun b e=>by omega)⟩⟩
   have adu:=Z3 c;rw[c] at Ir;clear Z3 ha hf h Qc he hcap hb0 kb rb jG;by_cases c3:nf<3
   · rw[aR c3];have cV:=ai (fun V (h:Below w.heap.size w V)=>RV.o V 9 h);obtain⟨P,hP⟩:=ex (dg w dK [I 9]);show Calls _ _ _ _ (dg w dK [I 9]);rw[<- hP] at cV ⊢;clear hP RV adu c HTT;go_enter Tryz.func18,Tryz.ntmps18;go_upto_region 1 with fail;rw[<- lI.o];go_upto_region 5 with(go_at_call 53;refine Ir.o.mono ?_;rintro e w1 ⟨rfl,hb1⟩;have pZ:=ai (eU.o.trans (hb1.mono eU.o.size));have R1:=ai (RB.o _ hb1);clear hb1)
     obtain⟨y0,y1,y2,y3,y4⟩:=fy R1.o;have f0:=aO R1.o 0;have f1:=aO R1.o 1;have f2:=aO R1.o 2;have f3:=aO R1.o 3;have f4:=aO R1.o 4;have h5:=ai (fun V=>kR R1.o Nl Nl Nl Nl (I 0) (V:=V));go_wp2;obtain⟨r1,r2⟩:=h5.out _ rfl;obtain⟨y0,y1,y2,y3,y4⟩:=fy r1;refine cm (v:=.tuple #[.agg #[Nl,Nl,Nl,Nl,I 0],I 9]) (by simp[results,Tryz.results18,go_sem,y0,y1,y2,y3,y4]) rfl ?_;exact cV.o _ (aM.below pZ.o r2 pZ.o.size (fun b e=>by omega))
   rw[bf c3];by_cases cr:nf>64∨ns<0∨ns>512
   · rw[aR cr];rcases(show 64<nf∨(¬64<nf/\ns<0)∨(¬64<nf/\¬ns<0/\512<ns) by omega) with g1 | ⟨g1,g2⟩ | ⟨g1,g2,g3⟩
     all_goals
      clear cr;have cV:=ai (fun V (h:Below w.heap.size w V)=>RV.o V 3 h);obtain⟨P,hP⟩:=ex (dg w dK [I 3]);show Calls _ _ _ _ (dg w dK [I 3]);rw[<- hP] at cV ⊢;clear hP RV adu c HTT;go_enter Tryz.func18,Tryz.ntmps18;go_upto_region 1 with fail;rw[<- lI.o];go_upto_region 7 with(go_at_call 53;refine Ir.o.mono ?_;rintro e w1 ⟨rfl,hb1⟩;have pZ:=ai (eU.o.trans (hb1.mono eU.o.size));have R1:=ai (RB.o _ hb1);clear hb1)
      obtain⟨y0,y1,y2,y3,y4⟩:=fy R1.o;have f0:=aO R1.o 0;have f1:=aO R1.o 1;have f2:=aO R1.o 2;have f3:=aO R1.o 3;have f4:=aO R1.o 4;have h5:=ai (fun V=>kR R1.o Nl Nl Nl Nl (I 0) (V:=V));go_wp2;obtain⟨r1,r2⟩:=h5.out _ rfl;obtain⟨y0,y1,y2,y3,y4⟩:=fy r1;refine cm (v:=.tuple #[.agg #[Nl,Nl,Nl,Nl,I 0],I 3]) (by simp[results,Tryz.results18,go_sem,y0,y1,y2,y3,y4]) rfl ?_;exact cV.o _ (aM.below pZ.o r2 pZ.o.size (fun b e=>by omega))
   rw[bf cr];have g1:¬64<nf:=by omega
   have g2:¬ns<0:=by omega
   have g3:¬512<ns:=by omega
   have JZ:=adu (by omega) (by omega) (by omega) (by omega);have e2:=fun V:World=>aaT V nf (by omega) (by omega)
   have e3:=fun V:World=>aaS V ns (by omega) (by omega)
   clear cr adu c;have htb:=nr l;obtain⟨T1,hT1⟩:=ex (dU l);rw[<- hT1] at HTT htb ⊢;clear hT1;by_cases ct:T1>ns
   · rw[aR ct];have c2:ns<T1:=ct;have cV:=ai (fun V (h:Below w.heap.size w V)=>RV.o V 8 h);obtain⟨P,hP⟩:=ex (dg w dK [I 8]);show Calls _ _ _ _ (dg w dK [I 8]);rw[<- hP] at cV ⊢;clear hP RV JZ e2 e3 ct;go_enter Tryz.func18,Tryz.ntmps18;go_upto_region 1 with fail;rw[<- lI.o];go_upto_region 9 with(first
      | (go_at_call 53;refine Ir.o.mono ?_;rintro e w1 ⟨rfl,hb1⟩;have dz:=ai hb1;obtain⟨j0,j1,j2⟩:=nV (KB.o _ hb1);clear hb1)
      | (go_at_call 54;refine(HTT.o _ dz.o).mono ?_;rintro e w2 ⟨rfl,hb2⟩;have hb3:=dz.o.trans (hb2.mono dz.o.size);have pZ:=ai (eU.o.trans (hb3.mono eU.o.size));have R1:=ai (RB.o _ hb3);clear hb2 hb3))
     obtain⟨y0,y1,y2,y3,y4⟩:=fy R1.o;have f0:=aO R1.o 0;have f1:=aO R1.o 1;have f2:=aO R1.o 2;have f3:=aO R1.o 3;have f4:=aO R1.o 4;have h5:=ai (fun V=>kR R1.o Nl Nl Nl Nl (I 0) (V:=V));go_wp2;obtain⟨r1,r2⟩:=h5.out _ rfl;obtain⟨y0,y1,y2,y3,y4⟩:=fy r1;refine cm (v:=.tuple #[.agg #[Nl,Nl,Nl,Nl,I 0],I 8]) (by simp[results,Tryz.results18,go_sem,y0,y1,y2,y3,y4]) rfl ?_;exact cV.o _ (aM.below pZ.o r2 pZ.o.size (fun b e=>by omega))
   rw[bf ct];have c2:¬ns<T1:=ct;obtain⟨P,hP⟩:=ex (dg w (rp l hs nf ns) [I 0]);show Calls _ _ _ _ (dg w (rp l hs nf ns) [I 0]);rw[<- hP] at JZ ⊢;obtain⟨NF,hNF⟩:=ex nf.toNat
   obtain⟨NS,hNS⟩:=ex ns.toNat
   rw[<- hNF] at JZ;rw[<- hNS] at JZ;simp only[<- hNF] at e2;simp only[<- hNS] at e3;clear hP hNF hNS RV ct;go_enter Tryz.func18,Tryz.ntmps18;go_upto_region 1 with fail;rw[<- lI.o];go_upto_region 10 with(first
    | (go_at_call 53;refine Ir.o.mono ?_;rintro e w1 ⟨rfl,hb1⟩;have dz:=ai hb1;obtain⟨j0,j1,j2⟩:=nV (KB.o _ hb1);clear hb1)
    | (go_at_call 54;refine(HTT.o _ dz.o).mono ?_;rintro e w2 ⟨rfl,hb2⟩;have gj:=ai (dz.o.trans (hb2.mono dz.o.size));clear hb2))
   clear j0 j1 j2 Ir HTT;have gq:Hid (∀V,Below WA.heap.size WA V->V.cell? (Ad w.heap.size 0)=some (.slice aa l.length ca)/\V.cell? (Ad w.heap.size 1)=some (.slice ao hs.length cap)):=fun V hV=>⟨aB (KB.o _ hV) 0 rfl,aB (KB.o _ hV) 1 rfl⟩
   refine m7 (S:=fun V=>V.cell? (Ad w.heap.size 0)=some (.slice aa l.length ca)/\V.cell? (Ad w.heap.size 1)=some (.slice ao hs.length cap)) (z:=13) (by kernel_rfl) ?_;have gu:=ai (gj.o.drew);obtain⟨V0,hV0⟩:=ex w2.drew;rw[<- hV0] at gu ⊢;clear hV0;refine cN 0 (gq.o _ gu.o) ?_ ?_ ?_;rotate_left 1
   · intro V h;obtain⟨k0,k1⟩:=h;go_simp
     try with_reducible rfl
   refine cN 1 (gq.o _ gu.o) ?_ ?_ ?_;rotate_left 1
   · intro V h;obtain⟨k0,k1⟩:=h;go_simp
     try with_reducible rfl
   refine cN 2 (gq.o _ gu.o) ?_ ?_ ?_;rotate_left 1
   · intro V h;obtain⟨k0,k1⟩:=h;go_simp
     try with_reducible rfl
   refine cN 4 (gq.o _ gu.o) ?_ ?_ ?_;rotate_left 1
   · intro V h;obtain⟨k0,k1⟩:=h;go_simp
     try with_reducible rfl
   refine cN 6 (gq.o _ gu.o) ?_ ?_ ?_;rotate_left 1
   · intro V h;obtain⟨k0,k1⟩:=h;go_simp
     try with_reducible rfl
   refine cN 7 (gq.o _ gu.o) ?_ ?_ ?_;rotate_left 1
   · intro V h;obtain⟨k0,k1⟩:=h;go_simp
     try with_reducible rfl
   refine cN 8 (gq.o _ gu.o) ?_ ?_ ?_;rotate_left 1
   · intro V h;obtain⟨k0,k1⟩:=h;go_simp
     try with_reducible rfl
   refine bW (rs:=[3,5,9]) (by kernel_rfl) (by simp) ?_;refine aJ.cons rfl (fun K hK=>?_) (aJ.cons rfl (fun K hK=>?_) (aJ.cons rfl (fun K hK=>?_) aJ.nil))
   · go_simp;refine hK.out _ _ (fun _=>?_) ?_
     · exact gq.o _ (gu.o.alloc gu.o.size _)
     clear hK K;have jP:=ai (gu.o.alloc gu.o.size (.cells (jk NF) 40));have BF:=ai (bO V0 (jk NF) 40);obtain⟨V1,hV1⟩:=ex (V0.alloc (.cells (jk NF) 40));obtain⟨bF,Fi⟩:=ex V0.heap.size;rw[<- hV1] at jP BF ⊢;rw[<- Fi] at BF ⊢;clear hV1 Fi
     try simp only[Act.put,bJ,bI,bH]
     refine bW (rs:=[5,9]) (by kernel_rfl) (by simp) ?_;refine aJ.cons rfl (fun K hK=>?_) (aJ.cons rfl (fun K hK=>?_) aJ.nil)
     · go_simp;refine hK.out _ _ (fun _=>?_) ?_
       · exact gq.o _ (jP.o.alloc jP.o.size _)
       clear hK K;have lR:=ai (jP.o.alloc jP.o.size (.cells (ji NS) 86));have BF:=ai (bM BF.o (.cells (ji NS) 86));have BL:=ai (bO V1 (ji NS) 86);obtain⟨V2,hV2⟩:=ex (V1.alloc (.cells (ji NS) 86));obtain⟨bL,hbL⟩:=ex V1.heap.size;rw[<- hV2] at lR BF BL ⊢;rw[<- hbL] at BL ⊢;clear hV2 hbL
       try simp only[Act.put,bJ,bI,bH]
       refine bW (rs:=[9]) (by kernel_rfl) (by simp) ?_;refine aJ.cons rfl (fun K hK=>?_) aJ.nil;go_simp;refine hK.out _ _ (fun _=>?_) ?_
       · exact gq.o _ (lR.o.alloc lR.o.size _)
       clear hK K;have oN:=ai (lR.o.alloc lR.o.size (.cells #[.bool true,.slice aa l.length ca,Nl] 43));have BF:=ai (bM BF.o (.cells #[.bool true,.slice aa l.length ca,Nl] 43));have BL:=ai (bM BL.o (.cells #[.bool true,.slice aa l.length ca,Nl] 43));have BP:=ai (bO V2 #[.bool true,.slice aa l.length ca,Nl] 43);obtain⟨V3,AE⟩:=ex (V2.alloc (.cells #[.bool true,.slice aa l.length ca,Nl] 43));obtain⟨bP,Fh⟩:=ex V2.heap.size;rw[<- AE] at oN BF BL BP ⊢;rw[<- Fh] at BP ⊢;clear AE Fh
       try simp only[Act.put,bJ,bI,bH]
       refine cN 10 (gq.o _ oN.o) ?_ ?_ ?_;rotate_left 1
       · intro V h;obtain⟨k0,k1⟩:=h;go_simp
         try with_reducible rfl
       refine bW (rs:=[11]) (by kernel_rfl) (by simp) ?_;refine aJ.cons rfl (fun K hK=>?_) aJ.nil;rw[aR (by rfl)];go_simp;go_at_call 55;refine(JZ.o _ _ _ _ oN.o BF.o BL.o BP.o).mono ?_;rintro e w6 ⟨aS,nS,cS,aF,nF,cF,aL,nL,cL,aP,nP,cP,rfl,AA,Aw,hfin⟩;have EG:=ai AA;have R6:=ai Aw;have qK:=ai hfin;clear AA Aw hfin;try go_simp;refine hK.out _ _ (fun _=>?_) ?_
       · exact gq.o _ EG.o
       clear hK K
       try simp only[Act.put,bJ,bI,bH]
       obtain⟨y0,y1,y2,y3,y4⟩:=fy R6.o;have f0:=aO R6.o 0;have f1:=aO R6.o 1;have f2:=aO R6.o 2;have f3:=aO R6.o 3;have f4:=aO R6.o 4;have h5:=ai (fun V=>kR R6.o (.slice aS nS cS) (.slice aF nF cF) (.slice aL nL cL) (.slice aP nP cP) (I 0) (V:=V));refine bW (rs:=[12]) (by kernel_rfl) (by simp) ?_;refine aJ.cons rfl (fun K hK=>?_) aJ.nil;go_simp;obtain⟨r1,r2⟩:=h5.out _ rfl;refine hK.out _ _ (fun _=>?_) ?_
       · have:=r2.keep (KB.o _ EG.o) (show ¬w.heap.size=w.heap.size+1 by omega);exact⟨aB this 0 rfl,aB this 1 rfl⟩
       clear hK K
       try simp only[Act.put,bJ,bI,bH]
       refine bW (rs:=[13]) (by kernel_rfl) (by simp) ?_;refine aJ.cons rfl (fun K hK=>?_) aJ.nil;go_simp;refine hK.out _ _ (fun g=>absurd rfl g) ?_;refine ij (by kernel_rfl) ?_ _;go_wp2;obtain⟨y0,y1,y2,y3,y4⟩:=fy r1;refine cm (v:=.tuple #[.agg #[.slice aS nS cS,.slice aF nF cF,.slice aL nL cL,.slice aP nP cP,I 0],I 0]) (by simp[results,Tryz.results18,go_sem,y0,y1,y2,y3,y4]) rfl ?_;exact qK.o _ r2
     · go_simp;refine hK.out _ _ (fun _=>?_) ?_
       · exact gq.o _ (jP.o.alloc jP.o.size _)
       clear hK K;have lR:=ai (jP.o.alloc jP.o.size (.cells #[.bool true,.slice aa l.length ca,Nl] 43));have BF:=ai (bM BF.o (.cells #[.bool true,.slice aa l.length ca,Nl] 43));have BP:=ai (bO V1 #[.bool true,.slice aa l.length ca,Nl] 43);obtain⟨V2,hV2⟩:=ex (V1.alloc (.cells #[.bool true,.slice aa l.length ca,Nl] 43));obtain⟨bP,Fh⟩:=ex V1.heap.size;rw[<- hV2] at lR BF BP ⊢;rw[<- Fh] at BP ⊢;clear hV2 Fh
       try simp only[Act.put,bJ,bI,bH]
       refine bW (rs:=[5]) (by kernel_rfl) (by simp) ?_;refine aJ.cons rfl (fun K hK=>?_) aJ.nil;go_simp;refine hK.out _ _ (fun _=>?_) ?_
       · exact gq.o _ (lR.o.alloc lR.o.size _)
       clear hK K;have oN:=ai (lR.o.alloc lR.o.size (.cells (ji NS) 86));have BF:=ai (bM BF.o (.cells (ji NS) 86));have BP:=ai (bM BP.o (.cells (ji NS) 86));have BL:=ai (bO V2 (ji NS) 86);obtain⟨V3,AE⟩:=ex (V2.alloc (.cells (ji NS) 86));obtain⟨bL,hbL⟩:=ex V2.heap.size;rw[<- AE] at oN BF BP BL ⊢;rw[<- hbL] at BL ⊢;clear AE hbL
       try simp only[Act.put,bJ,bI,bH]
       refine cN 10 (gq.o _ oN.o) ?_ ?_ ?_;rotate_left 1
       · intro V h;obtain⟨k0,k1⟩:=h;go_simp
         try with_reducible rfl
       refine bW (rs:=[11]) (by kernel_rfl) (by simp) ?_;refine aJ.cons rfl (fun K hK=>?_) aJ.nil;rw[aR (by rfl)];go_simp;go_at_call 55;refine(JZ.o _ _ _ _ oN.o BF.o BL.o BP.o).mono ?_;rintro e w6 ⟨aS,nS,cS,aF,nF,cF,aL,nL,cL,aP,nP,cP,rfl,AA,Aw,hfin⟩;have EG:=ai AA;have R6:=ai Aw;have qK:=ai hfin;clear AA Aw hfin;try go_simp;refine hK.out _ _ (fun _=>?_) ?_
       · exact gq.o _ EG.o
       clear hK K
       try simp only[Act.put,bJ,bI,bH]
       obtain⟨y0,y1,y2,y3,y4⟩:=fy R6.o;have f0:=aO R6.o 0;have f1:=aO R6.o 1;have f2:=aO R6.o 2;have f3:=aO R6.o 3;have f4:=aO R6.o 4;have h5:=ai (fun V=>kR R6.o (.slice aS nS cS) (.slice aF nF cF) (.slice aL nL cL) (.slice aP nP cP) (I 0) (V:=V));refine bW (rs:=[12]) (by kernel_rfl) (by simp) ?_;refine aJ.cons rfl (fun K hK=>?_) aJ.nil;go_simp;obtain⟨r1,r2⟩:=h5.out _ rfl;refine hK.out _ _ (fun _=>?_) ?_
       · have:=r2.keep (KB.o _ EG.o) (show ¬w.heap.size=w.heap.size+1 by omega);exact⟨aB this 0 rfl,aB this 1 rfl⟩
       clear hK K
       try simp only[Act.put,bJ,bI,bH]
       refine bW (rs:=[13]) (by kernel_rfl) (by simp) ?_;refine aJ.cons rfl (fun K hK=>?_) aJ.nil;go_simp;refine hK.out _ _ (fun g=>absurd rfl g) ?_;refine ij (by kernel_rfl) ?_ _;go_wp2;obtain⟨y0,y1,y2,y3,y4⟩:=fy r1;refine cm (v:=.tuple #[.agg #[.slice aS nS cS,.slice aF nF cF,.slice aL nL cL,.slice aP nP cP,I 0],I 0]) (by simp[results,Tryz.results18,go_sem,y0,y1,y2,y3,y4]) rfl ?_;exact qK.o _ r2
   · go_simp;refine hK.out _ _ (fun _=>?_) ?_
     · exact gq.o _ (gu.o.alloc gu.o.size _)
     clear hK K;have jP:=ai (gu.o.alloc gu.o.size (.cells (ji NS) 86));have BL:=ai (bO V0 (ji NS) 86);obtain⟨V1,hV1⟩:=ex (V0.alloc (.cells (ji NS) 86));obtain⟨bL,hbL⟩:=ex V0.heap.size;rw[<- hV1] at jP BL ⊢;rw[<- hbL] at BL ⊢;clear hV1 hbL
     try simp only[Act.put,bJ,bI,bH]
     refine bW (rs:=[3,9]) (by kernel_rfl) (by simp) ?_;refine aJ.cons rfl (fun K hK=>?_) (aJ.cons rfl (fun K hK=>?_) aJ.nil)
     · go_simp;refine hK.out _ _ (fun _=>?_) ?_
       · exact gq.o _ (jP.o.alloc jP.o.size _)
       clear hK K;have lR:=ai (jP.o.alloc jP.o.size (.cells (jk NF) 40));have BL:=ai (bM BL.o (.cells (jk NF) 40));have BF:=ai (bO V1 (jk NF) 40);obtain⟨V2,hV2⟩:=ex (V1.alloc (.cells (jk NF) 40));obtain⟨bF,Fi⟩:=ex V1.heap.size;rw[<- hV2] at lR BL BF ⊢;rw[<- Fi] at BF ⊢;clear hV2 Fi
       try simp only[Act.put,bJ,bI,bH]
       refine bW (rs:=[9]) (by kernel_rfl) (by simp) ?_;refine aJ.cons rfl (fun K hK=>?_) aJ.nil;go_simp;refine hK.out _ _ (fun _=>?_) ?_
       · exact gq.o _ (lR.o.alloc lR.o.size _)
       clear hK K;have oN:=ai (lR.o.alloc lR.o.size (.cells #[.bool true,.slice aa l.length ca,Nl] 43));have BL:=ai (bM BL.o (.cells #[.bool true,.slice aa l.length ca,Nl] 43));have BF:=ai (bM BF.o (.cells #[.bool true,.slice aa l.length ca,Nl] 43));have BP:=ai (bO V2 #[.bool true,.slice aa l.length ca,Nl] 43);obtain⟨V3,AE⟩:=ex (V2.alloc (.cells #[.bool true,.slice aa l.length ca,Nl] 43));obtain⟨bP,Fh⟩:=ex V2.heap.size;rw[<- AE] at oN BL BF BP ⊢;rw[<- Fh] at BP ⊢;clear AE Fh
       try simp only[Act.put,bJ,bI,bH]
       refine cN 10 (gq.o _ oN.o) ?_ ?_ ?_;rotate_left 1
       · intro V h;obtain⟨k0,k1⟩:=h;go_simp
         try with_reducible rfl
       refine bW (rs:=[11]) (by kernel_rfl) (by simp) ?_;refine aJ.cons rfl (fun K hK=>?_) aJ.nil;rw[aR (by rfl)];go_simp;go_at_call 55;refine(JZ.o _ _ _ _ oN.o BF.o BL.o BP.o).mono ?_;rintro e w6 ⟨aS,nS,cS,aF,nF,cF,aL,nL,cL,aP,nP,cP,rfl,AA,Aw,hfin⟩;have EG:=ai AA;have R6:=ai Aw;have qK:=ai hfin;clear AA Aw hfin;try go_simp;refine hK.out _ _ (fun _=>?_) ?_
       · exact gq.o _ EG.o
       clear hK K
       try simp only[Act.put,bJ,bI,bH]
       obtain⟨y0,y1,y2,y3,y4⟩:=fy R6.o;have f0:=aO R6.o 0;have f1:=aO R6.o 1;have f2:=aO R6.o 2;have f3:=aO R6.o 3;have f4:=aO R6.o 4;have h5:=ai (fun V=>kR R6.o (.slice aS nS cS) (.slice aF nF cF) (.slice aL nL cL) (.slice aP nP cP) (I 0) (V:=V));refine bW (rs:=[12]) (by kernel_rfl) (by simp) ?_;refine aJ.cons rfl (fun K hK=>?_) aJ.nil;go_simp;obtain⟨r1,r2⟩:=h5.out _ rfl;refine hK.out _ _ (fun _=>?_) ?_
       · have:=r2.keep (KB.o _ EG.o) (show ¬w.heap.size=w.heap.size+1 by omega);exact⟨aB this 0 rfl,aB this 1 rfl⟩
       clear hK K
       try simp only[Act.put,bJ,bI,bH]
       refine bW (rs:=[13]) (by kernel_rfl) (by simp) ?_;refine aJ.cons rfl (fun K hK=>?_) aJ.nil;go_simp;refine hK.out _ _ (fun g=>absurd rfl g) ?_;refine ij (by kernel_rfl) ?_ _;go_wp2;obtain⟨y0,y1,y2,y3,y4⟩:=fy r1;refine cm (v:=.tuple #[.agg #[.slice aS nS cS,.slice aF nF cF,.slice aL nL cL,.slice aP nP cP,I 0],I 0]) (by simp[results,Tryz.results18,go_sem,y0,y1,y2,y3,y4]) rfl ?_;exact qK.o _ r2
     · go_simp;refine hK.out _ _ (fun _=>?_) ?_
       · exact gq.o _ (jP.o.alloc jP.o.size _)
       clear hK K;have lR:=ai (jP.o.alloc jP.o.size (.cells #[.bool true,.slice aa l.length ca,Nl] 43));have BL:=ai (bM BL.o (.cells #[.bool true,.slice aa l.length ca,Nl] 43));have BP:=ai (bO V1 #[.bool true,.slice aa l.length ca,Nl] 43);obtain⟨V2,hV2⟩:=ex (V1.alloc (.cells #[.bool true,.slice aa l.length ca,Nl] 43));obtain⟨bP,Fh⟩:=ex V1.heap.size;rw[<- hV2] at lR BL BP ⊢;rw[<- Fh] at BP ⊢;clear hV2 Fh
       try simp only[Act.put,bJ,bI,bH]
       refine bW (rs:=[3]) (by kernel_rfl) (by simp) ?_;refine aJ.cons rfl (fun K hK=>?_) aJ.nil;go_simp;refine hK.out _ _ (fun _=>?_) ?_
       · exact gq.o _ (lR.o.alloc lR.o.size _)
       clear hK K;have oN:=ai (lR.o.alloc lR.o.size (.cells (jk NF) 40));have BL:=ai (bM BL.o (.cells (jk NF) 40));have BP:=ai (bM BP.o (.cells (jk NF) 40));have BF:=ai (bO V2 (jk NF) 40);obtain⟨V3,AE⟩:=ex (V2.alloc (.cells (jk NF) 40));obtain⟨bF,Fi⟩:=ex V2.heap.size;rw[<- AE] at oN BL BP BF ⊢;rw[<- Fi] at BF ⊢;clear AE Fi
       try simp only[Act.put,bJ,bI,bH]
       refine cN 10 (gq.o _ oN.o) ?_ ?_ ?_;rotate_left 1
       · intro V h;obtain⟨k0,k1⟩:=h;go_simp
         try with_reducible rfl
       refine bW (rs:=[11]) (by kernel_rfl) (by simp) ?_;refine aJ.cons rfl (fun K hK=>?_) aJ.nil;rw[aR (by rfl)];go_simp;go_at_call 55;refine(JZ.o _ _ _ _ oN.o BF.o BL.o BP.o).mono ?_;rintro e w6 ⟨aS,nS,cS,aF,nF,cF,aL,nL,cL,aP,nP,cP,rfl,AA,Aw,hfin⟩;have EG:=ai AA;have R6:=ai Aw;have qK:=ai hfin;clear AA Aw hfin;try go_simp;refine hK.out _ _ (fun _=>?_) ?_
       · exact gq.o _ EG.o
       clear hK K
       try simp only[Act.put,bJ,bI,bH]
       obtain⟨y0,y1,y2,y3,y4⟩:=fy R6.o;have f0:=aO R6.o 0;have f1:=aO R6.o 1;have f2:=aO R6.o 2;have f3:=aO R6.o 3;have f4:=aO R6.o 4;have h5:=ai (fun V=>kR R6.o (.slice aS nS cS) (.slice aF nF cF) (.slice aL nL cL) (.slice aP nP cP) (I 0) (V:=V));refine bW (rs:=[12]) (by kernel_rfl) (by simp) ?_;refine aJ.cons rfl (fun K hK=>?_) aJ.nil;go_simp;obtain⟨r1,r2⟩:=h5.out _ rfl;refine hK.out _ _ (fun _=>?_) ?_
       · have:=r2.keep (KB.o _ EG.o) (show ¬w.heap.size=w.heap.size+1 by omega);exact⟨aB this 0 rfl,aB this 1 rfl⟩
       clear hK K
       try simp only[Act.put,bJ,bI,bH]
       refine bW (rs:=[13]) (by kernel_rfl) (by simp) ?_;refine aJ.cons rfl (fun K hK=>?_) aJ.nil;go_simp;refine hK.out _ _ (fun g=>absurd rfl g) ?_;refine ij (by kernel_rfl) ?_ _;go_wp2;obtain⟨y0,y1,y2,y3,y4⟩:=fy r1;refine cm (v:=.tuple #[.agg #[.slice aS nS cS,.slice aF nF cF,.slice aL nL cL,.slice aP nP cP,I 0],I 0]) (by simp[results,Tryz.results18,go_sem,y0,y1,y2,y3,y4]) rfl ?_;exact qK.o _ r2
   · go_simp;refine hK.out _ _ (fun _=>?_) ?_
     · exact gq.o _ (gu.o.alloc gu.o.size _)
     clear hK K;have jP:=ai (gu.o.alloc gu.o.size (.cells #[.bool true,.slice aa l.length ca,Nl] 43));have BP:=ai (bO V0 #[.bool true,.slice aa l.length ca,Nl] 43);obtain⟨V1,hV1⟩:=ex (V0.alloc (.cells #[.bool true,.slice aa l.length ca,Nl] 43));obtain⟨bP,Fh⟩:=ex V0.heap.size;rw[<- hV1] at jP BP ⊢;rw[<- Fh] at BP ⊢;clear hV1 Fh
     try simp only[Act.put,bJ,bI,bH]
     refine bW (rs:=[3,5]) (by kernel_rfl) (by simp) ?_;refine aJ.cons rfl (fun K hK=>?_) (aJ.cons rfl (fun K hK=>?_) aJ.nil)
     · go_simp;refine hK.out _ _ (fun _=>?_) ?_
       · exact gq.o _ (jP.o.alloc jP.o.size _)
       clear hK K;have lR:=ai (jP.o.alloc jP.o.size (.cells (jk NF) 40));have BP:=ai (bM BP.o (.cells (jk NF) 40));have BF:=ai (bO V1 (jk NF) 40);obtain⟨V2,hV2⟩:=ex (V1.alloc (.cells (jk NF) 40));obtain⟨bF,Fi⟩:=ex V1.heap.size;rw[<- hV2] at lR BP BF ⊢;rw[<- Fi] at BF ⊢;clear hV2 Fi
       try simp only[Act.put,bJ,bI,bH]
       refine bW (rs:=[5]) (by kernel_rfl) (by simp) ?_;refine aJ.cons rfl (fun K hK=>?_) aJ.nil;go_simp;refine hK.out _ _ (fun _=>?_) ?_
       · exact gq.o _ (lR.o.alloc lR.o.size _)
       clear hK K;have oN:=ai (lR.o.alloc lR.o.size (.cells (ji NS) 86));have BP:=ai (bM BP.o (.cells (ji NS) 86));have BF:=ai (bM BF.o (.cells (ji NS) 86));have BL:=ai (bO V2 (ji NS) 86);obtain⟨V3,AE⟩:=ex (V2.alloc (.cells (ji NS) 86));obtain⟨bL,hbL⟩:=ex V2.heap.size;rw[<- AE] at oN BP BF BL ⊢;rw[<- hbL] at BL ⊢;clear AE hbL
       try simp only[Act.put,bJ,bI,bH]
       refine cN 10 (gq.o _ oN.o) ?_ ?_ ?_;rotate_left 1
       · intro V h;obtain⟨k0,k1⟩:=h;go_simp
         try with_reducible rfl
       refine bW (rs:=[11]) (by kernel_rfl) (by simp) ?_;refine aJ.cons rfl (fun K hK=>?_) aJ.nil;rw[aR (by rfl)];go_simp;go_at_call 55;refine(JZ.o _ _ _ _ oN.o BF.o BL.o BP.o).mono ?_;rintro e w6 ⟨aS,nS,cS,aF,nF,cF,aL,nL,cL,aP,nP,cP,rfl,AA,Aw,hfin⟩;have EG:=ai AA;have R6:=ai Aw;have qK:=ai hfin;clear AA Aw hfin;try go_simp;refine hK.out _ _ (fun _=>?_) ?_
       · exact gq.o _ EG.o
       clear hK K
       try simp only[Act.put,bJ,bI,bH]
       obtain⟨y0,y1,y2,y3,y4⟩:=fy R6.o;have f0:=aO R6.o 0;have f1:=aO R6.o 1;have f2:=aO R6.o 2;have f3:=aO R6.o 3;have f4:=aO R6.o 4;have h5:=ai (fun V=>kR R6.o (.slice aS nS cS) (.slice aF nF cF) (.slice aL nL cL) (.slice aP nP cP) (I 0) (V:=V));refine bW (rs:=[12]) (by kernel_rfl) (by simp) ?_;refine aJ.cons rfl (fun K hK=>?_) aJ.nil;go_simp;obtain⟨r1,r2⟩:=h5.out _ rfl;refine hK.out _ _ (fun _=>?_) ?_
       · have:=r2.keep (KB.o _ EG.o) (show ¬w.heap.size=w.heap.size+1 by omega);exact⟨aB this 0 rfl,aB this 1 rfl⟩
       clear hK K
       try simp only[Act.put,bJ,bI,bH]
       refine bW (rs:=[13]) (by kernel_rfl) (by simp) ?_;refine aJ.cons rfl (fun K hK=>?_) aJ.nil;go_simp;refine hK.out _ _ (fun g=>absurd rfl g) ?_;refine ij (by kernel_rfl) ?_ _;go_wp2;obtain⟨y0,y1,y2,y3,y4⟩:=fy r1;refine cm (v:=.tuple #[.agg #[.slice aS nS cS,.slice aF nF cF,.slice aL nL cL,.slice aP nP cP,I 0],I 0]) (by simp[results,Tryz.results18,go_sem,y0,y1,y2,y3,y4]) rfl ?_;exact qK.o _ r2
     · go_simp;refine hK.out _ _ (fun _=>?_) ?_
       · exact gq.o _ (jP.o.alloc jP.o.size _)
       clear hK K;have lR:=ai (jP.o.alloc jP.o.size (.cells (ji NS) 86));have BP:=ai (bM BP.o (.cells (ji NS) 86));have BL:=ai (bO V1 (ji NS) 86);obtain⟨V2,hV2⟩:=ex (V1.alloc (.cells (ji NS) 86));obtain⟨bL,hbL⟩:=ex V1.heap.size;rw[<- hV2] at lR BP BL ⊢;rw[<- hbL] at BL ⊢;clear hV2 hbL
       try simp only[Act.put,bJ,bI,bH]
       refine bW (rs:=[3]) (by kernel_rfl) (by simp) ?_;refine aJ.cons rfl (fun K hK=>?_) aJ.nil;go_simp;refine hK.out _ _ (fun _=>?_) ?_
       · exact gq.o _ (lR.o.alloc lR.o.size _)
       clear hK K;have oN:=ai (lR.o.alloc lR.o.size (.cells (jk NF) 40));have BP:=ai (bM BP.o (.cells (jk NF) 40));have BL:=ai (bM BL.o (.cells (jk NF) 40));have BF:=ai (bO V2 (jk NF) 40);obtain⟨V3,AE⟩:=ex (V2.alloc (.cells (jk NF) 40));obtain⟨bF,Fi⟩:=ex V2.heap.size;rw[<- AE] at oN BP BL BF ⊢;rw[<- Fi] at BF ⊢;clear AE Fi
       try simp only[Act.put,bJ,bI,bH]
       refine cN 10 (gq.o _ oN.o) ?_ ?_ ?_;rotate_left 1
       · intro V h;obtain⟨k0,k1⟩:=h;go_simp
         try with_reducible rfl
       refine bW (rs:=[11]) (by kernel_rfl) (by simp) ?_;refine aJ.cons rfl (fun K hK=>?_) aJ.nil;rw[aR (by rfl)];go_simp;go_at_call 55;refine(JZ.o _ _ _ _ oN.o BF.o BL.o BP.o).mono ?_;rintro e w6 ⟨aS,nS,cS,aF,nF,cF,aL,nL,cL,aP,nP,cP,rfl,AA,Aw,hfin⟩;have EG:=ai AA;have R6:=ai Aw;have qK:=ai hfin;clear AA Aw hfin;try go_simp;refine hK.out _ _ (fun _=>?_) ?_
       · exact gq.o _ EG.o
       clear hK K
       try simp only[Act.put,bJ,bI,bH]
       obtain⟨y0,y1,y2,y3,y4⟩:=fy R6.o;have f0:=aO R6.o 0;have f1:=aO R6.o 1;have f2:=aO R6.o 2;have f3:=aO R6.o 3;have f4:=aO R6.o 4;have h5:=ai (fun V=>kR R6.o (.slice aS nS cS) (.slice aF nF cF) (.slice aL nL cL) (.slice aP nP cP) (I 0) (V:=V));refine bW (rs:=[12]) (by kernel_rfl) (by simp) ?_;refine aJ.cons rfl (fun K hK=>?_) aJ.nil;go_simp;obtain⟨r1,r2⟩:=h5.out _ rfl;refine hK.out _ _ (fun _=>?_) ?_
       · have:=r2.keep (KB.o _ EG.o) (show ¬w.heap.size=w.heap.size+1 by omega);exact⟨aB this 0 rfl,aB this 1 rfl⟩
       clear hK K
       try simp only[Act.put,bJ,bI,bH]
       refine bW (rs:=[13]) (by kernel_rfl) (by simp) ?_;refine aJ.cons rfl (fun K hK=>?_) aJ.nil;go_simp;refine hK.out _ _ (fun g=>absurd rfl g) ?_;refine ij (by kernel_rfl) ?_ _;go_wp2;obtain⟨y0,y1,y2,y3,y4⟩:=fy r1;refine cm (v:=.tuple #[.agg #[.slice aS nS cS,.slice aF nF cF,.slice aL nL cL,.slice aP nP cP,I 0],I 0]) (by simp[results,Tryz.results18,go_sem,y0,y1,y2,y3,y4]) rfl ?_;exact qK.o _ r2
 · rw[aR c];obtain⟨C,hC⟩:=ex (ld l hs en);rw[<- hC] at Ir c ⊢;have cb:(C != 0)=true:=by grind
   have cV:=ai (fun V (h:Below w.heap.size w V)=>RV.o V C h);obtain⟨P,hP⟩:=ex (dg w dK [I C]);show Calls _ _ _ _ (dg w dK [I C]);rw[<- hP] at cV ⊢;clear ha hf h Qc he hcap hb0 kb rb jG hC c hP RV HTT;go_enter Tryz.func18,Tryz.ntmps18;go_upto_region 1 with fail;rw[<- lI.o];go_upto_region 3 with(go_at_call 53;refine Ir.o.mono ?_;rintro e w1 ⟨rfl,hb1⟩;have pZ:=ai (eU.o.trans (hb1.mono eU.o.size));have R1:=ai (RB.o _ hb1);clear hb1)
   obtain⟨y0,y1,y2,y3,y4⟩:=fy R1.o;have f0:=aO R1.o 0;have f1:=aO R1.o 1;have f2:=aO R1.o 2;have f3:=aO R1.o 3;have f4:=aO R1.o 4;have h5:=ai (fun V=>kR R1.o Nl Nl Nl Nl (I 0) (V:=V));go_wp2;obtain⟨r1,r2⟩:=h5.out _ rfl;obtain⟨y0,y1,y2,y3,y4⟩:=fy r1;refine cm (v:=.tuple #[.agg #[Nl,Nl,Nl,Nl,I 0],I C]) (by simp[results,Tryz.results18,go_sem,y0,y1,y2,y3,y4]) rfl ?_;exact cV.o _ (aM.below pZ.o r2 pZ.o.size (fun b e=>by omega))
end Go.Proofs.YtpgifpeohlllfaaGreat
