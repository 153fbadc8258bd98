import Derived.Test.YtlgoihmkgaaemaaGreatGM16
set_option maxHeartbeats 20000000
set_option linter.unusedVariables false
set_option maxRecDepth 100000
set_option linter.unusedSimpArgs false
namespace Go.Proofs.YtlgoihmkgaaemaaGreat
open Go.RowKit
theorem Fj (kd a:Int):∀ss:List cV,(bT ss kd a).length<=(xJ ss).length
 | []=>rN _
 | s::r=>by
  have ih:=Fj kd a r
  grind [fw,xJ,kL]
theorem Qq {k:aR} (h:aY k):(xJ k.aj).length<=512:=by
 have h1:=FQ k.aj.length k.aj rfl (fun s hs=>B6 (h.each s hs));have h2:=h.room;have h3:=h.c;omega
theorem xW {k:aR} (h:aY k):(∀i,i<k.frames.length->0<=(aD k.frames i).refs/\(aD k.frames i).refs<=512)/\(∀i,i<k.slots.length->0<=(bE k.slots i).refs/\(bE k.slots i).refs<=512):=by
 have h1:=Qq h;refine⟨fun i hi=>?_,fun i hi=>?_⟩
 · have:=(h.zt i hi).refs
   grind [Fj]
 · have:=(h.slt i hi).refs
   grind [Fj]
theorem nW {k:aR} (h:aY k) {j:Nat} (hj:j<k.aj.length):(ak k.aj j).bf.length<=512:=by
 have h4:=Qq h;have:∀(l:List cV) (j:Nat),j<l.length->(ak l j).bf.length<=(xJ l).length:=fun l=>by
  induction l with
  | nil=>grind
  | cons s r ih =>
   grind [xJ,ak]
 grind
theorem TW.kp {α:Type} {f:α->List Value} {k:Nat} {d:α} {w w':World} {ao:Option Addr} {l:List α} {D:Nat->Prop} (h:dW f k d w ao l) (hk:aC D w w') (hn:∀b off,ao=some (Ad b off)->¬D b):dW f k d w' ao l:=fun hl=>by
 obtain⟨b,off,e,hb,hi⟩:=h hl;refine⟨b,off,e,fV hb hk.size,fun i hi' j hj=>?_⟩;exact(GQ (hk.block b hb (hn b off e))).trans (hi i hi' j hj)
theorem BC {lo mb:Nat} {tt:TypeId} {X:List Value} (F:FuncId) (E:List Value) (x:Nat) (hFE:(F=300/\E=[.pointer (some (Ad x 0))])∨(F=285/\E=[.pointer (some (Ad x 0))])∨(F=269/\E=[]))
  (k:aR) (S:gB) (w:World) (j:Nat) (p:bC->Bool) (h:bH lo mb tt X w S k) (hR:aY k) (hj:j<k.aj.length) (hC:∀V e,aC (fun b=>S.lab b≠.no) w V->Calls Tryz.prog F (Value.agg #[I e.page,I e.kind,I e.loc]::E).toArray V fun r w'=>r=.returned (.bool (p e))/\Below V.heap.size V w') :
  Calls Tryz.prog 268 #[.pointer (some (Ad mb 0)),I (j:Int),.func (.func F) #[] E.toArray] w (fN lo mb tt X w S (.tuple #[]) (dz k j p)):=by
 have hlo:lo<=w.heap.size:=gT h.lo_le (OE h.lt);have hcc:=hR.c;have hen:=nW hR hj;obtain⟨pb,cP,A⟩:=h.toKr.sp (by omega);obtain⟨ae,ce,RT,hre⟩:=h.toKr.bf hj;have c3:=h.c3;rw[A.v] at c3;have a2:=A.x2 j hj;rw[RT] at a2;have hji:(j:Int)<(k.aj.length:Int):=by omega
 obtain⟨es,hes⟩:=ex ((ak k.aj j).bf);rw[<- hes] at a2 hen hre RT;have HST:Hid (∀V n,n<es.length->bH lo mb tt X V S (cQ k es p n)->V.cell? (Ad pb (j*3+2))=some (.slice ae es.length ce)/\dW bw 3 gY V ae es):=fun V n hn hV=>by
  have hjn:j<(cQ k es p n).aj.length:=by rw[kN];exact hj
  obtain⟨pb',cP',A'⟩:=hV.toKr.sp (by omega);have e:pb'=pb:=by
   have:=A'.v;rw[A.v] at this
   grind
  subst e;have x2:=A'.x2 j hjn;rw[RT] at x2;obtain⟨ae',ce',anU,an8⟩:=hV.toKr.bf hjn;rw[kN,<- hes] at anU an8
  grind
 have HCN:Hid (∀V n,n<es.length->bH lo mb tt X V S (cQ k es p n)->Calls Tryz.prog 270 #[.pointer (some (Ad mb 0)),.agg #[I (aV es n).page,I (aV es n).kind,I (aV es n).loc],I (-1)] V (mM lo mb tt X V S (.tuple #[]) (dE (cQ k es p n) (aV es n)))):=fun V n hn hV=>by
  have hin:aV es n∈(ak k.aj j).bf:=by rw[<- hes];exact jL hn
  have hb:=iU hR hj hin;have hr:=FL k es p n;have hp:=vT hR hj p n (by grind);rw[<- hes] at hp;have hf:=xW hp;have hf1:∀i,i<(cQ k es p n).frames.length->0<=(aD (cQ k es p n).frames i).refs/\(aD (cQ k es p n).frames i).refs<=512:=hf.1;have hf2:∀i,i<(cQ k es p n).slots.length->0<=(bE (cQ k es p n).slots i).refs/\(bE (cQ k es p n).slots i).refs<=512:=hf.2;rw[<- FN];refine DD _ S V (aV es n) (-1) hV (fun c=>?_) (fun c=>?_) (.inr rfl) ⟨fun c=>?_,fun c=>?_⟩
  · omega
  · omega
  · grind
  grind
 have Oj:=ai hC;have HDL:Hid (∀V,bH lo mb tt X V S (cQ k es p es.length)->cI S w S V->Calls Tryz.prog 281 #[.slice ae es.length ce,.func (.func F) #[] E.toArray] V fun e w'=>∃av nv cv,e=.returned (.slice av nv cv)/\∃S',bH lo mb tt X (w'.setCell (Ad pb (j*3+2)) (.slice av nv cv)) S' (dz k j p)/\cI S w S' (w'.setCell (Ad pb (j*3+2)) (.slice av nv cv))/\w'.frozen? (Ad pb (j*3+2))=false/\(∃u,w'.cell? (Ad pb (j*3+2))=some u)):=fun V hV hch=>by
  have hjn:j<(cQ k es p es.length).aj.length:=by rw[kN];exact hj
  have hrow:=(hV.each j hjn).aO;rw[kN,<- hes,RT] at hrow;have hlab:∀b,bW (.slice ae es.length ce) b->S.lab b=.bf j:=fun b hb=>hV.lE j hjn b (by grind)
  refine(SU F E x hFE lo es p (.slice ae es.length ce) V hrow (fun U e hU=>Oj.o U e ?_) (by omega)).mono fun e w' ⟨v',h1,h2,h3,h4⟩=>?_
  · exact((hch.kp.mono (fun b _ g=>g)).trans hU (fun b hb hx=>by grind))
  · obtain⟨av,cv,rfl,_,_⟩:=bh h2;obtain⟨pb',cP',A'⟩:=hV.toKr.sp (by omega);have hP:S.vP=.slice (some (Ad pb 0)) k.aj.length cP:=A.v;have k1:aC (fun b=>S.lab b=.bf j) V w':=h3.mono (fun b _ hx=>hlab b hx);have sw:=hV.ahW hjn hP k1 h2 (fun b hb=>by
     rcases h4 b hb with g | g
     · exact .inl (hlab b g)
     · exact .inr (hV.toKr.new g))
    have e1:({ cQ k es p es.length with aj:=(cQ k es p es.length).aj.set j (dU (ak (cQ k es p es.length).aj j) (eQ es p)) }:aR)=dz k j p:=by
     unfold dz jV
     grind
    refine⟨av,_,cv,h1,_,e1 ▸ sw.1,hch.trans (sw.2 (fun b hb hx=>?_)),?_,?_⟩
    · rcases h4 b hx with g | g
      · exact hlab b g
      · omega
    · have hrP:=hV.aj;rw[hP] at hrP;have hrl:=h.len;have:=k1.row hrP (fun b hb e=>by
       have:S.lab b=.aj:=hV.lP b (by rw[hP];exact hb);rw[this] at e;simp at e)
      have hl2:S.L.length=k.aj.length:=hrl;rw[<- hl2] at this;exact iF this _
    · have hpl:S.lab pb=.aj:=A.lab;have c2:=A'.x2 j hjn;have e:pb'=pb:=by
       have:=A'.v;rw[A.v] at this;injection this with e1 _ _;injection e1 with e1;injection e1 with e1 _ _;omega
      subst e;exact⟨_,k1.cell c2 (fun e=>by have e:S.lab pb'=.bf j:=e;rw[hpl] at e;simp at e)⟩
 have dm:Hid (∀V S',bH lo mb tt X V S' (dz k j p)->cI S w S' V->fN lo mb tt X w S (.tuple #[]) (dz k j p) (.returned (.tuple #[])) V):=fun V S' h1 h2=>⟨rfl,S',h1,h2⟩
 have alR:=ai (fun V (hV:bH lo mb tt X V S (cQ k es p es.length))=>(show V.cell? (Ad pb (j*3+2))=some (.slice ae es.length ce) from by
  have hjn:j<(cQ k es p es.length).aj.length:=by rw[kN];exact hj
  obtain⟨pb',cP',A'⟩:=hV.toKr.sp (by omega);have e:pb'=pb:=by
   have:=A'.v;rw[A.v] at this
   grind
  subst e;have x2:=A'.x2 j hjn
  grind))
 have tM:=ai h;have HKB:Hid (∀V n,bH lo mb tt X V S (cQ k es p n)->∀V',Below V.heap.size V V'->bH lo mb tt X V' S (cQ k es p n)):=fun V n hV V' hb=>hV.below hb
 have ER:Hid (∀n,p (aV es n)=true->dE (cQ k es p n) (aV es n)=cQ k es p (n+1)):=fun n hn=>by
  show _=if p (aV es n)=true then _ else _
  grind
 have uP:Hid (∀n,p (aV es n)=false->cQ k es p n=cQ k es p (n+1)):=fun n hn=>by
  show _=if p (aV es n)=true then _ else _
  grind
 obtain⟨P,hP⟩:=ex (fN lo mb tt X w S (.tuple #[]) (dz k j p));rw[<- hP] at dm ⊢;obtain⟨np,Ak⟩:=ex k.aj.length;rw[<- Ak] at c3 hji;clear h hR hcc A RT hre hes hC hP Ak hj hlo;rcases hFE with⟨rfl,rfl⟩ | ⟨rfl,rfl⟩ | ⟨rfl,rfl⟩
 all_goals
  go_enter Tryz.func268,Tryz.ntmps268;go_wp2;go_loopw [21] (fun iv wr=>∃n:Nat,n<=es.length/\iv=I (n:Int)/\bH lo mb tt X wr S (cQ k es p n)/\cI S w S wr) (fun iv _=>es.length-(intOf iv).toNat)
  case atStart=>exact⟨0,by omega,rfl,tM.o,cI.refl _ _⟩
  case round =>
   obtain⟨n,hn,rfl,rz,hch⟩:=hrel;have HKM:=ai rz;have Ol:=ai hch;by_cases hlt:n<es.length
   · have hni:(n:Int)<(es.length:Int):=by omega
     obtain⟨y2,hr2⟩:=HST.o wr n hlt rz;obtain⟨eb,eo,hao,hbl,eX⟩:=hr2 (by omega);subst hao;have x0:=eX n hlt 0 (by omega);have x1:=eX n hlt 1 (by omega);have x2:=eX n hlt 2 (by omega);rw[mA] at x0;have HA:=ai ((aJ wr.heap.size wr).alloc (aH _) (.cells #[I (aV es n).page,I (aV es n).kind,I (aV es n).loc] 174));have BX:=ai (bD wr #[I (aV es n).page,I (aV es n).kind,I (aV es n).loc] 174);have yA:=ai (Oj.o (wr.alloc (.cells #[I (aV es n).page,I (aV es n).kind,I (aV es n).loc] 174)) (aV es n) ((hch.trans (cI.below (S:=S) HA.o)).kp));have aml:=ai (fun V=>HCN.o V n hlt);have HY2:=ai (ER.o n);have Mr:=ai (uP.o n);obtain⟨G,hG⟩:=ex (p (aV es n));rw[<- hG] at yA HY2 Mr;obtain⟨e,he⟩:=ex (aV es n);have y0:wr.cell? (Ad eb (eo+n*3))=some (I e.page):=by rw[he];exact x0
     have y1:wr.cell? (Ad eb (eo+n*3+1))=some (I e.kind):=by rw[he];exact x1
     have y3:wr.cell? (Ad eb (eo+n*3+2))=some (I e.loc):=by rw[he];exact x2
     rw[<- he] at yA HA BX aml HY2;clear hG he rz hch hr2 eX x0 x1 x2 tM;cases G with
     | true =>
      go_wp2_with (first
       | ((first | go_at_call 300 | go_at_call 285 | go_at_call 269);refine yA.o.mono ?_;rintro r w1 ⟨rfl,hb1⟩;have cM:=ai (HA.o.trans (hb1.mono HA.o.size));have BX1:=aN BX.o hb1 (aI BX.o);obtain⟨d0,d1,d2⟩:=ET BX1;clear hb1 BX1)
       | (go_at_call 270;refine(aml.o _ (HKB.o _ n HKM.o _ cM.o)).mono ?_;rintro r w2 ⟨rfl,hk2,hc2⟩;have pM:=ai hk2;have Ww:=ai ((Ol.o.trans (cI.below (S:=S) cM.o)).trans hc2);clear hk2 hc2))
      go_roundw
      case rel=>exact⟨n+1,by omega,by go_num,HY2.o (by trivial) ▸ pM.o,Ww.o⟩
      case measure=>simp[intOf];omega
     | false =>
      go_wp2_with ((first | go_at_call 300 | go_at_call 285 | go_at_call 269);refine yA.o.mono ?_;rintro r w1 ⟨rfl,hb1⟩;have cM:=ai (HA.o.trans (hb1.mono HA.o.size));clear hb1)
      go_roundw
      case rel=>exact⟨n+1,by omega,by go_num,Mr.o (by trivial) ▸ HKB.o _ n HKM.o _ cM.o,Ol.o.trans (cI.below (S:=S) cM.o)⟩
      case measure=>simp[intOf];omega
   · obtain rfl:n=es.length:=by omega
     have y2:=alR.o wr rz;have Wv:=ai (HDL.o wr rz hch);clear rz hch HKM Ol HDL HST alR HCN Oj tM HKB ER uP;go_wp2_with (go_at_call 281;refine Wv.o.mono ?_;rintro r w2 ⟨av,nv,cv,rfl,S',hk2,hc2,auU,u2,hu2⟩;have pM:=ai hk2;have Ww:=ai hc2;clear hk2 hc2)
     refine uZ (v:=.tuple #[]) (by simp[results,Tryz.results268,go_sem]) rfl ?_;exact dm.o _ S' pM.o Ww.o
open Go.RowKit
theorem MZ (i:Int) (e:bC) (x:Nat) (w:World) (hx:w.cell? (Ad x 0)=some (I i)) :
  Calls Tryz.prog 300 #[.agg #[I e.page,I e.kind,I e.loc],.pointer (some (Ad x 0))] w fun r w'=>r=.returned (.bool (kV i e))/\Below w.heap.size w w':=by
 obtain⟨pg,kd,lc⟩:=e;unfold kV;simp only;have hxl:x<w.heap.size:=oJ w _ hx;have xA:(w.alloc (.cells #[I pg,I kd,I lc] 174)).cell? (Ad x 0)=some (I i):=(OP ((aJ w.heap.size w).alloc (aH _) _) (p:=(Ad x 0)) hxl).trans hx;obtain⟨A,hA⟩:=ex (decide (kd=1/\lc=i));rw[<- hA];have HA:=ai hA;clear hA;by_cases c:kd=1
 · have kb:(kd==1)=true:=by grind
   obtain⟨C,hC⟩:=ex ((lc==i));have HC:=ai hC;have hC2:=hC.symm;have qu:=ai c;clear hC c;go_enter Tryz.func300,Tryz.ntmps300;go_wp2;go_ret;refine⟨?_,(aJ _ _).alloc (aH _) _⟩;congr 2;rw[HA.o,qu.o]
   try rw[HC.o]
   by_cases d:lc=i <;> simp[d]
 · have kb:(kd==1)=false:=by grind
   have qu:=ai c;clear c;go_enter Tryz.func300,Tryz.ntmps300;go_wp2;go_ret
   simp_all [aJ,pR,Hid.o]
theorem Sp (f:oO) (w:World):Calls Tryz.prog 302 #[.agg #[.string f.data,I f.refs]] w fun e w'=>e=.returned (.bool (tI f))/\Below w.heap.size w w':=by
 obtain⟨d,r⟩:=f;unfold tI;simp only;have hd:d.toList.isEmpty=decide (d.size=0):=YE d;by_cases c1:d.size=0
 · by_cases c2:r=0
   · rw[gU (show d.size=0/\r=0 from⟨c1,c2⟩)];rw[gU c1] at hd;have h2:(r==0)=true:=by grind
     clear c1 c2;go_enter Tryz.func302,Tryz.ntmps302;go_wp2;go_ret;simp[aJ,pR]
   · rw[je (show ¬(d.size=0/\r=0) from fun x=>c2 x.2)];rw[gU c1] at hd;have h2:(r==0)=false:=by grind
     clear c1 c2;go_enter Tryz.func302,Tryz.ntmps302;go_wp2;go_ret;simp[aJ,pR]
 · rw[je (show ¬(d.size=0/\r=0) from fun x=>c1 x.1)];rw[je c1] at hd;clear c1;go_enter Tryz.func302,Tryz.ntmps302;go_wp2;go_ret;simp[aJ,pR]
theorem Yv (l:List oO) (ao:Option Addr) (cap:Nat) (w:World) (h:dW iQ 2 nR w ao l) (hl:l.length<=1000000) :
  Calls Tryz.prog 301 #[.slice ao l.length cap,.func (.func 302) #[] #[]] w fun e w' =>
   Below w.heap.size w w'/\((e=.returned (I (-1))/\∀j,j<l.length->tI (bE l j)=false)∨∃i:Nat,i<l.length/\e=.returned (I (i:Int))/\tI (bE l i)=true/\∀j,j<i->tI (bE l j)=false):=by
 have HH:=ai h;clear h;go_enter Tryz.func301,Tryz.ntmps301;go_wp2;go_loopw [8] (fun iv wr=>∃k:Nat,k<=l.length/\iv=I (k:Int)/\(∀j,j<k->tI (bE l j)=false)/\Below w.heap.size w wr) (fun iv _=>l.length-(intOf iv).toNat)
 case atStart=>grind [Below.refl]
 case round =>
  obtain⟨k,hk,rfl,hno,hb⟩:=hrel;have uP:=ai hno;have HB:=ai hb;clear hno;by_cases hlt:k<l.length
  · have JL:(k:Int)<(l.length:Int):=by omega
    obtain⟨eb,eo,hao,hbl,eX⟩:=HH.o (by omega);subst hao;have y0:=(hb.cell (p:=(Ad eb (eo+k*2+0))) hbl).trans (eX k hlt 0 (by omega));have y1:=(hb.cell (p:=(Ad eb (eo+k*2+1))) hbl).trans (eX k hlt 1 (by omega));rw[mA] at y0;have yA:=ai (Sp (bE l k) wr);obtain⟨G,hG⟩:=ex (tI (bE l k));rw[<- hG] at yA;have HG:=ai hG;obtain⟨E,hE⟩:=ex (bE l k);have x0:wr.cell? (Ad eb (eo+k*2))=some (.string E.data):=by rw[hE];exact y0
    have x1:wr.cell? (Ad eb (eo+k*2+1))=some (I E.refs):=by rw[hE];exact y1
    rw[<- hE] at yA;clear hG hE hb y0 y1 eX;cases G with
    | true =>
     go_wp2_with (go_at_call 302;refine yA.o.mono ?_;rintro e w1 ⟨rfl,hb1⟩;have cM:=ai (HB.o.trans (hb1.mono HB.o.size));clear hb1)
     go_ret;exact⟨cM.o,.inr ⟨k,hlt,rfl,HG.o.symm,uP.o⟩⟩
    | false =>
     go_wp2_with (go_at_call 302;refine yA.o.mono ?_;rintro e w1 ⟨rfl,hb1⟩;have cM:=ai (HB.o.trans (hb1.mono HB.o.size));clear hb1)
     go_roundw
     case rel=>exact⟨k+1,by omega,by go_num,fun j hj=>by
      by_cases q:j=k
      · subst q;exact HG.o.symm
      · exact uP.o j (by omega),cM.o⟩
     case measure=>simp[intOf];omega
  · obtain rfl:k=l.length:=by omega
    clear hb;go_wp2;go_ret;exact⟨HB.o,.inl ⟨rfl,uP.o⟩⟩
theorem Yw (l:List lK) (ao:Option Addr) (cap:Nat) (w:World) (h:dW iT 4 gM w ao l) (hl:l.length<=1000000) :
  Calls Tryz.prog 295 #[.slice ao l.length cap,.func (.func 216) #[] #[]] w fun e w' =>
   Below w.heap.size w w'/\((e=.returned (I (-1))/\∀j,j<l.length->sM (aD l j)=false)∨∃i:Nat,i<l.length/\e=.returned (I (i:Int))/\sM (aD l i)=true/\∀j,j<i->sM (aD l j)=false):=by
 have HH:=ai h;clear h;go_enter Tryz.func295,Tryz.ntmps295;go_wp2;go_loopw [8] (fun iv wr=>∃k:Nat,k<=l.length/\iv=I (k:Int)/\(∀j,j<k->sM (aD l j)=false)/\Below w.heap.size w wr) (fun iv _=>l.length-(intOf iv).toNat)
 case atStart=>grind [Below.refl]
 case round =>
  obtain⟨k,hk,rfl,hno,hb⟩:=hrel;have uP:=ai hno;have HB:=ai hb;clear hno;by_cases hlt:k<l.length
  · have JL:(k:Int)<(l.length:Int):=by omega
    obtain⟨eb,eo,hao,hbl,eX⟩:=HH.o (by omega);subst hao;have y0:=(hb.cell (p:=(Ad eb (eo+k*4+0))) hbl).trans (eX k hlt 0 (by omega));have y1:=(hb.cell (p:=(Ad eb (eo+k*4+1))) hbl).trans (eX k hlt 1 (by omega));have y2:=(hb.cell (p:=(Ad eb (eo+k*4+2))) hbl).trans (eX k hlt 2 (by omega));have y3:=(hb.cell (p:=(Ad eb (eo+k*4+3))) hbl).trans (eX k hlt 3 (by omega));rw[mA] at y0;have yA:=ai (Hz (aD l k) wr);obtain⟨G,hG⟩:=ex (sM (aD l k));rw[<- hG] at yA;have HG:=ai hG;obtain⟨E,hE⟩:=ex (aD l k);have x0:wr.cell? (Ad eb (eo+k*4))=some (.string E.data):=by rw[hE];exact y0
    have x1:wr.cell? (Ad eb (eo+k*4+1))=some (I E.refs):=by rw[hE];exact y1
    have x2:wr.cell? (Ad eb (eo+k*4+2))=some (.bool E.jw):=by rw[hE];exact y2
    have x3:wr.cell? (Ad eb (eo+k*4+3))=some (.bool E.seen):=by rw[hE];exact y3
    rw[<- hE] at yA;clear hG hE hb y0 y1 y2 y3 eX;cases G with
    | true =>
     go_wp2_with (go_at_call 216;refine yA.o.mono ?_;rintro e w1 ⟨rfl,hb1⟩;have cM:=ai (HB.o.trans (hb1.mono HB.o.size));clear hb1)
     go_ret;exact⟨cM.o,.inr ⟨k,hlt,rfl,HG.o.symm,uP.o⟩⟩
    | false =>
     go_wp2_with (go_at_call 216;refine yA.o.mono ?_;rintro e w1 ⟨rfl,hb1⟩;have cM:=ai (HB.o.trans (hb1.mono HB.o.size));clear hb1)
     go_roundw
     case rel=>exact⟨k+1,by omega,by go_num,fun j hj=>by
      by_cases q:j=k
      · subst q;exact HG.o.symm
      · exact uP.o j (by omega),cM.o⟩
     case measure=>simp[intOf];omega
  · obtain rfl:k=l.length:=by omega
    clear hb;go_wp2;go_ret;exact⟨HB.o,.inl ⟨rfl,uP.o⟩⟩
theorem aa2 {k:aR} (hR:aY k) {i:Nat} (hi:i<k.slots.length) (h1:tI (bE k.slots i)=true) (h2:∀j,j<i->tI (bE k.slots j)=false):ye k.slots=some i:=by
 unfold ye;refine Pc.2 ⟨hi,?_,fun j hj=>?_⟩
 · grind [FE,bE,nR]
 · have hj':j<k.slots.length:=by omega
   have:=h2 j hj;have hz:¬(bE k.slots j).refs=0:=fun z=>by
    have h3:=(hR.slt j hj').zero ((hR.slt j hj').nil z)
    grind [FE]
   grind [bE]
theorem aa3 {k:aR} (hR:aY k) {i:Nat} (hi:i<k.frames.length) (h1:sM (aD k.frames i)=true) (h2:∀j,j<i->sM (aD k.frames j)=false):yg k.frames=some i:=by
 unfold yg;refine Pc.2 ⟨hi,?_,fun j hj=>?_⟩
 · grind [DR,aD,gM]
 · have hj':j<k.frames.length:=by omega
   have:=h2 j hj;have hz:¬(aD k.frames j).refs=0:=fun z=>by
    have h3:=(hR.zt j hj').zero ((hR.zt j hj').nil z)
    grind [DR]
   grind [aD]
theorem aa1 {k:aR} (hR:aY k) (h:∀j,j<k.frames.length->sM (aD k.frames j)=false):yg k.frames=none/\A7 k:=by
 have hF:A7 k:=fun j hj z=>by
  have h3:=(hR.zt j hj).zero ((hR.zt j hj).nil z)
  grind [DR]
 refine⟨?_,hF⟩;unfold yg;refine UE.2 fun x hx=>?_
 obtain⟨j,hj,rfl⟩:=lu gM hx;have:=hF j hj
 grind [aD]
open Go.RowKit
def rh (f:cV->cV) (l:List cV) (n:Nat):List cV:=(l.take n).map f++l.drop n
theorem DA (f:cV->cV) (l:List cV) (n:Nat):(rh f l n).length=l.length:=by
 grind [rh]
theorem MV (f:cV->cV) (l:List cV) (n m:Nat) (hm:m<l.length):ak (rh f l n) m=if m<n then f (ak l m) else ak l m:=by
 grind [rh,ak]
theorem Ks (f:cV->cV) (l:List cV) (n:Nat) (hn:n<l.length):(rh f l n).set n (f (ak l n))=rh f l (n+1):=by
 refine pd qJ _ _ (by grind [DA]) (fun m hm=>?_)
 grind [DA,rh,ak]
theorem Vr (f:cV->cV) (l:List cV):rh f l l.length=l.map f:=by
 grind [rh]
def ez (k:aR) (i s n:Nat):aR:={ k with frames:=k.frames.set i gM,slots:=k.slots.set s ⟨(aD k.frames i).data,(aD k.frames i).refs⟩,aj:=rh (kf i s) k.aj n }
theorem N7 {lo mb:Nat} {tt:TypeId} {X:List Value} (k:aR) (S:gB) (w:World) (i:Nat) (h:bH lo mb tt X w S k) (hR:aY k) (hi:i<k.frames.length) (Xy:(aD k.frames i).refs≠0) :
  Calls Tryz.prog 297 #[.pointer (some (Ad mb 0)),I (i:Int)] w (fN lo mb tt X w S (.tuple #[]) (eB k i)):=by
 have hcc:=hR.c;obtain⟨fb,cF,A⟩:=h.toKr.fr (by omega);obtain⟨W,hW⟩:=ex (((w.alloc (.cells #[I (i:Int)] 3)).alloc (.cells #[.string (aD k.frames i).data,I (aD k.frames i).refs,.bool (aD k.frames i).jw,.bool (aD k.frames i).seen] 169)).drew);have gG:Hid (Below w.heap.size w W):=by rw[hW];exact(((aJ w.heap.size w).alloc (aH _) _).alloc (by simp) _).drew
 have X0:Hid (W.heap[w.heap.size]?=some (.cells #[I (i:Int)] 3 (0,0))):=by rw[hW];exact bl (bD w _ _) _
 have F0:Hid (W.heap[w.heap.size+1]?=some (.cells #[.string (aD k.frames i).data,I (aD k.frames i).refs,.bool (aD k.frames i).jw,.bool (aD k.frames i).seen] 169 (0,0))):=by
  have:=bD (w.alloc (.cells #[I (i:Int)] 3)) #[.string (aD k.frames i).data,I (aD k.frames i).refs,.bool (aD k.frames i).jw,.bool (aD k.frames i).seen] 169;rw[fM] at this;rw[hW];exact this
 have HMW:=ai (h.below gG.o);have HCW:Hid (cI S w S W):=cI.below gG.o;have n0:S.lab w.heap.size=.no:=h.toKr.new (aH _);have n1:S.lab (w.heap.size+1)=.no:=h.toKr.new (kQ _);have Pe:Hid (∀S' V,cI S W S' V->V.heap[w.heap.size]?=some (.cells #[I (i:Int)] 3 (0,0))/\V.heap[w.heap.size+1]?=some (.cells #[.string (aD k.frames i).data,I (aD k.frames i).refs,.bool (aD k.frames i).jw,.bool (aD k.frames i).seen] 169 (0,0))):=fun S' V hV=>⟨hV.keep X0.o n0,hV.keep F0.o n1⟩
 have c1:=h.c1;rw[A.v] at c1;have x0:=A.x0 i hi;have x1:=A.x1 i hi;have x2:=A.x2 i hi;have x3:=A.x3 i hi;have JL:(i:Int)<(k.frames.length:Int):=by omega
 have MH:=h.lt;have hfl:=A.lt;have dm:Hid (∀V S' K,K=eB k i->bH lo mb tt X V S' K->cI S W S' V->fN lo mb tt X w S (.tuple #[]) (eB k i) (.returned (.tuple #[])) V):=fun V S' K hK h1 h2=>⟨rfl,S',hK ▸ h1,HCW.o.trans h2⟩
 obtain⟨P,hP⟩:=ex (fN lo mb tt X w S (.tuple #[]) (eB k i));rw[<- hP] at dm ⊢;have HHW:=ai hW;cases hd:(aD k.frames i).jw with
 | false =>
  have hdrop:eB k i=kg k i k.aj.length:=by
   grind [YH,eB]
  have Lp:=ai (fun V S' h1 h2=>dm.o V S' _ hdrop.symm h1 h2);have HFO:Hid (∀V S' n,n<k.aj.length->bH lo mb tt X V S' (kg k i n)->cI S W S' V->Calls Tryz.prog 268 #[.pointer (some (Ad mb 0)),I (n:Int),.func (.func 300) #[] #[.pointer (some (Ad w.heap.size 0))]] V (fN lo mb tt X V S' (.tuple #[]) (kg k i (n+1)))):=fun V S' n hn hV hc=>by
   have hp:=yY hR i n (by omega);refine BC 300 [.pointer (some (Ad w.heap.size 0))] w.heap.size (.inl ⟨rfl,rfl⟩) (kg k i n) S' V n (kV (i:Int)) hV hp.1 (by omega) (fun U e hU=>?_);have hx:=(Pe.out S' V hc).1;have hno:S'.lab w.heap.size=.no:=hc.no _ (aI X0.o) n0;exact MZ (i:Int) e w.heap.size U (aq (hU.keep hx (fun z=>z hno)) 0 rfl)
  have HSL:Hid (∀V S' n,bH lo mb tt X V S' (kg k i n)->n<=k.aj.length->∃av cv,V.cell? (Ad mb 3)=some (.slice av k.aj.length cv)):=fun V S' n hV hn=>by
   have hp:=yY hR i n hn;obtain⟨pb,cP,A'⟩:=hV.toKr.sp (by omega);have:=hV.c3;rw[A'.v,hp.2.2.2.2.2.1] at this
   grind
  obtain⟨av,cv,d3⟩:=HSL.o W S 0 HMW.o (by omega);obtain⟨np,Ak⟩:=ex k.aj.length;rw[<- Ak] at d3 HFO Lp;have auu:np<=4:=by omega
  obtain⟨FR,TL⟩:=ex (aD k.frames i);rw[<- TL] at x0 x1 x2 x3 HHW hd F0;obtain⟨fd,fr,fdy,fs⟩:=FR;simp only at x0 x1 x2 x3 HHW hd F0;subst hd;have d2:W.cell? (Ad (w.heap.size+1) 2)=some (.bool false):=aq F0.o 2 rfl;clear hW hP hR hcc A h Xy TL Ak HSL dm Pe hdrop hi;go_enter Tryz.func297,Tryz.ntmps297;go_upto_region 1 with fail;go_region;rw[<- HHW.o];go_wp2;go_loopw [29] (fun iv wr=>∃(n:Nat) (S':gB),n<=np/\iv=I (n:Int)/\bH lo mb tt X wr S' (kg k i n)/\cI S W S' wr) (fun iv _=>np-(intOf iv).toNat)
  case atStart=>exact⟨0,S,by omega,rfl,HMW.o,cI.refl _ _⟩
  case round =>
   obtain⟨n,S',hn,rfl,rz,hch⟩:=hrel;by_cases hlt:n<np
   · have hni:(n:Int)<(np:Int):=by omega
     have ap1:=ai (HFO.o wr S' n hlt rz hch);have Ol:=ai hch;clear rz hch HMW HCW;go_wp2_with (go_at_call 268;refine ap1.o.mono ?_;rintro r w2 ⟨rfl,S2,hk2,hc2⟩;have pM:=ai hk2;have yA:=ai (Ol.o.trans hc2);clear hk2 hc2)
     grind [intOf,Hid.o]
   · obtain rfl:n=np:=by omega
     have HX:=ai (Lp.o wr S' rz hch);clear rz hch;go_wp2
     first
      | exact HX.o
      | (refine bK (v:=.tuple #[]) (by simp[results]) rfl ?_;exact HX.o)
 | true =>
  obtain⟨s,Pf,hsl,hsn⟩:=hR.slot hi Xy;have ah1:eB k i=ez k i s k.aj.length:=by
   unfold eB ez;rw[hd,Pf,Vr];rfl
  have Lp:=ai (fun V S' h1 h2=>dm.o V S' _ ah1.symm h1 h2);obtain⟨lb,cL,AL⟩:=HMW.o.toKr.sl (by omega);obtain⟨aL,cL',eL,_,hrL⟩:=ov iQ (fun _=>rfl) nR HMW.o.slots;have c2:=HMW.o.c2;rw[AL.v] at c2;have eL2:aL=some (Ad lb 0):=by
   grind [acJ.v]
  subst eL2;have Uc:Hid (Calls Tryz.prog 301 #[.slice (some (Ad lb 0)) k.slots.length cL,.func (.func 302) #[] #[]] W fun e w'=>e=.returned (I (s:Int))/\Below W.heap.size W w'):=(Yv k.slots (some (Ad lb 0)) cL W hrL (by omega)).mono fun e w' ⟨hb,hh⟩=>by
   rcases hh with⟨_,hno⟩ | ⟨m,hm,he,hy,hno⟩
   · have:=hno s hsl;have hz:=(hR.slt s hsl).zero hsn;rw[hz] at this;cases this
   · have:=aa2 hR hm hy hno
     grind
  have dr:∀V:World,Below V.heap.size V V.drew:=fun V=>(aJ _ _).drew
  have ZB:Hid (∀V U,Below W.heap.size W V->U=((V.setCell (Ad lb (s*2)) (.string (aD k.frames i).data)).setCell (Ad lb (s*2+1)) (I (aD k.frames i).refs)).drew->bH lo mb tt X U S { k with slots:=k.slots.set s ⟨(aD k.frames i).data,(aD k.frames i).refs⟩ }/\cI S W S U):=fun V U hb hU=>by
   have m0:=HMW.o.below hb;have m1:=m0.akx AL.v hsl ⟨(aD k.frames i).data,(aD k.frames i).refs⟩;subst hU;exact⟨m1.1.below (dr _),((cI.below hb).trans m1.2).trans (cI.below (dr _))⟩
  have Bf:Hid (∀V U,bH lo mb tt X V S { k with slots:=k.slots.set s ⟨(aD k.frames i).data,(aD k.frames i).refs⟩ }->cI S W S V->U=((((V.setCell (Ad fb (i*4)) (.string ⟨#[]⟩)).setCell (Ad fb (i*4+1)) (I 0)).setCell (Ad fb (i*4+2)) (.bool false)).setCell (Ad fb (i*4+3)) (.bool false)).drew->bH lo mb tt X U S (ez k i s 0)/\cI S W S U):=fun V U hV hc hU=>by
   have m2:=hV.aeC A.v (i:=i) hi gM;subst hU;exact⟨m2.1.below (dr _),(hc.trans m2.2).trans (cI.below (dr _))⟩
  have LO:Hid (∀V S' n,n<k.aj.length->bH lo mb tt X V S' (ez k i s n)->cI S W S' V->∃pb cP ae ce lv ax nx cx,V.cell? (Ad pb (n*3))=some (.bool lv)/\V.cell? (Ad pb (n*3+1))=some (.slice ax nx cx)/\V.cell? (Ad pb (n*3+2))=some (.slice ae (ak k.aj n).bf.length ce)/\S'.vP=.slice (some (Ad pb 0)) k.aj.length cP /\
    ((ez k i s n=ez k i s (n+1)/\∀V',Below V.heap.size V V'->Calls Tryz.prog 186 #[.slice ae (ak k.aj n).bf.length ce,.func (.func 300) #[] #[.pointer (some (Ad w.heap.size 0))]] V' fun e w'=>e=.returned (I (-1))/\Below V'.heap.size V' w') ∨
    ∃(m eb:Nat),m<(ak k.aj n).bf.length/\ae=some (Ad eb 0)/\eb<V.heap.size/\∀V',Below V.heap.size V V'->Calls Tryz.prog 186 #[.slice ae (ak k.aj n).bf.length ce,.func (.func 300) #[] #[.pointer (some (Ad w.heap.size 0))]] V' fun e w'=>e=.returned (I (m:Int))/\Below V'.heap.size V' w'/\(∃u1 u2,w'.cell? (Ad eb (m*3+1))=some (I u1)/\w'.cell? (Ad eb (m*3+2))=some (I u2))/\w'.frozen? (Ad eb (m*3+1))=false/\w'.frozen? (Ad eb (m*3+2))=false/\(∀U,U=((w'.setCell (Ad eb (m*3+1)) (I 2)).setCell (Ad eb (m*3+2)) (I (s:Int))).drew->bH lo mb tt X U S' (ez k i s (n+1))/\cI S' V S' U))):=fun V S' n hn hV hc=>by
   have hlen:(ez k i s n).aj.length=k.aj.length:=DA _ _ _;have hn':n<(ez k i s n).aj.length:=by omega
   have hat:ak (ez k i s n).aj n=ak k.aj n:=by
    show ak (rh _ _ _) n=_
    grind [MV]
   obtain⟨pb,cP,A'⟩:=hV.toKr.sp (by omega);obtain⟨ae,ce,RT,hre⟩:=hV.toKr.bf hn';rw[hat] at RT hre;have a0:=A'.x0 n hn';have a1:=A'.x1 n hn';have a2:=A'.x2 n hn';rw[RT] at a2;have hv:=A'.v;rw[hlen] at hv;obtain⟨ax,cx,IP,_,_⟩:=bh (hV.each n hn').aT;rw[IP] at a1;refine⟨pb,cP,ae,ce,_,ax,_,cx,a0,a1,a2,hv,?_⟩;have hx:V.heap[w.heap.size]?=some (.cells #[I (i:Int)] 3 (0,0)):=(Pe.out S' V hc).1;have hix:∀V',Below V.heap.size V V'->_:=fun V' hb'=>Jc 300 (.inr (.inr rfl)) (kV (i:Int)) (ak k.aj n).bf ae ce w.heap.size V' (hre.below hb') (by grind [nW]) (fun U e hU=>MZ (i:Int) e w.heap.size U (aq (aN (aN hx hb' (aI hx)) hU (fV (aI hx) hb'.size)) 0 rfl))
   by_cases hex:∃m,m<(ak k.aj n).bf.length/\kV (i:Int) (aV (ak k.aj n).bf m)=true
   · obtain⟨m,hm,hy⟩:=hex;obtain⟨eb,hao,aiZ⟩:∃eb,ae=some (Ad eb 0)/\eb<V.heap.size:=by
      obtain⟨ao,cap,e,_,hg⟩:=bh (hV.each n hn').aO
      grind
     subst hao;refine .inr ⟨m,eb,hm,rfl,aiZ,fun V' hb'=>(hix V' hb').mono fun e w' ⟨hb,hh⟩=>?_⟩;have hbb:Below V.heap.size V w':=hb'.trans (hb.mono hb'.size);have he:e=.returned (I (m:Int)):=by
      grind [T5]
     have mw:=hV.below hbb;have hs1:m<(ak (ez k i s n).aj n).bf.length:=by grind
     have hrow:=(mw.each n hn').aO;rw[hat,RT] at hrow;have g1:=jY bw (fun _=>rfl) gY hrow m 1 hm (by omega);have g2:=jY bw (fun _=>rfl) gY hrow m 2 hm (by omega);refine⟨he,hb,⟨_,_,g1,g2⟩,iF hrow _,iF hrow _,fun U hU=>?_⟩;have e1:=mw.aeA hn' RT hs1 (c:=1) (by omega) (e:=⟨(aV (ak k.aj n).bf m).page,2,(aV (ak k.aj n).bf m).loc⟩) (u:=I 2) (by rw[hat];rfl);have hl2:n<({ ez k i s n with aj:=(ez k i s n).aj.set n (dU (ak (ez k i s n).aj n) ((ak (ez k i s n).aj n).bf.set m ⟨(aV (ak k.aj n).bf m).page,2,(aV (ak k.aj n).bf m).loc⟩)) }:aR).aj.length:=by
      grind
     have alo:ak ((ez k i s n).aj.set n (dU (ak (ez k i s n).aj n) ((ak (ez k i s n).aj n).bf.set m ⟨(aV (ak k.aj n).bf m).page,2,(aV (ak k.aj n).bf m).loc⟩))) n=dU (ak k.aj n) ((ak k.aj n).bf.set m ⟨(aV (ak k.aj n).bf m).page,2,(aV (ak k.aj n).bf m).loc⟩):=by
      grind [iC]
     have e2:=e1.1.aeA hl2 RT (i:=m) (by
      show m<(ak (List.set _ _ _) n).bf.length;rw[alo];show m<(List.set _ _ _).length
      grind) (c:=2) (by omega) (e:=⟨(aV (ak k.aj n).bf m).page,2,(s:Int)⟩) (u:=I (s:Int)) (by
      show _=(bw (aV (ak (List.set _ _ _) n).bf m)).set 2 _;rw[alo];show _=(bw ((List.set _ _ _).getD m gY)).set 2 _;rw[eI _ _ _ _ hm];rfl)
     have hK:({ ({ ez k i s n with aj:=(ez k i s n).aj.set n (dU (ak (ez k i s n).aj n) ((ak (ez k i s n).aj n).bf.set m ⟨(aV (ak k.aj n).bf m).page,2,(aV (ak k.aj n).bf m).loc⟩)) }:aR) with aj:=((ez k i s n).aj.set n (dU (ak (ez k i s n).aj n) ((ak (ez k i s n).aj n).bf.set m ⟨(aV (ak k.aj n).bf m).page,2,(aV (ak k.aj n).bf m).loc⟩))).set n (dU (ak ((ez k i s n).aj.set n (dU (ak (ez k i s n).aj n) ((ak (ez k i s n).aj n).bf.set m ⟨(aV (ak k.aj n).bf m).page,2,(aV (ak k.aj n).bf m).loc⟩))) n) ((ak ((ez k i s n).aj.set n (dU (ak (ez k i s n).aj n) ((ak (ez k i s n).aj n).bf.set m ⟨(aV (ak k.aj n).bf m).page,2,(aV (ak k.aj n).bf m).loc⟩))) n).bf.set m ⟨(aV (ak k.aj n).bf m).page,2,(s:Int)⟩)) }:aR)=ez k i s (n+1):=by
      grind [List.set_set,ez,Ks,dU,kf,SC,T5]
     subst hU;have e3:=hK ▸ e2.1;exact⟨e3.below (dr _),(((cI.below hbb).trans e1.2).trans e2.2).trans (cI.below (dr _))⟩
   · have hno:∀m,m<(ak k.aj n).bf.length->kV (i:Int) (aV (ak k.aj n).bf m)=false:=fun m hm=>by
      grind
     refine .inl ⟨?_,fun V' hb'=>(hix V' hb').mono fun e w' ⟨hb,hh⟩=>?_⟩
     · unfold ez;congr 1;rw[<- Ks _ _ _ hn];have e1:kf (i:Int) s (ak k.aj n)=ak (rh (kf i s) k.aj n) n:=by
        simp_all [MV,kf,VF]
       rw[e1];refine(pd qJ _ _ (by grind) (fun q hq=>?_)).symm
       grind [ak]
     grind
  obtain⟨pb,cP,AP⟩:=HMW.o.toKr.sp (by omega);have hvP:=AP.v;have HVP:=ai AP.v;have np4:k.aj.length<=4:=by omega
  have ZG:=ai (fun V K (hV:bH lo mb tt X V S K) (hK:K.frames=k.frames)=>(show(∀j,V.frozen? (Ad fb j)=false)/\V.cell? (Ad fb (i*4))=some (.string (aD k.frames i).data)/\V.cell? (Ad fb (i*4+1))=some (I (aD k.frames i).refs)/\V.cell? (Ad fb (i*4+2))=some (.bool (aD k.frames i).jw)/\V.cell? (Ad fb (i*4+3))=some (.bool (aD k.frames i).seen)/\V.cell? (Ad mb 1)=some (.slice (some (Ad fb 0)) k.frames.length cF)/\V.cell? (Ad mb 3)=some (.slice (some (Ad pb 0)) k.aj.length cP) from by
   obtain⟨fb',cF',A'⟩:=hV.toKr.fr (by grind);have e:fb'=fb:=by
    have:=A'.v
    grind [AW.v]
   subst e;have c1:=hV.c1
   grind [bH.c3,AW.v,AW.x0,AW.x1,AW.x2,AW.x3,AW.fz]))
  have hx0:=AL.x0 s hsl;have hx1:=AL.x1 s hsl;have hz0:=AL.fz (s*2);have hz1:=AL.fz (s*2+1);have hll:=AL.lt;have Ww:=ai (fun V (hV:bH lo mb tt X V S (ez k i s 0))=>(show V.cell? (Ad mb 3)=some (.slice (some (Ad pb 0)) k.aj.length cP) from by grind [bH.c3]));have q0:∀V,Below W.heap.size W V->V.cell? (Ad (w.heap.size+1) 0)=some (.string (aD k.frames i).data)/\V.cell? (Ad (w.heap.size+1) 1)=some (I (aD k.frames i).refs)/\V.cell? (Ad mb 2)=some (.slice (some (Ad lb 0)) k.slots.length cL)/\V.cell? (Ad lb (s*2))=some (.string (bE k.slots s).data)/\V.cell? (Ad lb (s*2+1))=some (I (bE k.slots s).refs)/\V.frozen? (Ad lb (s*2))=false/\V.frozen? (Ad lb (s*2+1))=false:=fun V hb=>by
   have hF:=aN F0.o hb (aI F0.o);have mV:=HMW.o.below hb;obtain⟨lb',cL',A'⟩:=mV.toKr.sl (by omega);have e:lb'=lb:=by
    have:=A'.v
    grind
   subst e;have c2:=mV.c2;rw[AL.v] at c2;exact⟨aq hF 0 rfl,aq hF 1 rfl,c2,A'.x0 s hsl,A'.x1 s hsl,A'.fz _,A'.fz _⟩
  have HQ0:=ai q0;have HXA:=ai (fun V (hc:cI S W S V)=>(show V.cell? (Ad w.heap.size 0)=some (I (i:Int)) from aq (Pe.out S V hc).1 0 rfl));obtain⟨FR,TL⟩:=ex (aD k.frames i);rw[<- TL] at x0 x1 x2 x3 HHW hd F0 ZB Bf ZG HQ0;obtain⟨SR,hSR⟩:=ex (bE k.slots s);rw[<- hSR] at HQ0;rw[hd] at x2 HHW F0;have d2:W.cell? (Ad (w.heap.size+1) 2)=some (.bool true):=aq F0.o 2 rfl;have hsi:(s:Int)<(k.slots.length:Int):=by omega
  have HMF:Hid (∀S' V,cI S W S' V->S'.vP=S.vP):=fun S' V hc=>hc.eP
  clear hW hP hR hcc A h Xy TL dm Pe hi Pf hsn AL AP hrL eL q0 ah1 hvP hSR dr hx0 hx1 hz0 hz1;go_enter Tryz.func297,Tryz.ntmps297;go_upto_region 1 with fail;go_region;rw[<- HHW.o];go_upto_region 10 with(go_at_call 301;refine Uc.o.mono ?_;rintro e w1 ⟨rfl,hb1⟩;have cM:=ai hb1;clear hb1)
  obtain⟨p0,p1,p2,p3,p4,p5,p6⟩:=HQ0.o w1 cM.o;obtain⟨U1,hU1⟩:=ex (((w1.setCell (Ad lb (s*2)) (.string FR.data)).setCell (Ad lb (s*2+1)) (I FR.refs)).drew);have HU1:=ai hU1;obtain⟨hk1,hc1⟩:=ZB.o w1 U1 cM.o hU1;have uY:=ai hk1;have HC1:=ai hc1;clear hU1 hk1 hc1;go_region;rw[<- HU1.o];obtain⟨g0,g1,g2,g3,g4,g5,g6⟩:=ZG.o U1 _ uY.o rfl;have g0a:=g0 (i*4);have g0b:=g0 (i*4+1);have g0c:=g0 (i*4+2);have g0d:=g0 (i*4+3);have g7:=HXA.o U1 HC1.o;obtain⟨U2,hU2⟩:=ex (((((U1.setCell (Ad fb (i*4)) (.string ⟨#[]⟩)).setCell (Ad fb (i*4+1)) (I 0)).setCell (Ad fb (i*4+2)) (.bool false)).setCell (Ad fb (i*4+3)) (.bool false)).drew);have HU2:=ai hU2;obtain⟨hk2,hc2⟩:=Bf.o U1 U2 uY.o HC1.o hU2;have pM:=ai hk2;have yA:=ai hc2;have k3:=Ww.o U2 hk2;clear hU2 hk2 hc2 p0 p1 p2 p3 p4 p5 p6 g0;go_upto_region 11 with fail;go_region;rw[<- HU2.o];clear HU1 HU2 uY HC1 cM g0a g0b g0c g0d g1 g2 g3 g4 g5 g6 g7;go_wp2;go_loopw [69] (fun iv wr=>∃(n:Nat) (S':gB),n<=k.aj.length/\iv=I (n:Int)/\bH lo mb tt X wr S' (ez k i s n)/\cI S W S' wr) (fun iv _=>k.aj.length-(intOf iv).toNat)
  case atStart=>grind [Hid.o]
  case round =>
   obtain⟨n,S',hn,rfl,rz,hch⟩:=hrel;by_cases hlt:n<k.aj.length
   · have hni:(n:Int)<(k.aj.length:Int):=by omega
     obtain⟨pb',cP',ae,ce,lv,ax,nx,cx,a0,a1,a2,hvp,hcs⟩:=LO.o wr S' n hlt rz hch;have epb:pb'=pb:=by
      rw[HMF.o S' wr hch,HVP.o] at hvp
      grind
     subst epb;have HKM:=ai rz;have Ol:=ai hch;have HA:=ai ((aJ wr.heap.size wr).alloc (aH _) (.cells #[.bool lv,.slice ax nx cx,.slice ae (ak k.aj n).bf.length ce] 99));have BX:=ai (bD wr #[.bool lv,.slice ax nx cx,.slice ae (ak k.aj n).bf.length ce] 99);have aoB:∀eb,eb<wr.heap.size->¬wr.heap.size=eb:=fun eb h=>by omega
     clear rz hch hvp pM yA;rcases hcs with⟨hsame,hcl⟩ | ⟨m,eb,hm,hae,aiZ,hcl⟩
     · have HSM:=ai hsame;have Oj:=ai hcl;clear hsame hcl;go_wp2_with (go_at_call 186;refine(Oj.o _ HA.o).mono ?_;rintro e w2 ⟨rfl,hb2⟩;have gP:=ai (HA.o.trans (hb2.mono HA.o.size));clear hb2)
       go_roundw
       case rel=>exact⟨n+1,S',by omega,by go_num,HSM.o ▸ HKM.o.below gP.o,Ol.o.trans (cI.below gP.o)⟩
       grind [intOf]
     · subst hae;have Oj:=ai hcl;have hmi:(m:Int)<((ak k.aj n).bf.length:Int):=by omega
       have hm0:(0:Int)<=(m:Int):=by omega
       clear hcl aoB;go_upto_region 17 with(go_at_call 186;refine(Oj.o _ HA.o).mono ?_;rintro e w2 ⟨rfl,hb2,⟨u1,u2,t1,t2⟩,t3,t4,hfin⟩;have BX2:=aN BX.o hb2 (aI BX.o);obtain⟨r0,r1,r2⟩:=ET BX2;have Ai:=ai hfin;clear hb2 hfin BX2)
       go_region;go_wp2;go_roundw
       case rel =>
        obtain⟨z1,z2⟩:=Ai.o _ rfl;exact⟨n+1,S',by omega,by go_num,z1,Ol.o.trans z2⟩
       grind [intOf]
   · obtain rfl:n=k.aj.length:=by omega
     have HX:=ai (Lp.o wr S' rz hch);clear rz hch;go_wp2
     first
      | exact HX.o
      | (refine uZ (v:=.tuple #[]) (by simp[results]) rfl ?_;exact HX.o)
end Go.Proofs.YtlgoihmkgaaemaaGreat
