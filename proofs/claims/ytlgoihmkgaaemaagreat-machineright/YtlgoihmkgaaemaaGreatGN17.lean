import Derived.Test.YtlgoihmkgaaemaaGreatGN16
set_option maxHeartbeats 20000000
set_option linter.unusedVariables false
set_option maxRecDepth 100000
set_option linter.unusedSimpArgs false
namespace Go.Proofs.YtlgoihmkgaaemaaGreat
open Go.RowKit
theorem Fz (kd a:Int):∀ss:List cY,(bW ss kd a).length<=(xZ ss).length
 | []=>uH _
 | s::r=>by
  have ih:=Fz kd a r
  grind [fE,xZ,kO]
theorem QF {k:aT} (h:aZ k):(xZ k.aj).length<=512:=by
 have h1:=Gd k.aj.length k.aj rfl (fun s hs=>Co (h.each s hs));have h2:=h.room;have h3:=h.c;omega
theorem yq {k:aT} (h:aZ k):(∀i,i<k.frames.length->0<=(aH k.frames i).refs/\(aH k.frames i).refs<=512)/\(∀i,i<k.slots.length->0<=(bH k.slots i).refs/\(bH k.slots i).refs<=512):=by
 have h1:=QF h;refine⟨fun i hi=>?_,fun i hi=>?_⟩
 · have:=(h.zL i hi).refs
   grind [Fz]
 · have:=(h.slt i hi).refs
   grind [Fz]
theorem og {k:aT} (h:aZ k) {j:Nat} (hj:j<k.aj.length):(ak k.aj j).bc.length<=512:=by
 have h4:=QF h;have:∀(l:List cY) (j:Nat),j<l.length->(ak l j).bc.length<=(xZ l).length:=fun l=>by
  induction l with
  | nil=>grind
  | cons s r ih =>
   grind [xZ,ak]
 grind
theorem Uh.kp {α:Type} {f:α->List Value} {k:Nat} {d:α} {w w':World} {ao:Option Addr} {l:List α} {D:Nat->Prop} (h:dW f k d w ao l) (hk:aD D w w') (hn:∀b off,ao=some (Ad b off)->¬D b):dW f k d w' ao l:=fun hl=>by
 obtain⟨b,off,e,hb,hi⟩:=h hl;refine⟨b,off,e,fL hb hk.size,fun i hi' j hj=>?_⟩;exact(Ha (hk.block b hb (hn b off e))).trans (hi i hi' j hj)
theorem Ch {lo mb:Nat} {tt:TypeId} {X:List Value} (F:FuncId) (E:List Value) (x:Nat) (hFE:(F=300/\E=[.pointer (some (Ad x 0))])∨(F=285/\E=[.pointer (some (Ad x 0))])∨(F=269/\E=[]))
  (k:aT) (S:gI) (w:World) (j:Nat) (p:bI->Bool) (h:bK lo mb tt X w S k) (hR:aZ k) (hj:j<k.aj.length) (hC:∀V e,aD (fun b=>S.lab b≠.no) w V->Calls Tryz.prog F (Value.agg #[I e.page,I e.kind,I e.loc]::E).toArray V fun r w'=>r=.returned (.bool (p e))/\Below V.heap.size V w') :
  Calls Tryz.prog 268 #[.pointer (some (Ad mb 0)),I (j:Int),.func (.func F) #[] E.toArray] w (fU lo mb tt X w S (.tuple #[]) (dD k j p)):=by
 have hlo:lo<=w.heap.size:=gY h.lo_le (OY h.lt);have hcc:=hR.c;have hen:=og hR hj;obtain⟨pb,cP,A⟩:=h.toKr.sp (by omega);obtain⟨ae,ce,Sj,hre⟩:=h.toKr.bc hj;have c3:=h.c3;rw[A.v] at c3;have a2:=A.x2 j hj;rw[Sj] at a2;have hji:(j:Int)<(k.aj.length:Int):=by omega
 obtain⟨es,hes⟩:=ex ((ak k.aj j).bc);rw[<- hes] at a2 hen hre Sj;have HST:Hid (∀V n,n<es.length->bK lo mb tt X V S (cU k es p n)->V.cell? (Ad pb (j*3+2))=some (.slice ae es.length ce)/\dW bG 3 gV V ae es):=fun V n hn hV=>by
  have hjn:j<(cU k es p n).aj.length:=by rw[kQ];exact hj
  obtain⟨pb',cP',A'⟩:=hV.toKr.sp (by omega);have e:pb'=pb:=by
   have:=A'.v;rw[A.v] at this
   grind
  subst e;have x2:=A'.x2 j hjn;rw[Sj] at x2;obtain⟨ae',ce',apN,ap2⟩:=hV.toKr.bc hjn;rw[kQ,<- hes] at apN ap2
  grind
 have HCN:Hid (∀V n,n<es.length->bK lo mb tt X V S (cU k es p n)->Calls Tryz.prog 270 #[.pointer (some (Ad mb 0)),.agg #[I (aW es n).page,I (aW es n).kind,I (aW es n).loc],I (-1)] V (mP lo mb tt X V S (.tuple #[]) (dM (cU k es p n) (aW es n)))):=fun V n hn hV=>by
  have hin:aW es n∈(ak k.aj j).bc:=by rw[<- hes];exact jP hn
  have hb:=ja hR hj hin;have hr:=F8 k es p n;have hp:=wB hR hj p n (by grind);rw[<- hes] at hp;have hf:=yq hp;have hf1:∀i,i<(cU k es p n).frames.length->0<=(aH (cU k es p n).frames i).refs/\(aH (cU k es p n).frames i).refs<=512:=hf.1;have hf2:∀i,i<(cU k es p n).slots.length->0<=(bH (cU k es p n).slots i).refs/\(bH (cU k es p n).slots i).refs<=512:=hf.2;rw[<- Ga];refine DT _ S V (aW es n) (-1) hV (fun c=>?_) (fun c=>?_) (.inr rfl) ⟨fun c=>?_,fun c=>?_⟩
  · omega
  · omega
  · grind
  grind
 have OH:=ai hC;have HDL:Hid (∀V,bK lo mb tt X V S (cU k es p es.length)->cM S w S V->Calls Tryz.prog 281 #[.slice ae es.length ce,.func (.func F) #[] E.toArray] V fun e w'=>∃av nv cv,e=.returned (.slice av nv cv)/\∃S',bK lo mb tt X (w'.setCell (Ad pb (j*3+2)) (.slice av nv cv)) S' (dD k j p)/\cM S w S' (w'.setCell (Ad pb (j*3+2)) (.slice av nv cv))/\w'.frozen? (Ad pb (j*3+2))=false/\(∃u,w'.cell? (Ad pb (j*3+2))=some u)):=fun V hV hch=>by
  have hjn:j<(cU k es p es.length).aj.length:=by rw[kQ];exact hj
  have hrow:=(hV.each j hjn).aQ;rw[kQ,<- hes,Sj] at hrow;have hlab:∀b,bZ (.slice ae es.length ce) b->S.lab b=.bc j:=fun b hb=>hV.lE j hjn b (by grind)
  refine(Ti F E x hFE lo es p (.slice ae es.length ce) V hrow (fun U e hU=>OH.o U e ?_) (by omega)).mono fun e w' ⟨v',h1,h2,h3,h4⟩=>?_
  · exact((hch.kp.mono (fun b _ g=>g)).trans hU (fun b hb hx=>by grind))
  · obtain⟨av,cv,rfl,_,_⟩:=bj h2;obtain⟨pb',cP',A'⟩:=hV.toKr.sp (by omega);have hP:S.vP=.slice (some (Ad pb 0)) k.aj.length cP:=A.v;have k1:aD (fun b=>S.lab b=.bc j) V w':=h3.mono (fun b _ hx=>hlab b hx);have sw:=hV.aiN hjn hP k1 h2 (fun b hb=>by
     rcases h4 b hb with g | g
     · exact .inl (hlab b g)
     · exact .inr (hV.toKr.new g))
    have e1:({ cU k es p es.length with aj:=(cU k es p es.length).aj.set j (ek (ak (cU k es p es.length).aj j) (eZ es p)) }:aT)=dD k j p:=by
     unfold dD kg
     grind
    refine⟨av,_,cv,h1,_,e1 ▸ sw.1,hch.trans (sw.2 (fun b hb hx=>?_)),?_,?_⟩
    · rcases h4 b hx with g | g
      · exact hlab b g
      · omega
    · have hrP:=hV.aj;rw[hP] at hrP;have hrl:=h.len;have:=k1.row hrP (fun b hb e=>by
       have:S.lab b=.aj:=hV.lP b (by rw[hP];exact hb);rw[this] at e;simp at e)
      have hl2:S.L.length=k.aj.length:=hrl;rw[<- hl2] at this;exact iL this _
    · have hpl:S.lab pb=.aj:=A.lab;have c2:=A'.x2 j hjn;have e:pb'=pb:=by
       have:=A'.v;rw[A.v] at this;injection this with e1 _ _;injection e1 with e1;injection e1 with e1 _ _;omega
      subst e;exact⟨_,k1.cell c2 (fun e=>by have e:S.lab pb'=.bc j:=e;rw[hpl] at e;simp at e)⟩
 have dz:Hid (∀V S',bK lo mb tt X V S' (dD k j p)->cM S w S' V->fU lo mb tt X w S (.tuple #[]) (dD k j p) (.returned (.tuple #[])) V):=fun V S' h1 h2=>⟨rfl,S',h1,h2⟩
 have ann:=ai (fun V (hV:bK lo mb tt X V S (cU k es p es.length))=>(show V.cell? (Ad pb (j*3+2))=some (.slice ae es.length ce) from by
  have hjn:j<(cU k es p es.length).aj.length:=by rw[kQ];exact hj
  obtain⟨pb',cP',A'⟩:=hV.toKr.sp (by omega);have e:pb'=pb:=by
   have:=A'.v;rw[A.v] at this
   grind
  subst e;have x2:=A'.x2 j hjn
  grind))
 have tV:=ai h;have HKB:Hid (∀V n,bK lo mb tt X V S (cU k es p n)->∀V',Below V.heap.size V V'->bK lo mb tt X V' S (cU k es p n)):=fun V n hV V' hb=>hV.below hb
 have E6:Hid (∀n,p (aW es n)=true->dM (cU k es p n) (aW es n)=cU k es p (n+1)):=fun n hn=>by
  show _=if p (aW es n)=true then _ else _
  grind
 have uZ:Hid (∀n,p (aW es n)=false->cU k es p n=cU k es p (n+1)):=fun n hn=>by
  show _=if p (aW es n)=true then _ else _
  grind
 obtain⟨P,hP⟩:=ex (fU lo mb tt X w S (.tuple #[]) (dD k j p));rw[<- hP] at dz ⊢;obtain⟨np,AA⟩:=ex k.aj.length;rw[<- AA] at c3 hji;clear h hR hcc A Sj hre hes hC hP AA hj hlo;rcases hFE with⟨rfl,rfl⟩ | ⟨rfl,rfl⟩ | ⟨rfl,rfl⟩
 all_goals
  go_enter Tryz.func268,Tryz.ntmps268;go_wp2;go_loopw [21] (fun iv wr=>∃n:Nat,n<=es.length/\iv=I (n:Int)/\bK lo mb tt X wr S (cU k es p n)/\cM S w S wr) (fun iv _=>es.length-(intOf iv).toNat)
  case atStart=>exact⟨0,by omega,rfl,tV.o,cM.refl _ _⟩
  case round =>
   obtain⟨n,hn,rfl,rN,hch⟩:=hrel;have HKM:=ai rN;have JL:=ai hch;by_cases hlt:n<es.length
   · have hni:(n:Int)<(es.length:Int):=by omega
     obtain⟨y2,hr2⟩:=HST.o wr n hlt rN;obtain⟨eb,eo,hao,hbl,eY⟩:=hr2 (by omega);subst hao;have x0:=eY n hlt 0 (by omega);have x1:=eY n hlt 1 (by omega);have x2:=eY n hlt 2 (by omega);rw[kW] at x0;have HA:=ai ((aK wr.heap.size wr).alloc (aI _) (.cells #[I (aW es n).page,I (aW es n).kind,I (aW es n).loc] 174));have BX:=ai (bE wr #[I (aW es n).page,I (aW es n).kind,I (aW es n).loc] 174);have yP:=ai (OH.o (wr.alloc (.cells #[I (aW es n).page,I (aW es n).kind,I (aW es n).loc] 174)) (aW es n) ((hch.trans (cM.below (S:=S) HA.o)).kp));have anS:=ai (fun V=>HCN.o V n hlt);have HY2:=ai (E6.o n);have Tx:=ai (uZ.o n);obtain⟨G,hG⟩:=ex (p (aW es n));rw[<- hG] at yP HY2 Tx;obtain⟨e,he⟩:=ex (aW es n);have y0:wr.cell? (Ad eb (eo+n*3))=some (I e.page):=by rw[he];exact x0
     have y1:wr.cell? (Ad eb (eo+n*3+1))=some (I e.kind):=by rw[he];exact x1
     have y3:wr.cell? (Ad eb (eo+n*3+2))=some (I e.loc):=by rw[he];exact x2
     rw[<- he] at yP HA BX anS HY2;clear hG he rN hch hr2 eY x0 x1 x2 tV;cases G with
     | true =>
      go_wp2_with (first
       | ((first | go_at_call 300 | go_at_call 285 | go_at_call 269);refine yP.o.mono ?_;rintro r w1 ⟨rfl,hb1⟩;have cN:=ai (HA.o.trans (hb1.mono HA.o.size));have BX1:=aO BX.o hb1 (aJ BX.o);obtain⟨d0,d1,d2⟩:=Ez BX1;clear hb1 BX1)
       | (go_at_call 270;refine(anS.o _ (HKB.o _ n HKM.o _ cN.o)).mono ?_;rintro r w2 ⟨rfl,hk2,hc2⟩;have pU:=ai hk2;have W7:=ai ((JL.o.trans (cM.below (S:=S) cN.o)).trans hc2);clear hk2 hc2))
      go_roundw
      case rel=>exact⟨n+1,by omega,by go_num,HY2.o (by trivial) ▸ pU.o,W7.o⟩
      case measure=>simp[intOf];omega
     | false =>
      go_wp2_with ((first | go_at_call 300 | go_at_call 285 | go_at_call 269);refine yP.o.mono ?_;rintro r w1 ⟨rfl,hb1⟩;have cN:=ai (HA.o.trans (hb1.mono HA.o.size));clear hb1)
      go_roundw
      case rel=>exact⟨n+1,by omega,by go_num,Tx.o (by trivial) ▸ HKB.o _ n HKM.o _ cN.o,JL.o.trans (cM.below (S:=S) cN.o)⟩
      case measure=>simp[intOf];omega
   · obtain rfl:n=es.length:=by omega
     have y2:=ann.o wr rN;have W4:=ai (HDL.o wr rN hch);clear rN hch HKM JL HDL HST ann HCN OH tV HKB E6 uZ;go_wp2_with (go_at_call 281;refine W4.o.mono ?_;rintro r w2 ⟨av,nv,cv,rfl,S',hk2,hc2,avX,u2,hu2⟩;have pU:=ai hk2;have W7:=ai hc2;clear hk2 hc2)
     refine vE (v:=.tuple #[]) (by simp[results,Tryz.results268,go_sem]) rfl ?_;exact dz.o _ S' pU.o W7.o
open Go.RowKit
theorem Nk (i:Int) (e:bI) (x:Nat) (w:World) (hx:w.cell? (Ad x 0)=some (I i)) :
  Calls Tryz.prog 300 #[.agg #[I e.page,I e.kind,I e.loc],.pointer (some (Ad x 0))] w fun r w'=>r=.returned (.bool (kY i e))/\Below w.heap.size w w':=by
 obtain⟨pg,kd,lc⟩:=e;unfold kY;simp only;have hxl:x<w.heap.size:=oQ w _ hx;have xA:(w.alloc (.cells #[I pg,I kd,I lc] 174)).cell? (Ad x 0)=some (I i):=(O9 ((aK w.heap.size w).alloc (aI _) _) (p:=(Ad x 0)) hxl).trans hx;obtain⟨A,hA⟩:=ex (decide (kd=1/\lc=i));rw[<- hA];have HA:=ai hA;clear hA;by_cases c:kd=1
 · have kb:(kd==1)=true:=by grind
   obtain⟨C,hC⟩:=ex ((lc==i));have HC:=ai hC;have hC2:=hC.symm;have qG:=ai c;clear hC c;go_enter Tryz.func300,Tryz.ntmps300;go_wp2;go_ret;refine⟨?_,(aK _ _).alloc (aI _) _⟩;congr 2;rw[HA.o,qG.o]
   try rw[HC.o]
   by_cases d:lc=i <;> simp[d]
 · have kb:(kd==1)=false:=by grind
   have qG:=ai c;clear c;go_enter Tryz.func300,Tryz.ntmps300;go_wp2;go_ret
   simp_all [aK,pZ,Hid.o]
theorem SL (f:oZ) (w:World):Calls Tryz.prog 302 #[.agg #[.string f.data,I f.refs]] w fun e w'=>e=.returned (.bool (tS f))/\Below w.heap.size w w':=by
 obtain⟨d,r⟩:=f;unfold tS;simp only;have hd:d.toList.isEmpty=decide (d.size=0):=Y7 d;by_cases c1:d.size=0
 · by_cases c2:r=0
   · rw[gZ (show d.size=0/\r=0 from⟨c1,c2⟩)];rw[gZ c1] at hd;have h2:(r==0)=true:=by grind
     clear c1 c2;go_enter Tryz.func302,Tryz.ntmps302;go_wp2;go_ret;simp[aK,pZ]
   · rw[jl (show ¬(d.size=0/\r=0) from fun x=>c2 x.2)];rw[gZ c1] at hd;have h2:(r==0)=false:=by grind
     clear c1 c2;go_enter Tryz.func302,Tryz.ntmps302;go_wp2;go_ret;simp[aK,pZ]
 · rw[jl (show ¬(d.size=0/\r=0) from fun x=>c1 x.1)];rw[jl c1] at hd;clear c1;go_enter Tryz.func302,Tryz.ntmps302;go_wp2;go_ret;simp[aK,pZ]
theorem YV (l:List oZ) (ao:Option Addr) (cap:Nat) (w:World) (h:dW iN 2 nK w ao l) (hl:l.length<=1000000) :
  Calls Tryz.prog 301 #[.slice ao l.length cap,.func (.func 302) #[] #[]] w fun e w' =>
   Below w.heap.size w w'/\((e=.returned (I (-1))/\∀j,j<l.length->tS (bH l j)=false)∨∃i:Nat,i<l.length/\e=.returned (I (i:Int))/\tS (bH l i)=true/\∀j,j<i->tS (bH l j)=false):=by
 have HH:=ai h;clear h;go_enter Tryz.func301,Tryz.ntmps301;go_wp2;go_loopw [8] (fun iv wr=>∃k:Nat,k<=l.length/\iv=I (k:Int)/\(∀j,j<k->tS (bH l j)=false)/\Below w.heap.size w wr) (fun iv _=>l.length-(intOf iv).toNat)
 case atStart=>grind [Below.refl]
 case round =>
  obtain⟨k,hk,rfl,hno,hb⟩:=hrel;have uZ:=ai hno;have HB:=ai hb;clear hno;by_cases hlt:k<l.length
  · have JI:(k:Int)<(l.length:Int):=by omega
    obtain⟨eb,eo,hao,hbl,eY⟩:=HH.o (by omega);subst hao;have y0:=(hb.cell (p:=(Ad eb (eo+k*2+0))) hbl).trans (eY k hlt 0 (by omega));have y1:=(hb.cell (p:=(Ad eb (eo+k*2+1))) hbl).trans (eY k hlt 1 (by omega));rw[kW] at y0;have yP:=ai (SL (bH l k) wr);obtain⟨G,hG⟩:=ex (tS (bH l k));rw[<- hG] at yP;have HG:=ai hG;obtain⟨E,hE⟩:=ex (bH l k);have x0:wr.cell? (Ad eb (eo+k*2))=some (.string E.data):=by rw[hE];exact y0
    have x1:wr.cell? (Ad eb (eo+k*2+1))=some (I E.refs):=by rw[hE];exact y1
    rw[<- hE] at yP;clear hG hE hb y0 y1 eY;cases G with
    | true =>
     go_wp2_with (go_at_call 302;refine yP.o.mono ?_;rintro e w1 ⟨rfl,hb1⟩;have cN:=ai (HB.o.trans (hb1.mono HB.o.size));clear hb1)
     go_ret;exact⟨cN.o,.inr ⟨k,hlt,rfl,HG.o.symm,uZ.o⟩⟩
    | false =>
     go_wp2_with (go_at_call 302;refine yP.o.mono ?_;rintro e w1 ⟨rfl,hb1⟩;have cN:=ai (HB.o.trans (hb1.mono HB.o.size));clear hb1)
     go_roundw
     case rel=>exact⟨k+1,by omega,by go_num,fun j hj=>by
      by_cases q:j=k
      · subst q;exact HG.o.symm
      · exact uZ.o j (by omega),cN.o⟩
     case measure=>simp[intOf];omega
  · obtain rfl:k=l.length:=by omega
    clear hb;go_wp2;go_ret;exact⟨HB.o,.inl ⟨rfl,uZ.o⟩⟩
theorem YW (l:List lQ) (ao:Option Addr) (cap:Nat) (w:World) (h:dW iO 4 gM w ao l) (hl:l.length<=1000000) :
  Calls Tryz.prog 295 #[.slice ao l.length cap,.func (.func 216) #[] #[]] w fun e w' =>
   Below w.heap.size w w'/\((e=.returned (I (-1))/\∀j,j<l.length->s7 (aH l j)=false)∨∃i:Nat,i<l.length/\e=.returned (I (i:Int))/\s7 (aH l i)=true/\∀j,j<i->s7 (aH l j)=false):=by
 have HH:=ai h;clear h;go_enter Tryz.func295,Tryz.ntmps295;go_wp2;go_loopw [8] (fun iv wr=>∃k:Nat,k<=l.length/\iv=I (k:Int)/\(∀j,j<k->s7 (aH l j)=false)/\Below w.heap.size w wr) (fun iv _=>l.length-(intOf iv).toNat)
 case atStart=>grind [Below.refl]
 case round =>
  obtain⟨k,hk,rfl,hno,hb⟩:=hrel;have uZ:=ai hno;have HB:=ai hb;clear hno;by_cases hlt:k<l.length
  · have JI:(k:Int)<(l.length:Int):=by omega
    obtain⟨eb,eo,hao,hbl,eY⟩:=HH.o (by omega);subst hao;have y0:=(hb.cell (p:=(Ad eb (eo+k*4+0))) hbl).trans (eY k hlt 0 (by omega));have y1:=(hb.cell (p:=(Ad eb (eo+k*4+1))) hbl).trans (eY k hlt 1 (by omega));have y2:=(hb.cell (p:=(Ad eb (eo+k*4+2))) hbl).trans (eY k hlt 2 (by omega));have y3:=(hb.cell (p:=(Ad eb (eo+k*4+3))) hbl).trans (eY k hlt 3 (by omega));rw[kW] at y0;have yP:=ai (Io (aH l k) wr);obtain⟨G,hG⟩:=ex (s7 (aH l k));rw[<- hG] at yP;have HG:=ai hG;obtain⟨E,hE⟩:=ex (aH l k);have x0:wr.cell? (Ad eb (eo+k*4))=some (.string E.data):=by rw[hE];exact y0
    have x1:wr.cell? (Ad eb (eo+k*4+1))=some (I E.refs):=by rw[hE];exact y1
    have x2:wr.cell? (Ad eb (eo+k*4+2))=some (.bool E.jo):=by rw[hE];exact y2
    have x3:wr.cell? (Ad eb (eo+k*4+3))=some (.bool E.seen):=by rw[hE];exact y3
    rw[<- hE] at yP;clear hG hE hb y0 y1 y2 y3 eY;cases G with
    | true =>
     go_wp2_with (go_at_call 216;refine yP.o.mono ?_;rintro e w1 ⟨rfl,hb1⟩;have cN:=ai (HB.o.trans (hb1.mono HB.o.size));clear hb1)
     go_ret;exact⟨cN.o,.inr ⟨k,hlt,rfl,HG.o.symm,uZ.o⟩⟩
    | false =>
     go_wp2_with (go_at_call 216;refine yP.o.mono ?_;rintro e w1 ⟨rfl,hb1⟩;have cN:=ai (HB.o.trans (hb1.mono HB.o.size));clear hb1)
     go_roundw
     case rel=>exact⟨k+1,by omega,by go_num,fun j hj=>by
      by_cases q:j=k
      · subst q;exact HG.o.symm
      · exact uZ.o j (by omega),cN.o⟩
     case measure=>simp[intOf];omega
  · obtain rfl:k=l.length:=by omega
    clear hb;go_wp2;go_ret;exact⟨HB.o,.inl ⟨rfl,uZ.o⟩⟩
theorem abE {k:aT} (hR:aZ k) {i:Nat} (hi:i<k.slots.length) (h1:tS (bH k.slots i)=true) (h2:∀j,j<i->tS (bH k.slots j)=false):yA k.slots=some i:=by
 unfold yA;refine Pv.2 ⟨hi,?_,fun j hj=>?_⟩
 · grind [FW,bH,nK]
 · have hj':j<k.slots.length:=by omega
   have:=h2 j hj;have hz:¬(bH k.slots j).refs=0:=fun z=>by
    have h3:=(hR.slt j hj').zero ((hR.slt j hj').nil z)
    grind [FW]
   grind [bH]
theorem abF {k:aT} (hR:aZ k) {i:Nat} (hi:i<k.frames.length) (h1:s7 (aH k.frames i)=true) (h2:∀j,j<i->s7 (aH k.frames j)=false):yB k.frames=some i:=by
 unfold yB;refine Pv.2 ⟨hi,?_,fun j hj=>?_⟩
 · grind [D5,aH,gM]
 · have hj':j<k.frames.length:=by omega
   have:=h2 j hj;have hz:¬(aH k.frames j).refs=0:=fun z=>by
    have h3:=(hR.zL j hj').zero ((hR.zL j hj').nil z)
    grind [D5]
   grind [aH]
theorem abD {k:aT} (hR:aZ k) (h:∀j,j<k.frames.length->s7 (aH k.frames j)=false):yB k.frames=none/\Bp k:=by
 have hF:Bp k:=fun j hj z=>by
  have h3:=(hR.zL j hj).zero ((hR.zL j hj).nil z)
  grind [D5]
 refine⟨?_,hF⟩;unfold yB;refine U5.2 fun x hx=>?_
 obtain⟨j,hj,rfl⟩:=lG gM hx;have:=hF j hj
 grind [aH]
open Go.RowKit
def rH (f:cY->cY) (l:List cY) (n:Nat):List cY:=(l.take n).map f++l.drop n
theorem DM (f:cY->cY) (l:List cY) (n:Nat):(rH f l n).length=l.length:=by
 grind [rH]
theorem Ni (f:cY->cY) (l:List cY) (n m:Nat) (hm:m<l.length):ak (rH f l n) m=if m<n then f (ak l m) else ak l m:=by
 grind [rH,ak]
theorem KF (f:cY->cY) (l:List cY) (n:Nat) (hn:n<l.length):(rH f l n).set n (f (ak l n))=rH f l (n+1):=by
 refine pD qV _ _ (by grind [DM]) (fun m hm=>?_)
 grind [DM,rH,ak]
theorem VM (f:cY->cY) (l:List cY):rH f l l.length=l.map f:=by
 grind [rH]
def eJ (k:aT) (i s n:Nat):aT:={ k with frames:=k.frames.set i gM,slots:=k.slots.set s ⟨(aH k.frames i).data,(aH k.frames i).refs⟩,aj:=rH (ko i s) k.aj n }
theorem Ot {lo mb:Nat} {tt:TypeId} {X:List Value} (k:aT) (S:gI) (w:World) (i:Nat) (h:bK lo mb tt X w S k) (hR:aZ k) (hi:i<k.frames.length) (Yf:(aH k.frames i).refs≠0) :
  Calls Tryz.prog 297 #[.pointer (some (Ad mb 0)),I (i:Int)] w (fU lo mb tt X w S (.tuple #[]) (eN k i)):=by
 have hcc:=hR.c;obtain⟨fb,cF,A⟩:=h.toKr.fr (by omega);obtain⟨W,hW⟩:=ex (((w.alloc (.cells #[I (i:Int)] 3)).alloc (.cells #[.string (aH k.frames i).data,I (aH k.frames i).refs,.bool (aH k.frames i).jo,.bool (aH k.frames i).seen] 169)).drew);have gK:Hid (Below w.heap.size w W):=by rw[hW];exact(((aK w.heap.size w).alloc (aI _) _).alloc (by simp) _).drew
 have X0:Hid (W.heap[w.heap.size]?=some (.cells #[I (i:Int)] 3 (0,0))):=by rw[hW];exact br (bE w _ _) _
 have F0:Hid (W.heap[w.heap.size+1]?=some (.cells #[.string (aH k.frames i).data,I (aH k.frames i).refs,.bool (aH k.frames i).jo,.bool (aH k.frames i).seen] 169 (0,0))):=by
  have:=bE (w.alloc (.cells #[I (i:Int)] 3)) #[.string (aH k.frames i).data,I (aH k.frames i).refs,.bool (aH k.frames i).jo,.bool (aH k.frames i).seen] 169;rw[fF] at this;rw[hW];exact this
 have HMW:=ai (h.below gK.o);have HCW:Hid (cM S w S W):=cM.below gK.o;have n0:S.lab w.heap.size=.no:=h.toKr.new (aI _);have n1:S.lab (w.heap.size+1)=.no:=h.toKr.new (kV _);have Px:Hid (∀S' V,cM S W S' V->V.heap[w.heap.size]?=some (.cells #[I (i:Int)] 3 (0,0))/\V.heap[w.heap.size+1]?=some (.cells #[.string (aH k.frames i).data,I (aH k.frames i).refs,.bool (aH k.frames i).jo,.bool (aH k.frames i).seen] 169 (0,0))):=fun S' V hV=>⟨hV.keep X0.o n0,hV.keep F0.o n1⟩
 have c1:=h.c1;rw[A.v] at c1;have x0:=A.x0 i hi;have x1:=A.x1 i hi;have x2:=A.x2 i hi;have x3:=A.x3 i hi;have JI:(i:Int)<(k.frames.length:Int):=by omega
 have MV:=h.lt;have hfl:=A.lt;have dz:Hid (∀V S' K,K=eN k i->bK lo mb tt X V S' K->cM S W S' V->fU lo mb tt X w S (.tuple #[]) (eN k i) (.returned (.tuple #[])) V):=fun V S' K hK h1 h2=>⟨rfl,S',hK ▸ h1,HCW.o.trans h2⟩
 obtain⟨P,hP⟩:=ex (fU lo mb tt X w S (.tuple #[]) (eN k i));rw[<- hP] at dz ⊢;have HHW:=ai hW;cases hd:(aH k.frames i).jo with
 | false =>
  have hdrop:eN k i=kq k i k.aj.length:=by
   grind [Za,eN]
  have LF:=ai (fun V S' h1 h2=>dz.o V S' _ hdrop.symm h1 h2);have HFO:Hid (∀V S' n,n<k.aj.length->bK lo mb tt X V S' (kq k i n)->cM S W S' V->Calls Tryz.prog 268 #[.pointer (some (Ad mb 0)),I (n:Int),.func (.func 300) #[] #[.pointer (some (Ad w.heap.size 0))]] V (fU lo mb tt X V S' (.tuple #[]) (kq k i (n+1)))):=fun V S' n hn hV hc=>by
   have hp:=zn hR i n (by omega);refine Ch 300 [.pointer (some (Ad w.heap.size 0))] w.heap.size (.inl ⟨rfl,rfl⟩) (kq k i n) S' V n (kY (i:Int)) hV hp.1 (by omega) (fun U e hU=>?_);have hx:=(Px.out S' V hc).1;have hno:S'.lab w.heap.size=.no:=hc.no _ (aJ X0.o) n0;exact Nk (i:Int) e w.heap.size U (au (hU.keep hx (fun z=>z hno)) 0 rfl)
  have Uu:Hid (∀V S' n,bK lo mb tt X V S' (kq k i n)->n<=k.aj.length->∃av cv,V.cell? (Ad mb 3)=some (.slice av k.aj.length cv)):=fun V S' n hV hn=>by
   have hp:=zn hR i n hn;obtain⟨pb,cP,A'⟩:=hV.toKr.sp (by omega);have:=hV.c3;rw[A'.v,hp.2.2.2.2.2.1] at this
   grind
  obtain⟨av,cv,d3⟩:=Uu.o W S 0 HMW.o (by omega);obtain⟨np,AA⟩:=ex k.aj.length;rw[<- AA] at d3 HFO LF;have avy:np<=4:=by omega
  obtain⟨FR,T7⟩:=ex (aH k.frames i);rw[<- T7] at x0 x1 x2 x3 HHW hd F0;obtain⟨fd,fr,fdy,fs⟩:=FR;simp only at x0 x1 x2 x3 HHW hd F0;subst hd;have d2:W.cell? (Ad (w.heap.size+1) 2)=some (.bool false):=au F0.o 2 rfl;clear hW hP hR hcc A h Yf T7 AA Uu dz Px hdrop hi;go_enter Tryz.func297,Tryz.ntmps297;go_upto_region 1 with fail;go_region;rw[<- HHW.o];go_wp2;go_loopw [29] (fun iv wr=>∃(n:Nat) (S':gI),n<=np/\iv=I (n:Int)/\bK lo mb tt X wr S' (kq k i n)/\cM S W S' wr) (fun iv _=>np-(intOf iv).toNat)
  case atStart=>exact⟨0,S,by omega,rfl,HMW.o,cM.refl _ _⟩
  case round =>
   obtain⟨n,S',hn,rfl,rN,hch⟩:=hrel;by_cases hlt:n<np
   · have hni:(n:Int)<(np:Int):=by omega
     have ar0:=ai (HFO.o wr S' n hlt rN hch);have JL:=ai hch;clear rN hch HMW HCW;go_wp2_with (go_at_call 268;refine ar0.o.mono ?_;rintro r w2 ⟨rfl,S2,hk2,hc2⟩;have pU:=ai hk2;have yP:=ai (JL.o.trans hc2);clear hk2 hc2)
     grind [intOf,Hid.o]
   · obtain rfl:n=np:=by omega
     have HX:=ai (LF.o wr S' rN hch);clear rN hch;go_wp2
     first
      | exact HX.o
      | (refine bO (v:=.tuple #[]) (by simp[results]) rfl ?_;exact HX.o)
 | true =>
  obtain⟨s,PX,hsl,hsn⟩:=hR.slot hi Yf;have ai7:eN k i=eJ k i s k.aj.length:=by
   unfold eN eJ;rw[hd,PX,VM];rfl
  have LF:=ai (fun V S' h1 h2=>dz.o V S' _ ai7.symm h1 h2);obtain⟨lb,cL,AL⟩:=HMW.o.toKr.sl (by omega);obtain⟨aL,cL',eL,_,hrL⟩:=oI iN (fun _=>rfl) nK HMW.o.slots;have c2:=HMW.o.c2;rw[AL.v] at c2;have eL2:aL=some (Ad lb 0):=by
   grind [adj.v]
  subst eL2;have Uy:Hid (Calls Tryz.prog 301 #[.slice (some (Ad lb 0)) k.slots.length cL,.func (.func 302) #[] #[]] W fun e w'=>e=.returned (I (s:Int))/\Below W.heap.size W w'):=(YV k.slots (some (Ad lb 0)) cL W hrL (by omega)).mono fun e w' ⟨hb,hh⟩=>by
   rcases hh with⟨_,hno⟩ | ⟨m,hm,he,hy,hno⟩
   · have:=hno s hsl;have hz:=(hR.slt s hsl).zero hsn;rw[hz] at this;cases this
   · have:=abE hR hm hy hno
     grind
  have dr:∀V:World,Below V.heap.size V V.drew:=fun V=>(aK _ _).drew
  have Z8:Hid (∀V U,Below W.heap.size W V->U=((V.setCell (Ad lb (s*2)) (.string (aH k.frames i).data)).setCell (Ad lb (s*2+1)) (I (aH k.frames i).refs)).drew->bK lo mb tt X U S { k with slots:=k.slots.set s ⟨(aH k.frames i).data,(aH k.frames i).refs⟩ }/\cM S W S U):=fun V U hb hU=>by
   have m0:=HMW.o.below hb;have m1:=m0.alZ AL.v hsl ⟨(aH k.frames i).data,(aH k.frames i).refs⟩;subst hU;exact⟨m1.1.below (dr _),((cM.below hb).trans m1.2).trans (cM.below (dr _))⟩
  have Bv:Hid (∀V U,bK lo mb tt X V S { k with slots:=k.slots.set s ⟨(aH k.frames i).data,(aH k.frames i).refs⟩ }->cM S W S V->U=((((V.setCell (Ad fb (i*4)) (.string ⟨#[]⟩)).setCell (Ad fb (i*4+1)) (I 0)).setCell (Ad fb (i*4+2)) (.bool false)).setCell (Ad fb (i*4+3)) (.bool false)).drew->bK lo mb tt X U S (eJ k i s 0)/\cM S W S U):=fun V U hV hc hU=>by
   have m2:=hV.afk A.v (i:=i) hi gM;subst hU;exact⟨m2.1.below (dr _),(hc.trans m2.2).trans (cM.below (dr _))⟩
  have Hw:Hid (∀V S' n,n<k.aj.length->bK lo mb tt X V S' (eJ k i s n)->cM S W S' V->∃pb cP ae ce lv ax nx cx,V.cell? (Ad pb (n*3))=some (.bool lv)/\V.cell? (Ad pb (n*3+1))=some (.slice ax nx cx)/\V.cell? (Ad pb (n*3+2))=some (.slice ae (ak k.aj n).bc.length ce)/\S'.vP=.slice (some (Ad pb 0)) k.aj.length cP /\
    ((eJ k i s n=eJ k i s (n+1)/\∀V',Below V.heap.size V V'->Calls Tryz.prog 186 #[.slice ae (ak k.aj n).bc.length ce,.func (.func 300) #[] #[.pointer (some (Ad w.heap.size 0))]] V' fun e w'=>e=.returned (I (-1))/\Below V'.heap.size V' w') ∨
    ∃(m eb:Nat),m<(ak k.aj n).bc.length/\ae=some (Ad eb 0)/\eb<V.heap.size/\∀V',Below V.heap.size V V'->Calls Tryz.prog 186 #[.slice ae (ak k.aj n).bc.length ce,.func (.func 300) #[] #[.pointer (some (Ad w.heap.size 0))]] V' fun e w'=>e=.returned (I (m:Int))/\Below V'.heap.size V' w'/\(∃u1 u2,w'.cell? (Ad eb (m*3+1))=some (I u1)/\w'.cell? (Ad eb (m*3+2))=some (I u2))/\w'.frozen? (Ad eb (m*3+1))=false/\w'.frozen? (Ad eb (m*3+2))=false/\(∀U,U=((w'.setCell (Ad eb (m*3+1)) (I 2)).setCell (Ad eb (m*3+2)) (I (s:Int))).drew->bK lo mb tt X U S' (eJ k i s (n+1))/\cM S' V S' U))):=fun V S' n hn hV hc=>by
   have hlen:(eJ k i s n).aj.length=k.aj.length:=DM _ _ _;have hn':n<(eJ k i s n).aj.length:=by omega
   have hat:ak (eJ k i s n).aj n=ak k.aj n:=by
    show ak (rH _ _ _) n=_
    grind [Ni]
   obtain⟨pb,cP,A'⟩:=hV.toKr.sp (by omega);obtain⟨ae,ce,Sj,hre⟩:=hV.toKr.bc hn';rw[hat] at Sj hre;have a0:=A'.x0 n hn';have a1:=A'.x1 n hn';have a2:=A'.x2 n hn';rw[Sj] at a2;have hv:=A'.v;rw[hlen] at hv;obtain⟨ax,cx,Ja,_,_⟩:=bj (hV.each n hn').aU;rw[Ja] at a1;refine⟨pb,cP,ae,ce,_,ax,_,cx,a0,a1,a2,hv,?_⟩;have hx:V.heap[w.heap.size]?=some (.cells #[I (i:Int)] 3 (0,0)):=(Px.out S' V hc).1;have hix:∀V',Below V.heap.size V V'->_:=fun V' hb'=>Jn 300 (.inr (.inr rfl)) (kY (i:Int)) (ak k.aj n).bc ae ce w.heap.size V' (hre.below hb') (by grind [og]) (fun U e hU=>Nk (i:Int) e w.heap.size U (au (aO (aO hx hb' (aJ hx)) hU (fL (aJ hx) hb'.size)) 0 rfl))
   by_cases hex:∃m,m<(ak k.aj n).bc.length/\kY (i:Int) (aW (ak k.aj n).bc m)=true
   · obtain⟨m,hm,hy⟩:=hex;obtain⟨eb,hao,akl⟩:∃eb,ae=some (Ad eb 0)/\eb<V.heap.size:=by
      obtain⟨ao,cap,e,_,hg⟩:=bj (hV.each n hn').aQ
      grind
     subst hao;refine .inr ⟨m,eb,hm,rfl,akl,fun V' hb'=>(hix V' hb').mono fun e w' ⟨hb,hh⟩=>?_⟩;have hbb:Below V.heap.size V w':=hb'.trans (hb.mono hb'.size);have he:e=.returned (I (m:Int)):=by
      grind [Un]
     have mw:=hV.below hbb;have hs1:m<(ak (eJ k i s n).aj n).bc.length:=by grind
     have hrow:=(mw.each n hn').aQ;rw[hat,Sj] at hrow;have g1:=kj bG (fun _=>rfl) gV hrow m 1 hm (by omega);have g2:=kj bG (fun _=>rfl) gV hrow m 2 hm (by omega);refine⟨he,hb,⟨_,_,g1,g2⟩,iL hrow _,iL hrow _,fun U hU=>?_⟩;have e1:=mw.afi hn' Sj hs1 (c:=1) (by omega) (e:=⟨(aW (ak k.aj n).bc m).page,2,(aW (ak k.aj n).bc m).loc⟩) (u:=I 2) (by rw[hat];rfl);have hl2:n<({ eJ k i s n with aj:=(eJ k i s n).aj.set n (ek (ak (eJ k i s n).aj n) ((ak (eJ k i s n).aj n).bc.set m ⟨(aW (ak k.aj n).bc m).page,2,(aW (ak k.aj n).bc m).loc⟩)) }:aT).aj.length:=by
      grind
     have amT:ak ((eJ k i s n).aj.set n (ek (ak (eJ k i s n).aj n) ((ak (eJ k i s n).aj n).bc.set m ⟨(aW (ak k.aj n).bc m).page,2,(aW (ak k.aj n).bc m).loc⟩))) n=ek (ak k.aj n) ((ak k.aj n).bc.set m ⟨(aW (ak k.aj n).bc m).page,2,(aW (ak k.aj n).bc m).loc⟩):=by
      grind [iI]
     have e2:=e1.1.afi hl2 Sj (i:=m) (by
      show m<(ak (List.set _ _ _) n).bc.length;rw[amT];show m<(List.set _ _ _).length
      grind) (c:=2) (by omega) (e:=⟨(aW (ak k.aj n).bc m).page,2,(s:Int)⟩) (u:=I (s:Int)) (by
      show _=(bG (aW (ak (List.set _ _ _) n).bc m)).set 2 _;rw[amT];show _=(bG ((List.set _ _ _).getD m gV)).set 2 _;rw[eV _ _ _ _ hm];rfl)
     have hK:({ ({ eJ k i s n with aj:=(eJ k i s n).aj.set n (ek (ak (eJ k i s n).aj n) ((ak (eJ k i s n).aj n).bc.set m ⟨(aW (ak k.aj n).bc m).page,2,(aW (ak k.aj n).bc m).loc⟩)) }:aT) with aj:=((eJ k i s n).aj.set n (ek (ak (eJ k i s n).aj n) ((ak (eJ k i s n).aj n).bc.set m ⟨(aW (ak k.aj n).bc m).page,2,(aW (ak k.aj n).bc m).loc⟩))).set n (ek (ak ((eJ k i s n).aj.set n (ek (ak (eJ k i s n).aj n) ((ak (eJ k i s n).aj n).bc.set m ⟨(aW (ak k.aj n).bc m).page,2,(aW (ak k.aj n).bc m).loc⟩))) n) ((ak ((eJ k i s n).aj.set n (ek (ak (eJ k i s n).aj n) ((ak (eJ k i s n).aj n).bc.set m ⟨(aW (ak k.aj n).bc m).page,2,(aW (ak k.aj n).bc m).loc⟩))) n).bc.set m ⟨(aW (ak k.aj n).bc m).page,2,(s:Int)⟩)) }:aT)=eJ k i s (n+1):=by
      grind [List.set_set,eJ,KF,ek,ko,SY,Un]
     subst hU;have e3:=hK ▸ e2.1;exact⟨e3.below (dr _),(((cM.below hbb).trans e1.2).trans e2.2).trans (cM.below (dr _))⟩
   · have hno:∀m,m<(ak k.aj n).bc.length->kY (i:Int) (aW (ak k.aj n).bc m)=false:=fun m hm=>by
      grind
     refine .inl ⟨?_,fun V' hb'=>(hix V' hb').mono fun e w' ⟨hb,hh⟩=>?_⟩
     · unfold eJ;congr 1;rw[<- KF _ _ _ hn];have e1:ko (i:Int) s (ak k.aj n)=ak (rH (ko i s) k.aj n) n:=by
        simp_all [Ni,ko,V5]
       rw[e1];refine(pD qV _ _ (by grind) (fun q hq=>?_)).symm
       grind [ak]
     grind
  obtain⟨pb,cP,AP⟩:=HMW.o.toKr.sp (by omega);have hvP:=AP.v;have HVP:=ai AP.v;have np4:k.aj.length<=4:=by omega
  have HAF:=ai (fun V K (hV:bK lo mb tt X V S K) (hK:K.frames=k.frames)=>(show(∀j,V.frozen? (Ad fb j)=false)/\V.cell? (Ad fb (i*4))=some (.string (aH k.frames i).data)/\V.cell? (Ad fb (i*4+1))=some (I (aH k.frames i).refs)/\V.cell? (Ad fb (i*4+2))=some (.bool (aH k.frames i).jo)/\V.cell? (Ad fb (i*4+3))=some (.bool (aH k.frames i).seen)/\V.cell? (Ad mb 1)=some (.slice (some (Ad fb 0)) k.frames.length cF)/\V.cell? (Ad mb 3)=some (.slice (some (Ad pb 0)) k.aj.length cP) from by
   obtain⟨fb',cF',A'⟩:=hV.toKr.fr (by grind);have e:fb'=fb:=by
    have:=A'.v
    grind [Bh.v]
   subst e;have c1:=hV.c1
   grind [bK.c3,Bh.v,Bh.x0,Bh.x1,Bh.x2,Bh.x3,Bh.fz]))
  have hx0:=AL.x0 s hsl;have hx1:=AL.x1 s hsl;have hz0:=AL.fz (s*2);have hz1:=AL.fz (s*2+1);have hll:=AL.lt;have W7:=ai (fun V (hV:bK lo mb tt X V S (eJ k i s 0))=>(show V.cell? (Ad mb 3)=some (.slice (some (Ad pb 0)) k.aj.length cP) from by grind [bK.c3]));have q0:∀V,Below W.heap.size W V->V.cell? (Ad (w.heap.size+1) 0)=some (.string (aH k.frames i).data)/\V.cell? (Ad (w.heap.size+1) 1)=some (I (aH k.frames i).refs)/\V.cell? (Ad mb 2)=some (.slice (some (Ad lb 0)) k.slots.length cL)/\V.cell? (Ad lb (s*2))=some (.string (bH k.slots s).data)/\V.cell? (Ad lb (s*2+1))=some (I (bH k.slots s).refs)/\V.frozen? (Ad lb (s*2))=false/\V.frozen? (Ad lb (s*2+1))=false:=fun V hb=>by
   have hF:=aO F0.o hb (aJ F0.o);have mV:=HMW.o.below hb;obtain⟨lb',cL',A'⟩:=mV.toKr.sl (by omega);have e:lb'=lb:=by
    have:=A'.v
    grind
   subst e;have c2:=mV.c2;rw[AL.v] at c2;exact⟨au hF 0 rfl,au hF 1 rfl,c2,A'.x0 s hsl,A'.x1 s hsl,A'.fz _,A'.fz _⟩
  have HQ0:=ai q0;have HXA:=ai (fun V (hc:cM S W S V)=>(show V.cell? (Ad w.heap.size 0)=some (I (i:Int)) from au (Px.out S V hc).1 0 rfl));obtain⟨FR,T7⟩:=ex (aH k.frames i);rw[<- T7] at x0 x1 x2 x3 HHW hd F0 Z8 Bv HAF HQ0;obtain⟨SR,hSR⟩:=ex (bH k.slots s);rw[<- hSR] at HQ0;rw[hd] at x2 HHW F0;have d2:W.cell? (Ad (w.heap.size+1) 2)=some (.bool true):=au F0.o 2 rfl;have hsi:(s:Int)<(k.slots.length:Int):=by omega
  have HMF:Hid (∀S' V,cM S W S' V->S'.vP=S.vP):=fun S' V hc=>hc.eP
  clear hW hP hR hcc A h Yf T7 dz Px hi PX hsn AL AP hrL eL q0 ai7 hvP hSR dr hx0 hx1 hz0 hz1;go_enter Tryz.func297,Tryz.ntmps297;go_upto_region 1 with fail;go_region;rw[<- HHW.o];go_upto_region 10 with(go_at_call 301;refine Uy.o.mono ?_;rintro e w1 ⟨rfl,hb1⟩;have cN:=ai hb1;clear hb1)
  obtain⟨p0,p1,p2,p3,p4,p5,p6⟩:=HQ0.o w1 cN.o;obtain⟨U1,hU1⟩:=ex (((w1.setCell (Ad lb (s*2)) (.string FR.data)).setCell (Ad lb (s*2+1)) (I FR.refs)).drew);have HU1:=ai hU1;obtain⟨hk1,hc1⟩:=Z8.o w1 U1 cN.o hU1;have vD:=ai hk1;have HC1:=ai hc1;clear hU1 hk1 hc1;go_region;rw[<- HU1.o];obtain⟨g0,g1,g2,g3,g4,g5,g6⟩:=HAF.o U1 _ vD.o rfl;have g0a:=g0 (i*4);have g0b:=g0 (i*4+1);have g0c:=g0 (i*4+2);have g0d:=g0 (i*4+3);have g7:=HXA.o U1 HC1.o;obtain⟨U2,hU2⟩:=ex (((((U1.setCell (Ad fb (i*4)) (.string ⟨#[]⟩)).setCell (Ad fb (i*4+1)) (I 0)).setCell (Ad fb (i*4+2)) (.bool false)).setCell (Ad fb (i*4+3)) (.bool false)).drew);have HU2:=ai hU2;obtain⟨hk2,hc2⟩:=Bv.o U1 U2 vD.o HC1.o hU2;have pU:=ai hk2;have yP:=ai hc2;have k3:=W7.o U2 hk2;clear hU2 hk2 hc2 p0 p1 p2 p3 p4 p5 p6 g0;go_upto_region 11 with fail;go_region;rw[<- HU2.o];clear HU1 HU2 vD HC1 cN g0a g0b g0c g0d g1 g2 g3 g4 g5 g6 g7;go_wp2;go_loopw [69] (fun iv wr=>∃(n:Nat) (S':gI),n<=k.aj.length/\iv=I (n:Int)/\bK lo mb tt X wr S' (eJ k i s n)/\cM S W S' wr) (fun iv _=>k.aj.length-(intOf iv).toNat)
  case atStart=>grind [Hid.o]
  case round =>
   obtain⟨n,S',hn,rfl,rN,hch⟩:=hrel;by_cases hlt:n<k.aj.length
   · have hni:(n:Int)<(k.aj.length:Int):=by omega
     obtain⟨pb',cP',ae,ce,lv,ax,nx,cx,a0,a1,a2,hvp,hcs⟩:=Hw.o wr S' n hlt rN hch;have epb:pb'=pb:=by
      rw[HMF.o S' wr hch,HVP.o] at hvp
      grind
     subst epb;have HKM:=ai rN;have JL:=ai hch;have HA:=ai ((aK wr.heap.size wr).alloc (aI _) (.cells #[.bool lv,.slice ax nx cx,.slice ae (ak k.aj n).bc.length ce] 99));have BX:=ai (bE wr #[.bool lv,.slice ax nx cx,.slice ae (ak k.aj n).bc.length ce] 99);have aqv:∀eb,eb<wr.heap.size->¬wr.heap.size=eb:=fun eb h=>by omega
     clear rN hch hvp pU yP;rcases hcs with⟨hsame,hcl⟩ | ⟨m,eb,hm,hae,akl,hcl⟩
     · have HSM:=ai hsame;have OH:=ai hcl;clear hsame hcl;go_wp2_with (go_at_call 186;refine(OH.o _ HA.o).mono ?_;rintro e w2 ⟨rfl,hb2⟩;have gQ:=ai (HA.o.trans (hb2.mono HA.o.size));clear hb2)
       go_roundw
       case rel=>exact⟨n+1,S',by omega,by go_num,HSM.o ▸ HKM.o.below gQ.o,JL.o.trans (cM.below gQ.o)⟩
       grind [intOf]
     · subst hae;have OH:=ai hcl;have hmi:(m:Int)<((ak k.aj n).bc.length:Int):=by omega
       have hm0:(0:Int)<=(m:Int):=by omega
       clear hcl aqv;go_upto_region 17 with(go_at_call 186;refine(OH.o _ HA.o).mono ?_;rintro e w2 ⟨rfl,hb2,⟨u1,u2,t1,t2⟩,t3,t4,hfin⟩;have BX2:=aO BX.o hb2 (aJ BX.o);obtain⟨r0,r1,r2⟩:=Ez BX2;have Ay:=ai hfin;clear hb2 hfin BX2)
       go_region;go_wp2;go_roundw
       case rel =>
        obtain⟨z1,z2⟩:=Ay.o _ rfl;exact⟨n+1,S',by omega,by go_num,z1,JL.o.trans z2⟩
       grind [intOf]
   · obtain rfl:n=k.aj.length:=by omega
     have HX:=ai (LF.o wr S' rN hch);clear rN hch;go_wp2
     first
      | exact HX.o
      | (refine vE (v:=.tuple #[]) (by simp[results]) rfl ?_;exact HX.o)
end Go.Proofs.YtlgoihmkgaaemaaGreat
