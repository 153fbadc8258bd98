import Derived.Test.YtlgoihmkgaaemaaGreatGN17
set_option maxHeartbeats 20000000
set_option linter.unusedVariables false
set_option maxRecDepth 100000
set_option linter.unusedSimpArgs false
namespace Go.Proofs.YtlgoihmkgaaemaaGreat
open Go.RowKit
structure nj (w:World) (S:gI) (ah:Option Addr) (held:List Int):Prop where
 has:dW iE 1 0 w ah held
 no:∀b off,ah=some (Ad b off)->S.lab b=.no
 lt:∀b off,ah=some (Ad b off)->b<w.heap.size
theorem nj.ch {w w':World} {S S':gI} {ah:Option Addr} {held:List Int} (h:nj w S ah held) (hc:cM S w S' w'):nj w' S' ah held :=
 ⟨Uh.kp h.has hc.kp (fun b off e z=>z (h.no b off e)),fun b off e=>hc.no b (h.lt b off e) (h.no b off e),fun b off e=>fL (h.lt b off e) hc.kp.size⟩
theorem abB {held:List Int} {k:aT} {i:Nat} (h:(held.contains (i:Int) || (aH k.frames i).seen)=false) (hi:i<k.frames.length):l7 held k i=k:=by
 rw[JQ] at h;unfold l7;rw[aA (by grind)];have:k.frames.set i (CX (aH k.frames i))=k.frames:=by
  refine pD gM _ _ fJ (fun m hm=>?_);rw[fJ] at hm;by_cases c:i=m
  · subst c;rw[eV _ _ _ _ hm];have e:=h.2;unfold CX;show(⟨(aH k.frames i).data,(aH k.frames i).refs,(aH k.frames i).jo,false⟩:lQ)=aH k.frames i;rw[<- e]
  grind
 rw[this]
theorem VL {held:List Int} {k:aT} (hh:0<=k.hand/\k.hand<k.frames.length):({ l7 held k k.hand.toNat with hand:=jh (l7 held k k.hand.toNat) }:aT)=jw held k:=by
 grind [l7,jw,jh]
theorem Jj {lo mb:Nat} {tt:TypeId} {X:List Value} (k:aT) (S:gI) (w:World) (held:List Int) (ah:Option Addr) (ch:Nat) (h:bK lo mb tt X w S k) (hR:aZ k) (hl:held.length<=2) (hH:nj w S ah held) :
  Calls Tryz.prog 292 #[.pointer (some (Ad mb 0)),.slice ah held.length ch] w (fU lo mb tt X w S (I ((bN k held).1:Int)) (bN k held).2):=by
 have hcc:=hR.c;obtain⟨fb,cF,A⟩:=h.toKr.fr (by omega);obtain⟨aF,cF',eF,_,hrF⟩:=oI iO (fun _=>rfl) gM h.frames;have eF2:aF=some (Ad fb 0):=by
  have:=eF;rw[A.v] at this
  grind
 subst eF2;have c1:=h.c1;rw[A.v] at c1;have hix:=YW k.frames (some (Ad fb 0)) cF w hrF (by omega);by_cases hex:∃i,i<k.frames.length/\s7 (aH k.frames i)=true/\∀j,j<i->s7 (aH k.frames j)=false
 · obtain⟨i,hi,hy,hno⟩:=hex;have hf:=abF hR hi hy hno;have hg:bN k held=(i,k):=by grind [bN]
   have Uy:Hid (Calls Tryz.prog 295 #[.slice (some (Ad fb 0)) k.frames.length cF,.func (.func 216) #[] #[]] w fun e w'=>e=.returned (I (i:Int))/\Below w.heap.size w w'):=hix.mono fun e w' ⟨hb,hh⟩=>by
    grind
   have dz:Hid (∀V,Below w.heap.size w V->fU lo mb tt X w S (I ((bN k held).1:Int)) (bN k held).2 (.returned (I (i:Int))) V):=fun V hb=>by
    rw[hg];exact⟨rfl,S,h.below hb,cM.below hb⟩
   obtain⟨P,hP⟩:=ex (fU lo mb tt X w S (I ((bN k held).1:Int)) (bN k held).2);rw[<- hP] at dz ⊢;have hi0:(0:Int)<=(i:Int):=by omega
   clear hP hix hg hf hno hy h hR hcc A eF hrF hH;go_enter Tryz.func292,Tryz.ntmps292;go_wp2_with (go_at_call 295;refine Uy.o.mono ?_;rintro e w1 ⟨rfl,hb1⟩;have cN:=ai hb1;clear hb1)
   exact dz.o _ cN.o
 · have hall:∀j,j<k.frames.length->s7 (aH k.frames j)=false:=fun j=>by
    induction j using Nat.strongRecOn with
    | _ j ih =>
     grind
   obtain⟨hf,afK⟩:=abD hR hall;obtain⟨T,hT,afn,ac0⟩:=IK held hl hR afK;have JJ:=IJ held T 69 k (by omega) afn ac0;have hg:bN k held=((bQ held T k).hand.toNat,{ eN (bQ held T k) (bQ held T k).hand.toNat with hand:=jh (bQ held T k) }):=by
    grind [bN]
   have Uy:Hid (Calls Tryz.prog 295 #[.slice (some (Ad fb 0)) k.frames.length cF,.func (.func 216) #[] #[]] w fun e w'=>e=.returned (I (-1))/\Below w.heap.size w w'):=hix.mono fun e w' ⟨hb,hh⟩=>by
    grind
   have TK:=Hj held hR afK;have B6:∀n,(bQ held n k).frames.length=k.frames.length:=fun n=>(TK n).kept.nf
   have hhd:∀n,0<=(bQ held n k).hand/\(bQ held n k).hand<(bQ held n k).frames.length:=fun n=>(TK n).right.hand
   have HPS:Hid (∀V S' n,bK lo mb tt X V S' (bQ held n k)->cM S w S' V->Calls Tryz.prog 296 #[.pointer (some (Ad mb 0)),I (bQ held n k).hand,.slice ah held.length ch] V (mP lo mb tt X V S' (.bool (nN held (bQ held n k))) (l7 held (bQ held n k) (bQ held n k).hand.toNat))):=fun V S' n hV hc=>by
    have e:(((bQ held n k).hand.toNat:Nat):Int)=(bQ held n k).hand:=by grind
    have:=SK (bQ held n k) S' V (bQ held n k).hand.toNat held ah ch hV (by grind) (hH.ch hc).has (by omega);rw[e] at this;exact this
   have HMV:Hid (∀V S' n,bK lo mb tt X V S' (l7 held (bQ held n k) (bQ held n k).hand.toNat)->Calls Tryz.prog 251 #[.pointer (some (Ad mb 0))] V (mP lo mb tt X V S' (.tuple #[]) (bQ held (n+1) k))):=fun V S' n hV=>by
    have hpk:(l7 held (bQ held n k) (bQ held n k).hand.toNat).frames.length=(bQ held n k).frames.length/\(l7 held (bQ held n k) (bQ held n k).hand.toNat).hand=(bQ held n k).hand:=by
     unfold l7
     grind
    have:=EM (l7 held (bQ held n k) (bQ held n k).hand.toNat) S' V hV (by grind) (by grind);rw[VL (hhd n)] at this;exact this
   have HST:Hid (∀V S',bK lo mb tt X V S' (l7 held (bQ held T k) (bQ held T k).hand.toNat)->bK lo mb tt X V S' (bQ held T k)):=fun V S' hV=>by
    have e:(((bQ held T k).hand.toNat:Nat):Int)=(bQ held T k).hand:=by grind
    rw[abB (by rw[e];exact ac0) (by grind)] at hV;exact hV
   have HPA:Hid (∀V S',bK lo mb tt X V S' (bQ held T k)->Calls Tryz.prog 297 #[.pointer (some (Ad mb 0)),I (bQ held T k).hand] V (fU lo mb tt X V S' (.tuple #[]) (eN (bQ held T k) (bQ held T k).hand.toNat))):=fun V S' hV=>by
    have e:(((bQ held T k).hand.toNat:Nat):Int)=(bQ held T k).hand:=by grind
    have:=Ot (bQ held T k) S' V (bQ held T k).hand.toNat hV (TK T).right (by grind) ((TK T).full _ (by grind));rw[e] at this;exact this
   have aqH:=ES (bQ held T k) (bQ held T k).hand.toNat
   have Jv:Hid (∀V S',bK lo mb tt X V S' (eN (bQ held T k) (bQ held T k).hand.toNat)->Calls Tryz.prog 251 #[.pointer (some (Ad mb 0))] V (mP lo mb tt X V S' (.tuple #[]) { eN (bQ held T k) (bQ held T k).hand.toNat with hand:=jh (bQ held T k) })):=fun V S' hV=>by
    have hlen:(eN (bQ held T k) (bQ held T k).hand.toNat).frames.length=(bQ held T k).frames.length:=by grind
    have:=EM _ S' V hV (by grind) (by grind);have e:jh (eN (bQ held T k) (bQ held T k).hand.toNat)=jh (bQ held T k):=by
     unfold jh
     grind
    rw[e] at this;exact this
   have HHD:Hid (∀V S' n,bK lo mb tt X V S' (bQ held n k)->V.cell? (Ad mb 4)=some (I (bQ held n k).hand)):=fun V S' n hV=>hV.c4
   have HHI:=ai (fun n=>hhd n);have HPP:=ai afn;have HSS:=ai ac0;have dz:Hid (∀V S',bK lo mb tt X V S' { eN (bQ held T k) (bQ held T k).hand.toNat with hand:=jh (bQ held T k) }->cM S w S' V->fU lo mb tt X w S (I ((bN k held).1:Int)) (bN k held).2 (.returned (I (bQ held T k).hand)) V):=fun V S' h1 h2=>by
    rw[hg];refine⟨?_,S',h1,h2⟩
    grind
   obtain⟨P,hP⟩:=ex (fU lo mb tt X w S (I ((bN k held).1:Int)) (bN k held).2);rw[<- hP] at dz ⊢;have tV:=ai h;clear hP hix hg hf hall hex h hR hcc A eF hrF hH TK B6 hhd afn ac0 JJ afK aqH hl;go_enter Tryz.func292,Tryz.ntmps292;go_wp2_with (go_at_call 295;refine Uy.o.mono ?_;rintro e w1 ⟨rfl,hb1⟩;have cN:=ai hb1;clear hb1)
   go_loopg [23] T (fun g _ wr=>∃(n:Nat) (S':gI),n<=T/\g=T-n/\bK lo mb tt X wr S' (bQ held n k)/\cM S w S' wr)
   case atStart=>exact⟨0,S,by omega,by omega,tV.o.below cN.o,cM.below cN.o⟩
   case round =>
    obtain⟨n,S',hn,hgk,rN,hch⟩:=hrel;have d4:=HHD.o wr S' n rN;have aeq:=ai (HPS.o wr S' n rN hch);have ala:=ai (fun V=>HMV.o V S' n);have JL:=ai hch;have HGK:=ai hgk;clear rN hch hgk tV;by_cases hlt:n<T
    · have hp:=HPP.o n hlt;rw[hp] at aeq;obtain⟨hd,hhd⟩:=ex ((bQ held n k).hand);rw[<- hhd] at d4 aeq ala;clear hp hhd;go_wp2_with (first
       | (go_at_call 296;refine aeq.o.mono ?_;rintro e w2 ⟨rfl,hk2,hc2⟩;have pU:=ai hk2;have yP:=ai (JL.o.trans hc2);clear hk2 hc2)
       | (go_at_call 251;refine(ala.o _ pU.o).mono ?_;rintro e w3 ⟨rfl,hk3,hc3⟩;have Bw:=ai hk3;have W7:=ai (yP.o.trans hc3);clear hk3 hc3))
      go_roundg (T-(n+1))
      case measure=>have:=HGK.o;omega
      case rel=>exact⟨n+1,S',by omega,by omega,Bw.o,W7.o⟩
    · obtain rfl:n=T:=by omega
      have hp:=HSS.o;rw[hp] at aeq;obtain⟨IT,hIT⟩:=ex (bQ held n k);rw[<- hIT] at d4 aeq HST HPA Jv dz;have arV:Hid (∀V S',bK lo mb tt X V S' IT->V.cell? (Ad mb 4)=some (I IT.hand)):=fun V S' hV=>hV.c4
      clear hp hIT HMV ala HPS HHD HPP HSS HHI;go_wp2_with (first
       | (go_at_call 296;refine aeq.o.mono ?_;rintro e w2 ⟨rfl,hk2,hc2⟩;have akh:=HST.o _ _ hk2;have pU:=ai akh;have yP:=ai (JL.o.trans hc2);have d5:=arV.o w2 S' akh;clear hk2 hc2 akh)
       | (go_at_call 297;refine(HPA.o _ _ pU.o).mono ?_;rintro e w3 ⟨rfl,S3,hk3,hc3⟩;have Bw:=ai hk3;have W7:=ai (yP.o.trans hc3);clear hk3 hc3)
       | (go_at_call 251;refine(Jv.o _ _ Bw.o).mono ?_;rintro e w4 ⟨rfl,hk4,hc4⟩;have HK4:=ai hk4;have HC4:=ai (W7.o.trans hc4);clear hk4 hc4))
      exact dz.o _ _ HK4.o HC4.o
open Go.RowKit
section
variable {P:Program} {ops:Array Oper} {Q:Exit->Act->World->Prop} {md:Region.Mode} {S:World->Prop} {z:Nat}
def xw (P:Program) (md:Region.Mode) (ops:Array Oper) (Q:Exit->Act->World->Prop) (S:World->Prop) (z:Nat):Nat->Array Bool->Act->World->Prop
 | 0,l,a,w=>Region.ready md ops l=[]/\Q .normal a w
 | n+1,l,a,w=>(Region.ready md ops l=[]->Q .normal a w)/\∀i∈Region.ready md ops l,wpOp P ops Q i (fun a' w'=>(i≠z->S w')/\xw P md ops Q S z n (l.setIfInBounds i true) a' w') a w
theorem UA:∀(n:Nat) (l:Array Bool) (a:Act) (w:World),xw P md ops Q S z n l a w->wpAny P md ops Q n l a w
 | 0,_,_,_,h=>h
 | n+1,_,_,_,h=>⟨h.1,fun i hi=>wpOp_mono (fun a' w' g=>UA n _ a' w' g.2) (h.2 i hi)⟩
theorem aae {l:Array Bool} {i:Nat} (h:l.getD i true=false):l.getD i false=false:=by
 grind
theorem agR {i:Nat} {oi:Oper} {v:Value} (hi:ops[i]?=some oi) (al9:∀(j:Nat) (o:Oper) cs b,ops[j]?=some o->o.op≠.select cs b)
  (hQ:∀c a w,Q (.panic c) (a.put oi.dst v) w->Q (.panic c) a w) (hz:∀oz,ops[z]?=some oz->∃e∈oz.after,Region.binds md e=true/\e.on=i) :
  ∀(n:Nat) (l:Array Bool) (a:Act) (w:World),(∀j oj,ops[j]?=some oj->j≠i->l.getD j true=false->(∀e∈oj.after,Region.binds md e=true->e.on≠i)->oi.apart ops oj=true) ->
   i∈Region.ready md ops l->YieldsIf P ops S oi v a->S w->xw P md ops Q S z n (l.setIfInBounds i true) (a.put oi.dst v) w->xw P md ops Q S z (n+1) l a w:=by
 intro n;induction n with
 | zero =>
  intro l a w _ hr hy hS H;refine⟨fun g=>absurd hr (by grind),fun j hj=>?_⟩;by_cases c:j=i
  · subst c;exact hy.wpOp hi hS ⟨fun _=>hS,H⟩
  · have g:=ready_mono hj c;rw[H.1] at g;exact absurd g G3
 | succ n ih =>
  intro l a w hf hr hy hS H;refine⟨fun g=>absurd hr (by grind),fun j hj=>?_⟩;by_cases c:j=i
  · subst c;exact hy.wpOp hi hS ⟨fun _=>hS,H⟩
  · obtain⟨hu,oj,hoj,hall⟩:=mem_ready.1 hj;have hiu:=aae (mem_ready.1 hr).1;have hno:∀e∈oj.after,Region.binds md e=true->e.on≠i:=fun e he hb g=>by
     grind
    have hjz:j≠z:=fun g=>by
     grind
    have h2:=wpOp_putIf hoj (hf j oj hoj c hu hno) (fun cs b=>al9 i oi cs b hi) (fun cs b=>al9 j oj cs b hoj) hQ hy (H.2 j (ready_mono hj c));refine wpOp_mono (fun a' w' g=>⟨g.2.1,ih (l.setIfInBounds j true) a' w' (fun k ok hk JI hun hn=>hf k ok hk JI ?_ hn) (ready_mono hr (Ne.symm c)) g.1 (g.2.1 hjz) ?_⟩) h2
    · by_cases d:j=k
      · grind
      · rw[getD_set_ne true d] at hun;exact hun
    · rw[Array.setIfInBounds_comm _ _ c];exact g.2.2
def LH (md:Region.Mode) (ops:Array Oper) (z i:Nat):Bool:=match ops[z]? with
 | none=>false
 | some o=>o.after.any (fun e=>Region.binds md e&&e.on==i)
theorem TI {i:Nat} (h:LH md ops z i=true):∀oz,ops[z]?=some oz->∃e∈oz.after,Region.binds md e=true/\e.on=i:=fun oz ho=>by
 grind [LH]
theorem aiF {i:Nat} {oi:Oper} {v:Value} {n:Nat} {l:Array Bool} {a:Act} {w:World} (hi:ops[i]?=some oi)
  (hs:Region.noSelect ops=true) (hf:Region.free md ops l i=true) (hr:(Region.ready md ops l).contains i=true) (hw:LH md ops z i=true)
  (hQ:∀c a w,Q (.panic c) (a.put oi.dst v) w->Q (.panic c) a w) (hy:YieldsIf P ops S oi v a) (hS:S w)
  (h:xw P md ops Q S z n (l.setIfInBounds i true) (a.put oi.dst v) w):xw P md ops Q S z (n+1) l a w :=
 agR hi (Region.noSelect_spec hs) hQ (TI hw) n l a w (Region.free_spec hi hf) (by grind) hy hS h
theorem iK (i:Nat) {oi:Oper} {n:Nat} {l:Array Bool} {a:Act} {w:World} (hS:S w) (v:Value) (hy:∀V,S V->(execOp a.eval oi).run P V=.ok (.value v) V)
  (h:xw P md ops Q S z n (l.setIfInBounds i true) (a.put oi.dst v) w) (hi:ops[i]?=some oi:=by rfl) (hs:Region.noSelect ops=true:=by kernel_rfl) (hf:Region.free md ops l i=true:=by kernel_rfl) (hr:(Region.ready md ops l).contains i=true:=by kernel_rfl) (hw:LH md ops z i=true:=by kernel_rfl)
  (hwt:Region.wanted oi (yielded ops a.tmps)=true:=by rfl) (hQ:∀c a w,Q (.panic c) (a.put oi.dst v) w->Q (.panic c) a w:=by exact fun _ _ _ h=>h):xw P md ops Q S z (n+1) l a w :=
 aiF hi hs hf hr hw hQ (Or.inl ⟨hwt,hy⟩) hS h
def bw (P:Program) (md:Region.Mode) (ops:Array Oper) (Q:Exit->Act->World->Prop) (S:World->Prop) (z n:Nat) (l:Array Bool) (a:Act) (w:World) (rs:List Nat):Prop:=∀i∈rs,wpOp P ops Q i (fun a' w'=>(i≠z->S w')/\xw P md ops Q S z n (l.setIfInBounds i true) a' w') a w
theorem bw.nil {n:Nat} {l:Array Bool} {a:Act} {w:World}:bw P md ops Q S z n l a w []:=fun _ h=>absurd h G3
theorem bw.cons {n:Nat} {l:Array Bool} {a:Act} {w:World} {i:Nat} {o:Oper} {rs:List Nat} (ho:ops[i]?=some o)
  (h:∀K':Act->World->Prop,Shut (∀a w,(i≠z->S w)->xw P md ops Q S z n (l.setIfInBounds i true) a w->K' a w)->if Region.wanted o (yielded ops a.tmps)=true then Oper.wp P o a w K' Q else K' (a.put o.dst undef) w)
  (hs:bw P md ops Q S z n l a w rs):bw P md ops Q S z n l a w (i::rs):=fun j hj=>by
 rcases uI.1 hj with g | g
 · subst g;exact wpOp_step ho (fun K' hK=>h K' (fun a w h1 h2=>hK a w ⟨h1,h2⟩))
 · exact hs j g
theorem eI {rs:List Nat} {n:Nat} {l:Array Bool} {a:Act} {w:World} (hr:Region.ready md ops l=rs) (hne:rs≠[]) (h:bw P md ops Q S z n l a w rs):xw P md ops Q S z (n+1) l a w:=⟨fun g=>absurd (hr ▸ g) hne,hr ▸ h⟩
theorem q9 {l:Array Bool} {a:Act} {w:World} (hr:Region.ready md ops l=[]) (h:Q .normal a w):∀n,xw P md ops Q S z n l a w
 | 0=>⟨hr,h⟩
 | _+1=>⟨fun _=>h,by rw[hr];exact fun _ g=>absurd g G3⟩
theorem xx {id:Nat} {a:Act} {w:World} (hm:P.follows .mixedOrders=true) (h:xw P .any ops Q S z ops.size (Array.replicate ops.size false) a w.drew):(Code.region id ops true).wp P Q a w:=wp_region_any hm (UA _ _ _ _ h)
end
open Go.RowKit
theorem Nh:∀(es:List bI) (e:bI),(∀j,j<es.length->(aW es j).page<e.page)->mH es e=es++[e]
 | [],e,_=>rfl
 | a::r,e,h=>by
  unfold mH;rw[aC (show a.page<e.page from h 0 (O7 _)),Nh r e (fun j hj=>h (j+1) (O6 hj))];rfl
theorem Ue:∀(es:List bI) (e:bI) (n:Nat),n<es.length->(∀j,j<n->(aW es j).page<e.page)->¬(aW es n).page<e.page->mH es e=if (aW es n).page=e.page then es.set n e else es.take n++e::es.drop n
 | [],e,n,hn,_,_=>absurd hn (ky _)
 | a::r,e,0,hn,h,PQ=>by
  unfold mH;have PQ:¬a.page<e.page:=PQ;rw[aA PQ];rfl
 | a::r,e,n+1,hn,h,PQ=>by
  unfold mH;rw[aC (show a.page<e.page from h 0 (O7 _)),Ue r e n (Ds hn) (fun j hj=>h (j+1) (O6 hj)) PQ]
  grind [aW]
theorem SM (e o:bI) (x:Nat) (w:World) (hx:w.cell? (Ad x 0)=some (I e.page)) :
  Calls Tryz.prog 298 #[.agg #[I o.page,I o.kind,I o.loc],.pointer (some (Ad x 0))] w fun r w'=>r=.returned (.bool (decide (e.page<=o.page)))/\Below w.heap.size w w':=by
 obtain⟨pg,kd,lc⟩:=o;obtain⟨epg,ekd,elc⟩:=e;simp only at hx ⊢;have hxl:x<w.heap.size:=oQ w _ hx;have xA:(w.alloc (.cells #[I pg,I kd,I lc] 174)).cell? (Ad x 0)=some (I epg):=(O9 ((aK w.heap.size w).alloc (aI _) _) (p:=(Ad x 0)) hxl).trans hx;by_cases c:epg<=pg
 · rw[gZ c];go_enter Tryz.func298,Tryz.ntmps298;go_wp2
   try go_region
   try go_wp2
   go_ret;simp[aK,pZ]
 · rw[jl c];go_enter Tryz.func298,Tryz.ntmps298;go_wp2
   try go_region
   try go_wp2
   go_ret;simp[aK,pZ]
theorem abC (V:World) (e:bI):(V.alloc (.cells #[I e.page,I e.kind,I e.loc] 174)).ownsRow V.heap.size 174 3 (.slice (some (Ad V.heap.size 0)) 1 1) 1 ([e].flatMap bG) :=
 ⟨rfl,.inr ⟨V.heap.size,1,_,rfl,aI _,bE V _ _,aI _,by grind [maxLen],rfl,rfl⟩⟩
theorem anf.apG {lo mb:Nat} {tt:TypeId} {X:List Value} {w:World} {S:gI} {k:aT} (h:bK lo mb tt X w S k) {j:Nat} (hj:j<k.aj.length) {g n cap:Nat} (hv:(fH S.L j).vp=.slice (some (Ad g 0)) n cap) {i:Nat} (hi:i<(ak k.aj j).bc.length) (e:bI) :
  bK lo mb tt X (((w.setCell (Ad g (i*3)) (I e.page)).setCell (Ad g (i*3+1)) (I e.kind)).setCell (Ad g (i*3+2)) (I e.loc)) S { k with aj:=k.aj.set j (ek (ak k.aj j) ((ak k.aj j).bc.set i e)) } /\
  cM S w S (((w.setCell (Ad g (i*3)) (I e.page)).setCell (Ad g (i*3+1)) (I e.kind)).setCell (Ad g (i*3+2)) (I e.loc)):=by
 have at1:∀(ss:List cY) (es:List bI),j<ss.length->ak (ss.set j (ek (ak k.aj j) es)) j=ek (ak k.aj j) es:=fun ss es hl=>by grind [iI]
 have m1:=h.afi hj hv hi (c:=0) (by omega) (e:=⟨e.page,(aW (ak k.aj j).bc i).kind,(aW (ak k.aj j).bc i).loc⟩) (u:=I e.page) rfl;have m2:=m1.1.afi (j:=j) (by grind) hv (i:=i) (by
  show i<(ak (List.set _ _ _) j).bc.length;rw[at1 _ _ hj];show i<(List.set _ _ _).length
  grind) (c:=1) (by omega) (e:=⟨e.page,e.kind,(aW (ak k.aj j).bc i).loc⟩) (u:=I e.kind) (by
  show _=(bG (aW (ak (List.set _ _ _) j).bc i)).set 1 _;rw[at1 _ _ hj];show _=(bG ((List.set _ _ _).getD i gV)).set 1 _;rw[eV _ _ _ _ hi];rfl)
 simp only[pY,at1 _ _ hj] at m2;have m2a:bK lo mb tt X ((w.setCell (Ad g (i*3)) (I e.page)).setCell (Ad g (i*3+1)) (I e.kind)) S { k with aj:=k.aj.set j (ek (ak k.aj j) ((ak k.aj j).bc.set i ⟨e.page,e.kind,(aW (ak k.aj j).bc i).loc⟩)) }:=by
  grind [ek,List.set_set]
 have m3:=m2a.afi (j:=j) (by grind) hv (i:=i) (by
  show i<(ak (List.set _ _ _) j).bc.length;rw[at1 _ _ hj];show i<(List.set _ _ _).length
  grind) (c:=2) (by omega) (e:=e) (u:=I e.loc) (by
  show _=(bG (aW (ak (List.set _ _ _) j).bc i)).set 2 _;rw[at1 _ _ hj];show _=(bG ((List.set _ _ _).getD i gV)).set 2 _;rw[eV _ _ _ _ hi];rfl)
 grind [List.set_set,ek,cM.trans]
theorem KG {D:Nat->Prop} {N:Nat} {w0 w1 V:World} {b o:Nat} (hV:aD D w1 V) (hb:Below N w0 w1) (hl:b<N) (hl0:b<w0.heap.size) (hn:¬D b) (h:w0.frozen? (Ad b o)=false):V.frozen? (Ad b o)=false:=by
 have e1:=hb.block b hl
 grind [World.frozen?,aD.block]
theorem VR (w1:World) (o:Obj):aD (fun _=>False) w1 ((w1.alloc o).drew):=(aD.alloc _ _ o).trans (aD.drew _ _) (fun _ _ g=>g)
theorem ad8 (w1:World) (e:bI):∀i u,(bG e)[i]?=some u->((w1.alloc (.cells #[I e.page,I e.kind,I e.loc] 174)).drew).cell? (((Ad w1.heap.size 0):Addr).add i)=some u:=fun i u hu=>GJ (C:=#[I e.page,I e.kind,I e.loc]) (t:=174) (fr:=(0,0)) (bE w1 _ _) i u hu
open Go.RowKit
theorem DR {lo mb:Nat} {tt:TypeId} {X:List Value} (k:aT) (S:gI) (w:World) (j:Nat) (e:bI) (h:bK lo mb tt X w S k) (hj:j<k.aj.length) (hen:(ak k.aj j).bc.length<=1000) (AA:k.aj.length<=1000) :
  Calls Tryz.prog 293 #[.pointer (some (Ad mb 0)),I (j:Int),.agg #[I e.page,I e.kind,I e.loc]] w (fU lo mb tt X w S (.tuple #[]) (gp k j e)):=by
 have hlo:lo<=w.heap.size:=gY h.lo_le (OY h.lt);obtain⟨WA,lO⟩:=ex (w.alloc (.cells #[I e.page,I e.kind,I e.loc] 174));have jV:Hid (Below w.heap.size w WA):=by rw[lO];exact(aK w.heap.size w).alloc (aI _) _
 have EX:Hid (WA.heap[w.heap.size]?=some (.cells #[I e.page,I e.kind,I e.loc] 174 (0,0))):=by rw[lO];exact bE w _ _
 have n0:S.lab w.heap.size=.no:=h.toKr.new (aI _);have HMA:=ai (h.below jV.o);obtain⟨pb,cP,A⟩:=HMA.o.toKr.sp (by omega);have hrow:=(HMA.o.each j hj).aQ;obtain⟨ae,ce,Sj,hcap,hge⟩:=bj hrow;obtain⟨es,hes⟩:=ex ((ak k.aj j).bc);rw[<- hes] at hrow Sj hcap hge hen;rw[Sj] at hrow;have hre:=Zl hrow;have ac2:∀b,bZ (.slice ae es.length ce) b->S.lab b=.bc j:=fun b hb=>h.lE j hj b (by grind)
 have hpl:=A.lab;have c3:=HMA.o.c3;rw[A.v] at c3;have a2:=A.x2 j hj;rw[Sj] at a2;have hji:(j:Int)<(k.aj.length:Int):=by omega
 have hix:=Jn 298 (.inr (.inl rfl)) (fun o=>decide (e.page<=o.page)) es ae ce w.heap.size WA hre (by omega) (fun V o hV=>SM e o w.heap.size V (au (aO EX.o hV (aJ EX.o)) 0 rfl));have HE:Hid (∀V v' fs,aD (fun b=>S.lab b=.bc j) WA V->V.ownsRow lo 174 3 v' fs.length (fs.flatMap bG)->(∀b,bZ v' b->S.lab b=.bc j∨WA.heap.size<=b)->mH es e=fs->fU lo mb tt X w S (.tuple #[]) (gp k j e) (.returned (.tuple #[])) (V.setCell (Ad pb (j*3+2)) v')):=fun V v' fs h1 h2 h3 h4=>by
  have sw:=HMA.o.aiN hj A.v h1 h2 (fun b hb=>by
   rcases h3 b hb with g | g
   · grind
   · exact .inr (HMA.o.toKr.new g))
  have hK:({ k with aj:=k.aj.set j (ek (ak k.aj j) fs) }:aT)=gp k j e:=by
   grind [gp]
  refine⟨rfl,_,hK ▸ sw.1,(cM.below jV.o).trans (sw.2 (fun b hb hx=>?_))⟩
  grind
 have HES:Hid (∀V n g,Below WA.heap.size WA V->n<es.length->ae=some (Ad g 0)->mH es e=es.set n e->fU lo mb tt X w S (.tuple #[]) (gp k j e) (.returned (.tuple #[])) (((V.setCell (Ad g (n*3)) (I e.page)).setCell (Ad g (n*3+1)) (I e.kind)).setCell (Ad g (n*3+2)) (I e.loc)).drew.drew):=fun V n g hb hn hg hp=>by
  have m:=HMA.o.below hb;have m1:=anf.apG m hj (g:=g) (by rw[Sj,hg]) (i:=n) (by grind) e;have hK:({ k with aj:=k.aj.set j (ek (ak k.aj j) ((ak k.aj j).bc.set n e)) }:aT)=gp k j e:=by
   grind [gp]
  have m1a:=hK ▸ m1.1;have dr:∀V:World,Below V.heap.size V V.drew:=fun V=>(aK _ _).drew
  exact⟨rfl,S,(m1a.below (dr _)).below (dr _),((((cM.below jV.o).trans (cM.below hb)).trans m1.2).trans (cM.below (dr _))).trans (cM.below (dr _))⟩
 obtain⟨P,hP⟩:=ex (fU lo mb tt X w S (.tuple #[]) (gp k j e));rw[<- hP] at HE HES ⊢;obtain⟨np,PO⟩:=ex k.aj.length;rw[<- PO] at c3 hji;have ap7:=A.lt;have hxl:=aJ EX.o;have avt:=A.fz (j*3+2);have HPE:Hid (∀b,bZ (.slice ae es.length ce) b->b≠pb/\b≠w.heap.size/\b<WA.heap.size):=fun b hb=>⟨fun z=>by grind,fun z=>by grind,(hrow.lt b hb).2⟩
 have HLE:=ai ac2;have Wy:=ai hrow;have HGE:=ai hge;have se:=ai lO;have HHE:=ai hre;obtain⟨i0,hin,hz0,hz1,hz2⟩:=ju Hp;have Eo:=ai hin;have Hu:=ai hz0;have Gf:=ai hz1;have yV:=ai hz2;have hlA:lo<=WA.heap.size:=gY hlo jV.o.size;have avY:es.length<=1000:=by omega
 by_cases hall:∀i,i<es.length->(aW es i).page<e.page
 · have HP0:=ai (Nh es e hall);have Uy:Hid (Calls Tryz.prog 186 #[.slice ae es.length ce,.func (.func 298) #[] #[.pointer (some (Ad w.heap.size 0))]] WA fun r w'=>r=.returned (I (-1))/\Below WA.heap.size WA w'):=hix.mono fun r w' ⟨hb,hh⟩=>by
    grind
   clear hix lO h hrow hge hre ac2 HMA A Sj hes hP PO hin hz0 hz1 hz2 hall AA hj hen hlo;go_enter Tryz.func293,Tryz.ntmps293;go_upto_region 1 with fail;rw[<- se.o];go_upto_region 5 with(go_at_call 186;refine Uy.o.mono ?_;rintro r w1 ⟨rfl,hb1⟩;have cN:=ai hb1;clear hb1)
   have ow:Hid (aD (fun b=>bZ (.slice ae es.length ce) b) w1 w1.drew):=aD.drew _ _;have HSB:Hid (∀o,aD (fun b=>bZ (.slice ae es.length ce) b) w1 ((w1.alloc o).drew)):=fun o=>(aD.alloc _ _ o).trans (aD.drew _ _) (fun _ _ g=>g)
   have qG:Hid (∀V,aD (fun b=>bZ (.slice ae es.length ce) b) w1 V->V.cell? (Ad pb (j*3+2))=some (.slice ae es.length ce)/\V.cell? (Ad w.heap.size 0)=some (I e.page)/\V.cell? (Ad w.heap.size 1)=some (I e.kind)/\V.cell? (Ad w.heap.size 2)=some (I e.loc)/\V.frozen? (Ad pb (j*3+2))=false):=fun V hV=>by
    have b1:=aO EX.o cN.o (aJ EX.o);have b2:=hV.keep b1 (fun g=>(HPE.o _ g).2.1 rfl)
    grind [au,KG,aD.cell,Hid.o,Below.cell]
   have HRW:Hid (∀o,((w1.alloc o).drew).ownsRow lo 174 3 (.slice ae es.length ce) es.length (es.flatMap bG)):=fun o=>((VR w1 o).row ((aD.b9 (D:=fun _=>False) cN.o).row Wy.o (fun _ _ g=>g)) (fun _ _ g=>g))
   have hsz:=cN.o.size;refine xx (S:=fun V=>aD (fun b=>bZ (.slice ae es.length ce) b) w1 V) (z:=10) (by rfl) ?_;refine iK 0 ow.o ?_ ?_ ?_;rotate_left 1
   · intro V h;rfl
   refine iK 1 ow.o ?_ ?_ ?_;rotate_left 1
   · intro V h;rfl
   refine iK 2 ow.o ?_ ?_ ?_;rotate_left 1
   · intro V h;rfl
   refine iK 3 ow.o ?_ ?_ ?_;rotate_left 1
   · intro V h;obtain⟨k0,k1,k2,k3,k4⟩:=qG.o V h;go_simp;rfl
   refine iK 4 ow.o ?_ ?_ ?_;rotate_left 1
   · intro V h;obtain⟨k0,k1,k2,k3,k4⟩:=qG.o V h;go_simp;rfl
   refine iK 5 ow.o ?_ ?_ ?_;rotate_left 1
   · intro V h;obtain⟨k0,k1,k2,k3,k4⟩:=qG.o V h;go_simp;rfl
   refine eI (rs:=[6]) (by kernel_rfl) (by simp) ?_;refine bw.cons rfl (fun K hK=>?_) bw.nil;go_simp;refine hK.out _ _ (fun _=>?_) ?_
   · exact HSB.o _
   clear hK K
   try simp only[Act.put,dJ,dB,dw]
   refine eI (rs:=[7]) (by kernel_rfl) (by simp) ?_;refine bw.cons rfl (fun K hK=>?_) bw.nil;rw[aC (by rfl)];refine qD (P:=Tryz.prog) _ _ 97 rfl lo 174 i0 (.agg #[I 0,I 0,I 0]) 3 24 Tryz.underlying97 Eo.o Hu.o Gf.o yV.o rfl (by decide) (.slice ae es.length ce) es.length (es.flatMap bG) rfl (HRW.o _) (some (Ad w1.heap.size 0)) 1 1 (bG e) rfl rfl (fun _=>⟨_,rfl,ad8 w1 e⟩) (by intro u hu;simp[bG] at hu;rcases hu with rfl | rfl | rfl <;> rfl) (by grind [maxLen]) (by omega) (by simp;omega) ?_;intro vG wG hoG hgG haG;obtain⟨aG,cG,hvG,_,_⟩:=bj hoG;subst hvG;have Tu:Hid (aD (fun b=>bZ (.slice ae es.length ce) b) w1 wG):=(HSB.o _).trans (aD.grown (D:=fun b=>bZ (.slice ae es.length ce) b) hgG (fun q hq=>hq)) (fun _ _ g=>g);have HOG:=ai hoG;have HAG:=ai haG;clear hoG hgG haG;refine hK.out _ _ (fun _=>?_) ?_
   · exact Tu.o
   clear hK K
   try simp only[Act.put,dJ,dB,dw]
   refine eI (rs:=[8]) (by kernel_rfl) (by simp) ?_;refine bw.cons rfl (fun K hK=>?_) bw.nil;go_simp;refine hK.out _ _ (fun _=>?_) ?_
   · exact Tu.o
   clear hK K
   try simp only[Act.put,dJ,dB,dw]
   refine iK 9 Tu.o ?_ ?_ ?_;rotate_left 1
   · intro V h;rfl
   obtain⟨k0,k1,k2,k3,k4⟩:=qG.o wG Tu.o;refine eI (rs:=[10]) (by kernel_rfl) (by simp) ?_;refine bw.cons rfl (fun K hK=>?_) bw.nil;go_simp;refine hK.out _ _ (fun g=>absurd rfl g) ?_;refine q9 (by rfl) ?_ _;go_wp2;refine vE (v:=.tuple #[]) (by simp[results]) rfl ?_;refine HE.o wG _ (es++[e]) ?_ (by grind [Hid.o]) (fun b hb=>?_) HP0.o
   · exact(aD.b9 cN.o).trans Tu.o (fun b _ hx=>HLE.o b hx)
   · rcases HAG.o with g | g
     · exact .inl (HLE.o b (by show Value.ownBlock _=_;rw[<- g];exact hb))
     · right;have hb:Value.ownBlock _=some b:=hb
       grind [World.alloc,World.drew]
 · have hex:∃n,n<es.length/\(∀i,i<n->(aW es i).page<e.page)/\¬(aW es n).page<e.page:=by
    obtain⟨n,hn⟩:=Classical.not_forall.1 hall;rw[Classical.not_imp] at hn;obtain⟨Sk,E3⟩:=hn;induction n using Nat.strongRecOn with
    | _ n ih =>
     grind
   obtain⟨n,hn,Od,PQ⟩:=hex;have hput:=Ue es e n hn Od PQ;have Uy:Hid (Calls Tryz.prog 186 #[.slice ae es.length ce,.func (.func 298) #[] #[.pointer (some (Ad w.heap.size 0))]] WA fun r w'=>r=.returned (I (n:Int))/\Below WA.heap.size WA w'):=hix.mono fun r w' ⟨hb,hh⟩=>by
    grind
   obtain⟨eb,hae,_,akl⟩:=hge (by omega);subst hae;have hni:(n:Int)<(es.length:Int):=by omega
   have hn0:(0:Int)<=(n:Int):=by omega
   have HXE:Hid (∀V,Below WA.heap.size WA V->V.cell? (Ad eb (n*3))=some (I (aW es n).page)/\V.cell? (Ad eb (n*3+1))=some (I (aW es n).kind)/\V.cell? (Ad eb (n*3+2))=some (I (aW es n).loc)/\(∀q,V.frozen? (Ad eb q)=false)/\V.cell? (Ad pb (j*3+2))=some (.slice (some (Ad eb 0)) es.length ce)/\V.cell? (Ad w.heap.size 0)=some (I e.page)/\V.cell? (Ad w.heap.size 1)=some (I e.kind)/\V.cell? (Ad w.heap.size 2)=some (I e.loc)):=fun V hV=>by
    have hr:=(aD.b9 (D:=fun _=>False) hV).row hrow (fun _ _ g=>g);have b1:=aO EX.o hV (aJ EX.o);exact⟨kj bG (fun _=>rfl) gV hr n 0 hn (by omega),kj bG (fun _=>rfl) gV hr n 1 hn (by omega),kj bG (fun _=>rfl) gV hr n 2 hn (by omega),iL hr,(hV.cell (p:=(Ad pb (j*3+2))) ap7).trans a2,au b1 0 rfl,au b1 1 rfl,au b1 2 rfl⟩
   by_cases c:(aW es n).page=e.page
   · rw[aC c] at hput;have HPU:=ai hput;have cb:((aW es n).page==e.page)=true:=by grind
     obtain⟨Z,hZ⟩:=ex (aW es n);rw[<- hZ] at HXE cb;clear hix lO h hrow hge hre ac2 HMA A Sj hes hP PO hin hz0 hz1 hz2 hall AA hj hen hlo hput Od PQ hZ c;go_enter Tryz.func293,Tryz.ntmps293;go_upto_region 1 with fail;rw[<- se.o];go_upto_region 6 with(go_at_call 186;refine Uy.o.mono ?_;rintro r w1 ⟨rfl,hb1⟩;have cN:=ai hb1;clear hb1)
     obtain⟨y0,y1,y2,yf,y3,y4,y5,y6⟩:=HXE.o w1 cN.o;have yf0:=yf (n*3);have yf1:=yf (n*3+1);have yf2:=yf (n*3+2);clear yf;go_region;go_upto_region 7 with fail;go_region;go_wp2;refine vE (v:=.tuple #[]) (by simp[results]) rfl ?_
     grind [Hid.o]
   · rw[aA c] at hput;have HPU:=ai hput;have cb:((aW es n).page==e.page)=false:=by grind
     have arP:Hid (∀V,aD (fun b=>bZ (.slice (some (Ad eb 0)) es.length ce) b) WA V->V.ownsRow lo 174 3 (.slice (some (Ad eb 0)) es.length ce) es.length (es.flatMap bG)->WA.heap.size<=V.heap.size->Calls Tryz.prog 299 #[.slice (some (Ad eb 0)) es.length ce,I (n:Int),.slice (some (Ad V.heap.size 0)) 1 1] ((V.alloc (.cells #[I e.page,I e.kind,I e.loc] 174)).drew) fun r w'=>∃av nv cv,r=.returned (.slice av nv cv)/\w'.ownsRow lo 174 3 (.slice av nv cv) (es.take n++e::es.drop n).length ((es.take n++e::es.drop n).flatMap bG)/\aD (fun b=>bZ (.slice (some (Ad eb 0)) es.length ce) b) V w'/\(∀b,bZ (.slice av nv cv) b->bZ (.slice (some (Ad eb 0)) es.length ce) b∨WA.heap.size<=b)):=fun V hV hr hsz=>by
      have k1:aD (fun _=>False) V ((V.alloc (.cells #[I e.page,I e.kind,I e.loc] 174)).drew):=(aD.alloc _ _ _).trans (aD.drew _ _) (fun _ _ g=>g);have r1:=k1.row hr (fun _ _ g=>g);have r2:((V.alloc (.cells #[I e.page,I e.kind,I e.loc] 174)).drew).ownsRow V.heap.size 174 3 (.slice (some (Ad V.heap.size 0)) [e].length 1) [e].length ([e].flatMap bG):=(aD.drew (fun _=>False) _).row (abC V e) (fun _ _ g=>g);have hs1:((V.alloc (.cells #[I e.page,I e.kind,I e.loc] 174)).drew).heap.size=V.heap.size+1:=fF _ _;refine(Th lo es [e] (.slice (some (Ad eb 0)) es.length ce) (.slice (some (Ad V.heap.size 0)) 1 1) V.heap.size n _ r1 r2 (by omega) (fun b h1 h2=>?_) (by omega) (by simp) (by omega) (by simp)).mono fun r w' ⟨v',g1,g2,g3,g4⟩=>?_
      · have:V.heap.size=b:=by injection h1
        have:=(hr.lt b h2).2;omega
      · obtain⟨av,cv,rfl,_,_⟩:=bj g2;refine⟨av,_,cv,g1,g2,(k1.mono (fun _ _ z=>z.elim)).trans g3 (fun _ _ z=>z),fun b hb=>?_⟩
        grind
     obtain⟨Z,hZ⟩:=ex (aW es n);rw[<- hZ] at HXE cb;clear hix lO h hrow hge hre ac2 HMA A Sj hes hP PO hin hz0 hz1 hz2 hall AA hj hen hlo hput Od PQ hZ c;go_enter Tryz.func293,Tryz.ntmps293;go_upto_region 1 with fail;rw[<- se.o];go_upto_region 6 with(go_at_call 186;refine Uy.o.mono ?_;rintro r w1 ⟨rfl,hb1⟩;have cN:=ai hb1;clear hb1)
     obtain⟨y0,y1,y2,yf,y3,y4,y5,y6⟩:=HXE.o w1 cN.o;clear yf;go_region;go_upto_region 3 with fail;clear y0 y1 y2 y3 y4 y5 y6;have gQ:Hid (Below WA.heap.size WA w1.drew):=cN.o.drew;clear cN;obtain⟨w2,hw2⟩:=ex w1.drew;rw[<- hw2] at gQ ⊢;clear hw2;have ow:Hid (aD (fun b=>bZ (.slice (some (Ad eb 0)) es.length ce) b) w2 w2.drew):=aD.drew _ _;have HSB:Hid (∀o,aD (fun b=>bZ (.slice (some (Ad eb 0)) es.length ce) b) w2 ((w2.alloc o).drew)):=fun o=>(aD.alloc _ _ o).trans (aD.drew _ _) (fun _ _ g=>g)
     have qG:Hid (∀V,aD (fun b=>bZ (.slice (some (Ad eb 0)) es.length ce) b) w2 V->V.cell? (Ad pb (j*3+2))=some (.slice (some (Ad eb 0)) es.length ce)/\V.cell? (Ad w.heap.size 0)=some (I e.page)/\V.cell? (Ad w.heap.size 1)=some (I e.kind)/\V.cell? (Ad w.heap.size 2)=some (I e.loc)/\V.frozen? (Ad pb (j*3+2))=false):=fun V hV=>by
      grind [KG,Hid.o,aD.cell]
     have arQ:=ai (arP.o w2 (aD.b9 gQ.o) ((aD.b9 (D:=fun _=>False) gQ.o).row Wy.o (fun _ _ g=>g)) gQ.o.size);refine xx (S:=fun V=>aD (fun b=>bZ (.slice (some (Ad eb 0)) es.length ce) b) w2 V) (z:=11) (by rfl) ?_;refine iK 0 ow.o ?_ ?_ ?_;rotate_left 1
     · intro V h;rfl
     refine iK 1 ow.o ?_ ?_ ?_;rotate_left 1
     · intro V h;rfl
     refine iK 2 ow.o ?_ ?_ ?_;rotate_left 1
     · intro V h;rfl
     refine iK 3 ow.o ?_ ?_ ?_;rotate_left 1
     · intro V h;obtain⟨k0,k1,k2,k3,k4⟩:=qG.o V h;go_simp;rfl
     refine iK 4 ow.o ?_ ?_ ?_;rotate_left 1
     · intro V h;obtain⟨k0,k1,k2,k3,k4⟩:=qG.o V h;go_simp;rfl
     refine iK 5 ow.o ?_ ?_ ?_;rotate_left 1
     · intro V h;rfl
     refine iK 6 ow.o ?_ ?_ ?_;rotate_left 1
     · intro V h;obtain⟨k0,k1,k2,k3,k4⟩:=qG.o V h;go_simp;rfl
     refine eI (rs:=[7]) (by kernel_rfl) (by simp) ?_;refine bw.cons rfl (fun K hK=>?_) bw.nil;go_simp;refine hK.out _ _ (fun _=>?_) ?_
     · exact HSB.o _
     clear hK K
     try simp only[Act.put,dJ,dB,dw]
     refine eI (rs:=[8]) (by kernel_rfl) (by simp) ?_;refine bw.cons rfl (fun K hK=>?_) bw.nil;rw[aC (by rfl)];go_simp;go_at_call 299;refine arQ.o.mono ?_;rintro r wG ⟨aG,nG,cG,rfl,hoG,hkG,haG⟩;have Tu:Hid (aD (fun b=>bZ (.slice (some (Ad eb 0)) es.length ce) b) w2 wG):=hkG;have HOG:=ai hoG;have HAG:=ai haG;clear hoG hkG haG;try go_simp;refine hK.out _ _ (fun _=>?_) ?_
     · exact Tu.o
     clear hK K
     try simp only[Act.put,dJ,dB,dw]
     refine eI (rs:=[9]) (by kernel_rfl) (by simp) ?_;refine bw.cons rfl (fun K hK=>?_) bw.nil;go_simp;refine hK.out _ _ (fun _=>?_) ?_
     · exact Tu.o
     clear hK K
     try simp only[Act.put,dJ,dB,dw]
     refine iK 10 Tu.o ?_ ?_ ?_;rotate_left 1
     · intro V h;rfl
     obtain⟨k0,k1,k2,k3,k4⟩:=qG.o wG Tu.o;refine eI (rs:=[11]) (by kernel_rfl) (by simp) ?_;refine bw.cons rfl (fun K hK=>?_) bw.nil;go_simp;refine hK.out _ _ (fun g=>absurd rfl g) ?_;refine q9 (by rfl) ?_ _;go_wp2;refine vE (v:=.tuple #[]) (by simp[results]) rfl ?_;refine HE.o wG _ (es.take n++e::es.drop n) ((aD.b9 gQ.o).trans Tu.o (fun b _ hx=>HLE.o b hx)) HOG.o (fun b hb=>?_) HPU.o
     grind [Hid.o]
open Go.RowKit
theorem FE (k:aT) (j:Nat) (x e:bI):gp (dM k e) j x=dM (gp k j x) e:=by grind [dM,gp]
def KH (X:List Value) (hs:List bJ):Prop:=∀n:Nat,n<256->X[n]?=some (.string (fq hs n))
theorem Jk {lo mb:Nat} {tt:TypeId} {X:List Value} (k:aT) (S:gI) (w:World) (j:Nat) (p:Int) (h:bK lo mb tt X w S k) (hR:aZ k) (hj:j<k.aj.length) :
  Calls Tryz.prog 129 #[.pointer (some (Ad mb 0)),I (j:Int),I p] w fun e w'=>e=.returned (.tuple #[sW (nt (ak k.aj j).bc p).1,.bool (nt (ak k.aj j).bc p).2])/\Below w.heap.size w w':=by
 have hcc:=hR.c;have hen:=og hR hj;obtain⟨pb,cP,A⟩:=h.toKr.sp (by omega);obtain⟨ae,ce,Sj,hre⟩:=h.toKr.bc hj;have c3:=h.c3;rw[A.v] at c3;have a2:=A.x2 j hj;rw[Sj] at a2;have e0:0+j*3+2=j*3+2:=by omega
 exact VX (ak k.aj j).bc p j k.aj.length mb pb 0 cP ae ce w c3 hj (by grind) hre (by omega) (by omega)
theorem Ov {lo mb:Nat} {tt:TypeId} {X:List Value} (k:aT) (S:gI) (w:World) (j:Nat) (p:Int) (held:List Int) (ah:Option Addr) (ch:Nat) (e:bI) (h:bK lo mb tt X w S k) (hR:aZ k) (hj:j<k.aj.length) (he:bu (ak k.aj j).bc p=some e) (hk:e.kind=1) :
  Calls Tryz.prog 290 #[.pointer (some (Ad mb 0)),I (j:Int),I p,.slice ah held.length ch] w (fU lo mb tt X w S (I ((dA k j p held).1:Int)) (dA k j p held).2):=by
 have Az:=ai (Jk k S w j p h hR hj);have e1:nt (ak k.aj j).bc p=(e,true):=by grind [nt]
 rw[e1] at Az;have hP:dA k j p held=(e.loc.toNat,k):=by
  grind [dA]
 have hb:=(ja hR hj (mg he)).resolve_right (fun y=>by omega);rw[hP];have dz:Hid (∀V,Below w.heap.size w V->fU lo mb tt X w S (I ((e.loc.toNat:Nat):Int)) k (.returned (I e.loc)) V):=fun V hV=>⟨by grind,S,h.below hV,cM.below hV⟩
 obtain⟨P,Vf⟩:=ex (fU lo mb tt X w S (I ((e.loc.toNat:Nat):Int)) k);rw[<- Vf] at dz ⊢;obtain⟨pg,kd,lc⟩:=e;unfold sW at Az;simp only at Az dz hk;have kb:(kd==1)=true:=by grind
 clear hP Vf e1 he h hR hj hb hk;go_enter Tryz.func290,Tryz.ntmps290;go_wp2_with (go_at_call 129;refine Az.o.mono ?_;rintro r w1 ⟨rfl,hb1⟩;have cN:=ai hb1;have BX:=bE w1 #[I pg,I kd,I lc] 174;obtain⟨d0,d1,d2⟩:=Ez BX;clear hb1 BX)
 exact dz.o _ (cN.o.alloc cN.o.size _)
theorem Ji {lo mb:Nat} {tt:TypeId} {X:List Value} (k:aT) (S:gI) (w:World) (j:Nat) (p:Int) (held:List Int) (ah:Option Addr) (ch:Nat) (e:bI) (h:bK lo mb tt X w S k) (hR:aZ k) (hj:j<k.aj.length) (he:bu (ak k.aj j).bc p=some e) (hk:e.kind≠1) (hl:held.length<=2) (hH:nj w S ah held) :
  Calls Tryz.prog 290 #[.pointer (some (Ad mb 0)),I (j:Int),I p,.slice ah held.length ch] w (fU lo mb tt X w S (I ((dA k j p held).1:Int)) (dA k j p held).2):=by
 have Az:=ai (Jk k S w j p h hR hj);have e1:nt (ak k.aj j).bc p=(e,true):=by grind [nt]
 rw[e1] at Az;have hP:dA k j p held=((bN k held).1,eU (bN k held).2 j p (bN k held).1 (bH (bN k held).2.slots e.loc.toNat).data true):=by
  grind [dA]
 have hb:=(ja hR hj (mg he)).resolve_left (fun y=>hk y.1);have G:=s8 hR hl;have hent:bu (ak (bN k held).2.aj j).bc p=some e:=by grind [um.M6]
 have hmv:eU (bN k held).2 j p (bN k held).1 (bH (bN k held).2.slots e.loc.toNat).data true=gp (dM (iU (bN k held).2 (bN k held).1 (bH (bN k held).2.slots e.loc.toNat).data true) e) j ⟨p,1,(bN k held).1⟩:=by
  grind [FE,eU]
 rw[hP,hmv];have hcc:=hR.c;have Vb:j<(bN k held).2.aj.length:=by rw[G.kept.np];exact hj
 have hi1:(bN k held).1<(bN k held).2.frames.length:=by rw[G.kept.nf];exact G.lt
 have hs1:e.loc.toNat<(bN k held).2.slots.length:=by rw[G.kept.ns];omega
 have hrf:=(yq G.right).2 e.loc.toNat hs1;have aaQ:=og G.right Vb;have afo:=G.kept.np;have HGT:Hid (∀V,Below w.heap.size w V->Calls Tryz.prog 292 #[.pointer (some (Ad mb 0)),.slice ah held.length ch] V (fU lo mb tt X V S (I ((bN k held).1:Int)) (bN k held).2)):=fun V hV=>Jj k S V held ah ch (h.below hV) hR hl (hH.ch (cM.below hV))
 obtain⟨k1,hk1⟩:=ex ((bN k held).2);obtain⟨i,hi⟩:=ex ((bN k held).1);rw[<- hk1,<- hi] at HGT hi1;rw[<- hk1] at hs1 hrf Vb aaQ afo;rw[<- hk1,<- hi];obtain⟨D,hD⟩:=ex ((bH k1.slots e.loc.toNat).data);rw[<- hD];have Hw:Hid (∀V S',bK lo mb tt X V S' k1->∃fb cF lb cL,V.cell? (Ad mb 1)=some (.slice (some (Ad fb 0)) k1.frames.length cF)/\V.cell? (Ad mb 2)=some (.slice (some (Ad lb 0)) k1.slots.length cL)/\V.cell? (Ad lb (e.loc.toNat*2))=some (.string D)/\V.cell? (Ad fb (i*4))=some (.string (aH k1.frames i).data)/\V.cell? (Ad fb (i*4+1))=some (I (aH k1.frames i).refs)/\V.cell? (Ad fb (i*4+2))=some (.bool (aH k1.frames i).jo)/\V.cell? (Ad fb (i*4+3))=some (.bool (aH k1.frames i).seen)/\V.frozen? (Ad fb (i*4))=false/\V.frozen? (Ad fb (i*4+1))=false/\V.frozen? (Ad fb (i*4+2))=false/\V.frozen? (Ad fb (i*4+3))=false /\
   (∀U,U=((((V.setCell (Ad fb (i*4)) (.string D)).setCell (Ad fb (i*4+1)) (I 1)).setCell (Ad fb (i*4+2)) (.bool true)).setCell (Ad fb (i*4+3)) (.bool false)).drew->bK lo mb tt X U S' (iU k1 i D true)/\cM S' V S' U)):=fun V S' hV=>by
  obtain⟨fb,cF,A⟩:=hV.toKr.fr (by omega);obtain⟨lb,cL,AL⟩:=hV.toKr.sl (by omega);have c1:=hV.c1;have c2:=hV.c2;rw[A.v] at c1;rw[AL.v] at c2;refine⟨fb,cF,lb,cL,c1,c2,by rw[hD];exact AL.x0 _ hs1,A.x0 i hi1,A.x1 i hi1,A.x2 i hi1,A.x3 i hi1,A.fz _,A.fz _,A.fz _,A.fz _,fun U hU=>?_⟩;have m:=hV.afk A.v hi1 ⟨D,1,true,false⟩;subst hU;exact⟨m.1.below (aK _ _).drew,m.2.trans (cM.below (aK _ _).drew)⟩
 have HCN:Hid (∀V S',bK lo mb tt X V S' (iU k1 i D true)->Calls Tryz.prog 270 #[.pointer (some (Ad mb 0)),.agg #[I e.page,I e.kind,I e.loc],I (-1)] V (mP lo mb tt X V S' (.tuple #[]) (dM (iU k1 i D true) e))):=fun V S' hV=>by
  rw[<- Ga];refine DT _ S' V e (-1) hV (fun c=>absurd c hk) (fun _=>?_) (.inr rfl) ⟨fun c=>absurd c hk,fun _=>?_⟩
  · show 0<=e.loc/\e.loc<(k1.slots.length:Int);omega
  · show -1000000<=(bH k1.slots e.loc.toNat).refs/\(bH k1.slots e.loc.toNat).refs<=1000000;omega
 have HET:Hid (∀V S',bK lo mb tt X V S' (dM (iU k1 i D true) e)->Calls Tryz.prog 293 #[.pointer (some (Ad mb 0)),I (j:Int),.agg #[I p,I 1,I (i:Int)]] V (fU lo mb tt X V S' (.tuple #[]) (gp (dM (iU k1 i D true) e) j ⟨p,1,i⟩))):=fun V S' hV=>by
  have hsp:(dM (iU k1 i D true) e).aj=k1.aj:=ER _ _;exact DR _ S' V j ⟨p,1,i⟩ hV (by grind) (by grind) (by grind)
 have dz:Hid (∀V S',bK lo mb tt X V S' (gp (dM (iU k1 i D true) e) j ⟨p,1,i⟩)->cM S w S' V->fU lo mb tt X w S (I (i:Int)) (gp (dM (iU k1 i D true) e) j ⟨p,1,i⟩) (.returned (I (i:Int))) V):=fun V S' h1 h2=>⟨rfl,S',h1,h2⟩
 obtain⟨K3,hK3⟩:=ex (gp (dM (iU k1 i D true) e) j ⟨p,1,i⟩);rw[<- hK3] at HET dz ⊢;obtain⟨K2,hK2⟩:=ex (dM (iU k1 i D true) e);rw[<- hK2] at HCN HET;obtain⟨K1,hK1⟩:=ex (iU k1 i D true);rw[<- hK1] at Hw HCN;obtain⟨P,Vf⟩:=ex (fU lo mb tt X w S (I (i:Int)) K3);rw[<- Vf] at dz ⊢;have uZ:Hid (∀V:World,w.heap.size<=V.heap.size->S.lab V.heap.size=.no):=fun V hV=>h.toKr.new hV
 obtain⟨FR,T7⟩:=ex (aH k1.frames i);rw[<- T7] at Hw;obtain⟨nf,B6⟩:=ex k1.frames.length;obtain⟨nl,hnl⟩:=ex k1.slots.length;rw[<- B6,<- hnl] at Hw;obtain⟨m,hm⟩:∃m:Nat,e.loc=(m:Int):=⟨e.loc.toNat,by omega⟩;rw[hm,lM] at Hw;have hmi:(m:Int)<(nl:Int):=by omega
 have hii:(i:Int)<(nf:Int):=by omega
 obtain⟨pg,kd,lc⟩:=e;unfold sW at Az;simp only at Az hk HCN hm;subst hm;have kb:(kd==1)=false:=by simpa using hk
 clear hP Vf e1 he h hR hj hb hk G hent hmv hcc Vb hi1 hs1 hrf aaQ afo hk1 hi hD hK3 hK2 hK1 hH hl T7 B6 hnl;go_enter Tryz.func290,Tryz.ntmps290;go_upto_region 6 with(first
  | (go_at_call 129;refine Az.o.mono ?_;rintro r w1 ⟨rfl,hb1⟩;have cN:=ai hb1;have jV:=ai (cN.o.alloc cN.o.size (.cells #[I pg,I kd,I (m:Int)] 174));have BX:=ai (bE w1 #[I pg,I kd,I (m:Int)] 174);obtain⟨d0,d1,d2⟩:=Ez BX.o;have HN1:=ai (uZ.o w1 hb1.size);clear hb1)
  | (go_at_call 292;refine(HGT.o _ jV.o).mono ?_;rintro r w2 ⟨rfl,S2,hk2,hc2⟩;have pU:=ai hk2;have yP:=ai ((cM.below jV.o).trans hc2);have BX2:=ai (hc2.keep BX.o HN1.o);have Tx:=ai (hc2.no _ (aJ BX.o) HN1.o);clear hk2 hc2 d0 d1 d2))
 obtain⟨fb,cF,lb,cL,g1,g2,g3,g4,g5,g6,g7,g8,g9,g10,g11,hfin⟩:=Hw.o w2 S2 pU.o;obtain⟨d0,d1,d2⟩:=Ez BX2.o;obtain⟨U,hU⟩:=ex (((((w2.setCell (Ad fb (i*4)) (.string D)).setCell (Ad fb (i*4+1)) (I 1)).setCell (Ad fb (i*4+2)) (.bool true)).setCell (Ad fb (i*4+3)) (.bool false)).drew);obtain⟨hk3,hc3⟩:=hfin U hU;have HU:=ai hU;have Bw:=ai hk3;have W7:=ai (yP.o.trans hc3);have BX3:=ai (hc3.keep BX2.o Tx.o);clear hfin hU hk3 hc3;go_region;rw[<- HU.o];clear g1 g2 g3 g4 g5 g6 g7 g8 g9 g10 g11 d0 d1 d2 HU;obtain⟨d0,d1,d2⟩:=Ez BX3.o;go_wp2_with (first
  | (go_at_call 270;refine(HCN.o _ _ Bw.o).mono ?_;rintro r w4 ⟨rfl,hk4,hc4⟩;have HK4:=ai hk4;have HC4:=ai (W7.o.trans hc4);clear hk4 hc4)
  | (go_at_call 293;refine(HET.o _ _ HK4.o).mono ?_;rintro r w5 ⟨rfl,S5,hk5,hc5⟩;have HK5:=ai hk5;have HC5:=ai (HC4.o.trans hc5);clear hk5 hc5))
 exact dz.o _ _ HK5.o HC5.o
end Go.Proofs.YtlgoihmkgaaemaaGreat
