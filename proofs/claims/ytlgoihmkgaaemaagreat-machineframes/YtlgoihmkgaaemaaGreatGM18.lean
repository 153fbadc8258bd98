import Derived.Test.YtlgoihmkgaaemaaGreatGM17
set_option maxHeartbeats 20000000
set_option linter.unusedVariables false
set_option maxRecDepth 100000
set_option linter.unusedSimpArgs false
namespace Go.Proofs.YtlgoihmkgaaemaaGreat
open Go.RowKit
structure m8 (w:World) (S:gB) (ah:Option Addr) (held:List Int):Prop where
 has:dW iz 1 0 w ah held
 no:∀b off,ah=some (Ad b off)->S.lab b=.no
 lt:∀b off,ah=some (Ad b off)->b<w.heap.size
theorem m8.ch {w w':World} {S S':gB} {ah:Option Addr} {held:List Int} (h:m8 w S ah held) (hc:cI S w S' w'):m8 w' S' ah held :=
 ⟨TW.kp h.has hc.kp (fun b off e z=>z (h.no b off e)),fun b off e=>hc.no b (h.lt b off e) (h.no b off e),fun b off e=>fV (h.lt b off e) hc.kp.size⟩
theorem aaY {held:List Int} {k:aR} {i:Nat} (h:(held.contains (i:Int) || (aD k.frames i).seen)=false) (hi:i<k.frames.length):lW held k i=k:=by
 rw[JF] at h;unfold lW;rw[au (by grind)];have:k.frames.set i (CI (aD k.frames i))=k.frames:=by
  refine pd gM _ _ fC (fun m hm=>?_);rw[fC] at hm;by_cases c:i=m
  · subst c;rw[eI _ _ _ _ hm];have e:=h.2;unfold CI;show(⟨(aD k.frames i).data,(aD k.frames i).refs,(aD k.frames i).jw,false⟩:lK)=aD k.frames i;rw[<- e]
  grind
 rw[this]
theorem Vq {held:List Int} {k:aR} (hh:0<=k.hand/\k.hand<k.frames.length):({ lW held k k.hand.toNat with hand:=jb (lW held k k.hand.toNat) }:aR)=jq held k:=by
 grind [lW,jq,jb]
theorem I8 {lo mb:Nat} {tt:TypeId} {X:List Value} (k:aR) (S:gB) (w:World) (held:List Int) (ah:Option Addr) (ch:Nat) (h:bH lo mb tt X w S k) (hR:aY k) (hl:held.length<=2) (hH:m8 w S ah held) :
  Calls Tryz.prog 292 #[.pointer (some (Ad mb 0)),.slice ah held.length ch] w (fN lo mb tt X w S (I ((bJ k held).1:Int)) (bJ k held).2):=by
 have hcc:=hR.c;obtain⟨fb,cF,A⟩:=h.toKr.fr (by omega);obtain⟨aF,cF',eF,_,hrF⟩:=ov iT (fun _=>rfl) gM h.frames;have eF2:aF=some (Ad fb 0):=by
  have:=eF;rw[A.v] at this
  grind
 subst eF2;have c1:=h.c1;rw[A.v] at c1;have hix:=Yw k.frames (some (Ad fb 0)) cF w hrF (by omega);by_cases hex:∃i,i<k.frames.length/\sM (aD k.frames i)=true/\∀j,j<i->sM (aD k.frames j)=false
 · obtain⟨i,hi,hy,hno⟩:=hex;have hf:=aa3 hR hi hy hno;have hg:bJ k held=(i,k):=by grind [bJ]
   have Uc:Hid (Calls Tryz.prog 295 #[.slice (some (Ad fb 0)) k.frames.length cF,.func (.func 216) #[] #[]] w fun e w'=>e=.returned (I (i:Int))/\Below w.heap.size w w'):=hix.mono fun e w' ⟨hb,hh⟩=>by
    grind
   have dm:Hid (∀V,Below w.heap.size w V->fN lo mb tt X w S (I ((bJ k held).1:Int)) (bJ k held).2 (.returned (I (i:Int))) V):=fun V hb=>by
    rw[hg];exact⟨rfl,S,h.below hb,cI.below hb⟩
   obtain⟨P,hP⟩:=ex (fN lo mb tt X w S (I ((bJ k held).1:Int)) (bJ k held).2);rw[<- hP] at dm ⊢;have hi0:(0:Int)<=(i:Int):=by omega
   clear hP hix hg hf hno hy h hR hcc A eF hrF hH;go_enter Tryz.func292,Tryz.ntmps292;go_wp2_with (go_at_call 295;refine Uc.o.mono ?_;rintro e w1 ⟨rfl,hb1⟩;have cM:=ai hb1;clear hb1)
   exact dm.o _ cM.o
 · have hall:∀j,j<k.frames.length->sM (aD k.frames j)=false:=fun j=>by
    induction j using Nat.strongRecOn with
    | _ j ih =>
     grind
   obtain⟨hf,ae0⟩:=aa1 hR hall;obtain⟨T,hT,aeF,acp⟩:=Io held hl hR ae0;have Ju:=Im held T 69 k (by omega) aeF acp;have hg:bJ k held=((bM held T k).hand.toNat,{ eB (bM held T k) (bM held T k).hand.toNat with hand:=jb (bM held T k) }):=by
    grind [bJ]
   have Uc:Hid (Calls Tryz.prog 295 #[.slice (some (Ad fb 0)) k.frames.length cF,.func (.func 216) #[] #[]] w fun e w'=>e=.returned (I (-1))/\Below w.heap.size w w'):=hix.mono fun e w' ⟨hb,hh⟩=>by
    grind
   have TK:=G3 held hR ae0;have Bt:∀n,(bM held n k).frames.length=k.frames.length:=fun n=>(TK n).kept.nf
   have hhd:∀n,0<=(bM held n k).hand/\(bM held n k).hand<(bM held n k).frames.length:=fun n=>(TK n).right.hand
   have HPS:Hid (∀V S' n,bH lo mb tt X V S' (bM held n k)->cI S w S' V->Calls Tryz.prog 296 #[.pointer (some (Ad mb 0)),I (bM held n k).hand,.slice ah held.length ch] V (mM lo mb tt X V S' (.bool (nE held (bM held n k))) (lW held (bM held n k) (bM held n k).hand.toNat))):=fun V S' n hV hc=>by
    have e:(((bM held n k).hand.toNat:Nat):Int)=(bM held n k).hand:=by grind
    have:=Sn (bM held n k) S' V (bM held n k).hand.toNat held ah ch hV (by grind) (hH.ch hc).has (by omega);rw[e] at this;exact this
   have HMV:Hid (∀V S' n,bH lo mb tt X V S' (lW held (bM held n k) (bM held n k).hand.toNat)->Calls Tryz.prog 251 #[.pointer (some (Ad mb 0))] V (mM lo mb tt X V S' (.tuple #[]) (bM held (n+1) k))):=fun V S' n hV=>by
    have hpk:(lW held (bM held n k) (bM held n k).hand.toNat).frames.length=(bM held n k).frames.length/\(lW held (bM held n k) (bM held n k).hand.toNat).hand=(bM held n k).hand:=by
     unfold lW
     grind
    have:=Ez (lW held (bM held n k) (bM held n k).hand.toNat) S' V hV (by grind) (by grind);rw[Vq (hhd n)] at this;exact this
   have HST:Hid (∀V S',bH lo mb tt X V S' (lW held (bM held T k) (bM held T k).hand.toNat)->bH lo mb tt X V S' (bM held T k)):=fun V S' hV=>by
    have e:(((bM held T k).hand.toNat:Nat):Int)=(bM held T k).hand:=by grind
    rw[aaY (by rw[e];exact acp) (by grind)] at hV;exact hV
   have HPA:Hid (∀V S',bH lo mb tt X V S' (bM held T k)->Calls Tryz.prog 297 #[.pointer (some (Ad mb 0)),I (bM held T k).hand] V (fN lo mb tt X V S' (.tuple #[]) (eB (bM held T k) (bM held T k).hand.toNat))):=fun V S' hV=>by
    have e:(((bM held T k).hand.toNat:Nat):Int)=(bM held T k).hand:=by grind
    have:=N7 (bM held T k) S' V (bM held T k).hand.toNat hV (TK T).right (by grind) ((TK T).full _ (by grind));rw[e] at this;exact this
   have aoN:=EE (bM held T k) (bM held T k).hand.toNat
   have Jk:Hid (∀V S',bH lo mb tt X V S' (eB (bM held T k) (bM held T k).hand.toNat)->Calls Tryz.prog 251 #[.pointer (some (Ad mb 0))] V (mM lo mb tt X V S' (.tuple #[]) { eB (bM held T k) (bM held T k).hand.toNat with hand:=jb (bM held T k) })):=fun V S' hV=>by
    have hlen:(eB (bM held T k) (bM held T k).hand.toNat).frames.length=(bM held T k).frames.length:=by grind
    have:=Ez _ S' V hV (by grind) (by grind);have e:jb (eB (bM held T k) (bM held T k).hand.toNat)=jb (bM held T k):=by
     unfold jb
     grind
    rw[e] at this;exact this
   have HHD:Hid (∀V S' n,bH lo mb tt X V S' (bM held n k)->V.cell? (Ad mb 4)=some (I (bM held n k).hand)):=fun V S' n hV=>hV.c4
   have HHI:=ai (fun n=>hhd n);have HPP:=ai aeF;have HSS:=ai acp;have dm:Hid (∀V S',bH lo mb tt X V S' { eB (bM held T k) (bM held T k).hand.toNat with hand:=jb (bM held T k) }->cI S w S' V->fN lo mb tt X w S (I ((bJ k held).1:Int)) (bJ k held).2 (.returned (I (bM held T k).hand)) V):=fun V S' h1 h2=>by
    rw[hg];refine⟨?_,S',h1,h2⟩
    grind
   obtain⟨P,hP⟩:=ex (fN lo mb tt X w S (I ((bJ k held).1:Int)) (bJ k held).2);rw[<- hP] at dm ⊢;have tM:=ai h;clear hP hix hg hf hall hex h hR hcc A eF hrF hH TK Bt hhd aeF acp Ju ae0 aoN hl;go_enter Tryz.func292,Tryz.ntmps292;go_wp2_with (go_at_call 295;refine Uc.o.mono ?_;rintro e w1 ⟨rfl,hb1⟩;have cM:=ai hb1;clear hb1)
   go_loopg [23] T (fun g _ wr=>∃(n:Nat) (S':gB),n<=T/\g=T-n/\bH lo mb tt X wr S' (bM held n k)/\cI S w S' wr)
   case atStart=>exact⟨0,S,by omega,by omega,tM.o.below cM.o,cI.below cM.o⟩
   case round =>
    obtain⟨n,S',hn,hgk,rz,hch⟩:=hrel;have d4:=HHD.o wr S' n rz;have adO:=ai (HPS.o wr S' n rz hch);have ajO:=ai (fun V=>HMV.o V S' n);have Ol:=ai hch;have HGK:=ai hgk;clear rz hch hgk tM;by_cases hlt:n<T
    · have hp:=HPP.o n hlt;rw[hp] at adO;obtain⟨hd,hhd⟩:=ex ((bM held n k).hand);rw[<- hhd] at d4 adO ajO;clear hp hhd;go_wp2_with (first
       | (go_at_call 296;refine adO.o.mono ?_;rintro e w2 ⟨rfl,hk2,hc2⟩;have pM:=ai hk2;have yA:=ai (Ol.o.trans hc2);clear hk2 hc2)
       | (go_at_call 251;refine(ajO.o _ pM.o).mono ?_;rintro e w3 ⟨rfl,hk3,hc3⟩;have Bg:=ai hk3;have Ww:=ai (yA.o.trans hc3);clear hk3 hc3))
      go_roundg (T-(n+1))
      case measure=>have:=HGK.o;omega
      case rel=>exact⟨n+1,S',by omega,by omega,Bg.o,Ww.o⟩
    · obtain rfl:n=T:=by omega
      have hp:=HSS.o;rw[hp] at adO;obtain⟨IT,hIT⟩:=ex (bM held n k);rw[<- hIT] at d4 adO HST HPA Jk dm;have apY:Hid (∀V S',bH lo mb tt X V S' IT->V.cell? (Ad mb 4)=some (I IT.hand)):=fun V S' hV=>hV.c4
      clear hp hIT HMV ajO HPS HHD HPP HSS HHI;go_wp2_with (first
       | (go_at_call 296;refine adO.o.mono ?_;rintro e w2 ⟨rfl,hk2,hc2⟩;have aiV:=HST.o _ _ hk2;have pM:=ai aiV;have yA:=ai (Ol.o.trans hc2);have d5:=apY.o w2 S' aiV;clear hk2 hc2 aiV)
       | (go_at_call 297;refine(HPA.o _ _ pM.o).mono ?_;rintro e w3 ⟨rfl,S3,hk3,hc3⟩;have Bg:=ai hk3;have Ww:=ai (yA.o.trans hc3);clear hk3 hc3)
       | (go_at_call 251;refine(Jk.o _ _ Bg.o).mono ?_;rintro e w4 ⟨rfl,hk4,hc4⟩;have HK4:=ai hk4;have HC4:=ai (Ww.o.trans hc4);clear hk4 hc4))
      exact dm.o _ _ HK4.o HC4.o
open Go.RowKit
section
variable {P:Program} {ops:Array Oper} {Q:Exit->Act->World->Prop} {md:Region.Mode} {S:World->Prop} {z:Nat}
def wZ (P:Program) (md:Region.Mode) (ops:Array Oper) (Q:Exit->Act->World->Prop) (S:World->Prop) (z:Nat):Nat->Array Bool->Act->World->Prop
 | 0,l,a,w=>Region.ready md ops l=[]/\Q .normal a w
 | n+1,l,a,w=>(Region.ready md ops l=[]->Q .normal a w)/\∀i∈Region.ready md ops l,wpOp P ops Q i (fun a' w'=>(i≠z->S w')/\wZ P md ops Q S z n (l.setIfInBounds i true) a' w') a w
theorem Ue:∀(n:Nat) (l:Array Bool) (a:Act) (w:World),wZ P md ops Q S z n l a w->wpAny P md ops Q n l a w
 | 0,_,_,_,h=>h
 | n+1,_,_,_,h=>⟨h.1,fun i hi=>wpOp_mono (fun a' w' g=>Ue n _ a' w' g.2) (h.2 i hi)⟩
theorem ZH {l:Array Bool} {i:Nat} (h:l.getD i true=false):l.getD i false=false:=by
 grind
theorem af8 {i:Nat} {oi:Oper} {v:Value} (hi:ops[i]?=some oi) (akH:∀(j:Nat) (o:Oper) cs b,ops[j]?=some o->o.op≠.select cs b)
  (hQ:∀c a w,Q (.panic c) (a.put oi.dst v) w->Q (.panic c) a w) (hz:∀oz,ops[z]?=some oz->∃e∈oz.after,Region.binds md e=true/\e.on=i) :
  ∀(n:Nat) (l:Array Bool) (a:Act) (w:World),(∀j oj,ops[j]?=some oj->j≠i->l.getD j true=false->(∀e∈oj.after,Region.binds md e=true->e.on≠i)->oi.apart ops oj=true) ->
   i∈Region.ready md ops l->YieldsIf P ops S oi v a->S w->wZ P md ops Q S z n (l.setIfInBounds i true) (a.put oi.dst v) w->wZ P md ops Q S z (n+1) l a w:=by
 intro n;induction n with
 | zero =>
  intro l a w _ hr hy hS H;refine⟨fun g=>absurd hr (by grind),fun j hj=>?_⟩;by_cases c:j=i
  · subst c;exact hy.wpOp hi hS ⟨fun _=>hS,H⟩
  · have g:=ready_mono hj c;rw[H.1] at g;exact absurd g GI
 | succ n ih =>
  intro l a w hf hr hy hS H;refine⟨fun g=>absurd hr (by grind),fun j hj=>?_⟩;by_cases c:j=i
  · subst c;exact hy.wpOp hi hS ⟨fun _=>hS,H⟩
  · obtain⟨hu,oj,hoj,hall⟩:=mem_ready.1 hj;have hiu:=ZH (mem_ready.1 hr).1;have hno:∀e∈oj.after,Region.binds md e=true->e.on≠i:=fun e he hb g=>by
     grind
    have hjz:j≠z:=fun g=>by
     grind
    have h2:=wpOp_putIf hoj (hf j oj hoj c hu hno) (fun cs b=>akH i oi cs b hi) (fun cs b=>akH j oj cs b hoj) hQ hy (H.2 j (ready_mono hj c));refine wpOp_mono (fun a' w' g=>⟨g.2.1,ih (l.setIfInBounds j true) a' w' (fun k ok hk JL hun hn=>hf k ok hk JL ?_ hn) (ready_mono hr (Ne.symm c)) g.1 (g.2.1 hjz) ?_⟩) h2
    · by_cases d:j=k
      · grind
      · rw[getD_set_ne true d] at hun;exact hun
    · rw[Array.setIfInBounds_comm _ _ c];exact g.2.2
def Lr (md:Region.Mode) (ops:Array Oper) (z i:Nat):Bool:=match ops[z]? with
 | none=>false
 | some o=>o.after.any (fun e=>Region.binds md e&&e.on==i)
theorem Tm {i:Nat} (h:Lr md ops z i=true):∀oz,ops[z]?=some oz->∃e∈oz.after,Region.binds md e=true/\e.on=i:=fun oz ho=>by
 grind [Lr]
theorem ahN {i:Nat} {oi:Oper} {v:Value} {n:Nat} {l:Array Bool} {a:Act} {w:World} (hi:ops[i]?=some oi)
  (hs:Region.noSelect ops=true) (hf:Region.free md ops l i=true) (hr:(Region.ready md ops l).contains i=true) (hw:Lr md ops z i=true)
  (hQ:∀c a w,Q (.panic c) (a.put oi.dst v) w->Q (.panic c) a w) (hy:YieldsIf P ops S oi v a) (hS:S w)
  (h:wZ P md ops Q S z n (l.setIfInBounds i true) (a.put oi.dst v) w):wZ P md ops Q S z (n+1) l a w :=
 af8 hi (Region.noSelect_spec hs) hQ (Tm hw) n l a w (Region.free_spec hi hf) (by grind) hy hS h
theorem iE (i:Nat) {oi:Oper} {n:Nat} {l:Array Bool} {a:Act} {w:World} (hS:S w) (v:Value) (hy:∀V,S V->(execOp a.eval oi).run P V=.ok (.value v) V)
  (h:wZ P md ops Q S z n (l.setIfInBounds i true) (a.put oi.dst v) w) (hi:ops[i]?=some oi:=by rfl) (hs:Region.noSelect ops=true:=by kernel_rfl) (hf:Region.free md ops l i=true:=by kernel_rfl) (hr:(Region.ready md ops l).contains i=true:=by kernel_rfl) (hw:Lr md ops z i=true:=by kernel_rfl)
  (hwt:Region.wanted oi (yielded ops a.tmps)=true:=by rfl) (hQ:∀c a w,Q (.panic c) (a.put oi.dst v) w->Q (.panic c) a w:=by exact fun _ _ _ h=>h):wZ P md ops Q S z (n+1) l a w :=
 ahN hi hs hf hr hw hQ (Or.inl ⟨hwt,hy⟩) hS h
def bo (P:Program) (md:Region.Mode) (ops:Array Oper) (Q:Exit->Act->World->Prop) (S:World->Prop) (z n:Nat) (l:Array Bool) (a:Act) (w:World) (rs:List Nat):Prop:=∀i∈rs,wpOp P ops Q i (fun a' w'=>(i≠z->S w')/\wZ P md ops Q S z n (l.setIfInBounds i true) a' w') a w
theorem bo.nil {n:Nat} {l:Array Bool} {a:Act} {w:World}:bo P md ops Q S z n l a w []:=fun _ h=>absurd h GI
theorem bo.cons {n:Nat} {l:Array Bool} {a:Act} {w:World} {i:Nat} {o:Oper} {rs:List Nat} (ho:ops[i]?=some o)
  (h:∀K':Act->World->Prop,Shut (∀a w,(i≠z->S w)->wZ P md ops Q S z n (l.setIfInBounds i true) a w->K' a w)->if Region.wanted o (yielded ops a.tmps)=true then Oper.wp P o a w K' Q else K' (a.put o.dst undef) w)
  (hs:bo P md ops Q S z n l a w rs):bo P md ops Q S z n l a w (i::rs):=fun j hj=>by
 rcases ux.1 hj with g | g
 · subst g;exact wpOp_step ho (fun K' hK=>h K' (fun a w h1 h2=>hK a w ⟨h1,h2⟩))
 · exact hs j g
theorem eu {rs:List Nat} {n:Nat} {l:Array Bool} {a:Act} {w:World} (hr:Region.ready md ops l=rs) (hne:rs≠[]) (h:bo P md ops Q S z n l a w rs):wZ P md ops Q S z (n+1) l a w:=⟨fun g=>absurd (hr ▸ g) hne,hr ▸ h⟩
theorem qO {l:Array Bool} {a:Act} {w:World} (hr:Region.ready md ops l=[]) (h:Q .normal a w):∀n,wZ P md ops Q S z n l a w
 | 0=>⟨hr,h⟩
 | _+1=>⟨fun _=>h,by rw[hr];exact fun _ g=>absurd g GI⟩
theorem xe {id:Nat} {a:Act} {w:World} (hm:P.follows .mixedOrders=true) (h:wZ P .any ops Q S z ops.size (Array.replicate ops.size false) a w.drew):(Code.region id ops true).wp P Q a w:=wp_region_any hm (Ue _ _ _ _ h)
end
open Go.RowKit
theorem MU:∀(es:List bC) (e:bC),(∀j,j<es.length->(aV es j).page<e.page)->mE es e=es++[e]
 | [],e,_=>rfl
 | a::r,e,h=>by
  unfold mE;rw[aB (show a.page<e.page from h 0 (OM _)),MU r e (fun j hj=>h (j+1) (OL hj))];rfl
theorem TT:∀(es:List bC) (e:bC) (n:Nat),n<es.length->(∀j,j<n->(aV es j).page<e.page)->¬(aV es n).page<e.page->mE es e=if (aV es n).page=e.page then es.set n e else es.take n++e::es.drop n
 | [],e,n,hn,_,_=>absurd hn (kr _)
 | a::r,e,0,hn,h,Py=>by
  unfold mE;have Py:¬a.page<e.page:=Py;rw[au Py];rfl
 | a::r,e,n+1,hn,h,Py=>by
  unfold mE;rw[aB (show a.page<e.page from h 0 (OM _)),TT r e n (Dg hn) (fun j hj=>h (j+1) (OL hj)) Py]
  grind [aV]
theorem Sq (e o:bC) (x:Nat) (w:World) (hx:w.cell? (Ad x 0)=some (I e.page)) :
  Calls Tryz.prog 298 #[.agg #[I o.page,I o.kind,I o.loc],.pointer (some (Ad x 0))] w fun r w'=>r=.returned (.bool (decide (e.page<=o.page)))/\Below w.heap.size w w':=by
 obtain⟨pg,kd,lc⟩:=o;obtain⟨epg,ekd,elc⟩:=e;simp only at hx ⊢;have hxl:x<w.heap.size:=oJ w _ hx;have xA:(w.alloc (.cells #[I pg,I kd,I lc] 174)).cell? (Ad x 0)=some (I epg):=(OP ((aJ w.heap.size w).alloc (aH _) _) (p:=(Ad x 0)) hxl).trans hx;by_cases c:epg<=pg
 · rw[gU c];go_enter Tryz.func298,Tryz.ntmps298;go_wp2
   try go_region
   try go_wp2
   go_ret;simp[aJ,pR]
 · rw[je c];go_enter Tryz.func298,Tryz.ntmps298;go_wp2
   try go_region
   try go_wp2
   go_ret;simp[aJ,pR]
theorem aaZ (V:World) (e:bC):(V.alloc (.cells #[I e.page,I e.kind,I e.loc] 174)).ownsRow V.heap.size 174 3 (.slice (some (Ad V.heap.size 0)) 1 1) 1 ([e].flatMap bw) :=
 ⟨rfl,.inr ⟨V.heap.size,1,_,rfl,aH _,bD V _ _,aH _,by grind [maxLen],rfl,rfl⟩⟩
theorem alL.anN {lo mb:Nat} {tt:TypeId} {X:List Value} {w:World} {S:gB} {k:aR} (h:bH lo mb tt X w S k) {j:Nat} (hj:j<k.aj.length) {g n cap:Nat} (hv:(fA S.L j).vp=.slice (some (Ad g 0)) n cap) {i:Nat} (hi:i<(ak k.aj j).bf.length) (e:bC) :
  bH lo mb tt X (((w.setCell (Ad g (i*3)) (I e.page)).setCell (Ad g (i*3+1)) (I e.kind)).setCell (Ad g (i*3+2)) (I e.loc)) S { k with aj:=k.aj.set j (dU (ak k.aj j) ((ak k.aj j).bf.set i e)) } /\
  cI S w S (((w.setCell (Ad g (i*3)) (I e.page)).setCell (Ad g (i*3+1)) (I e.kind)).setCell (Ad g (i*3+2)) (I e.loc)):=by
 have at1:∀(ss:List cV) (es:List bC),j<ss.length->ak (ss.set j (dU (ak k.aj j) es)) j=dU (ak k.aj j) es:=fun ss es hl=>by grind [iC]
 have m1:=h.aeA hj hv hi (c:=0) (by omega) (e:=⟨e.page,(aV (ak k.aj j).bf i).kind,(aV (ak k.aj j).bf i).loc⟩) (u:=I e.page) rfl;have m2:=m1.1.aeA (j:=j) (by grind) hv (i:=i) (by
  show i<(ak (List.set _ _ _) j).bf.length;rw[at1 _ _ hj];show i<(List.set _ _ _).length
  grind) (c:=1) (by omega) (e:=⟨e.page,e.kind,(aV (ak k.aj j).bf i).loc⟩) (u:=I e.kind) (by
  show _=(bw (aV (ak (List.set _ _ _) j).bf i)).set 1 _;rw[at1 _ _ hj];show _=(bw ((List.set _ _ _).getD i gY)).set 1 _;rw[eI _ _ _ _ hi];rfl)
 simp only[pQ,at1 _ _ hj] at m2;have m2a:bH lo mb tt X ((w.setCell (Ad g (i*3)) (I e.page)).setCell (Ad g (i*3+1)) (I e.kind)) S { k with aj:=k.aj.set j (dU (ak k.aj j) ((ak k.aj j).bf.set i ⟨e.page,e.kind,(aV (ak k.aj j).bf i).loc⟩)) }:=by
  grind [dU,List.set_set]
 have m3:=m2a.aeA (j:=j) (by grind) hv (i:=i) (by
  show i<(ak (List.set _ _ _) j).bf.length;rw[at1 _ _ hj];show i<(List.set _ _ _).length
  grind) (c:=2) (by omega) (e:=e) (u:=I e.loc) (by
  show _=(bw (aV (ak (List.set _ _ _) j).bf i)).set 2 _;rw[at1 _ _ hj];show _=(bw ((List.set _ _ _).getD i gY)).set 2 _;rw[eI _ _ _ _ hi];rfl)
 grind [List.set_set,dU,cI.trans]
theorem Kt {D:Nat->Prop} {N:Nat} {w0 w1 V:World} {b o:Nat} (hV:aC D w1 V) (hb:Below N w0 w1) (hl:b<N) (hl0:b<w0.heap.size) (hn:¬D b) (h:w0.frozen? (Ad b o)=false):V.frozen? (Ad b o)=false:=by
 have e1:=hb.block b hl
 grind [World.frozen?,aC.block]
theorem Vw (w1:World) (o:Obj):aC (fun _=>False) w1 ((w1.alloc o).drew):=(aC.alloc _ _ o).trans (aC.drew _ _) (fun _ _ g=>g)
theorem ady (w1:World) (e:bC):∀i u,(bw e)[i]?=some u->((w1.alloc (.cells #[I e.page,I e.kind,I e.loc] 174)).drew).cell? (((Ad w1.heap.size 0):Addr).add i)=some u:=fun i u hu=>Gv (C:=#[I e.page,I e.kind,I e.loc]) (t:=174) (fr:=(0,0)) (bD w1 _ _) i u hu
open Go.RowKit
theorem DC {lo mb:Nat} {tt:TypeId} {X:List Value} (k:aR) (S:gB) (w:World) (j:Nat) (e:bC) (h:bH lo mb tt X w S k) (hj:j<k.aj.length) (hen:(ak k.aj j).bf.length<=1000) (Ak:k.aj.length<=1000) :
  Calls Tryz.prog 293 #[.pointer (some (Ad mb 0)),I (j:Int),.agg #[I e.page,I e.kind,I e.loc]] w (fN lo mb tt X w S (.tuple #[]) (fZ k j e)):=by
 have hlo:lo<=w.heap.size:=gT h.lo_le (OE h.lt);obtain⟨WA,mj⟩:=ex (w.alloc (.cells #[I e.page,I e.kind,I e.loc] 174));have jQ:Hid (Below w.heap.size w WA):=by rw[mj];exact(aJ w.heap.size w).alloc (aH _) _
 have EX:Hid (WA.heap[w.heap.size]?=some (.cells #[I e.page,I e.kind,I e.loc] 174 (0,0))):=by rw[mj];exact bD w _ _
 have n0:S.lab w.heap.size=.no:=h.toKr.new (aH _);have HMA:=ai (h.below jQ.o);obtain⟨pb,cP,A⟩:=HMA.o.toKr.sp (by omega);have hrow:=(HMA.o.each j hj).aO;obtain⟨ae,ce,RT,hcap,hge⟩:=bh hrow;obtain⟨es,hes⟩:=ex ((ak k.aj j).bf);rw[<- hes] at hrow RT hcap hge hen;rw[RT] at hrow;have hre:=YS hrow;have acs:∀b,bW (.slice ae es.length ce) b->S.lab b=.bf j:=fun b hb=>h.lE j hj b (by grind)
 have hpl:=A.lab;have c3:=HMA.o.c3;rw[A.v] at c3;have a2:=A.x2 j hj;rw[RT] at a2;have hji:(j:Int)<(k.aj.length:Int):=by omega
 have hix:=Jc 298 (.inr (.inl rfl)) (fun o=>decide (e.page<=o.page)) es ae ce w.heap.size WA hre (by omega) (fun V o hV=>Sq e o w.heap.size V (aq (aN EX.o hV (aI EX.o)) 0 rfl));have HE:Hid (∀V v' fs,aC (fun b=>S.lab b=.bf j) WA V->V.ownsRow lo 174 3 v' fs.length (fs.flatMap bw)->(∀b,bW v' b->S.lab b=.bf j∨WA.heap.size<=b)->mE es e=fs->fN lo mb tt X w S (.tuple #[]) (fZ k j e) (.returned (.tuple #[])) (V.setCell (Ad pb (j*3+2)) v')):=fun V v' fs h1 h2 h3 h4=>by
  have sw:=HMA.o.ahW hj A.v h1 h2 (fun b hb=>by
   rcases h3 b hb with g | g
   · grind
   · exact .inr (HMA.o.toKr.new g))
  have hK:({ k with aj:=k.aj.set j (dU (ak k.aj j) fs) }:aR)=fZ k j e:=by
   grind [fZ]
  refine⟨rfl,_,hK ▸ sw.1,(cI.below jQ.o).trans (sw.2 (fun b hb hx=>?_))⟩
  grind
 have HES:Hid (∀V n g,Below WA.heap.size WA V->n<es.length->ae=some (Ad g 0)->mE es e=es.set n e->fN lo mb tt X w S (.tuple #[]) (fZ k j e) (.returned (.tuple #[])) (((V.setCell (Ad g (n*3)) (I e.page)).setCell (Ad g (n*3+1)) (I e.kind)).setCell (Ad g (n*3+2)) (I e.loc)).drew.drew):=fun V n g hb hn hg hp=>by
  have m:=HMA.o.below hb;have m1:=alL.anN m hj (g:=g) (by rw[RT,hg]) (i:=n) (by grind) e;have hK:({ k with aj:=k.aj.set j (dU (ak k.aj j) ((ak k.aj j).bf.set n e)) }:aR)=fZ k j e:=by
   grind [fZ]
  have m1a:=hK ▸ m1.1;have dr:∀V:World,Below V.heap.size V V.drew:=fun V=>(aJ _ _).drew
  exact⟨rfl,S,(m1a.below (dr _)).below (dr _),((((cI.below jQ.o).trans (cI.below hb)).trans m1.2).trans (cI.below (dr _))).trans (cI.below (dr _))⟩
 obtain⟨P,hP⟩:=ex (fN lo mb tt X w S (.tuple #[]) (fZ k j e));rw[<- hP] at HE HES ⊢;obtain⟨np,Px⟩:=ex k.aj.length;rw[<- Px] at c3 hji;have aoc:=A.lt;have hxl:=aI EX.o;have aup:=A.fz (j*3+2);have HPE:Hid (∀b,bW (.slice ae es.length ce) b->b≠pb/\b≠w.heap.size/\b<WA.heap.size):=fun b hb=>⟨fun z=>by grind,fun z=>by grind,(hrow.lt b hb).2⟩
 have HLE:=ai acs;have We:=ai hrow;have HGE:=ai hge;have se:=ai mj;have HHE:=ai hre;obtain⟨i0,hin,hz0,hz1,hz2⟩:=jm Hc;have Ed:=ai hin;have Hh:=ai hz0;have FU:=ai hz1;have yH:=ai hz2;have hlA:lo<=WA.heap.size:=gT hlo jQ.o.size;have auV:es.length<=1000:=by omega
 by_cases hall:∀i,i<es.length->(aV es i).page<e.page
 · have HP0:=ai (MU es e hall);have Uc:Hid (Calls Tryz.prog 186 #[.slice ae es.length ce,.func (.func 298) #[] #[.pointer (some (Ad w.heap.size 0))]] WA fun r w'=>r=.returned (I (-1))/\Below WA.heap.size WA w'):=hix.mono fun r w' ⟨hb,hh⟩=>by
    grind
   clear hix mj h hrow hge hre acs HMA A RT hes hP Px hin hz0 hz1 hz2 hall Ak hj hen hlo;go_enter Tryz.func293,Tryz.ntmps293;go_upto_region 1 with fail;rw[<- se.o];go_upto_region 5 with(go_at_call 186;refine Uc.o.mono ?_;rintro r w1 ⟨rfl,hb1⟩;have cM:=ai hb1;clear hb1)
   have oh:Hid (aC (fun b=>bW (.slice ae es.length ce) b) w1 w1.drew):=aC.drew _ _;have HSB:Hid (∀o,aC (fun b=>bW (.slice ae es.length ce) b) w1 ((w1.alloc o).drew)):=fun o=>(aC.alloc _ _ o).trans (aC.drew _ _) (fun _ _ g=>g)
   have qu:Hid (∀V,aC (fun b=>bW (.slice ae es.length ce) b) w1 V->V.cell? (Ad pb (j*3+2))=some (.slice ae es.length ce)/\V.cell? (Ad w.heap.size 0)=some (I e.page)/\V.cell? (Ad w.heap.size 1)=some (I e.kind)/\V.cell? (Ad w.heap.size 2)=some (I e.loc)/\V.frozen? (Ad pb (j*3+2))=false):=fun V hV=>by
    have b1:=aN EX.o cM.o (aI EX.o);have b2:=hV.keep b1 (fun g=>(HPE.o _ g).2.1 rfl)
    grind [aq,Kt,aC.cell,Hid.o,Below.cell]
   have HRW:Hid (∀o,((w1.alloc o).drew).ownsRow lo 174 3 (.slice ae es.length ce) es.length (es.flatMap bw)):=fun o=>((Vw w1 o).row ((aC.bY (D:=fun _=>False) cM.o).row We.o (fun _ _ g=>g)) (fun _ _ g=>g))
   have hsz:=cM.o.size;refine xe (S:=fun V=>aC (fun b=>bW (.slice ae es.length ce) b) w1 V) (z:=10) (by rfl) ?_;refine iE 0 oh.o ?_ ?_ ?_;rotate_left 1
   · intro V h;rfl
   refine iE 1 oh.o ?_ ?_ ?_;rotate_left 1
   · intro V h;rfl
   refine iE 2 oh.o ?_ ?_ ?_;rotate_left 1
   · intro V h;rfl
   refine iE 3 oh.o ?_ ?_ ?_;rotate_left 1
   · intro V h;obtain⟨k0,k1,k2,k3,k4⟩:=qu.o V h;go_simp;rfl
   refine iE 4 oh.o ?_ ?_ ?_;rotate_left 1
   · intro V h;obtain⟨k0,k1,k2,k3,k4⟩:=qu.o V h;go_simp;rfl
   refine iE 5 oh.o ?_ ?_ ?_;rotate_left 1
   · intro V h;obtain⟨k0,k1,k2,k3,k4⟩:=qu.o V h;go_simp;rfl
   refine eu (rs:=[6]) (by kernel_rfl) (by simp) ?_;refine bo.cons rfl (fun K hK=>?_) bo.nil;go_simp;refine hK.out _ _ (fun _=>?_) ?_
   · exact HSB.o _
   clear hK K
   try simp only[Act.put,dC,dw,dh]
   refine eu (rs:=[7]) (by kernel_rfl) (by simp) ?_;refine bo.cons rfl (fun K hK=>?_) bo.nil;rw[aB (by rfl)];refine qo (P:=Tryz.prog) _ _ 97 rfl lo 174 i0 (.agg #[I 0,I 0,I 0]) 3 24 Tryz.underlying97 Ed.o Hh.o FU.o yH.o rfl (by decide) (.slice ae es.length ce) es.length (es.flatMap bw) rfl (HRW.o _) (some (Ad w1.heap.size 0)) 1 1 (bw e) rfl rfl (fun _=>⟨_,rfl,ady w1 e⟩) (by intro u hu;simp[bw] at hu;rcases hu with rfl | rfl | rfl <;> rfl) (by grind [maxLen]) (by omega) (by simp;omega) ?_;intro vG wG hoG hgG haG;obtain⟨aG,cG,hvG,_,_⟩:=bh hoG;subst hvG;have S8:Hid (aC (fun b=>bW (.slice ae es.length ce) b) w1 wG):=(HSB.o _).trans (aC.grown (D:=fun b=>bW (.slice ae es.length ce) b) hgG (fun q hq=>hq)) (fun _ _ g=>g);have HOG:=ai hoG;have HAG:=ai haG;clear hoG hgG haG;refine hK.out _ _ (fun _=>?_) ?_
   · exact S8.o
   clear hK K
   try simp only[Act.put,dC,dw,dh]
   refine eu (rs:=[8]) (by kernel_rfl) (by simp) ?_;refine bo.cons rfl (fun K hK=>?_) bo.nil;go_simp;refine hK.out _ _ (fun _=>?_) ?_
   · exact S8.o
   clear hK K
   try simp only[Act.put,dC,dw,dh]
   refine iE 9 S8.o ?_ ?_ ?_;rotate_left 1
   · intro V h;rfl
   obtain⟨k0,k1,k2,k3,k4⟩:=qu.o wG S8.o;refine eu (rs:=[10]) (by kernel_rfl) (by simp) ?_;refine bo.cons rfl (fun K hK=>?_) bo.nil;go_simp;refine hK.out _ _ (fun g=>absurd rfl g) ?_;refine qO (by rfl) ?_ _;go_wp2;refine uZ (v:=.tuple #[]) (by simp[results]) rfl ?_;refine HE.o wG _ (es++[e]) ?_ (by grind [Hid.o]) (fun b hb=>?_) HP0.o
   · exact(aC.bY cM.o).trans S8.o (fun b _ hx=>HLE.o b hx)
   · rcases HAG.o with g | g
     · exact .inl (HLE.o b (by show Value.ownBlock _=_;rw[<- g];exact hb))
     · right;have hb:Value.ownBlock _=some b:=hb
       grind [World.alloc,World.drew]
 · have hex:∃n,n<es.length/\(∀i,i<n->(aV es i).page<e.page)/\¬(aV es n).page<e.page:=by
    obtain⟨n,hn⟩:=Classical.not_forall.1 hall;rw[Classical.not_imp] at hn;obtain⟨TG,GU⟩:=hn;induction n using Nat.strongRecOn with
    | _ n ih =>
     grind
   obtain⟨n,hn,NW,Py⟩:=hex;have hput:=TT es e n hn NW Py;have Uc:Hid (Calls Tryz.prog 186 #[.slice ae es.length ce,.func (.func 298) #[] #[.pointer (some (Ad w.heap.size 0))]] WA fun r w'=>r=.returned (I (n:Int))/\Below WA.heap.size WA w'):=hix.mono fun r w' ⟨hb,hh⟩=>by
    grind
   obtain⟨eb,hae,_,aiZ⟩:=hge (by omega);subst hae;have hni:(n:Int)<(es.length:Int):=by omega
   have hn0:(0:Int)<=(n:Int):=by omega
   have HXE:Hid (∀V,Below WA.heap.size WA V->V.cell? (Ad eb (n*3))=some (I (aV es n).page)/\V.cell? (Ad eb (n*3+1))=some (I (aV es n).kind)/\V.cell? (Ad eb (n*3+2))=some (I (aV es n).loc)/\(∀q,V.frozen? (Ad eb q)=false)/\V.cell? (Ad pb (j*3+2))=some (.slice (some (Ad eb 0)) es.length ce)/\V.cell? (Ad w.heap.size 0)=some (I e.page)/\V.cell? (Ad w.heap.size 1)=some (I e.kind)/\V.cell? (Ad w.heap.size 2)=some (I e.loc)):=fun V hV=>by
    have hr:=(aC.bY (D:=fun _=>False) hV).row hrow (fun _ _ g=>g);have b1:=aN EX.o hV (aI EX.o);exact⟨jY bw (fun _=>rfl) gY hr n 0 hn (by omega),jY bw (fun _=>rfl) gY hr n 1 hn (by omega),jY bw (fun _=>rfl) gY hr n 2 hn (by omega),iF hr,(hV.cell (p:=(Ad pb (j*3+2))) aoc).trans a2,aq b1 0 rfl,aq b1 1 rfl,aq b1 2 rfl⟩
   by_cases c:(aV es n).page=e.page
   · rw[aB c] at hput;have HPU:=ai hput;have cb:((aV es n).page==e.page)=true:=by grind
     obtain⟨Z,hZ⟩:=ex (aV es n);rw[<- hZ] at HXE cb;clear hix mj h hrow hge hre acs HMA A RT hes hP Px hin hz0 hz1 hz2 hall Ak hj hen hlo hput NW Py hZ c;go_enter Tryz.func293,Tryz.ntmps293;go_upto_region 1 with fail;rw[<- se.o];go_upto_region 6 with(go_at_call 186;refine Uc.o.mono ?_;rintro r w1 ⟨rfl,hb1⟩;have cM:=ai hb1;clear hb1)
     obtain⟨y0,y1,y2,yf,y3,y4,y5,y6⟩:=HXE.o w1 cM.o;have yf0:=yf (n*3);have yf1:=yf (n*3+1);have yf2:=yf (n*3+2);clear yf;go_region;go_upto_region 7 with fail;go_region;go_wp2;refine uZ (v:=.tuple #[]) (by simp[results]) rfl ?_
     grind [Hid.o]
   · rw[au c] at hput;have HPU:=ai hput;have cb:((aV es n).page==e.page)=false:=by grind
     have apT:Hid (∀V,aC (fun b=>bW (.slice (some (Ad eb 0)) es.length ce) b) WA V->V.ownsRow lo 174 3 (.slice (some (Ad eb 0)) es.length ce) es.length (es.flatMap bw)->WA.heap.size<=V.heap.size->Calls Tryz.prog 299 #[.slice (some (Ad eb 0)) es.length ce,I (n:Int),.slice (some (Ad V.heap.size 0)) 1 1] ((V.alloc (.cells #[I e.page,I e.kind,I e.loc] 174)).drew) fun r w'=>∃av nv cv,r=.returned (.slice av nv cv)/\w'.ownsRow lo 174 3 (.slice av nv cv) (es.take n++e::es.drop n).length ((es.take n++e::es.drop n).flatMap bw)/\aC (fun b=>bW (.slice (some (Ad eb 0)) es.length ce) b) V w'/\(∀b,bW (.slice av nv cv) b->bW (.slice (some (Ad eb 0)) es.length ce) b∨WA.heap.size<=b)):=fun V hV hr hsz=>by
      have k1:aC (fun _=>False) V ((V.alloc (.cells #[I e.page,I e.kind,I e.loc] 174)).drew):=(aC.alloc _ _ _).trans (aC.drew _ _) (fun _ _ g=>g);have r1:=k1.row hr (fun _ _ g=>g);have r2:((V.alloc (.cells #[I e.page,I e.kind,I e.loc] 174)).drew).ownsRow V.heap.size 174 3 (.slice (some (Ad V.heap.size 0)) [e].length 1) [e].length ([e].flatMap bw):=(aC.drew (fun _=>False) _).row (aaZ V e) (fun _ _ g=>g);have hs1:((V.alloc (.cells #[I e.page,I e.kind,I e.loc] 174)).drew).heap.size=V.heap.size+1:=fM _ _;refine(SS lo es [e] (.slice (some (Ad eb 0)) es.length ce) (.slice (some (Ad V.heap.size 0)) 1 1) V.heap.size n _ r1 r2 (by omega) (fun b h1 h2=>?_) (by omega) (by simp) (by omega) (by simp)).mono fun r w' ⟨v',g1,g2,g3,g4⟩=>?_
      · have:V.heap.size=b:=by injection h1
        have:=(hr.lt b h2).2;omega
      · obtain⟨av,cv,rfl,_,_⟩:=bh g2;refine⟨av,_,cv,g1,g2,(k1.mono (fun _ _ z=>z.elim)).trans g3 (fun _ _ z=>z),fun b hb=>?_⟩
        grind
     obtain⟨Z,hZ⟩:=ex (aV es n);rw[<- hZ] at HXE cb;clear hix mj h hrow hge hre acs HMA A RT hes hP Px hin hz0 hz1 hz2 hall Ak hj hen hlo hput NW Py hZ c;go_enter Tryz.func293,Tryz.ntmps293;go_upto_region 1 with fail;rw[<- se.o];go_upto_region 6 with(go_at_call 186;refine Uc.o.mono ?_;rintro r w1 ⟨rfl,hb1⟩;have cM:=ai hb1;clear hb1)
     obtain⟨y0,y1,y2,yf,y3,y4,y5,y6⟩:=HXE.o w1 cM.o;clear yf;go_region;go_upto_region 3 with fail;clear y0 y1 y2 y3 y4 y5 y6;have gP:Hid (Below WA.heap.size WA w1.drew):=cM.o.drew;clear cM;obtain⟨w2,hw2⟩:=ex w1.drew;rw[<- hw2] at gP ⊢;clear hw2;have oh:Hid (aC (fun b=>bW (.slice (some (Ad eb 0)) es.length ce) b) w2 w2.drew):=aC.drew _ _;have HSB:Hid (∀o,aC (fun b=>bW (.slice (some (Ad eb 0)) es.length ce) b) w2 ((w2.alloc o).drew)):=fun o=>(aC.alloc _ _ o).trans (aC.drew _ _) (fun _ _ g=>g)
     have qu:Hid (∀V,aC (fun b=>bW (.slice (some (Ad eb 0)) es.length ce) b) w2 V->V.cell? (Ad pb (j*3+2))=some (.slice (some (Ad eb 0)) es.length ce)/\V.cell? (Ad w.heap.size 0)=some (I e.page)/\V.cell? (Ad w.heap.size 1)=some (I e.kind)/\V.cell? (Ad w.heap.size 2)=some (I e.loc)/\V.frozen? (Ad pb (j*3+2))=false):=fun V hV=>by
      grind [Kt,Hid.o,aC.cell]
     have apU:=ai (apT.o w2 (aC.bY gP.o) ((aC.bY (D:=fun _=>False) gP.o).row We.o (fun _ _ g=>g)) gP.o.size);refine xe (S:=fun V=>aC (fun b=>bW (.slice (some (Ad eb 0)) es.length ce) b) w2 V) (z:=11) (by rfl) ?_;refine iE 0 oh.o ?_ ?_ ?_;rotate_left 1
     · intro V h;rfl
     refine iE 1 oh.o ?_ ?_ ?_;rotate_left 1
     · intro V h;rfl
     refine iE 2 oh.o ?_ ?_ ?_;rotate_left 1
     · intro V h;rfl
     refine iE 3 oh.o ?_ ?_ ?_;rotate_left 1
     · intro V h;obtain⟨k0,k1,k2,k3,k4⟩:=qu.o V h;go_simp;rfl
     refine iE 4 oh.o ?_ ?_ ?_;rotate_left 1
     · intro V h;obtain⟨k0,k1,k2,k3,k4⟩:=qu.o V h;go_simp;rfl
     refine iE 5 oh.o ?_ ?_ ?_;rotate_left 1
     · intro V h;rfl
     refine iE 6 oh.o ?_ ?_ ?_;rotate_left 1
     · intro V h;obtain⟨k0,k1,k2,k3,k4⟩:=qu.o V h;go_simp;rfl
     refine eu (rs:=[7]) (by kernel_rfl) (by simp) ?_;refine bo.cons rfl (fun K hK=>?_) bo.nil;go_simp;refine hK.out _ _ (fun _=>?_) ?_
     · exact HSB.o _
     clear hK K
     try simp only[Act.put,dC,dw,dh]
     refine eu (rs:=[8]) (by kernel_rfl) (by simp) ?_;refine bo.cons rfl (fun K hK=>?_) bo.nil;rw[aB (by rfl)];go_simp;go_at_call 299;refine apU.o.mono ?_;rintro r wG ⟨aG,nG,cG,rfl,hoG,hkG,haG⟩;have S8:Hid (aC (fun b=>bW (.slice (some (Ad eb 0)) es.length ce) b) w2 wG):=hkG;have HOG:=ai hoG;have HAG:=ai haG;clear hoG hkG haG;try go_simp;refine hK.out _ _ (fun _=>?_) ?_
     · exact S8.o
     clear hK K
     try simp only[Act.put,dC,dw,dh]
     refine eu (rs:=[9]) (by kernel_rfl) (by simp) ?_;refine bo.cons rfl (fun K hK=>?_) bo.nil;go_simp;refine hK.out _ _ (fun _=>?_) ?_
     · exact S8.o
     clear hK K
     try simp only[Act.put,dC,dw,dh]
     refine iE 10 S8.o ?_ ?_ ?_;rotate_left 1
     · intro V h;rfl
     obtain⟨k0,k1,k2,k3,k4⟩:=qu.o wG S8.o;refine eu (rs:=[11]) (by kernel_rfl) (by simp) ?_;refine bo.cons rfl (fun K hK=>?_) bo.nil;go_simp;refine hK.out _ _ (fun g=>absurd rfl g) ?_;refine qO (by rfl) ?_ _;go_wp2;refine uZ (v:=.tuple #[]) (by simp[results]) rfl ?_;refine HE.o wG _ (es.take n++e::es.drop n) ((aC.bY gP.o).trans S8.o (fun b _ hx=>HLE.o b hx)) HOG.o (fun b hb=>?_) HPU.o
     grind [Hid.o]
open Go.RowKit
theorem Fl (k:aR) (j:Nat) (x e:bC):fZ (dE k e) j x=dE (fZ k j x) e:=by grind [dE,fZ]
def Ku (X:List Value) (hs:List bG):Prop:=∀n:Nat,n<256->X[n]?=some (.string (eV hs n))
theorem I9 {lo mb:Nat} {tt:TypeId} {X:List Value} (k:aR) (S:gB) (w:World) (j:Nat) (p:Int) (h:bH lo mb tt X w S k) (hR:aY k) (hj:j<k.aj.length) :
  Calls Tryz.prog 129 #[.pointer (some (Ad mb 0)),I (j:Int),I p] w fun e w'=>e=.returned (.tuple #[sJ (ng (ak k.aj j).bf p).1,.bool (ng (ak k.aj j).bf p).2])/\Below w.heap.size w w':=by
 have hcc:=hR.c;have hen:=nW hR hj;obtain⟨pb,cP,A⟩:=h.toKr.sp (by omega);obtain⟨ae,ce,RT,hre⟩:=h.toKr.bf hj;have c3:=h.c3;rw[A.v] at c3;have a2:=A.x2 j hj;rw[RT] at a2;have e0:0+j*3+2=j*3+2:=by omega
 exact VC (ak k.aj j).bf p j k.aj.length mb pb 0 cP ae ce w c3 hj (by grind) hre (by omega) (by omega)
theorem N9 {lo mb:Nat} {tt:TypeId} {X:List Value} (k:aR) (S:gB) (w:World) (j:Nat) (p:Int) (held:List Int) (ah:Option Addr) (ch:Nat) (e:bC) (h:bH lo mb tt X w S k) (hR:aY k) (hj:j<k.aj.length) (he:bk (ak k.aj j).bf p=some e) (hk:e.kind=1) :
  Calls Tryz.prog 290 #[.pointer (some (Ad mb 0)),I (j:Int),I p,.slice ah held.length ch] w (fN lo mb tt X w S (I ((dn k j p held).1:Int)) (dn k j p held).2):=by
 have Aj:=ai (I9 k S w j p h hR hj);have e1:ng (ak k.aj j).bf p=(e,true):=by grind [ng]
 rw[e1] at Aj;have hP:dn k j p held=(e.loc.toNat,k):=by
  grind [dn]
 have hb:=(iU hR hj (l6 he)).resolve_right (fun y=>by omega);rw[hP];have dm:Hid (∀V,Below w.heap.size w V->fN lo mb tt X w S (I ((e.loc.toNat:Nat):Int)) k (.returned (I e.loc)) V):=fun V hV=>⟨by grind,S,h.below hV,cI.below hV⟩
 obtain⟨P,UK⟩:=ex (fN lo mb tt X w S (I ((e.loc.toNat:Nat):Int)) k);rw[<- UK] at dm ⊢;obtain⟨pg,kd,lc⟩:=e;unfold sJ at Aj;simp only at Aj dm hk;have kb:(kd==1)=true:=by grind
 clear hP UK e1 he h hR hj hb hk;go_enter Tryz.func290,Tryz.ntmps290;go_wp2_with (go_at_call 129;refine Aj.o.mono ?_;rintro r w1 ⟨rfl,hb1⟩;have cM:=ai hb1;have BX:=bD w1 #[I pg,I kd,I lc] 174;obtain⟨d0,d1,d2⟩:=ET BX;clear hb1 BX)
 exact dm.o _ (cM.o.alloc cM.o.size _)
theorem I7 {lo mb:Nat} {tt:TypeId} {X:List Value} (k:aR) (S:gB) (w:World) (j:Nat) (p:Int) (held:List Int) (ah:Option Addr) (ch:Nat) (e:bC) (h:bH lo mb tt X w S k) (hR:aY k) (hj:j<k.aj.length) (he:bk (ak k.aj j).bf p=some e) (hk:e.kind≠1) (hl:held.length<=2) (hH:m8 w S ah held) :
  Calls Tryz.prog 290 #[.pointer (some (Ad mb 0)),I (j:Int),I p,.slice ah held.length ch] w (fN lo mb tt X w S (I ((dn k j p held).1:Int)) (dn k j p held).2):=by
 have Aj:=ai (I9 k S w j p h hR hj);have e1:ng (ak k.aj j).bf p=(e,true):=by grind [ng]
 rw[e1] at Aj;have hP:dn k j p held=((bJ k held).1,eH (bJ k held).2 j p (bJ k held).1 (bE (bJ k held).2.slots e.loc.toNat).data true):=by
  grind [dn]
 have hb:=(iU hR hj (l6 he)).resolve_left (fun y=>hk y.1);have G:=sN hR hl;have hent:bk (ak (bJ k held).2.aj j).bf p=some e:=by grind [ua.ML]
 have hmv:eH (bJ k held).2 j p (bJ k held).1 (bE (bJ k held).2.slots e.loc.toNat).data true=fZ (dE (iK (bJ k held).2 (bJ k held).1 (bE (bJ k held).2.slots e.loc.toNat).data true) e) j ⟨p,1,(bJ k held).1⟩:=by
  grind [Fl,eH]
 rw[hP,hmv];have hcc:=hR.c;have UI:j<(bJ k held).2.aj.length:=by rw[G.kept.np];exact hj
 have hi1:(bJ k held).1<(bJ k held).2.frames.length:=by rw[G.kept.nf];exact G.lt
 have hs1:e.loc.toNat<(bJ k held).2.slots.length:=by rw[G.kept.ns];omega
 have hrf:=(xW G.right).2 e.loc.toNat hs1;have aah:=nW G.right UI;have aeG:=G.kept.np;have HGT:Hid (∀V,Below w.heap.size w V->Calls Tryz.prog 292 #[.pointer (some (Ad mb 0)),.slice ah held.length ch] V (fN lo mb tt X V S (I ((bJ k held).1:Int)) (bJ k held).2)):=fun V hV=>I8 k S V held ah ch (h.below hV) hR hl (hH.ch (cI.below hV))
 obtain⟨k1,hk1⟩:=ex ((bJ k held).2);obtain⟨i,hi⟩:=ex ((bJ k held).1);rw[<- hk1,<- hi] at HGT hi1;rw[<- hk1] at hs1 hrf UI aah aeG;rw[<- hk1,<- hi];obtain⟨D,hD⟩:=ex ((bE k1.slots e.loc.toNat).data);rw[<- hD];have LO:Hid (∀V S',bH lo mb tt X V S' k1->∃fb cF lb cL,V.cell? (Ad mb 1)=some (.slice (some (Ad fb 0)) k1.frames.length cF)/\V.cell? (Ad mb 2)=some (.slice (some (Ad lb 0)) k1.slots.length cL)/\V.cell? (Ad lb (e.loc.toNat*2))=some (.string D)/\V.cell? (Ad fb (i*4))=some (.string (aD k1.frames i).data)/\V.cell? (Ad fb (i*4+1))=some (I (aD k1.frames i).refs)/\V.cell? (Ad fb (i*4+2))=some (.bool (aD k1.frames i).jw)/\V.cell? (Ad fb (i*4+3))=some (.bool (aD k1.frames i).seen)/\V.frozen? (Ad fb (i*4))=false/\V.frozen? (Ad fb (i*4+1))=false/\V.frozen? (Ad fb (i*4+2))=false/\V.frozen? (Ad fb (i*4+3))=false /\
   (∀U,U=((((V.setCell (Ad fb (i*4)) (.string D)).setCell (Ad fb (i*4+1)) (I 1)).setCell (Ad fb (i*4+2)) (.bool true)).setCell (Ad fb (i*4+3)) (.bool false)).drew->bH lo mb tt X U S' (iK k1 i D true)/\cI S' V S' U)):=fun V S' hV=>by
  obtain⟨fb,cF,A⟩:=hV.toKr.fr (by omega);obtain⟨lb,cL,AL⟩:=hV.toKr.sl (by omega);have c1:=hV.c1;have c2:=hV.c2;rw[A.v] at c1;rw[AL.v] at c2;refine⟨fb,cF,lb,cL,c1,c2,by rw[hD];exact AL.x0 _ hs1,A.x0 i hi1,A.x1 i hi1,A.x2 i hi1,A.x3 i hi1,A.fz _,A.fz _,A.fz _,A.fz _,fun U hU=>?_⟩;have m:=hV.aeC A.v hi1 ⟨D,1,true,false⟩;subst hU;exact⟨m.1.below (aJ _ _).drew,m.2.trans (cI.below (aJ _ _).drew)⟩
 have HCN:Hid (∀V S',bH lo mb tt X V S' (iK k1 i D true)->Calls Tryz.prog 270 #[.pointer (some (Ad mb 0)),.agg #[I e.page,I e.kind,I e.loc],I (-1)] V (mM lo mb tt X V S' (.tuple #[]) (dE (iK k1 i D true) e))):=fun V S' hV=>by
  rw[<- FN];refine DD _ S' V e (-1) hV (fun c=>absurd c hk) (fun _=>?_) (.inr rfl) ⟨fun c=>absurd c hk,fun _=>?_⟩
  · show 0<=e.loc/\e.loc<(k1.slots.length:Int);omega
  · show -1000000<=(bE k1.slots e.loc.toNat).refs/\(bE k1.slots e.loc.toNat).refs<=1000000;omega
 have HET:Hid (∀V S',bH lo mb tt X V S' (dE (iK k1 i D true) e)->Calls Tryz.prog 293 #[.pointer (some (Ad mb 0)),I (j:Int),.agg #[I p,I 1,I (i:Int)]] V (fN lo mb tt X V S' (.tuple #[]) (fZ (dE (iK k1 i D true) e) j ⟨p,1,i⟩))):=fun V S' hV=>by
  have hsp:(dE (iK k1 i D true) e).aj=k1.aj:=ED _ _;exact DC _ S' V j ⟨p,1,i⟩ hV (by grind) (by grind) (by grind)
 have dm:Hid (∀V S',bH lo mb tt X V S' (fZ (dE (iK k1 i D true) e) j ⟨p,1,i⟩)->cI S w S' V->fN lo mb tt X w S (I (i:Int)) (fZ (dE (iK k1 i D true) e) j ⟨p,1,i⟩) (.returned (I (i:Int))) V):=fun V S' h1 h2=>⟨rfl,S',h1,h2⟩
 obtain⟨K3,hK3⟩:=ex (fZ (dE (iK k1 i D true) e) j ⟨p,1,i⟩);rw[<- hK3] at HET dm ⊢;obtain⟨K2,hK2⟩:=ex (dE (iK k1 i D true) e);rw[<- hK2] at HCN HET;obtain⟨K1,hK1⟩:=ex (iK k1 i D true);rw[<- hK1] at LO HCN;obtain⟨P,UK⟩:=ex (fN lo mb tt X w S (I (i:Int)) K3);rw[<- UK] at dm ⊢;have uP:Hid (∀V:World,w.heap.size<=V.heap.size->S.lab V.heap.size=.no):=fun V hV=>h.toKr.new hV
 obtain⟨FR,TL⟩:=ex (aD k1.frames i);rw[<- TL] at LO;obtain⟨nf,Bt⟩:=ex k1.frames.length;obtain⟨nl,hnl⟩:=ex k1.slots.length;rw[<- Bt,<- hnl] at LO;obtain⟨m,hm⟩:∃m:Nat,e.loc=(m:Int):=⟨e.loc.toNat,by omega⟩;rw[hm,lD] at LO;have hmi:(m:Int)<(nl:Int):=by omega
 have hii:(i:Int)<(nf:Int):=by omega
 obtain⟨pg,kd,lc⟩:=e;unfold sJ at Aj;simp only at Aj hk HCN hm;subst hm;have kb:(kd==1)=false:=by simpa using hk
 clear hP UK e1 he h hR hj hb hk G hent hmv hcc UI hi1 hs1 hrf aah aeG hk1 hi hD hK3 hK2 hK1 hH hl TL Bt hnl;go_enter Tryz.func290,Tryz.ntmps290;go_upto_region 6 with(first
  | (go_at_call 129;refine Aj.o.mono ?_;rintro r w1 ⟨rfl,hb1⟩;have cM:=ai hb1;have jQ:=ai (cM.o.alloc cM.o.size (.cells #[I pg,I kd,I (m:Int)] 174));have BX:=ai (bD w1 #[I pg,I kd,I (m:Int)] 174);obtain⟨d0,d1,d2⟩:=ET BX.o;have HN1:=ai (uP.o w1 hb1.size);clear hb1)
  | (go_at_call 292;refine(HGT.o _ jQ.o).mono ?_;rintro r w2 ⟨rfl,S2,hk2,hc2⟩;have pM:=ai hk2;have yA:=ai ((cI.below jQ.o).trans hc2);have BX2:=ai (hc2.keep BX.o HN1.o);have Mr:=ai (hc2.no _ (aI BX.o) HN1.o);clear hk2 hc2 d0 d1 d2))
 obtain⟨fb,cF,lb,cL,g1,g2,g3,g4,g5,g6,g7,g8,g9,g10,g11,hfin⟩:=LO.o w2 S2 pM.o;obtain⟨d0,d1,d2⟩:=ET BX2.o;obtain⟨U,hU⟩:=ex (((((w2.setCell (Ad fb (i*4)) (.string D)).setCell (Ad fb (i*4+1)) (I 1)).setCell (Ad fb (i*4+2)) (.bool true)).setCell (Ad fb (i*4+3)) (.bool false)).drew);obtain⟨hk3,hc3⟩:=hfin U hU;have HU:=ai hU;have Bg:=ai hk3;have Ww:=ai (yA.o.trans hc3);have BX3:=ai (hc3.keep BX2.o Mr.o);clear hfin hU hk3 hc3;go_region;rw[<- HU.o];clear g1 g2 g3 g4 g5 g6 g7 g8 g9 g10 g11 d0 d1 d2 HU;obtain⟨d0,d1,d2⟩:=ET BX3.o;go_wp2_with (first
  | (go_at_call 270;refine(HCN.o _ _ Bg.o).mono ?_;rintro r w4 ⟨rfl,hk4,hc4⟩;have HK4:=ai hk4;have HC4:=ai (Ww.o.trans hc4);clear hk4 hc4)
  | (go_at_call 293;refine(HET.o _ _ HK4.o).mono ?_;rintro r w5 ⟨rfl,S5,hk5,hc5⟩;have HK5:=ai hk5;have HC5:=ai (HC4.o.trans hc5);clear hk5 hc5))
 exact dm.o _ _ HK5.o HC5.o
end Go.Proofs.YtlgoihmkgaaemaaGreat
