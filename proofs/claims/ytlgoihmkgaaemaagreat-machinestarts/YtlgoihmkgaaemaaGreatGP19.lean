import Derived.Test.YtlgoihmkgaaemaaGreatGP18
set_option maxHeartbeats 20000000
set_option linter.unusedVariables false
set_option maxRecDepth 100000
set_option linter.unusedSimpArgs false
namespace Go.Proofs.YtlgoihmkgaaemaaGreat
open Go.RowKit Tryz
structure nW (w:World) (S:gv) (ah:Option Addr) (held:List Int):Prop where
 has:dE iL 1 0 w ah held
 no:∀b off,ah=some (Ad b off)->S.lab b=.no
 lt:∀b off,ah=some (Ad b off)->b<w.heap.size
theorem nW.ch {w w':World} {S S':gv} {ah:Option Addr} {held:List Int} (h:nW w S ah held) (hc:cU S w S' w'):nW w' S' ah held :=
 ⟨Vr.kp h.has hc.kp (λb off e z=>z (h.no b off e)),λb off e=>hc.no b (h.lt b off e) (h.no b off e),λb off e=>gm (h.lt b off e) hc.kp.size⟩
theorem adf {held:List Int} {k:aT} {i:Nat} (h:(held.contains (i:Int) || (aK k.frames i).seen)=false) (hi:i<k.frames.length):mo held k i=k:=by
 rw[Hj] at h;unfold mo;rw[aH Γ];have:k.frames.set i (Dy (aK k.frames i))=k.frames:=by
  refine qi eG _ _ gX (λm hm=>?_);rw[gX] at hm;by_cases c:i=m
  . subst c;rw[fu _ _ _ _ hm];have e:=h.2;unfold Dy;show(⟨(aK k.frames i).data,(aK k.frames i).refs,(aK k.frames i).ja,false⟩:ko)=aK k.frames i;rw[<- e]
  grind
 rw[this]
theorem Xp {held:List Int} {k:aT} (hh:0<=k.hand/\k.hand<k.frames.length):({ mo held k k.hand.toNat with hand:=jr (mo held k k.hand.toNat) }:aT)=jJ held k:=by
 grind [mo,jJ,jr]
theorem JI {lo mb:Nat} {tt:TypeId} {X:List Value} (k:aT) (S:gv) (w:World) (held:List Int) (ah:Option Addr) (ch:Nat) (h:bO lo mb tt X w S k) (hR:bg k) (hl:held.length<=2) (hH:nW w S ah held) :
  Calls prog 292 #[.pointer (some (Ad mb 0)),.slice ah held.length ch] w (fP lo mb tt X w S (I ((bT k held).1:Int)) (bT k held).2):=by
 have a1:=hR.c;obtain⟨fb,cF,A⟩:=h.toKr.fr ω;obtain⟨aF,ag,eF,_,O⟩:=pq gu (λ_=>rfl) eG h.frames;have ab:aF=some (Ad fb 0):=by
  have:=eF;rw[A.v] at this
  grind
 subst ab;have c1:=h.c1;rw[A.v] at c1;have J:=aau k.frames (some (Ad fb 0)) cF w O ω;by_cases hex:∃i,i<k.frames.length/\nk (aK k.frames i)=true/\∀j,j<i->nk (aK k.frames j)=false
 . obtain⟨i,hi,hy,Z⟩:=hex;have hf:=adj hR hi hy Z;have hg:bT k held=(i,k):=by grind [bT]
   have VK:Hid (Calls prog 295 #[.slice (some (Ad fb 0)) k.frames.length cF,.func (.func 216) #[] #[]] w λe w'=>e=.returned (I (i:Int))/\Below w.heap.size w w'):=J.mono λe w' ⟨hb,hh⟩=>by
    grind
   have eW:Hid (∀V,Below w.heap.size w V->fP lo mb tt X w S (I ((bT k held).1:Int)) (bT k held).2 (.returned (I (i:Int))) V):=λV hb=>by
    rw[hg];exact⟨rfl,S,h.below hb,cU.below hb⟩
   generalize fP lo mb tt X w S (I ((bT k held).1:Int)) (bT k held).2=P at eW ⊢;have aj:(0:Int)<=(i:Int):=by omega
   clear J hg hf Z hy h hR a1 A eF O hH;go_enter func292,ntmps292;go_wp2_with (go_at_call 295;refine VK.o.mono ?_;rintro e w1 ⟨rfl,y⟩;have dz:=ai y;clear y);exact eW.o _ dz.o
 have K:∀j,j<k.frames.length->nk (aK k.frames j)=false:=λj=>by
  induction j using Nat.strongRecOn with
  | _ j ih =>
   grind
 obtain⟨hf,L⟩:=adh hR K;obtain⟨T,hT,N,G⟩:=I4 held hl hR L;have Dk:=I3 held T 69 k ω N G;have hg:bT k held=((bU held T k).hand.toNat,{ fe (bU held T k) (bU held T k).hand.toNat with hand:=jr (bU held T k) }):=by
  grind [bT]
 have VK:Hid (Calls prog 295 #[.slice (some (Ad fb 0)) k.frames.length cF,.func (.func 216) #[] #[]] w λe w'=>e=.returned (I (-1))/\Below w.heap.size w w'):=J.mono λe w' ⟨hb,hh⟩=>by
  grind
 have TK:=Hw held hR L;have Ju:∀n,(bU held n k).frames.length=k.frames.length:=λn=>(TK n).kept.nf
 have U:∀n,0<=(bU held n k).hand/\(bU held n k).hand<(bU held n k).frames.length:=λn=>(TK n).right.hand
 have a2:Hid (∀V S' n,bO lo mb tt X V S' (bU held n k)->cU S w S' V->Calls prog 296 #[.pointer (some (Ad mb 0)),I (bU held n k).hand,.slice ah held.length ch] V (mU lo mb tt X V S' (.bool (oC held (bU held n k))) (mo held (bU held n k) (bU held n k).hand.toNat))):=λV S' n hV hc=>by
  have e:(((bU held n k).hand.toNat:Nat):Int)=(bU held n k).hand:=by grind
  have:=TN (bU held n k) S' V (bU held n k).hand.toNat held ah ch hV Γ (hH.ch hc).has ω;rw[e] at this;exact this
 have a3:Hid (∀V S' n,bO lo mb tt X V S' (mo held (bU held n k) (bU held n k).hand.toNat)->Calls prog 251 #[.pointer (some (Ad mb 0))] V (mU lo mb tt X V S' (.tuple #[]) (bU held (n+1) k))):=λV S' n hV=>by
  have af:(mo held (bU held n k) (bU held n k).hand.toNat).frames.length=(bU held n k).frames.length/\(mo held (bU held n k) (bU held n k).hand.toNat).hand=(bU held n k).hand:=by
   unfold mo
   grind
  have:=Fi (mo held (bU held n k) (bU held n k).hand.toNat) S' V hV Γ Γ;rw[Xp (U n)] at this;exact this
 have W:Hid (∀V S',bO lo mb tt X V S' (mo held (bU held T k) (bU held T k).hand.toNat)->bO lo mb tt X V S' (bU held T k)):=λV S' hV=>by
  have e:(((bU held T k).hand.toNat:Nat):Int)=(bU held T k).hand:=by grind
  rw[adf (by rw[e];exact G) Γ] at hV;exact hV
 have a6:Hid (∀V S',bO lo mb tt X V S' (bU held T k)->Calls prog 297 #[.pointer (some (Ad mb 0)),I (bU held T k).hand] V (fP lo mb tt X V S' (.tuple #[]) (fe (bU held T k) (bU held T k).hand.toNat))):=λV S' hV=>by
  have e:(((bU held T k).hand.toNat:Nat):Int)=(bU held T k).hand:=by grind
  have:=Pn (bU held T k) S' V (bU held T k).hand.toNat hV (TK T).right Γ ((TK T).full _ Γ);rw[e] at this;exact this
 have a8:=Fm (bU held T k) (bU held T k).hand.toNat
 have YG:Hid (∀V S',bO lo mb tt X V S' (fe (bU held T k) (bU held T k).hand.toNat)->Calls prog 251 #[.pointer (some (Ad mb 0))] V (mU lo mb tt X V S' (.tuple #[]) { fe (bU held T k) (bU held T k).hand.toNat with hand:=jr (bU held T k) })):=λV S' hV=>by
  have ae:(fe (bU held T k) (bU held T k).hand.toNat).frames.length=(bU held T k).frames.length:=by grind
  have:=Fi _ S' V hV Γ Γ;have e:jr (fe (bU held T k) (bU held T k).hand.toNat)=jr (bU held T k):=by
   unfold jr
   grind
  rw[e] at this;exact this
 have a4:Hid (∀V S' n,bO lo mb tt X V S' (bU held n k)->V.cell? (Ad mb 4)=some (I (bU held n k).hand)):=λV S' n hV=>hV.c4
 have aa:=ai (λn=>U n);have a5:=ai N;have a7:=ai G;have eW:Hid (∀V S',bO lo mb tt X V S' { fe (bU held T k) (bU held T k).hand.toNat with hand:=jr (bU held T k) }->cU S w S' V->fP lo mb tt X w S (I ((bT k held).1:Int)) (bT k held).2 (.returned (I (bU held T k).hand)) V):=λV S' h1 h2=>by
  rw[hg];refine⟨?_,S',h1,h2⟩
  grind
 generalize fP lo mb tt X w S (I ((bT k held).1:Int)) (bT k held).2=P at eW ⊢;have xB:=ai h;clear J hg hf K hex h hR a1 A eF O hH TK Ju U N G Dk L a8 hl;go_enter func292,ntmps292;go_wp2_with (go_at_call 295;refine VK.o.mono ?_;rintro e w1 ⟨rfl,y⟩;have dz:=ai y;clear y);go_loopg [23] T (λg _ wr=>∃(n:Nat) (S':gv),n<=T/\g=T-n/\bO lo mb tt X wr S' (bU held n k)/\cU S w S' wr)
 case atStart=>exact⟨0,S,ω,ω,xB.o.below dz.o,cU.below dz.o⟩
 case round =>
  obtain⟨n,S',hn,a0,mL,M⟩:=hrel;have d4:=a4.o wr S' n mL;have b:=ai (a2.o wr S' n mL M);have Q:=ai (λV=>a3.o V S' n);have OJ:=ai M;have a9:=ai a0;clear mL M a0 xB;by_cases hlt:n<T
  . have hp:=a5.o n hlt;rw[hp] at b;generalize (bU held n k).hand=hd at d4 b Q;clear hp;go_wp2_with (first
     | (go_at_call 296;refine b.o.mono ?_;rintro e w2 ⟨rfl,r,F⟩;have Aa:=ai r;have vd:=ai (OJ.o.trans F);clear r F)
     | (go_at_call 251;refine(Q.o _ Aa.o).mono ?_;rintro e w3 ⟨rfl,q,B⟩;have H8:=ai q;have DY:=ai (vd.o.trans B);clear q B))
    go_roundg (T-(n+1))
    case measure=>have:=a9.o;omega
    case rel=>exact⟨n+1,S',ω,ω,H8.o,DY.o⟩
  obtain rfl:n=T:=by omega
  have hp:=a7.o;rw[hp] at b;generalize bU held n k=IT at d4 b W a6 YG eW;have ac:Hid (∀V S',bO lo mb tt X V S' IT->V.cell? (Ad mb 4)=some (I IT.hand)):=λV S' hV=>hV.c4
  clear hp a3 Q a2 a4 a5 a7 aa;go_wp2_with (first
   | (go_at_call 296;refine b.o.mono ?_;rintro e w2 ⟨rfl,r,F⟩;have R:=W.o _ _ r;have Aa:=ai R;have vd:=ai (OJ.o.trans F);have d5:=ac.o w2 S' R;clear r F R)
   | (go_at_call 297;refine(a6.o _ _ Aa.o).mono ?_;rintro e w3 ⟨rfl,S3,q,B⟩;have H8:=ai q;have DY:=ai (vd.o.trans B);clear q B)
   | (go_at_call 251;refine(YG.o _ _ H8.o).mono ?_;rintro e w4 ⟨rfl,Y,Zv⟩;have ad:=ai Y;have ZH:=ai (DY.o.trans Zv);clear Y Zv))
  exact eW.o _ _ ad.o ZH.o
open Go.RowKit Tryz
section
variable {P:Program} {ops:Array Oper} {Q:Exit->Act->World->Prop} {md:Region.Mode} {S:World->Prop} {z:Nat}
def rT (P:Program) (md:Region.Mode) (ops:Array Oper) (Q:Exit->Act->World->Prop) (S:World->Prop) (z:Nat):Nat->Array Bool->Act->World->Prop
 | 0,l,a,w=>Region.ready md ops l=[]/\Q .normal a w
 | n+1,l,a,w=>(Region.ready md ops l=[]->Q .normal a w)/\∀i∈Region.ready md ops l,wpOp P ops Q i (λa' w'=>(i≠z->S w')/\rT P md ops Q S z n (l.setIfInBounds i true) a' w') a w
theorem VO:∀(n:Nat) (l:Array Bool) (a:Act) (w:World),rT P md ops Q S z n l a w->wpAny P md ops Q n l a w
 | 0,_,_,_,h=>h
 | n+1,_,_,_,h=>⟨h.1,λi hi=>wpOp_mono (λa' w' g=>VO n _ a' w' g.2) (h.2 i hi)⟩
theorem abG {l:Array Bool} {i:Nat} (h:l.getD i true=false):l.getD i false=false:=by
 grind
theorem ai7 {i:Nat} {oi:Oper} {v:Value} (hi:ops[i]?=some oi) (apD:∀(j:Nat) (o:Oper) cs b,ops[j]?=some o->o.op≠.select cs b)
  (hQ:∀c a w,Q (.panic c) (a.put oi.dst v) w->Q (.panic c) a w) (hz:∀oz,ops[z]?=some oz->∃e∈oz.after,Region.binds md e=true/\e.on=i) :
  ∀(n:Nat) (l:Array Bool) (a:Act) (w:World),(∀j oj,ops[j]?=some oj->j≠i->l.getD j true=false->(∀e∈oj.after,Region.binds md e=true->e.on≠i)->oi.apart ops oj=true) ->
   i∈Region.ready md ops l->YieldsIf P ops S oi v a->S w->rT P md ops Q S z n (l.setIfInBounds i true) (a.put oi.dst v) w->rT P md ops Q S z (n+1) l a w:=by
 intro n;induction n with
 | zero =>
  intro l a w _ hr hy hS H;refine⟨λg=>absurd hr Γ,λj hj=>?_⟩;by_cases c:j=i
  . subst c;exact hy.wpOp hi hS ⟨λ_=>hS,H⟩
  have g:=ready_mono hj c;rw[H.1] at g;exact absurd g zF
 | succ n ih =>
  intro l a w hf hr hy hS H;refine⟨λg=>absurd hr Γ,λj hj=>?_⟩;by_cases c:j=i
  . subst c;exact hy.wpOp hi hS ⟨λ_=>hS,H⟩
  obtain⟨hu,oj,h,y⟩:=mem_ready.1 hj;have A:=abG (mem_ready.1 hr).1;have q:∀e∈oj.after,Region.binds md e=true->e.on≠i:=λe he hb g=>by
   grind
  have r:j≠z:=λg=>by
   grind
  have h2:=wpOp_putIf h (hf j oj h c hu q) (λcs b=>apD i oi cs b hi) (λcs b=>apD j oj cs b h) hQ hy (H.2 j (ready_mono hj c));refine wpOp_mono (λa' w' g=>⟨g.2.1,ih (l.setIfInBounds j true) a' w' (λk ok hk Il hun amC=>hf k ok hk Il ?_ amC) (ready_mono hr (Ne.symm c)) g.1 (g.2.1 r) ?_⟩) h2
  . by_cases d:j=k
    . grind
    rw[getD_set_ne true d] at hun;exact hun
  rw[Array.setIfInBounds_comm _ _ c];exact g.2.2
def DI (md:Region.Mode) (ops:Array Oper) (z i:Nat):Bool:=match ops[z]? with
 | none=>false
 | some o=>o.after.any (λe=>Region.binds md e&&e.on==i)
theorem UH {i:Nat} (h:DI md ops z i=true):∀oz,ops[z]?=some oz->∃e∈oz.after,Region.binds md e=true/\e.on=i:=λoz ho=>by
 grind [DI]
theorem YT {i:Nat} {oi:Oper} {v:Value} {n:Nat} {l:Array Bool} {a:Act} {w:World} (hi:ops[i]?=some oi)
  (hs:Region.noSelect ops=true) (hf:Region.free md ops l i=true) (hr:(Region.ready md ops l).contains i=true) (hw:DI md ops z i=true)
  (hQ:∀c a w,Q (.panic c) (a.put oi.dst v) w->Q (.panic c) a w) (hy:YieldsIf P ops S oi v a) (hS:S w)
  (h:rT P md ops Q S z n (l.setIfInBounds i true) (a.put oi.dst v) w):rT P md ops Q S z (n+1) l a w :=
 ai7 hi (Region.noSelect_spec hs) hQ (UH hw) n l a w (Region.free_spec hi hf) Γ hy hS h
theorem A7 (i:Nat) {oi:Oper} {n:Nat} {l:Array Bool} {a:Act} {w:World} (hS:S w) (v:Value) (hy:∀V,S V->(execOp a.eval oi).run P V=.ok (.value v) V)
  (h:rT P md ops Q S z n (l.setIfInBounds i true) (a.put oi.dst v) w) (hi:ops[i]?=some oi:=by rfl) (hs:Region.noSelect ops=true:=by kernel_rfl) (hf:Region.free md ops l i=true:=by kernel_rfl) (hr:(Region.ready md ops l).contains i=true:=by kernel_rfl) (hw:DI md ops z i=true:=by kernel_rfl)
  (hwt:Region.wanted oi (yielded ops a.tmps)=true:=by rfl) (hQ:∀c a w,Q (.panic c) (a.put oi.dst v) w->Q (.panic c) a w:=by exact λ_ _ _ h=>h):rT P md ops Q S z (n+1) l a w :=
 YT hi hs hf hr hw hQ (Or.inl ⟨hwt,hy⟩) hS h
theorem lO (i:Nat) {C:World->Prop} {oi:Oper} {v:Value} {n:Nat} {l:Array Bool} {a:Act} {w:World} (hS:S w) (h:rT P md ops Q S z n (l.setIfInBounds i true) (a.put oi.dst v) w)
  (hi:ops[i]?=some oi:=by rfl) (hc:∀V,S V->C V:=by exact λ_ h=>h) (hy:∀V,C V->(execOp a.eval oi).run P V=.ok (.value v) V:=by(intro V h;(repeat obtain⟨_,h⟩:=h);go_simp;try with_reducible rfl)) (hs:Region.noSelect ops=true:=by kernel_rfl) (hf:Region.free md ops l i=true:=by kernel_rfl) (hr:(Region.ready md ops l).contains i=true:=by kernel_rfl) (hw:DI md ops z i=true:=by kernel_rfl)
  (hwt:Region.wanted oi (yielded ops a.tmps)=true:=by rfl) (hQ:∀c a w,Q (.panic c) (a.put oi.dst v) w->Q (.panic c) a w:=by exact λ_ _ _ h=>h):rT P md ops Q S z (n+1) l a w :=
 YT hi hs hf hr hw hQ (Or.inl ⟨hwt,λV h=>hy V (hc V h)⟩) hS h
theorem wZ (i:Nat) {oi:Oper} {n:Nat} {l:Array Bool} {a:Act} {w:World} (hS:S w) (v:Value) (hy:∀V,S V->(execOp a.eval oi).run P V=.ok (.value v) V)
  (h:wpAnyH P md ops Q S n (l.setIfInBounds i true) (a.put oi.dst v) w) (hi:ops[i]?=some oi:=by rfl) (hs:Region.noSelect ops=true:=by kernel_rfl) (hf:Region.free md ops l i=true:=by kernel_rfl) (hr:(Region.ready md ops l).contains i=true:=by kernel_rfl)
  (hwt:Region.wanted oi (yielded ops a.tmps)=true:=by rfl) (hQ:∀c a w,Q (.panic c) (a.put oi.dst v) w->Q (.panic c) a w:=by exact λ_ _ _ h=>h):wpAnyH P md ops Q S (n+1) l a w :=
 wpAnyH_take hi hs hf hr hQ (Or.inl ⟨hwt,hy⟩) hS h
def b7 (P:Program) (md:Region.Mode) (ops:Array Oper) (Q:Exit->Act->World->Prop) (S:World->Prop) (z n:Nat) (l:Array Bool) (a:Act) (w:World) (rs:List Nat):Prop:=∀i∈rs,wpOp P ops Q i (λa' w'=>(i≠z->S w')/\rT P md ops Q S z n (l.setIfInBounds i true) a' w') a w
theorem b7.nil {n:Nat} {l:Array Bool} {a:Act} {w:World}:b7 P md ops Q S z n l a w []:=λ_ h=>absurd h zF
theorem b7.cons {n:Nat} {l:Array Bool} {a:Act} {w:World} {i:Nat} {o:Oper} {rs:List Nat} (ho:ops[i]?=some o)
  (h:∀K':Act->World->Prop,Shut (∀a w,(i≠z->S w)->rT P md ops Q S z n (l.setIfInBounds i true) a w->K' a w)->if Region.wanted o (yielded ops a.tmps)=true then Oper.wp P o a w K' Q else K' (a.put o.dst undef) w)
  (hs:b7 P md ops Q S z n l a w rs):b7 P md ops Q S z n l a w (i::rs):=λj hj=>by
 rcases rC.1 hj with g | g
 . subst g;exact wpOp_step ho (λK' hK=>h K' (λa w h1 h2=>hK a w ⟨h1,h2⟩))
 exact hs j g
theorem gS {rs:List Nat} {n:Nat} {l:Array Bool} {a:Act} {w:World} (hr:Region.ready md ops l=rs) (hne:rs≠[]) (h:b7 P md ops Q S z n l a w rs):rT P md ops Q S z (n+1) l a w:=⟨λg=>absurd (hr ▸ g) hne,hr ▸ h⟩
theorem Ab {l:Array Bool} {a:Act} {w:World} (hr:Region.ready md ops l=[]) (h:Q .normal a w):∀n,rT P md ops Q S z n l a w
 | 0=>⟨hr,h⟩
 | _+1=>⟨λ_=>h,by rw[hr];exact λ_ g=>absurd g zF⟩
theorem uj {id:Nat} {a:Act} {w:World} (hm:P.follows .mixedOrders=true) (h:rT P .any ops Q S z ops.size (Array.replicate ops.size false) a w.drew):(Code.region id ops true).wp P Q a w:=wp_region_any hm (VO _ _ _ _ h)
end
open Go.RowKit Tryz
theorem Oa:∀(es:List bK) (e:bK),(∀j,j<es.length->(aW es j).page<e.page)->mX es e=es++[e]
 | [],e,_=>rfl
 | a::r,e,h=>by
  unfold mX;rw[aQ (show a.page<e.page from h 0 (Qc _)),Oa r e (λj hj=>h (j+1) (Qb hj))];rfl
theorem Vo:∀(es:List bK) (e:bK) (n:Nat),n<es.length->(∀j,j<n->(aW es j).page<e.page)->¬(aW es n).page<e.page->mX es e=if (aW es n).page=e.page then es.set n e else es.take n++e::es.drop n
 | [],e,n,hn,_,_=>absurd hn (gY _)
 | a::r,e,0,hn,h,Wv=>by
  unfold mX;have Wv:¬a.page<e.page:=Wv;rw[aH Wv];rfl
 | a::r,e,n+1,hn,h,Wv=>by
  unfold mX;rw[aQ (show a.page<e.page from h 0 (Qc _)),Vo r e n (BG hn) (λj hj=>h (j+1) (Qb hj)) Wv]
  grind [aW]
theorem TQ (e o:bK) (x:Nat) (w:World) (hx:w.cell? (Ad x 0)=some (I e.page)) :
  Calls prog 298 #[.agg #[I o.page,I o.kind,I o.loc],.pointer (some (Ad x 0))] w λr w'=>r=.returned (.bool (decide (e.page<=o.page)))/\Below w.heap.size w w':=by
 obtain⟨pg,kd,lc⟩:=o;obtain⟨b,q,y⟩:=e;simp only at hx ⊢;have h:x<w.heap.size:=nu w _ hx;have xA:(w.alloc (.cells #[I pg,I kd,I lc] 174)).cell? (Ad x 0)=some (I b):=(Qd ((aN w.heap.size w).alloc (aJ _) _) (p:=(Ad x 0)) h).trans hx;by_cases c:b<=pg
 . rw[dW c];go_enter func298,ntmps298;go_wp2
   try go_region
   try go_wp2
   go_ret;simp[aN,pG]
 rw[eH c];go_enter func298,ntmps298;go_wp2
 try go_region
 try go_wp2
 go_ret;simp[aN,pG]
theorem adg (V:World) (e:bK):(V.alloc (.cells #[I e.page,I e.kind,I e.loc] 174)).ownsRow V.heap.size 174 3 (.slice (some (Ad V.heap.size 0)) 1 1) 1 ([e].flatMap bC) :=
 ⟨rfl,.inr ⟨V.heap.size,1,_,rfl,aJ _,bG V _ _,aJ _,by grind [maxLen],rfl,rfl⟩⟩
theorem aqz.asR {lo mb:Nat} {tt:TypeId} {X:List Value} {w:World} {S:gv} {k:aT} (h:bO lo mb tt X w S k) {j:Nat} (hj:j<k.aj.length) {g n cap:Nat} (hv:(fQ S.L j).vp=.slice (some (Ad g 0)) n cap) {i:Nat} (hi:i<(ak k.aj j).bl.length) (e:bK) :
  bO lo mb tt X (((w.setCell (Ad g (i*3)) (I e.page)).setCell (Ad g (i*3+1)) (I e.kind)).setCell (Ad g (i*3+2)) (I e.loc)) S { k with aj:=k.aj.set j (eT (ak k.aj j) ((ak k.aj j).bl.set i e)) } /\
  cU S w S (((w.setCell (Ad g (i*3)) (I e.page)).setCell (Ad g (i*3+1)) (I e.kind)).setCell (Ad g (i*3+2)) (I e.loc)):=by
 have b:∀(ss:List cZ) (es:List bK),j<ss.length->ak (ss.set j (eT (ak k.aj j) es)) j=eT (ak k.aj j) es:=λss es hl=>by grind [kQ]
 have m1:=h.ahe hj hv hi (c:=0) ω (e:=⟨e.page,(aW (ak k.aj j).bl i).kind,(aW (ak k.aj j).bl i).loc⟩) (u:=I e.page) rfl;have m2:=m1.1.ahe (j:=j) Γ hv (i:=i) (by
  show i<(ak (List.set _ _ _) j).bl.length;rw[b _ _ hj];show i<(List.set _ _ _).length
  grind) (c:=1) ω (e:=⟨e.page,e.kind,(aW (ak k.aj j).bl i).loc⟩) (u:=I e.kind) (by
  show _=(bC (aW (ak (List.set _ _ _) j).bl i)).set 1 _;rw[b _ _ hj];show _=(bC ((List.set _ _ _).getD i gJ)).set 1 _;rw[fu _ _ _ _ hi];rfl)
 simp only[rD,b _ _ hj] at m2;have q:bO lo mb tt X ((w.setCell (Ad g (i*3)) (I e.page)).setCell (Ad g (i*3+1)) (I e.kind)) S { k with aj:=k.aj.set j (eT (ak k.aj j) ((ak k.aj j).bl.set i ⟨e.page,e.kind,(aW (ak k.aj j).bl i).loc⟩)) }:=by
  grind [eT,List.set_set]
 have m3:=q.ahe (j:=j) Γ hv (i:=i) (by
  show i<(ak (List.set _ _ _) j).bl.length;rw[b _ _ hj];show i<(List.set _ _ _).length
  grind) (c:=2) ω (e:=e) (u:=I e.loc) (by
  show _=(bC (aW (ak (List.set _ _ _) j).bl i)).set 2 _;rw[b _ _ hj];show _=(bC ((List.set _ _ _).getD i gJ)).set 2 _;rw[fu _ _ _ _ hi];rfl)
 grind [List.set_set,eT,cU.trans]
theorem Lm {D:Nat->Prop} {N:Nat} {w0 w1 V:World} {b o:Nat} (hV:aI D w1 V) (hb:Below N w0 w1) (hl:b<N) (hl0:b<w0.heap.size) (hn:¬D b) (h:w0.frozen? (Ad b o)=false):V.frozen? (Ad b o)=false:=by
 have e1:=hb.block b hl
 grind [World.frozen?,aI.block]
theorem Xw (w1:World) (o:Obj):aI (λ_=>False) w1 ((w1.alloc o).drew):=(aI.alloc _ _ o).trans (aI.drew _ _) (λ_ _ g=>g)
theorem agd (w1:World) (e:bK):∀i u,(bC e)[i]?=some u->((w1.alloc (.cells #[I e.page,I e.kind,I e.loc] 174)).drew).cell? (((Ad w1.heap.size 0):Addr).add i)=some u:=λi u hu=>EW (C:=#[I e.page,I e.kind,I e.loc]) (t:=174) (fr:=(0,0)) (bG w1 _ _) i u hu
open Go.RowKit Tryz
theorem Es {lo mb:Nat} {tt:TypeId} {X:List Value} (k:aT) (S:gv) (w:World) (j:Nat) (e:bK) (h:bO lo mb tt X w S k) (hj:j<k.aj.length) (hen:(ak k.aj j).bl.length<=1000) (FC:k.aj.length<=1000) :
  Calls prog 293 #[.pointer (some (Ad mb 0)),I (j:Int),.agg #[I e.page,I e.kind,I e.loc]] w (fP lo mb tt X w S (.tuple #[]) (gA k j e)):=by
 have hlo:lo<=w.heap.size:=gj h.lo_le (uN h.lt);obtain⟨WA,lQ⟩:=ex (w.alloc (.cells #[I e.page,I e.kind,I e.loc] 174));have jo:Hid (Below w.heap.size w WA):=by rw[lQ];exact(aN w.heap.size w).alloc (aJ _) _
 have EX:Hid (WA.heap[w.heap.size]?=some (.cells #[I e.page,I e.kind,I e.loc] 174 (0,0))):=by rw[lQ];exact bG w _ _
 have n0:S.lab w.heap.size=.no:=h.toKr.new (aJ _);have F:=ai (h.below jo.o);obtain⟨pb,cP,A⟩:=F.o.toKr.sp ω;have y:=(F.o.each j hj).aY;obtain⟨ae,ce,Tn,a5,J⟩:=bh y;obtain⟨es,Q⟩:=ex ((ak k.aj j).bl);rw[<- Q] at y Tn a5 J hen;rw[Tn] at y;have L:=aaU y;have T:∀b,bN (.slice ae es.length ce) b->S.lab b=.bl j:=λb hb=>h.lE j hj b Γ
 have aq:=A.lab;have c3:=F.o.c3;rw[A.v] at c3;have a2:=A.x2 j hj;rw[Tn] at a2;have ac:(j:Int)<(k.aj.length:Int):=by omega
 have M:=JM 298 (.inr (.inl rfl)) (λo=>decide (e.page<=o.page)) es ae ce w.heap.size WA L ω (λV o hV=>TQ e o w.heap.size V (aA (aO EX.o hV (aM EX.o)) 0 rfl));have HE:Hid (∀V v' fs,aI (λb=>S.lab b=.bl j) WA V->V.ownsRow lo 174 3 v' fs.length (fs.flatMap bC)->(∀b,bN v' b->S.lab b=.bl j\/WA.heap.size<=b)->mX es e=fs->fP lo mb tt X w S (.tuple #[]) (gA k j e) (.returned (.tuple #[])) (V.setCell (Ad pb (j*3+2)) v')):=λV v' fs h1 h2 h3 h4=>by
  have sw:=F.o.alG hj A.v h1 h2 (λb hb=>by
   rcases h3 b hb with g | g
   . grind
   exact .inr (F.o.toKr.new g))
  have hK:({ k with aj:=k.aj.set j (eT (ak k.aj j) fs) }:aT)=gA k j e:=by
   grind [gA]
  refine⟨rfl,_,hK ▸ sw.1,(cU.below jo.o).trans (sw.2 (λb hb hx=>?_))⟩
  grind
 have ad:Hid (∀V n g,Below WA.heap.size WA V->n<es.length->ae=some (Ad g 0)->mX es e=es.set n e->fP lo mb tt X w S (.tuple #[]) (gA k j e) (.returned (.tuple #[])) (((V.setCell (Ad g (n*3)) (I e.page)).setCell (Ad g (n*3+1)) (I e.kind)).setCell (Ad g (n*3+2)) (I e.loc)).drew.drew):=λV n g hb hn hg hp=>by
  have m:=F.o.below hb;have m1:=aqz.asR m hj (g:=g) (by rw[Tn,hg]) (i:=n) Γ e;have hK:({ k with aj:=k.aj.set j (eT (ak k.aj j) ((ak k.aj j).bl.set n e)) }:aT)=gA k j e:=by
   grind [gA]
  have af:=hK ▸ m1.1;have dr:∀V:World,Below V.heap.size V V.drew:=λV=>(aN _ _).drew
  exact⟨rfl,S,(af.below (dr _)).below (dr _),((((cU.below jo.o).trans (cU.below hb)).trans m1.2).trans (cU.below (dr _))).trans (cU.below (dr _))⟩
 obtain⟨P,hP⟩:=ex (fP lo mb tt X w S (.tuple #[]) (gA k j e));rw[<- hP] at HE ad ⊢;obtain⟨np,Ie⟩:=ex k.aj.length;rw[<- Ie] at c3 ac;have an:=A.lt;have aX:=aM EX.o;have au:=A.fz (j*3+2);have a9:Hid (∀b,bN (.slice ae es.length ce) b->b≠pb/\b≠w.heap.size/\b<WA.heap.size):=λb hb=>⟨λz=>Γ,λz=>Γ,(y.lt b hb).2⟩
 have a0:=ai T;have Yw:=ai y;have aP:=ai J;have ot:=ai lQ;have aw:=ai L;obtain⟨i0,O,Y,W,R⟩:=mQ DJ;have PE:=ai O;have aa:=ai Y;have ZA:=ai W;have Ih:=ai R;have aE:lo<=WA.heap.size:=gj hlo jo.o.size;have ar:es.length<=1000:=by omega
 by_cases hall:∀i,i<es.length->(aW es i).page<e.page
 . have am:=ai (Oa es e hall);have VK:Hid (Calls prog 186 #[.slice ae es.length ce,.func (.func 298) #[] #[.pointer (some (Ad w.heap.size 0))]] WA λr w'=>r=.returned (I (-1))/\Below WA.heap.size WA w'):=M.mono λr w' ⟨hb,hh⟩=>by
    grind
   clear M lQ h y J L T F A Tn Q hP Ie O Y W R hall FC hj hen hlo;go_enter func293,ntmps293;go_upto_region 1 with fail;rw[<- ot.o];go_upto_region 5 with(go_at_call 186;refine VK.o.mono ?_;rintro r w1 ⟨rfl,G⟩;have dz:=ai G;clear G);have o5:Hid (aI (λb=>bN (.slice ae es.length ce) b) w1 w1.drew):=aI.drew _ _;have U:Hid (∀o,aI (λb=>bN (.slice ae es.length ce) b) w1 ((w1.alloc o).drew)):=λo=>(aI.alloc _ _ o).trans (aI.drew _ _) (λ_ _ g=>g)
   have uZ:Hid (∀V,aI (λb=>bN (.slice ae es.length ce) b) w1 V->V.cell? (Ad pb (j*3+2))=some (.slice ae es.length ce)/\V.cell? (Ad w.heap.size 0)=some (I e.page)/\V.cell? (Ad w.heap.size 1)=some (I e.kind)/\V.cell? (Ad w.heap.size 2)=some (I e.loc)/\V.frozen? (Ad pb (j*3+2))=false):=λV hV=>by
    have b1:=aO EX.o dz.o (aM EX.o);have b2:=hV.keep b1 (λg=>(a9.o _ g).2.1 rfl)
    grind [aA,Lm,aI.cell,Hid.o,Below.cell]
   have ao:Hid (∀o,((w1.alloc o).drew).ownsRow lo 174 3 (.slice ae es.length ce) es.length (es.flatMap bC)):=λo=>((Xw w1 o).row ((aI.cA (D:=λ_=>False) dz.o).row Yw.o (λ_ _ g=>g)) (λ_ _ g=>g))
   have ag:=dz.o.size;refine uj (S:=λV=>aI (λb=>bN (.slice ae es.length ce) b) w1 V) (z:=10) ρ ?_;refine A7 0 o5.o ?_ ?_ ?_;rotate_left 1
   . intro V h;rfl
   refine A7 1 o5.o ?_ ?_ ?_;rotate_left 1
   . intro V h;rfl
   refine A7 2 o5.o ?_ ?_ ?_;rotate_left 1
   . intro V h;rfl
   refine A7 3 o5.o ?_ ?_ ?_;rotate_left 1
   . intro V h;obtain⟨k0,k1,k2,k3,k4⟩:=uZ.o V h;go_simp;rfl
   refine A7 4 o5.o ?_ ?_ ?_;rotate_left 1
   . intro V h;obtain⟨k0,k1,k2,k3,k4⟩:=uZ.o V h;go_simp;rfl
   refine A7 5 o5.o ?_ ?_ ?_;rotate_left 1
   . intro V h;obtain⟨k0,k1,k2,k3,k4⟩:=uZ.o V h;go_simp;rfl
   refine gS (rs:=[6]) κ ξ ?_;refine b7.cons rfl (λK hK=>?_) b7.nil;go_simp;refine hK.out _ _ (λ_=>?_) ?_
   . exact U.o _
   clear hK K
   try simp only[Act.put,eQ,eI,ed]
   refine gS (rs:=[7]) κ ξ ?_;refine b7.cons rfl (λK hK=>?_) b7.nil;rw[aQ ρ];refine qZ (P:=prog) _ _ 97 rfl lo 174 i0 (.agg #[I 0,I 0,I 0]) 3 24 underlying97 PE.o aa.o ZA.o Ih.o rfl Δ (.slice ae es.length ce) es.length (es.flatMap bC) rfl (ao.o _) (some (Ad w1.heap.size 0)) 1 1 (bC e) rfl rfl (λ_=>⟨_,rfl,agd w1 e⟩) (by intro u hu;simp[bC] at hu;rcases hu with rfl | rfl | rfl <;> rfl) (by grind [maxLen]) ω (by simp;omega) ?_;intro vG wG Tc Wx Wy;obtain⟨aG,cG,ab,_,_⟩:=bh Tc;subst ab;have OE:Hid (aI (λb=>bN (.slice ae es.length ce) b) w1 wG):=(U.o _).trans (aI.grown (D:=λb=>bN (.slice ae es.length ce) b) Wx (λq hq=>hq)) (λ_ _ g=>g);have a6:=ai Tc;have a1:=ai Wy;clear Tc Wx Wy;refine hK.out _ _ (λ_=>?_) ?_
   . exact OE.o
   clear hK K
   try simp only[Act.put,eQ,eI,ed]
   refine gS (rs:=[8]) κ ξ ?_;refine b7.cons rfl (λK hK=>?_) b7.nil;go_simp;refine hK.out _ _ (λ_=>?_) ?_
   . exact OE.o
   clear hK K
   try simp only[Act.put,eQ,eI,ed]
   refine A7 9 OE.o ?_ ?_ ?_;rotate_left 1
   . intro V h;rfl
   obtain⟨k0,k1,k2,k3,k4⟩:=uZ.o wG OE.o;refine gS (rs:=[10]) κ ξ ?_;refine b7.cons rfl (λK hK=>?_) b7.nil;go_simp;refine hK.out _ _ (λg=>absurd rfl g) ?_;refine Ab ρ ?_ _;go_wp2;refine vY (v:=.tuple #[]) (by simp[results]) rfl ?_;refine HE.o wG _ (es++[e]) ?_ (by grind [Hid.o]) (λb hb=>?_) am.o
   . exact(aI.cA dz.o).trans OE.o (λb _ hx=>a0.o b hx)
   rcases a1.o with g | g
   . exact .inl (a0.o b (by show Value.ownBlock _=_;rw[<- g];exact hb))
   right;have hb:Value.ownBlock _=some b:=hb
   grind [World.alloc,World.drew]
 have a8:∃n,n<es.length/\(∀i,i<n->(aW es i).page<e.page)/\¬(aW es n).page<e.page:=by
  obtain⟨n,hn⟩:=Classical.not_forall.1 hall;rw[Classical.not_imp] at hn;obtain⟨MO,Br⟩:=hn;induction n using Nat.strongRecOn with
  | _ n ih =>
   grind
 obtain⟨n,hn,O9,Wv⟩:=a8;have B:=Vo es e n hn O9 Wv;have VK:Hid (Calls prog 186 #[.slice ae es.length ce,.func (.func 298) #[] #[.pointer (some (Ad w.heap.size 0))]] WA λr w'=>r=.returned (I (n:Int))/\Below WA.heap.size WA w'):=M.mono λr w' ⟨hb,hh⟩=>by
  grind
 obtain⟨eb,ap,_,ay⟩:=J ω;subst ap;have aC:(n:Int)<(es.length:Int):=by omega
 have aL:(0:Int)<=(n:Int):=by omega
 have N:Hid (∀V,Below WA.heap.size WA V->V.cell? (Ad eb (n*3))=some (I (aW es n).page)/\V.cell? (Ad eb (n*3+1))=some (I (aW es n).kind)/\V.cell? (Ad eb (n*3+2))=some (I (aW es n).loc)/\(∀q,V.frozen? (Ad eb q)=false)/\V.cell? (Ad pb (j*3+2))=some (.slice (some (Ad eb 0)) es.length ce)/\V.cell? (Ad w.heap.size 0)=some (I e.page)/\V.cell? (Ad w.heap.size 1)=some (I e.kind)/\V.cell? (Ad w.heap.size 2)=some (I e.loc)):=λV hV=>by
  have hr:=(aI.cA (D:=λ_=>False) hV).row y (λ_ _ g=>g);have b1:=aO EX.o hV (aM EX.o);exact⟨kF bC (λ_=>rfl) gJ hr n 0 hn ω,kF bC (λ_=>rfl) gJ hr n 1 hn ω,kF bC (λ_=>rfl) gJ hr n 2 hn ω,iN hr,(hV.cell (p:=(Ad pb (j*3+2))) an).trans a2,aA b1 0 rfl,aA b1 1 rfl,aA b1 2 rfl⟩
 by_cases c:(aW es n).page=e.page
 . rw[aQ c] at B;have a3:=ai B;have cb:((aW es n).page==e.page)=true:=by grind
   obtain⟨Z,hZ⟩:=ex (aW es n);rw[<- hZ] at N cb;clear M lQ h y J L T F A Tn Q hP Ie O Y W R hall FC hj hen hlo B O9 Wv hZ c;go_enter func293,ntmps293;go_upto_region 1 with fail;rw[<- ot.o];go_upto_region 6 with(go_at_call 186;refine VK.o.mono ?_;rintro r w1 ⟨rfl,G⟩;have dz:=ai G;clear G);obtain⟨y0,y1,y2,yf,y3,y4,y5,y6⟩:=N.o w1 dz.o;have az:=yf (n*3);have aF:=yf (n*3+1);have aS:=yf (n*3+2);clear yf;go_region;go_upto_region 7 with fail;go_region;go_wp2;refine vY (v:=.tuple #[]) (by simp[results]) rfl ?_
   grind [Hid.o]
 rw[aH c] at B;have a3:=ai B;have cb:((aW es n).page==e.page)=false:=by grind
 have al:Hid (∀V,aI (λb=>bN (.slice (some (Ad eb 0)) es.length ce) b) WA V->V.ownsRow lo 174 3 (.slice (some (Ad eb 0)) es.length ce) es.length (es.flatMap bC)->WA.heap.size<=V.heap.size->Calls prog 299 #[.slice (some (Ad eb 0)) es.length ce,I (n:Int),.slice (some (Ad V.heap.size 0)) 1 1] ((V.alloc (.cells #[I e.page,I e.kind,I e.loc] 174)).drew) λr w'=>∃av nv cv,r=.returned (.slice av nv cv)/\w'.ownsRow lo 174 3 (.slice av nv cv) (es.take n++e::es.drop n).length ((es.take n++e::es.drop n).flatMap bC)/\aI (λb=>bN (.slice (some (Ad eb 0)) es.length ce) b) V w'/\(∀b,bN (.slice av nv cv) b->bN (.slice (some (Ad eb 0)) es.length ce) b\/WA.heap.size<=b)):=λV hV hr ag=>by
  have k1:aI (λ_=>False) V ((V.alloc (.cells #[I e.page,I e.kind,I e.loc] 174)).drew):=(aI.alloc _ _ _).trans (aI.drew _ _) (λ_ _ g=>g);have r1:=k1.row hr (λ_ _ g=>g);have r2:((V.alloc (.cells #[I e.page,I e.kind,I e.loc] 174)).drew).ownsRow V.heap.size 174 3 (.slice (some (Ad V.heap.size 0)) [e].length 1) [e].length ([e].flatMap bC):=(aI.drew (λ_=>False) _).row (adg V e) (λ_ _ g=>g);have aD:((V.alloc (.cells #[I e.page,I e.kind,I e.loc] 174)).drew).heap.size=V.heap.size+1:=fp _ _;refine(Ui lo es [e] (.slice (some (Ad eb 0)) es.length ce) (.slice (some (Ad V.heap.size 0)) 1 1) V.heap.size n _ r1 r2 ω (λb h1 h2=>?_) ω ξ ω ξ).mono λr w' ⟨v',g1,g2,g3,g4⟩=>?_
  . have:V.heap.size=b:=by injection h1
    have:=(hr.lt b h2).2;omega
  obtain⟨av,cv,rfl,_,_⟩:=bh g2;refine⟨av,_,cv,g1,g2,(k1.mono (λ_ _ z=>z.elim)).trans g3 (λ_ _ z=>z),λb hb=>?_⟩
  grind
 obtain⟨Z,hZ⟩:=ex (aW es n);rw[<- hZ] at N cb;clear M lQ h y J L T F A Tn Q hP Ie O Y W R hall FC hj hen hlo B O9 Wv hZ c;go_enter func293,ntmps293;go_upto_region 1 with fail;rw[<- ot.o];go_upto_region 6 with(go_at_call 186;refine VK.o.mono ?_;rintro r w1 ⟨rfl,G⟩;have dz:=ai G;clear G);obtain⟨y0,y1,y2,yf,y3,y4,y5,y6⟩:=N.o w1 dz.o;clear yf;go_region;go_upto_region 3 with fail;clear y0 y1 y2 y3 y4 y5 y6;have iI:Hid (Below WA.heap.size WA w1.drew):=dz.o.drew;clear dz;obtain⟨w2,a7⟩:=ex w1.drew;rw[<- a7] at iI ⊢;clear a7;have o5:Hid (aI (λb=>bN (.slice (some (Ad eb 0)) es.length ce) b) w2 w2.drew):=aI.drew _ _;have U:Hid (∀o,aI (λb=>bN (.slice (some (Ad eb 0)) es.length ce) b) w2 ((w2.alloc o).drew)):=λo=>(aI.alloc _ _ o).trans (aI.drew _ _) (λ_ _ g=>g)
 have uZ:Hid (∀V,aI (λb=>bN (.slice (some (Ad eb 0)) es.length ce) b) w2 V->V.cell? (Ad pb (j*3+2))=some (.slice (some (Ad eb 0)) es.length ce)/\V.cell? (Ad w.heap.size 0)=some (I e.page)/\V.cell? (Ad w.heap.size 1)=some (I e.kind)/\V.cell? (Ad w.heap.size 2)=some (I e.loc)/\V.frozen? (Ad pb (j*3+2))=false):=λV hV=>by
  grind [Lm,Hid.o,aI.cell]
 have ah:=ai (al.o w2 (aI.cA iI.o) ((aI.cA (D:=λ_=>False) iI.o).row Yw.o (λ_ _ g=>g)) iI.o.size);refine uj (S:=λV=>aI (λb=>bN (.slice (some (Ad eb 0)) es.length ce) b) w2 V) (z:=11) ρ ?_;refine A7 0 o5.o ?_ ?_ ?_;rotate_left 1
 . intro V h;rfl
 refine A7 1 o5.o ?_ ?_ ?_;rotate_left 1
 . intro V h;rfl
 refine A7 2 o5.o ?_ ?_ ?_;rotate_left 1
 . intro V h;rfl
 refine A7 3 o5.o ?_ ?_ ?_;rotate_left 1
 . intro V h;obtain⟨k0,k1,k2,k3,k4⟩:=uZ.o V h;go_simp;rfl
 refine A7 4 o5.o ?_ ?_ ?_;rotate_left 1
 . intro V h;obtain⟨k0,k1,k2,k3,k4⟩:=uZ.o V h;go_simp;rfl
 refine A7 5 o5.o ?_ ?_ ?_;rotate_left 1
 . intro V h;rfl
 refine A7 6 o5.o ?_ ?_ ?_;rotate_left 1
 . intro V h;obtain⟨k0,k1,k2,k3,k4⟩:=uZ.o V h;go_simp;rfl
 refine gS (rs:=[7]) κ ξ ?_;refine b7.cons rfl (λK hK=>?_) b7.nil;go_simp;refine hK.out _ _ (λ_=>?_) ?_
 . exact U.o _
 clear hK K
 try simp only[Act.put,eQ,eI,ed]
 refine gS (rs:=[8]) κ ξ ?_;refine b7.cons rfl (λK hK=>?_) b7.nil;rw[aQ ρ];go_simp;go_at_call 299;refine ah.o.mono ?_;rintro r wG ⟨aG,nG,cG,rfl,Tc,a4,Wy⟩;have OE:Hid (aI (λb=>bN (.slice (some (Ad eb 0)) es.length ce) b) w2 wG):=a4;have a6:=ai Tc;have a1:=ai Wy;clear Tc a4 Wy;try go_simp;refine hK.out _ _ (λ_=>?_) ?_
 . exact OE.o
 clear hK K
 try simp only[Act.put,eQ,eI,ed]
 refine gS (rs:=[9]) κ ξ ?_;refine b7.cons rfl (λK hK=>?_) b7.nil;go_simp;refine hK.out _ _ (λ_=>?_) ?_
 . exact OE.o
 clear hK K
 try simp only[Act.put,eQ,eI,ed]
 refine A7 10 OE.o ?_ ?_ ?_;rotate_left 1
 . intro V h;rfl
 obtain⟨k0,k1,k2,k3,k4⟩:=uZ.o wG OE.o;refine gS (rs:=[11]) κ ξ ?_;refine b7.cons rfl (λK hK=>?_) b7.nil;go_simp;refine hK.out _ _ (λg=>absurd rfl g) ?_;refine Ab ρ ?_ _;go_wp2;refine vY (v:=.tuple #[]) (by simp[results]) rfl ?_;refine HE.o wG _ (es.take n++e::es.drop n) ((aI.cA iI.o).trans OE.o (λb _ hx=>a0.o b hx)) a6.o (λb hb=>?_) a3.o
 grind [Hid.o]
end Go.Proofs.YtlgoihmkgaaemaaGreat
