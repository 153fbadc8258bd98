import Derived.Test.YtlgoihmkgaaemaaGreatGQ05
import Derived.Test.YtlgoihmkgaaemaaGreatChecked
import Derived.Deep.Slices
import Derived.ProofKit
set_option maxHeartbeats 20000000
set_option linter.unusedVariables false
set_option maxRecDepth 100000
set_option linter.unusedSimpArgs false
namespace Go.Proofs.YtlgoihmkgaaemaaGreat
open Go.RowKit Tryz
def dZ (l:List aX) (page aD q:Int):List aX×Int:=jU l page aD q (qW q)
def cU (l:List aX) (page aD:Int):List aX×Int:=jU l page aD 0 dm
def cu (l:List aX) (page aD q:Int):List aX×Int:=jU l page aD q (mK q)
def Ko (n:Int):Prop:=-9223372036854775808<=n/\n<=9223372036854775807
theorem Np (l:List aX) (v:Value) (page aD q:Int) (w:World) (h:gD w v l) (hf:dQ l) (hp:Ko page) (hn:Ko aD) :
  Calls prog 115 #[v,I page,I aD,I q] w λe w'=>∃r,e=.returned (.tuple #[r,I (dZ l page aD q).2])/\eB w.heap.size w' r (dZ l page aD q).1/\Below w.heap.size w w':=by
 have b:Below w.heap.size w (w.alloc (.cells #[I q] 3)):=(aN _ _).alloc (aK _) _;have hP:=aA (bH w #[I q] 3) 0 rfl;have H:=h.below b;have HP:Hid ((w.alloc (.cells #[I q] 3)).cell? (Ad w.heap.size 0)=some (I q)):=hP;clear hP;go_enter func115,ntmps115;go_wp2_with fail;refine(Kk l v page aD q _ H hf hp hn (.inl ⟨rfl,_,rfl,HP.o,rfl⟩)).mono ?_;rintro e w1 ⟨r,rfl,hr,y⟩;go_wp2
 go_ret2
 exact⟨r,rfl,hr.mono b.size,b.trans (y.mono b.size)⟩
theorem Qc (l:List aX) (v:Value) (page aD:Int) (w:World) (h:gD w v l) (hf:dQ l) (hp:Ko page) (hn:Ko aD) :
  Calls prog 280 #[v,I page,I aD] w λe w'=>∃r,e=.returned (.tuple #[r,I (cU l page aD).2])/\eB w.heap.size w' r (cU l page aD).1/\Below w.heap.size w w':=by
 go_enter func280,ntmps280;go_wp2_with fail;refine(Kk l v page aD 0 _ h hf hp hn (.inr (.inl ⟨rfl,rfl,rfl⟩))).mono ?_;rintro e w1 ⟨r,rfl,hr,b⟩;go_wp2
 go_ret2
 exact⟨r,rfl,hr,b⟩
theorem Km (l:List aX) (v:Value) (page aD q:Int) (w:World) (h:gD w v l) (hf:dQ l) (hp:Ko page) (hn:Ko aD) :
  Calls prog 277 #[v,I page,I aD,I q] w λe w'=>∃r,e=.returned (.tuple #[r,I (cu l page aD q).2])/\eB w.heap.size w' r (cu l page aD q).1/\Below w.heap.size w w':=by
 have b:Below w.heap.size w (w.alloc (.cells #[I q] 3)):=(aN _ _).alloc (aK _) _;have hP:=aA (bH w #[I q] 3) 0 rfl;have H:=h.below b;have HP:Hid ((w.alloc (.cells #[I q] 3)).cell? (Ad w.heap.size 0)=some (I q)):=hP;clear hP;go_enter func277,ntmps277;go_wp2_with fail;refine(Kk l v page aD q _ H hf hp hn (.inr (.inr ⟨rfl,_,rfl,HP.o,rfl⟩))).mono ?_;rintro e w1 ⟨r,rfl,hr,y⟩;go_wp2
 go_ret2
 exact⟨r,rfl,hr.mono b.size,b.trans (y.mono b.size)⟩
open Go.RowKit
theorem aiX {l:List aX} (h:∀a∈l,EJ a) (hn:l.length<=140737488351232):dQ l:=by
 refine⟨λi hi=>?_,hn⟩
 grind [bw]
theorem DL:dQ []:=aiX (λa h=>by simp at h) ξ
open Go.RowKit
theorem Kl (l:List aX) (page aD q:Int) (how:cX->cX×Int) (h:(jU l page aD q how).2≠0):(jU l page aD q how).1=[]:=by
 grind [jU]
theorem zY (l:List aX) (page aD q:Int) (how:cX->cX×Int) (h:(jU l page aD q how).2=0) :
  bj l=0/\gW page aD=true/\ni q=true/\km (iK l) how page.toNat aD.toNat=0/\(jU l page aD q how).1=ic (gV (iK l) how page (page+aD)):=by
 grind [jU]
theorem ags (l:List aX) (page t q:Int) (hc:bj l=0) (hp:1<=page) (hq:0<=q/\q<=3):oL (gV (iK l) (qW q) page t) :=
 DN _ (DR l hc) _ _ _ hp (λs _ h=>by
  grind [qW]) (λs h=>by
  grind [qW])
theorem ZH (l:List aX) (page t:Int) (hc:bj l=0) (hp:1<=page):oL (gV (iK l) dm page t) :=
 DN _ (DR l hc) _ _ _ hp (λs _ _=>rfl) (λs _=>⟨by simp[dm,iL],by simp[dm,iL]⟩)
theorem TI (l:List aX) (page t q:Int) (hc:bj l=0) (hp:1<=page) (hq:0<=q/\q<=3):oL (gV (iK l) (mK q) page t) :=
 DN _ (DR l hc) _ _ _ hp (λs hs h=>by
  grind [mK]) (λs h=>by
  grind [mK])
theorem SS (q:Int):ni q=true↔0<=q/\q<=3:=⟨λh=>jY h,λh=>fD h⟩
theorem CQ (l:List aX) (page aD q:Int) (h:(dZ l page aD q).2=0) :
  bj (dZ l page aD q).1=0/\(∀p:Nat,1<=p->p<=255 ->
   (page<=(p:Int)/\(p:Int)<page+aD->(aV l p).2=false/\(aV (dZ l page aD q).1 p).2=true/\(aV (dZ l page aD q).1 p).1.jP=q/\(aV (dZ l page aD q).1 p).1.zero=true) /\
   (¬(page<=(p:Int)/\(p:Int)<page+aD)->(aV (dZ l page aD q).1 p).2=(aV l p).2/\(aV (dZ l page aD q).1 p).1.jP=(aV l p).1.jP/\(aV (dZ l page aD q).1 p).1.zero=(aV l p).1.zero)):=by
 obtain⟨hc,Rj,hq,he,hr⟩:=zY _ _ _ _ _ h;have y:=(sH page aD).1 Rj;have hF:=ags l page (page+aD) q hc y.1 ((SS q).1 hq);have b:(dZ l page aD q).1=_:=hr;rw[b];refine⟨pJ _ hF,λp h1 h2=>?_⟩;have fg:=DV _ hF p ω;have fs:=DU l hc p;refine⟨λhin=>?_,λhout=>?_⟩
 . have A:=Ku _ _ _ _ he p ω ω
   grind [qW,gV]
 grind [gV]
theorem zo (l:List aX) (page aD:Int) (h:(cU l page aD).2=0) :
  bj (cU l page aD).1=0/\(∀p:Nat,1<=p->p<=255 ->
   (page<=(p:Int)/\(p:Int)<page+aD->(aV (cU l page aD).1 p).2=false) /\
   (¬(page<=(p:Int)/\(p:Int)<page+aD)->(aV (cU l page aD).1 p).2=(aV l p).2/\(aV (cU l page aD).1 p).1.jP=(aV l p).1.jP/\(aV (cU l page aD).1 p).1.zero=(aV l p).1.zero)):=by
 obtain⟨hc,Rj,hq,he,hr⟩:=zY _ _ _ _ _ h;have q:=(sH page aD).1 Rj;have hF:=ZH l page (page+aD) hc q.1;have b:(cU l page aD).1=_:=hr;rw[b];refine⟨pJ _ hF,λp h1 h2=>?_⟩;have fg:=DV _ hF p ω;have fs:=DU l hc p;refine⟨λhin=>?_,λhout=>?_⟩
 . simp only[gV] at fg;rw[aC hin] at fg;exact fg.1
 grind [gV]
theorem wI (l:List aX) (page aD q:Int) (h:(cu l page aD q).2=0) :
  bj (cu l page aD q).1=0/\(∀p:Nat,1<=p->p<=255 ->
   ((aV (cu l page aD q).1 p).2=(aV l p).2/\(aV (cu l page aD q).1 p).1.zero=(aV l p).1.zero) /\
   (page<=(p:Int)/\(p:Int)<page+aD->(aV (cu l page aD q).1 p).2=true/\(aV (cu l page aD q).1 p).1.jP=q) /\
   (¬(page<=(p:Int)/\(p:Int)<page+aD)->(aV (cu l page aD q).1 p).1.jP=(aV l p).1.jP)):=by
 obtain⟨hc,Rj,hq,he,hr⟩:=zY _ _ _ _ _ h;have y:=(sH page aD).1 Rj;have hF:=TI l page (page+aD) q hc y.1 ((SS q).1 hq);have b:(cu l page aD q).1=_:=hr;rw[b];refine⟨pJ _ hF,λp h1 h2=>?_⟩;have fg:=DV _ hF p ω;have fs:=DU l hc p;simp only[gV] at fg;by_cases hin:page<=(p:Int)/\(p:Int)<page+aD
 . have A:=Ku _ _ _ _ he p ω ω
   grind [mK]
 grind
theorem Xl (l:List aX) (page aD q:Int):dQ (dZ l page aD q).1:=by
 by_cases h:(dZ l page aD q).2=0
 . exact gy _ (CQ l page aD q h).1
 grind [dZ,Kl,DL]
theorem adu (l:List aX) (page aD:Int):dQ (cU l page aD).1:=by
 by_cases h:(cU l page aD).2=0
 . exact gy _ (zo l page aD h).1
 grind [cU,Kl,DL]
theorem Xk (l:List aX) (page aD q:Int):dQ (cu l page aD q).1:=by
 by_cases h:(cu l page aD q).2=0
 . exact gy _ (wI l page aD q h).1
 grind [cu,Kl,DL]
open Go.RowKit Go.Deep
section
variable {H:Type} {enc:TypeId×Value->H} {w:World} {base:Nat} {spare:Nat->Bool} {held:Bool}
end
open Go.RowKit
open Go.RowKit
open Go.RowKit
open Go.RowKit
theorem vV {P:Program} {f:FuncId} {args:Array Value} {v:Value} {w:World} (x:ed w.heap.size w) (h:∀W,Below w.heap.size w W->Calls P f args W λe w'=>e=.returned v/\Below W.heap.size W w') :
  Calls P f args x.world λe w''=>e=.returned v/\∃y:ed w.heap.size w,w''=y.world :=
 (h x.world x.keeps).mono λe w'' ⟨he,hb⟩=>⟨he,⟨w'',x.keeps.trans (hb.mono x.keeps.size)⟩,rfl⟩
end Go.Proofs.YtlgoihmkgaaemaaGreat
