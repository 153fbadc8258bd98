import Derived.Test.YtpgifpeohlllfaaGreatGT34
set_option maxHeartbeats 20000000
set_option linter.unusedVariables false
set_option maxRecDepth 100000
set_option linter.unusedSimpArgs false
namespace Go.Proofs.YtpgifpeohlllfaaGreat
namespace KR
open Go.RowKit GK KO
open KS (Lc bw kM cD blk cJ)
theorem JC {lo:Nat} {w:World} {S:St} {k:KM.Kn} (h:Kr lo w S k) (hlo:lo<=w.heap.size):Km lo w.heap.size 27 [] (w.alloc (.cells #[S.vS,S.vF,S.vL,S.vP,I k.hand] 27)) ⟨fun b=>if b=w.heap.size then .head else S.lab b,S.vS,S.vF,S.vL,S.vP,S.L⟩ k:=by
 have hb:Below w.heap.size w (w.alloc (.cells #[S.vS,S.vF,S.vL,S.vP,I k.hand] 27)):=(Below.refl _ _).alloc (Nat.le_refl _) _;have g:=h.below hb;have old:∀b c,S.lab b=c->c≠.no->(if b=w.heap.size then Lb.head else S.lab b)=c:=fun b c e hc=>by
  have:=(h.iJ b (by rw[e];exact hc)).2;rw[if_neg (by omega),e]
 refine⟨⟨fun b hx=>?_,g.ak,g.bg,g.frames,g.slots,g.aj,g.len,g.each,fun b hx=>old b _ (h.lS b hx) (by simp),fun i hi b hx=>old b _ (h.lX i hi b hx) (by simp),fun b hx=>old b _ (h.lF b hx) (by simp),fun b hx=>old b _ (h.lL b hx) (by simp),fun b hx=>old b _ (h.lP b hx) (by simp),fun i hi b hx=>old b _ (h.lA i hi b hx) (by simp),fun i hi b hx=>old b _ (h.lE i hi b hx) (by simp)⟩,B.new _ _ _,if_pos rfl⟩;have hx:(if b=w.heap.size then Lb.head else S.lab b)≠.no:=hx;rw[World.size_alloc];by_cases c:b=w.heap.size
 · omega
 · rw[if_neg c] at hx;have:=h.iJ b hx;omega
theorem Hj (k:KM.Kn) (X:List KM.Sp) (e:KM.En):KM.b9 { k with aj:=X } e={ KM.b9 k e with aj:=X }:=by unfold KM.b9;split <;> rfl
theorem zJ (k:KM.Kn) (X:List KM.Sp) (es:List KM.En):∀n,KM.bZ { k with aj:=X } es (fun _=>true) n={ KM.bZ k es (fun _=>true) n with aj:=X }
 | 0=>rfl
 | n+1=>by
  show KM.b9 (KM.bZ { k with aj:=X } es (fun _=>true) n) (KM.aM es n)={ KM.b9 (KM.bZ k es (fun _=>true) n) (KM.aM es n) with aj:=X };rw[zJ k X es n,Hj]
theorem Qf (k:KM.Kn) (j:Nat):KM.bZ { k with aj:=k.aj.set j KM.uu } (KM.au k.aj j).aA (fun _=>true) (KM.au k.aj j).aA.length=KM.jM k j:=by
 rw[zJ];unfold KM.jM KM.dK KM.kG;simp[KM.gm,List.set_set]
def Of (j:Nat):Lb->Bool
 | .aB i=>i==j
 | .aA i=>i==j
 | _=>false
def ET (S:St) (j:Nat):Nat->Lb:=fun b=>if Of j (S.lab b)=true then .no else S.lab b
theorem OL {lo mb:Nat} {tt:TypeId} {X:List Value} {w:World} {S:St} {k:KM.Kn} (h:Km lo mb tt X w S k) {j:Nat} (hj:cD S.L j=kM):Km lo mb tt X w ⟨ET S j,S.vS,S.vF,S.vL,S.vP,S.L⟩ k:=by
 have old:∀b c,S.lab b=c->Of j c=false->ET S j b=c:=fun b c e hc=>by
  unfold ET;rw[e,hc];rfl
 refine⟨⟨fun b hb=>?_,h.ak,h.bg,h.frames,h.slots,h.aj,h.len,h.each,fun b hb=>old b _ (h.lS b hb) rfl,fun i hi b hb=>old b _ (h.lX i hi b hb) rfl,fun b hb=>old b _ (h.lF b hb) rfl,fun b hb=>old b _ (h.lL b hb) rfl,fun b hb=>old b _ (h.lP b hb) rfl,fun i hi b hb=>?_,fun i hi b hb=>?_⟩,h.head,old mb _ h.lH rfl⟩
 · refine h.iJ b (fun e=>hb ?_);show ET S j b=.no;unfold ET;rw[e];rfl
 · by_cases c:i=j
   · subst c;have hb:blk (cD S.L i).va b:=hb;rw[hj] at hb;cases hb
   · exact old b _ (h.lA i hi b hb) (by simpa [Of] using c)
 · by_cases c:i=j
   · subst c;have hb:blk (cD S.L i).vp b:=hb;rw[hj] at hb;cases hb
   · exact old b _ (h.lE i hi b hb) (by simpa [Of] using c)
theorem Ny {S:St} {j b:Nat} (h:S.lab b=.aB j∨S.lab b=.aA j):ET S j b=.no:=by
 unfold ET;rcases h with e | e <;> rw[e] <;> simp[Of]
end KR
namespace KR
open Go.RowKit GK KO
open KW (aK aZ)
open KS (Lc bw kM cD blk cJ)
def mP (w:World) (S:St) (k:KM.Kn):World:=w.alloc (.cells #[S.vS,S.vF,S.vL,S.vP,I k.hand] 27)
def rz (W:World) (pb j:Nat):World:=((W.setCell (Ad pb (j*3)) (.bool false)).setCell (Ad pb (j*3+1)) Nl).setCell (Ad pb (j*3+2)) Nl
theorem AE {L:List Lc} {j:Nat} (hj:j<L.length) (x:Lc):cD (L.set j x) j=x:=KM.bC _ _ _ _ hj
theorem Mk {lo:Nat} {w:World} {S:St} {k:KM.Kn} (h:Kr lo w S k) (hlo:lo<=w.heap.size) {j:Nat} (hj:j<k.aj.length) :
  ∃pb cP ae ce S0,S.vP=.slice (some (Ad pb 0)) k.aj.length cP/\¬w.heap.size=pb /\
   ((mP w S k).cell? (Ad pb (j*3))=some (.bool (KM.au k.aj j).live)/\(mP w S k).cell? (Ad pb (j*3+1))=some (cD S.L j).va/\(mP w S k).cell? (Ad pb (j*3+2))=some (.slice ae (KM.au k.aj j).aA.length ce))/\(∀i,(mP w S k).frozen? (Ad pb i)=false) /\
   (S0.vS=S.vS/\S0.vF=S.vF/\S0.vL=S.vL/\S0.vP=S.vP)/\Km lo w.heap.size 27 [] (rz (mP w S k) pb j) S0 { k with aj:=k.aj.set j KM.uu } /\
   (∀V,Kp (fun b=>S0.lab b≠.no) (rz (mP w S k) pb j) V->aZ aK 3 KM.js V ae (KM.au k.aj j).aA)/\Kp (fun b=>lo<=b) w (rz (mP w S k) pb j):=by
 have hm:=JC h hlo;obtain⟨pb,cP,A⟩:=hm.toKr.sp (by omega);have hz:=hm.zero hj A.v;have Wx:j<S.L.length:=by rw[h.len];exact hj
 have hu:=OL hz.1 (j:=j) (AE Wx kM);obtain⟨ae,ce,e1,e2,_⟩:=aN (hm.each j hj).aJ;have e1:(cD S.L j).vp=.slice ae (KM.au k.aj j).aA.length ce:=e1;have hpb:S.lab pb=.aj:=h.lP pb (by rw[show S.vP=_ from A.v];rfl);have hpl:=(h.iJ pb (by rw[hpb];simp)).2;have x2:=A.x2 j hj;have x2:(mP w S k).cell? (Ad pb (j*3+2))=some (cD S.L j).vp:=x2;rw[e1] at x2;refine⟨pb,cP,ae,ce,⟨ET ⟨fun b=>if b=w.heap.size then .head else S.lab b,S.vS,S.vF,S.vL,S.vP,S.L.set j kM⟩ j,S.vS,S.vF,S.vL,S.vP,S.L.set j kM⟩,A.v,by omega,⟨A.x0 j hj,A.x1 j hj,x2⟩,fun i=>A.fz i,⟨rfl,rfl,rfl,rfl⟩,hu,fun V hV=>?_,?_⟩
 · have hr:=(hm.each j hj).aJ;have hvp:∀b,blk (cD S.L j).vp b->S.lab b=.aA j:=fun b hb=>h.lE j hj b hb
   have hlt:∀b,blk (cD S.L j).vp b->b<w.heap.size:=fun b hb=>(h.iJ b (by rw[hvp b hb];simp)).2
   have k1:Kp (fun b=>b=pb) (mP w S k) (rz (mP w S k) pb j):=nC _ pb _ _ _ _ _ _ rfl;have r1:=k1.row hr (fun b hb e=>by have:=hvp b hb;rw[e,hpb] at this;cases this);have r2:=hV.row r1 (fun b hb g=>g (Ny (.inr (by
    show(if b=w.heap.size then Lb.head else S.lab b)=.aA j;rw[if_neg (by have:=hlt b hb;omega)];exact hvp b hb))))
   have r2:V.ownsRow lo 45 3 (cD S.L j).vp (KM.au k.aj j).aA.length ((KM.au k.aj j).aA.flatMap aK):=r2;obtain⟨ae',ce',e',_,hr'⟩:=jy aK (fun _=>rfl) KM.js r2;rw[e1] at e';injection e' with e';rw[e'];exact hr'
 · have k0:Kp (fun b=>lo<=b) w (mP w S k):=Kp.alloc _ _ _;have k1:Kp (fun b=>lo<=b) (mP w S k) (rz (mP w S k) pb j):=nC _ pb _ _ _ _ _ _ (h.iJ pb (by rw[hpb];simp)).1;exact k0.trans k1 (fun _ _ g=>g)
end KR
namespace KR
theorem IJ (k:KM.Kn) (X:List KM.Sp) (e:KM.En) (d:Int):KM.dh { k with aj:=X } e d={ KM.dh k e d with aj:=X }:=by unfold KM.dh;split <;> rfl
theorem rW (k:KM.Kn) (X:List KM.Sp) (es:List KM.En):∀n,KM.aV { k with aj:=X } es n={ KM.aV k es n with aj:=X }
 | 0=>rfl
 | n+1=>by
  show KM.dh (KM.aV { k with aj:=X } es n) (KM.aM es n) 1={ KM.dh (KM.aV k es n) (KM.aM es n) 1 with aj:=X };rw[rW k X es n,IJ]
theorem Dp (k:KM.Kn) (e:KM.En) (d:Int):(KM.dh k e d).aj=k.aj:=by unfold KM.dh;split <;> rfl
theorem oU (k:KM.Kn) (es:List KM.En):∀n,(KM.aV k es n).aj=k.aj
 | 0=>rfl
 | n+1=>by
  show(KM.dh (KM.aV k es n) (KM.aM es n) 1).aj=k.aj;rw[Dp,oU k es n]
theorem PV (k:KM.Kn) (j:Nat):KM.aV { k with aj:=k.aj++[KM.au k.aj j] } (KM.au k.aj j).aA (KM.au k.aj j).aA.length=KM.fX k j:=by
 rw[rW];unfold KM.fX;rw[oU]
end KR
namespace KR
open Go.RowKit GK KO
open KW (aK aZ fh cK aI)
open KS (Lc bw kM cD blk cJ)
theorem Mp (k:KM.Kn) (e:KM.En) (d:Int):(KM.dh k e d).frames.length=k.frames.length/\(KM.dh k e d).slots.length=k.slots.length:=by
 unfold KM.dh;split
 · exact⟨by show(k.frames.set _ _).length=_;rw[List.length_set],rfl⟩
 · exact⟨rfl,by show(k.slots.set _ _).length=_;rw[List.length_set]⟩
theorem uG (k:KM.Kn) (es:List KM.En):∀n,(KM.aV k es n).frames.length=k.frames.length/\(KM.aV k es n).slots.length=k.slots.length
 | 0=>⟨rfl,rfl⟩
 | n+1=>by
  have h:=Mp (KM.aV k es n) (KM.aM es n) 1;have g:=uG k es n;exact⟨h.1.trans g.1,h.2.trans g.2⟩
def Lf (lo mb:Nat) (S:St) (K:KM.Kn) (es:List KM.En) (WQ:World) (n:Nat) (V:World):Prop:=Km lo mb 27 [] V S (KM.aV K es n)/\Kp (fun b=>S.lab b=.frames∨S.lab b=.slots) WQ V
theorem OE {lo mb:Nat} {S:St} {K:KM.Kn} {es:List KM.En} {WQ V:World} {n i:Nat} (h:Lf lo mb S K es WQ n V) (hk:(KM.aM es n).kind=1) (hl:(KM.aM es n).loc=(i:Int)) (hi:i<K.frames.length) (hr:0<=(KM.aH (KM.aV K es n).frames i).refs) :
  ∃fb cF,V.cell? (Ad mb 1)=some (.slice (some (Ad fb 0)) K.frames.length cF)/\V.cell? (Ad fb (i*4+1))=some (I (KM.aH (KM.aV K es n).frames i).refs)/\V.frozen? (Ad fb (i*4+1))=false/\Lf lo mb S K es WQ (n+1) ((V.setCell (Ad fb (i*4+1)) (I ((KM.aH (KM.aV K es n).frames i).refs+1))).drew):=by
 obtain⟨h1,h2⟩:=h;have hL:=(uG K es n).1;obtain⟨fb,cF,A⟩:=h1.toKr.fr (by omega);have hi':i<(KM.aV K es n).frames.length:=by omega
 have c1:=h1.c1;rw[A.v,hL] at c1;have m1:=h1.rX A.v hi' (j:=1) (by omega) (f:=⟨(KM.aH (KM.aV K es n).frames i).data,(KM.aH (KM.aV K es n).frames i).refs+1,(KM.aH (KM.aV K es n).frames i).cj,(KM.aH (KM.aV K es n).frames i).seen⟩) (u:=I ((KM.aH (KM.aV K es n).frames i).refs+1)) rfl;have e:KM.aV K es (n+1)={ KM.aV K es n with frames:=(KM.aV K es n).frames.set i ⟨(KM.aH (KM.aV K es n).frames i).data,(KM.aH (KM.aV K es n).frames i).refs+1,(KM.aH (KM.aV K es n).frames i).cj,(KM.aH (KM.aV K es n).frames i).seen⟩ }:=by
  show KM.dh (KM.aV K es n) (KM.aM es n) 1=_;unfold KM.dh;rw[if_pos hk,hl,Int.toNat_natCast];unfold KM.Dr;rw[if_neg (by omega)]
 refine⟨fb,cF,c1,A.x1 i hi',A.fz _,?_,?_⟩
 · rw[e];exact m1.below (Below.refl _ _).drew
 · exact(h2.trans (Kp.set _ _ _ _ (.inl A.lab)) (fun _ _ g=>g)).trans (Kp.drew _ _) (fun _ _ g=>g)
theorem Te {lo mb:Nat} {S:St} {K:KM.Kn} {es:List KM.En} {WQ V:World} {n i:Nat} (h:Lf lo mb S K es WQ n V) (hk:¬(KM.aM es n).kind=1) (hl:(KM.aM es n).loc=(i:Int)) (hi:i<K.slots.length) (hr:0<=(KM.bj (KM.aV K es n).slots i).refs) :
  ∃fb cF,V.cell? (Ad mb 2)=some (.slice (some (Ad fb 0)) K.slots.length cF)/\V.cell? (Ad fb (i*2+1))=some (I (KM.bj (KM.aV K es n).slots i).refs)/\V.frozen? (Ad fb (i*2+1))=false/\Lf lo mb S K es WQ (n+1) ((V.setCell (Ad fb (i*2+1)) (I ((KM.bj (KM.aV K es n).slots i).refs+1))).drew):=by
 obtain⟨h1,h2⟩:=h;have hL:=(uG K es n).2;obtain⟨fb,cF,A⟩:=h1.toKr.sl (by omega);have hi':i<(KM.aV K es n).slots.length:=by omega
 have c1:=h1.c2;rw[A.v,hL] at c1;have m1:=h1.GN A.v hi' (j:=1) (by omega) (f:=⟨(KM.bj (KM.aV K es n).slots i).data,(KM.bj (KM.aV K es n).slots i).refs+1⟩) (u:=I ((KM.bj (KM.aV K es n).slots i).refs+1)) rfl;have e:KM.aV K es (n+1)={ KM.aV K es n with slots:=(KM.aV K es n).slots.set i ⟨(KM.bj (KM.aV K es n).slots i).data,(KM.bj (KM.aV K es n).slots i).refs+1⟩ }:=by
  show KM.dh (KM.aV K es n) (KM.aM es n) 1=_;unfold KM.dh;rw[if_neg hk,hl,Int.toNat_natCast];unfold KM.Dq;rw[if_neg (by omega)]
 refine⟨fb,cF,c1,A.x1 i hi',A.fz _,?_,?_⟩
 · rw[e];exact m1.below (Below.refl _ _).drew
 · exact(h2.trans (Kp.set _ _ _ _ (.inr A.lab)) (fun _ _ g=>g)).trans (Kp.drew _ _) (fun _ _ g=>g)
theorem Tf {lo mb:Nat} {S:St} {K:KM.Kn} {es:List KM.En} {WQ V:World} {n:Nat} {l:Lc} {L:List Lc} {ss:List KM.Sp} {s:KM.Sp} {ya:Option Addr} {ny cy:Nat} (h:Lf lo mb S K es WQ n V) (hK:K.aj=ss++[s]) (hS:S.L=L++[l]) (hl:l.vp=.slice ya ny cy):aZ aK 3 KM.js V ya s.aA:=by
 obtain⟨h1,h2⟩:=h;have e0:(KM.aV K es n).aj=ss++[s]:=(oU K es n).trans hK;have hlen:L.length=ss.length:=by
  have:=h1.len;rw[hS,e0,List.length_append,List.length_append] at this;simp only[List.length_cons,List.length_nil] at this;omega
 have hi:ss.length<(KM.aV K es n).aj.length:=by rw[e0,List.length_append];simp
 obtain⟨ae,ce,e1,e2⟩:=h1.toKr.aA hi;have e3:cD S.L ss.length=l:=by
  rw[hS,<- hlen,qO,if_neg (Nat.lt_irrefl _),if_pos rfl]
 have e4:KM.au (KM.aV K es n).aj ss.length=s:=by
  rw[e0];unfold KM.au;rw[List.getD_eq_getElem?_getD,List.getElem?_append_right (Nat.le_refl _)];simp
 rw[e3,hl,e4] at e1;rw[e4] at e2;injection e1 with e1;rw[e1];exact e2
theorem OH {S:St} {v:Value} {l:Lc} {b:Nat} (h:qh S v l b=.frames∨qh S v l b=.slots):S.lab b=.frames∨S.lab b=.slots:=by
 unfold qh at h;split at h
 · rcases h with e | e <;> cases e
 · split at h
   · rcases h with e | e <;> cases e
   · split at h
     · rcases h with e | e <;> cases e
     · exact h
theorem NY {k:KM.Kn} (hR:KM.aQ k) {j:Nat} (hj:j<k.aj.length) (X:List KM.Sp) (hs:List LM.Sh) (n:Nat) (hn:n<=(KM.au k.aj j).aA.length) :
  (∀i,i<k.frames.length->0<=(KM.aH (KM.aV { KM.aT k hs with aj:=X } (KM.au k.aj j).aA n).frames i).refs/\(KM.aH (KM.aV { KM.aT k hs with aj:=X } (KM.au k.aj j).aA n).frames i).refs<=1000000) /\
  (∀i,i<k.slots.length->0<=(KM.bj (KM.aV { KM.aT k hs with aj:=X } (KM.au k.aj j).aA n).slots i).refs/\(KM.bj (KM.aV { KM.aT k hs with aj:=X } (KM.au k.aj j).aA n).slots i).refs<=1000000):=by
 rw[rW,KM.pY];obtain⟨_,_,_,_,_,h6,h7⟩:=KM.jI hR hj n hn;obtain⟨r1,r2⟩:=KX.lJ hR;obtain⟨b1,b2⟩:=KZ.El hR hj rfl n hn;refine⟨fun i hi=>⟨?_,(b1 i hi).2⟩,fun i hi=>⟨?_,(b2 i hi).2⟩⟩
 · show 0<=(KM.aH (KM.aV k (KM.au k.aj j).aA n).frames i).refs;rw[h6 i hi];have:=r1 i hi;show 0<=(KM.aH k.frames i).refs+_;omega
 · show 0<=(KM.bj (KM.aV k (KM.au k.aj j).aA n).slots i).refs;rw[h7 i hi];have:=r2 i hi;show 0<=(KM.bj k.slots i).refs+_;omega
end KR
namespace KR
open Go.RowKit GK KO
open FW (ai aD)
open KW (fh cK aI eB aZ aK dA cu)
open KZ (b6 gK iD fJ lI)
open KY (vh)
def Lp (WA:World) (mb:Nat) (S0:St) (K:KM.Kn) (j:Nat) (WZ:World) (n:Nat) (V:World):Prop:=Km WA.heap.size mb 27 [] V S0 (KM.bZ { K with aj:=K.aj.set j KM.uu } (KM.au K.aj j).aA (fun _=>true) n)/\Kp (fun b=>S0.lab b≠.no) WZ V/\Below WA.heap.size WA V
theorem Tc {WA:World} {mb:Nat} {S0:St} {K:KM.Kn} {j:Nat} {WZ V:World} {n:Nat} (hR:KM.aQ K) (hj:j<K.aj.length) (h:Lp WA mb S0 K j WZ n V) (hn:n<(KM.au K.aj j).aA.length) :
  Calls Tryz.prog 81 #[.pointer (some (Ad mb 0)),.agg #[I (KM.aM (KM.au K.aj j).aA n).page,I (KM.aM (KM.au K.aj j).aA n).kind,I (KM.aM (KM.au K.aj j).aA n).loc]] V fun e w'=>e=.returned (.tuple #[])/\Lp WA mb S0 K j WZ (n+1) w':=by
 obtain⟨h1,h2,h3⟩:=h;have hin:KM.aM (KM.au K.aj j).aA n∈(KM.au K.aj j).aA:=KM.dO hn;have hb:=KM.fN hR hj hin;have hr:=KM.qw K (KM.au K.aj j).aA (fun _=>true) n;have hp:=KM.nM hR hj (fun _=>true) n (by omega);have hf:=KX.lJ hp;have hf1:∀i,i<(KM.bZ K (KM.au K.aj j).aA (fun _=>true) n).frames.length->0<=(KM.aH (KM.bZ K (KM.au K.aj j).aA (fun _=>true) n).frames i).refs/\(KM.aH (KM.bZ K (KM.au K.aj j).aA (fun _=>true) n).frames i).refs<=512:=hf.1;have hf2:∀i,i<(KM.bZ K (KM.au K.aj j).aA (fun _=>true) n).slots.length->0<=(KM.bj (KM.bZ K (KM.au K.aj j).aA (fun _=>true) n).slots i).refs/\(KM.bj (KM.bZ K (KM.au K.aj j).aA (fun _=>true) n).slots i).refs<=512:=hf.2;have ec:=zJ K (K.aj.set j KM.uu) (KM.au K.aj j).aA n;have ef:(KM.bZ { K with aj:=K.aj.set j KM.uu } (KM.au K.aj j).aA (fun _=>true) n).frames=(KM.bZ K (KM.au K.aj j).aA (fun _=>true) n).frames:=by rw[ec]
 have el:(KM.bZ { K with aj:=K.aj.set j KM.uu } (KM.au K.aj j).aA (fun _=>true) n).slots=(KM.bZ K (KM.au K.aj j).aA (fun _=>true) n).slots:=by rw[ec]
 refine(Lu _ S0 V (KM.aM (KM.au K.aj j).aA n) h1 (fun c=>?_) (fun c=>?_) ⟨fun c=>?_,fun c=>?_⟩).mono fun e w' ⟨e1,e2,e3⟩=>⟨e1,e2,h2.trans e3.kp (fun _ _ g=>g),Kp.below h3 e3.kp h3.size (fun b hb=>(h1.iJ b hb).1)⟩
 · rw[ef,hr.2.2.1];omega
 · rw[el,hr.2.2.2];omega
 · rw[ef];have:=hf1 (KM.aM (KM.au K.aj j).aA n).loc.toNat (by rw[hr.2.2.1];omega);omega
 · rw[el];have:=hf2 (KM.aM (KM.au K.aj j).aA n).loc.toNat (by rw[hr.2.2.2];omega);omega
theorem IG (k:KM.Kn) (a:fh) (sp:Int) (w:World) (hK:cK w a k) (hF:eB k) (hsp:M.gu sp) :
  Calls Tryz.prog 42 #[.agg (aI a k),I sp] w (b6 w (fJ k sp).1 [I (fJ k sp).2]):=by
 obtain⟨WA,di⟩:=ex ((w.alloc (.cells (aI a k) 27)).alloc (.cells #[Nl,Nl,Nl,Nl,I 0] 27));have hb0:Below w.heap.size w WA:=by rw[di];exact((Below.refl _ _).alloc (Nat.le_refl _) _).alloc (by simp) _
 have kb:WA.heap[w.heap.size]?=some (.cells (aI a k) 27 (0,0)):=by rw[di];exact B.alloc (B.new w _ _) _
 have rb:WA.heap[w.heap.size+1]?=some (.cells #[Nl,Nl,Nl,Nl,I 0] 27 (0,0)):=by
  have:=B.new (w.alloc (.cells (aI a k) 27)) #[Nl,Nl,Nl,Nl,I 0] 27;rw[World.size_alloc] at this;rw[di];exact this
 have RB:Hid (∀V,Below WA.heap.size WA V->V.heap[w.heap.size+1]?=some (.cells #[Nl,Nl,Nl,Nl,I 0] 27 (0,0))):=fun V hb=>B.below rb hb (B.isLt rb)
 have KB:Hid (∀V,Below WA.heap.size WA V->V.heap[w.heap.size]?=some (.cells #[.slice a.aS k.ak.length a.cS,.slice a.aF k.frames.length a.cF,.slice a.aL k.slots.length a.cL,.slice a.aP k.aj.length a.cP,I k.hand] 27 (0,0))):=fun V hb=>B.below kb hb (B.isLt kb)
 obtain⟨k0,k1,k2,k3,k4⟩:=B.c5 (KB.o WA (Below.refl _ _));have eZ:=ai di;have bR:=ai hb0;have hrl:=B.isLt rb;have D2:=ai (ES k a sp WA (hK.below hb0) hF hsp);by_cases c:cu k sp=0
 · obtain⟨hR,qi,hj,gN⟩:=KY.gJ c;obtain⟨j,L4⟩:∃j:Nat,sp=(j:Int):=⟨sp.toNat,by omega⟩;subst L4;rw[Int.toNat_natCast] at hj gN;have hA:fJ k (j:Int)=(KM.jM k j,0):=by
    unfold fJ;rw[if_neg (fun x=>x c),Int.toNat_natCast]
   rw[hA];rw[c] at D2;have hsm:=KY.lG hR hF;have hsk:(KM.jM k j).ak=k.ak:=(KM.lO k j (fun _=>true)).1;obtain⟨es,hes⟩:=ex ((KM.au k.aj j).aA);obtain⟨nP,AJ⟩:=ex k.aj.length;have hjn:(j:Int)<(nP:Int):=by omega
   have HOW:Hid (∀V,Below WA.heap.size WA V->Calls Tryz.prog 16 #[.agg (aI a k)] V fun e w'=>∃hs S0 aS nS cS aF nF cF aL nL cL pb cP ae ce va lv,e=.returned (.agg #[.slice aS nS cS,.slice aF nF cF,.slice aL nL cL,.slice (some (Ad pb 0)) nP cP,I k.hand])/\KM.Same k.ak hs/\¬w'.heap.size=pb/\((w'.alloc (.cells #[.slice aS nS cS,.slice aF nF cF,.slice aL nL cL,.slice (some (Ad pb 0)) nP cP,I k.hand] 27)).cell? (Ad pb (j*3))=some (.bool lv)/\(w'.alloc (.cells #[.slice aS nS cS,.slice aF nF cF,.slice aL nL cL,.slice (some (Ad pb 0)) nP cP,I k.hand] 27)).cell? (Ad pb (j*3+1))=some va/\(w'.alloc (.cells #[.slice aS nS cS,.slice aF nF cF,.slice aL nL cL,.slice (some (Ad pb 0)) nP cP,I k.hand] 27)).cell? (Ad pb (j*3+2))=some (.slice ae es.length ce))/\(∀i,(w'.alloc (.cells #[.slice aS nS cS,.slice aF nF cF,.slice aL nL cL,.slice (some (Ad pb 0)) nP cP,I k.hand] 27)).frozen? (Ad pb i)=false)/\(S0.vS=.slice aS nS cS/\S0.vF=.slice aF nF cF/\S0.vL=.slice aL nL cL/\S0.vP=.slice (some (Ad pb 0)) nP cP)/\Lp WA w'.heap.size S0 (KM.aT k hs) j (rz (w'.alloc (.cells #[.slice aS nS cS,.slice aF nF cF,.slice aL nL cL,.slice (some (Ad pb 0)) nP cP,I k.hand] 27)) pb j) 0 (rz (w'.alloc (.cells #[.slice aS nS cS,.slice aF nF cF,.slice aL nL cL,.slice (some (Ad pb 0)) nP cP,I k.hand] 27)) pb j)/\(∀V,Kp (fun b=>S0.lab b≠.no) (rz (w'.alloc (.cells #[.slice aS nS cS,.slice aF nF cF,.slice aL nL cL,.slice (some (Ad pb 0)) nP cP,I k.hand] 27)) pb j) V->aZ aK 3 KM.js V ae es)):=fun V hV=>by
    refine(qG k a V (hK.below (hb0.trans (hV.mono hb0.size))) hsm).mono fun e w' ⟨S,hs,h1,h2,h3,h4⟩=>?_
    have hz:=hV.size;obtain⟨pb,cP,ae,ce,S0,p1,p2,p3,p4,p5,p6,p7,p8⟩:=Mk h3 h4.size (j:=j) hj;obtain⟨aS,nS,cS,eS⟩:∃b n d,S.vS=.slice b n d:=by obtain⟨b,d,e,_⟩:=aN h3.ak;exact⟨b,_,d,e⟩
    obtain⟨aF,nF,cF,eF⟩:∃b n d,S.vF=.slice b n d:=by obtain⟨b,d,e,_⟩:=aN h3.frames;exact⟨b,_,d,e⟩
    obtain⟨aL,nL,cL,eL⟩:∃b n d,S.vL=.slice b n d:=by obtain⟨b,d,e,_⟩:=aN h3.slots;exact⟨b,_,d,e⟩
    have eP:S.vP=.slice (some (Ad pb 0)) nP cP:=by rw[AJ];exact p1
    have hW:mP w' S (KM.aT k hs)=w'.alloc (.cells #[.slice aS nS cS,.slice aF nF cF,.slice aL nL cL,.slice (some (Ad pb 0)) nP cP,I k.hand] 27):=by
     unfold mP;rw[eS,eF,eL,eP];rfl
    rw[hW] at p3 p4 p6 p7 p8;have hbz:Below WA.heap.size WA (rz (w'.alloc (.cells #[.slice aS nS cS,.slice aF nF cF,.slice aL nL cL,.slice (some (Ad pb 0)) nP cP,I k.hand] 27)) pb j):=Kp.below (hV.trans (h4.mono hV.size)) p8 (Nat.le_trans hV.size h4.size) (fun b g=>Nat.le_trans hz g);refine⟨hs,S0,aS,nS,cS,aF,nF,cF,aL,nL,cL,pb,cP,ae,ce,_,_,by rw[h2,eS,eF,eL,eP],h1,p2,⟨p3.1,p3.2.1,by rw[hes];exact p3.2.2⟩,p4,⟨by rw[p5.1,eS],by rw[p5.2.1,eF],by rw[p5.2.2.1,eL],by rw[p5.2.2.2,eP]⟩,⟨?_,Kp.refl _ _,hbz⟩,fun V hV=>by rw[hes];exact p7 V hV⟩;exact⟨p6.toKr.mono hz,p6.head,p6.lH⟩
   have Gs:Hid (∀V n hs mb S0 WZ,KM.Same k.ak hs->Lp WA mb S0 (KM.aT k hs) j WZ n V->n<es.length->Calls Tryz.prog 81 #[.pointer (some (Ad mb 0)),.agg #[I (KM.aM es n).page,I (KM.aM es n).kind,I (KM.aM es n).loc]] V fun e w'=>e=.returned (.tuple #[])/\Lp WA mb S0 (KM.aT k hs) j WZ (n+1) w'):=fun V n hs mb S0 WZ h1 h2 h3=>by
    rw[hes];exact Tc (hR.aT h1) hj h2 (by rw[hes] at h3;exact h3)
   have kY:Hid (∀V U hs mb S0 WZ,KM.Same k.ak hs->Lp WA mb S0 (KM.aT k hs) j WZ es.length V->Kp (fun b=>b=w.heap.size+1) V U->b6 w (KM.jM k j) [I 0] (.returned (.tuple #[.agg #[S0.vS,S0.vF,S0.vL,S0.vP,I k.hand],I 0])) U):=fun V U hs mb S0 WZ h1 ⟨g1,g2,g3⟩ hU=>by
    rw[hes] at g1;have e1:=Qf (KM.aT k hs) j;have e1:KM.bZ { KM.aT k hs with aj:=(KM.aT k hs).aj.set j KM.uu } (KM.au (KM.aT k hs).aj j).aA (fun _=>true) (KM.au k.aj j).aA.length=KM.jM (KM.aT k hs) j:=e1;rw[e1,KM.ID] at g1;have ek:Below w.heap.size w V:=hb0.trans (g3.mono hb0.size);have xN:(KM.jM k j).hand=k.hand:=(KM.lO k j (fun _=>true)).2.1;exact⟨S0,hs,by rw[hsk];exact h1,by rw[xN],(g1.toKr.kp hU (fun b hb e=>by have:=(g1.iJ b hb).1;omega)).mono hb0.size,Kp.below ek hU ek.size (fun b e=>by omega)⟩
   have DX:Hid (∀V mb S0 K WZ n,Lp WA mb S0 K j WZ n V->V.heap[w.heap.size+1]?=some (.cells #[Nl,Nl,Nl,Nl,I 0] 27 (0,0))):=fun V mb S0 K WZ n h=>RB.o _ h.2.2
   obtain⟨P,hP⟩:=ex (b6 w (KM.jM k j) [I 0]);rw[<- hP] at kY;show Calls _ _ _ _ (b6 w (KM.jM k j) [I 0]);rw[<- hP];have hel:es.length<=1000000:=by rw[hes];exact hsm.aA j hj
   unfold aI at D2 HOW eZ ⊢;clear hK hF hsp hA c hP di hb0 kb rb hR gN qi hsm hsk hes hj AJ;go_enter Tryz.func42,Tryz.ntmps42;go_upto_region 1 with fail;rw[<- eZ.o];go_upto_region 4 with(go_at_call 56;refine D2.o.mono ?_;rintro e w1 ⟨rfl,hb1⟩;have bE:=ai hb1;obtain⟨k0,k1,k2,k3,k4⟩:=B.c5 (KB.o _ hb1);clear hb1)
   go_upto_region 5 with(go_at_call 16;refine(HOW.o _ bE.o).mono ?_;rintro e w4 ⟨hs,S0,aS,nS,cS,aF,nF,cF,aL,nL,cL,pb,cP,ae,ce,va,lv,rfl,hsm,hmp,⟨x0,x1,x2⟩,hfz,hsv,MS,Gf⟩;have RX:=ai hsm;have HSV:=ai hsv;have xH:=ai MS;have Al:=ai Gf;clear hsm hsv MS Gf)
   have m3:(w4.alloc (.cells #[.slice aS nS cS,.slice aF nF cF,.slice aL nL cL,.slice (some (Ad pb 0)) nP cP,I k.hand] 27)).cell? (Ad w4.heap.size 3)=some (.slice (some (Ad pb 0)) nP cP):=B.cell (B.new w4 #[.slice aS nS cS,.slice aF nF cF,.slice aL nL cL,.slice (some (Ad pb 0)) nP cP,I k.hand] 27) 3 rfl;have f0:=hfz (j*3);have f1:=hfz (j*3+1);have f2:=hfz (j*3+2);clear hfz;unfold rz at xH Al;obtain⟨W4,PF⟩:=ex (w4.alloc (.cells #[.slice aS nS cS,.slice aF nF cF,.slice aL nL cL,.slice (some (Ad pb 0)) nP cP,I k.hand] 27));obtain⟨mb,hmb⟩:=ex w4.heap.size;rw[<- PF] at x0 x1 x2 f0 f1 f2 m3 xH Al ⊢;rw[<- hmb] at m3 xH hmp ⊢;clear PF hmb;go_upto_region 7 with fail;obtain⟨WZ,hWZ⟩:=ex (((W4.setCell (Ad pb (j*3)) (.bool false)).setCell (Ad pb (j*3+1)) Nl).setCell (Ad pb (j*3+2)) Nl);rw[<- hWZ] at xH Al ⊢;clear hWZ x0 x1 x2 f0 f1 f2 m3;go_wp2;go_loopw [9] (fun iv wq=>∃n:Nat,n<=es.length/\iv=I (n:Int)/\Lp WA mb S0 (KM.aT k hs) j WZ n wq) (fun iv _=>es.length-(intOf iv).toNat)
   case atStart=>exact⟨0,by omega,rfl,xH.o⟩
   case round =>
    obtain⟨n,hn,rfl,hl⟩:=hrel;have HL:=ai hl;clear xH;by_cases hlt:n<es.length
    · have hni:(n:Int)<(es.length:Int):=by omega
      obtain⟨eb,eo,e1,e2,e3⟩:=(Al.o _ hl.2.1) (by omega);have z0:=e3 n hlt 0 (by omega);have z1:=e3 n hlt 1 (by omega);have z2:=e3 n hlt 2 (by omega);rw[Nat.add_zero] at z0;have HLQ:=ai (Gs.o _ n _ _ _ _ RX.o HL.o hlt);obtain⟨E,hE⟩:=ex (KM.aM es n);rw[show es.getD n KM.js=E from hE.symm] at z0 z1 z2;rw[<- hE] at HLQ;obtain⟨pg,kd,lc⟩:=E;replace z0:wr.cell? (Ad eb (eo+n*3))=some (I pg):=z0;replace z1:wr.cell? (Ad eb (eo+n*3+1))=some (I kd):=z1;replace z2:wr.cell? (Ad eb (eo+n*3+2))=some (I lc):=z2;simp only at HLQ;subst e1;clear hl e2 e3 hE;go_wp2_with (go_at_call 81;refine HLQ.o.mono ?_;rintro e w5 ⟨rfl,hl5⟩;have HL5:=ai hl5;clear hl5)
      go_roundw
      case rel=>exact⟨n+1,by omega,by go_num,HL5.o⟩
      case measure=>simp[intOf];omega
    · obtain rfl:es.length=n:=by omega
      have hk:=hl.1;obtain⟨v1,v2,v3,v4⟩:=HSV.o;have c0:=hk.c0;have c1:=hk.c1;have c2:=hk.c2;have c3:=hk.c3;have c4:=hk.c4;rw[v1] at c0;rw[v2] at c1;rw[v3] at c2;rw[v4] at c3;have hh:(KM.bZ { KM.aT k hs with aj:=(KM.aT k hs).aj.set j KM.uu } (KM.au (KM.aT k hs).aj j).aA (fun _=>true) es.length).hand=k.hand:=(KM.qw _ _ _ _).2.1;rw[hh] at c4;have R3:=ai (DX.o _ _ _ _ _ _ hl);obtain⟨y0,y1,y2,y3,y4⟩:=B.c5 R3.o;have f0:=B.free R3.o 0;have f1:=B.free R3.o 1;have f2:=B.free R3.o 2;have f3:=B.free R3.o 3;have f4:=B.free R3.o 4;have h5:=ai (fun V=>lI R3.o (.slice aS nS cS) (.slice aF nF cF) (.slice aL nL cL) (.slice (some (Ad pb 0)) nP cP) (I k.hand) (V:=V));have HFQ:=ai (fun U hU=>kY.o _ U _ _ _ _ RX.o HL.o hU);rw[v1,v2,v3,v4] at HFQ;clear hk hl hh v1 v2 v3 v4 HSV;go_wp2;obtain⟨r1,r2⟩:=h5.out _ rfl;obtain⟨y0,y1,y2,y3,y4⟩:=B.c5 r1;refine bodyPost_ret (v:=.tuple #[.agg #[.slice aS nS cS,.slice aF nF cF,.slice aL nL cL,.slice (some (Ad pb 0)) nP cP,I k.hand],I 0]) (by simp[results,Tryz.results42,go_sem,y0,y1,y2,y3,y4]) rfl ?_;exact HFQ.o _ r2
 · have hA:fJ k sp=(gK,cu k sp):=by unfold fJ;rw[if_pos c]
   rw[hA];have Ab:=ai D2.o;obtain⟨C,hC⟩:=ex (cu k sp);rw[<- hC] at Ab c ⊢;have cb:(C != 0)=true:=by simpa using c
   have bB:Hid (∀V,Below w.heap.size w V->b6 w gK [I C] (.returned (.tuple #[.agg #[Nl,Nl,Nl,Nl,I 0],I C])) V):=fun V hV=>iD _ hV
   obtain⟨P,hP⟩:=ex (b6 w gK [I C]);rw[<- hP] at bB ⊢;unfold aI at Ab eZ ⊢;clear hK hF hsp hA hC c hP di hb0 kb rb D2;go_enter Tryz.func42,Tryz.ntmps42;go_upto_region 1 with fail;rw[<- eZ.o];go_upto_region 3 with(go_at_call 56;refine Ab.o.mono ?_;rintro e w1 ⟨rfl,hb1⟩;have cM:=ai (bR.o.trans (hb1.mono bR.o.size));have R1:=ai (RB.o _ hb1);clear hb1)
   obtain⟨y0,y1,y2,y3,y4⟩:=B.c5 R1.o;have f0:=B.free R1.o 0;have f1:=B.free R1.o 1;have f2:=B.free R1.o 2;have f3:=B.free R1.o 3;have f4:=B.free R1.o 4;have h5:=ai (fun V=>lI R1.o Nl Nl Nl Nl (I 0) (V:=V));go_wp2;obtain⟨r1,r2⟩:=h5.out _ rfl;obtain⟨y0,y1,y2,y3,y4⟩:=B.c5 r1;refine bodyPost_ret (v:=.tuple #[.agg #[Nl,Nl,Nl,Nl,I 0],I C]) (by simp[results,Tryz.results42,go_sem,y0,y1,y2,y3,y4]) rfl ?_;exact bB.o _ (Kp.below cM.o r2 cM.o.size (fun b e=>by omega))
end KR
end Go.Proofs.YtpgifpeohlllfaaGreat
