import Derived.Test.YtlgoihmkgaaemaaGreatGP24
set_option maxHeartbeats 20000000
set_option linter.unusedVariables false
set_option maxRecDepth 100000
set_option linter.unusedSimpArgs false
namespace Go.Proofs.YtlgoihmkgaaemaaGreat
open Go.RowKit Tryz
theorem Vn:∀(l:List ko),∀u∈l.flatMap gu,u.oneCell'=true:=λl u hu=>by
 obtain⟨y,_,hy⟩:=uP.1 hu;simp[gu] at hy;rcases hy with rfl | rfl | rfl | rfl <;> rfl
theorem Vi:∀(l:List mJ),∀u∈l.flatMap gq,u.oneCell'=true:=λl u hu=>by
 obtain⟨y,_,hy⟩:=uP.1 hu;simp[gq] at hy;rcases hy with rfl | rfl <;> rfl
theorem agb:∀(l:List bD),∀u∈l.flatMap ik,u.oneCell'=true:=λl u hu=>by
 obtain⟨y,_,hy⟩:=uP.1 hu;simp[ik] at hy;rcases hy with rfl | rfl | rfl <;> rfl
theorem Vm:∀(l:List mZ),∀u∈l.flatMap jl,u.oneCell'=true:=λl u hu=>by
 obtain⟨y,_,hy⟩:=uP.1 hu;simp[jl] at hy;rcases hy with rfl | rfl <;> rfl
theorem rz {α:Type} {f:α->List Value} {n:Nat} (hf:∀x,(f x).length=n) {d:α} {w:World} {ao:Option Addr} {l:List α} (h:dE f n d w ao l):oh w ao l.length (l.flatMap f):=λhm=>by
 obtain⟨b,off,rfl,hb,hl⟩:=h hm;exact zO (w:=w) f n hf d l b off (λi hi j hj=>hl i hi j hj) hm
theorem Vj {w:World} {ao:Option Addr} {l:List bD} (h:gz w ao l):dE ik 3 zi w ao l:=λhl=>by
 obtain⟨b,off,e,hb,hi⟩:=h hl;refine⟨b,off,e,hb,λi hlt j hj=>?_⟩;obtain⟨c0,c1,c2,_⟩:=hi i hlt
 match j,hj with
 | 0,_=>exact c0
 | 1,_=>exact c1
 | 2,_=>exact c2
theorem Vl {w:World} {ao:Option Addr} {l:List mZ} (h:mS w ao l):dE jl 2 Rh w ao l:=λhl=>by
 obtain⟨b,off,e,hb,hi⟩:=h hl;refine⟨b,off,e,hb,λi hlt j hj=>?_⟩;obtain⟨c0,c1⟩:=hi i hlt
 match j,hj with
 | 0,_=>exact c0
 | 1,_=>exact c1
structure Xo (lo:Nat) (WA wx:World) (cb:Nat) (vS vF vL:Value) (hd:Int) (k:aT):Prop where
 head:wx.heap[cb]?=some (.cells #[vS,vF,vL,Nl,I hd] 30 (0,0))
 hlo:lo<=cb
 rS:wx.ownsRow lo 145 3 vS k.aD.length (k.aD.flatMap ik)
 rF:wx.ownsRow lo 169 4 vF k.frames.length (k.frames.flatMap gu)
 rL:wx.ownsRow lo 171 2 vL k.slots.length (k.slots.flatMap gq)
 d1:∀b,bN vS b->¬bN vF b/\¬bN vL b/\b≠cb
 d2:∀b,bN vF b->¬bN vL b/\b≠cb
 d3:∀b,bN vL b->b≠cb
 below:Below WA.heap.size WA wx
structure xG (lo cb:Nat) (w:World) (lab:Nat->ma) (vS vF vL:Value) (k:aT) (hs:List bD) (n:Nat):Prop where
 vD:∀b,lab b≠.no->lo<=b/\b<w.heap.size
 head:w.heap[cb]?=some (.cells #[vS,vF,vL,Nl,I k.hand] 30 (0,0))
 lH:lab cb=.head
 aD:w.ownsRow lo 145 3 vS hs.length (hs.flatMap ik)
 df:∀i,i<n->w.ownsRow lo 226 2 (AH (aZ hs i)) (aZ hs i).df.length ((aZ hs i).df.flatMap jl)
 frames:w.ownsRow lo 169 4 vF k.frames.length (k.frames.flatMap gu)
 slots:w.ownsRow lo 171 2 vL k.slots.length (k.slots.flatMap gq)
 lS:∀b,bN vS b->lab b=.aD
 lX:∀i,i<n->∀b,bN (AH (aZ hs i)) b->lab b=.df i
 lF:∀b,bN vF b->lab b=.frames
 lL:∀b,bN vL b->lab b=.slots
 same:cD k.aD hs
 rest:∀i,n<=i->aZ hs i=aZ k.aD i
structure IG (WA V:World) (L:List (Value×TypeId×Nat×Nat×List Value)) (oc:Option Nat):Prop where
 below:Below WA.heap.size WA V
 rows:∀x∈L,V.ownsRow WA.heap.size x.2.1 x.2.2.1 x.1 x.2.2.2.1 x.2.2.2.2
 cell:∀c,oc=some c->WA.heap.size<=c/\V.heap[c]?=some (.cells #[Nl,Nl,Nl,Nl,I 0] 30 (0,0))/\∀x∈L,¬bN x.1 c
 dis:L.Pairwise (λx y=>∀b,bN y.1 b->¬bN x.1 b)
variable {WA V V':World} {L:List (Value×TypeId×Nat×Nat×List Value)} {oc:Option Nat}
theorem IG.row (h:IG WA V L oc) {T:TypeId} {n m:Nat} {v:Value} {xs:List Value} (hr:V'.ownsRow V.heap.size T n v m xs) (hb:Below V.heap.size V V'):IG WA V' ((v,T,n,m,xs)::L) oc:=by
 have hs:=h.below.size;refine⟨h.below.trans (hb.mono hs),λx hx=>?_,λc hc=>?_,BH.2 ⟨λy hy b g g'=>?_,h.dis⟩⟩
 . rcases rC.1 hx with rfl | hx
   . exact oQ hr λg hg=>gj hs (hr.lt g hg).1
   exact(aI.cA (D:=λ_=>False) hb).row (h.rows x hx) (λ_ _ g=>g)
 . obtain⟨h1,h2,h3⟩:=h.cell c hc;refine⟨h1,aO h2 hb (aM h2),λx hx g=>?_⟩;rcases rC.1 hx with rfl | hx
   . have:=(hr.lt c g).1;have:=aM h2;omega
   exact h3 x hx g
 have:=((h.rows y hy).lt b g).2;have:=(hr.lt b g').1;omega
theorem IG.new (h:IG WA V L none):∃V1 b,V.alloc (.cells #[Nl,Nl,Nl,Nl,I 0] 30)=V1/\V.heap.size=b/\IG WA V1 L (some b):=by
 refine⟨_,_,rfl,rfl,h.below.alloc h.below.size _,λx hx=>(aI.alloc (λ_=>False) _ _).row (h.rows x hx) (λ_ _ g=>g),λc hc=>?_,h.dis⟩;obtain rfl:V.heap.size=c:=by simpa using hc
 exact⟨h.below.size,bG V _ _,λx hx g=>Nat.lt_irrefl _ ((h.rows x hx).lt _ g).2⟩
theorem IG.four {cb:Nat} {vS vF vL:Value} {k:aT} (hd:Int) (h:IG WA V [(vL,171,2,k.slots.length,k.slots.flatMap gq),(vF,169,4,k.frames.length,k.frames.flatMap gu),(vS,145,3,k.aD.length,k.aD.flatMap ik)] (some cb)) :
  Xo WA.heap.size WA (((((V.setCell (Ad cb 0) vS).setCell (Ad cb 1) vF).setCell (Ad cb 2) vL).setCell (Ad cb 3) Nl).setCell (Ad cb 4) (I hd)) cb vS vF vL hd k:=by
 obtain⟨h1,h2,h3⟩:=h.cell cb rfl;have k1:∀(A:World) (j:Nat) (v:Value),aI (λb=>b=cb) A (A.setCell (Ad cb j) v):=λA j v=>aI.set _ A (Ad cb j) v rfl
 have kp:=((((k1 V 0 vS).trans (k1 _ 1 vF) (λ_ _ g=>g)).trans (k1 _ 2 vL) (λ_ _ g=>g)).trans (k1 _ 3 Nl) (λ_ _ g=>g)).trans (k1 _ 4 (I hd)) (λ_ _ g=>g);have hd:=h.dis;have hw:=λx hx=>kp.row (h.rows x hx) (λb hb e=>by subst e;exact(h.cell _ rfl).2.2 x hx hb)
 simp only[BH,rC,zF,forall_eq_or_imp,forall_eq,Hf] at hd h3 hw;exact⟨dm (dm (dm (dm (dm h2 0 _) 1 _) 2 _) 3 _) 4 _,h1,hw.2.2,hw.2.1,hw.1,Γ,Γ,Γ,aI.below h.below kp h.below.size (λb e=>ω)⟩
theorem ade {lo:Nat} {WA w:World} {cb:Nat} {vS vF vL:Value} {k:aT} (h:Xo lo WA w cb vS vF vL k.hand k):∃lab,xG lo cb w lab vS vF vL k k.aD 0:=by
 refine⟨λb=>if b=cb then .head else if vS.ownBlock=some b then .aD else if vF.ownBlock=some b then .frames else if vL.ownBlock=some b then .slots else .no,⟨λb hb=>?_,h.head,aQ rfl,h.rS,λi hi=>absurd hi (gY _),h.rF,h.rL,λb hb=>?_,λi hi=>absurd hi (gY _),λb hb=>?_,λb hb=>?_,rfl,λi hi=>rfl⟩⟩
 . by_cases c0:b=cb
   . rw[c0];exact⟨h.hlo,aM h.head⟩
   by_cases c1:vS.ownBlock=some b
   . exact h.rS.lt b c1
   by_cases c2:vF.ownBlock=some b
   . exact h.rF.lt b c2
   by_cases c3:vL.ownBlock=some b
   . exact h.rL.lt b c3
   grind
 . have q:vS.ownBlock=some b:=hb;have:=h.d1 b hb
   grind
 . have q:vF.ownBlock=some b:=hb;have:=h.d2 b hb;rw[aH this.2,aH (show ¬vS.ownBlock=some b from λx=>(h.d1 b x).1 hb),aQ q]
 have q:vL.ownBlock=some b:=hb;have:=h.d3 b hb;rw[aH this,aH (show ¬vS.ownBlock=some b from λx=>(h.d1 b x).2.1 hb),aH (show ¬vF.ownBlock=some b from λx=>(h.d2 b x).1 hb),aQ q]
theorem xG.kp {lo cb:Nat} {w w':World} {lab:Nat->ma} {vS vF vL:Value} {k:aT} {hs:List bD} {n:Nat} (h:xG lo cb w lab vS vF vL k hs n) {E:Nat->Prop} (hk:aI E w w') (he:∀b,lab b≠.no->¬E b):xG lo cb w' lab vS vF vL k hs n:=by
 have z:∀{b:Nat} {c:ma},lab b=c->c≠.no->¬E b:=λe hc=>he _ Γ
 exact⟨λb hb=>⟨(h.vD b hb).1,gm (h.vD b hb).2 hk.size⟩,hk.keep h.head (z h.lH ξ),h.lH,hk.row h.aD (λb hb=>z (h.lS b hb) ξ),λi hi=>hk.row (h.df i hi) (λb hb=>z (h.lX i hi b hb) ξ),hk.row h.frames (λb hb=>z (h.lF b hb) ξ),hk.row h.slots (λb hb=>z (h.lL b hb) ξ),h.lS,h.lX,h.lF,h.lL,h.same,h.rest⟩
theorem xG.below {lo cb:Nat} {w w':World} {lab:Nat->ma} {vS vF vL:Value} {k:aT} {hs:List bD} {n:Nat} (h:xG lo cb w lab vS vF vL k hs n) (hb:Below w.heap.size w w'):xG lo cb w' lab vS vF vL k hs n:=h.kp (aI.cA (D:=λ_=>False) hb) (λ_ _ g=>g)
theorem F9 (l:List bD) (i m:Nat) (x:bD) (hi:i<l.length):aZ (l.set i x) m=if i=m then x else aZ l m:=by
 grind [aZ]
theorem Lj:∀(l:List bD) (i:Nat) (x:bD),i<l.length->eD x=eD (aZ l i)->(l.set i x).map eD=l.map eD
 | [],i,x,hi,_=>absurd hi (gY _)
 | a::r,0,x,hi,e=>by
  show eD x::_=eD a::_;rw[e];rfl
 | a::r,i+1,x,hi,e=>by
  show eD a::(r.set i x).map eD=eD a::_;rw[Lj r i x (BG hi) e]
theorem xG.step {lo cb:Nat} {w w1:World} {lab:Nat->ma} {vF vL:Value} {k:aT} {hs:List bD} {n:Nat} {sb m cS:Nat} {ax:Option Addr} {cx:Nat} (h:xG lo cb w lab (.slice (some (Ad sb 0)) m cS) vF vL k hs n) (hn:n<hs.length) (hlo:lo<=w.heap.size) (hb:Below w.heap.size w w1)
  (hr:w1.ownsRow w.heap.size 226 2 (.slice ax (aZ hs n).df.length cx) (aZ hs n).df.length ((aZ hs n).df.flatMap jl)) :
  ∃lab',xG lo cb (w1.setCell (Ad sb (n*3+2)) (.slice ax (aZ hs n).df.length cx)) lab' (.slice (some (Ad sb 0)) m cS) vF vL k (hs.set n ⟨(aZ hs n).page,(aZ hs n).data,(aZ hs n).df,ax,cx⟩) (n+1)/\∀b,b<w.heap.size->lab' b=lab b:=by
 have h1:=h.below hb;obtain⟨v,hv⟩:∃v:Value,v=.slice ax (aZ hs n).df.length cx:=⟨_,rfl⟩;rw[<- hv] at hr ⊢;have O8:lab sb=.aD:=h.lS sb rfl;have nJ:aI (λb=>b=sb) w1 (w1.setCell (Ad sb (n*3+2)) v):=aI.set _ _ _ _ rfl;have z:∀{b:Nat} {c:ma},lab b=c->c≠.aD->¬b=sb:=λe hc x=>hc Γ
 have ev:∀b,bN v b->w.heap.size<=b/\b<w1.heap.size:=λb hx=>hr.lt b hx
 have q:∀b,b<w.heap.size->(if v.ownBlock=some b then ma.df n else lab b)=lab b:=λb hl=>aH λx=>by have:=ev b x;omega
 have o2:∀b c,lab b=c->c≠.no->(if v.ownBlock=some b then ma.df n else lab b)=c:=λb c e hc=>by
  rw[q b (h.vD b Γ).2,e]
 have hm:m=hs.length:=by
  obtain⟨ao,c,e,_⟩:=bh h.aD
  grind
 subst hm;have y:(w1.setCell (Ad sb (n*3+2)) v).heap.size=w1.heap.size:=by simp
 refine⟨λb=>if v.ownBlock=some b then .df n else lab b,⟨λb hx=>?_,nJ.keep h1.head (z h.lH ξ),o2 cb _ h.lH ξ,?_,λi hi=>?_,nJ.row h1.frames (λb hx=>z (h.lF b hx) ξ),nJ.row h1.slots (λb hx=>z (h.lL b hx) ξ),λb hx=>o2 b _ (h.lS b hx) ξ,λi hi b hx=>?_,λb hx=>o2 b _ (h.lF b hx) ξ,λb hx=>o2 b _ (h.lL b hx) ξ,?_,λi hi=>?_⟩,q⟩
 . rw[y];by_cases c:v.ownBlock=some b
   . have:=ev b c;omega
   have hx:(if v.ownBlock=some b then ma.df n else lab b)≠.no:=hx;rw[aH c] at hx;exact h1.vD b hx
 . have r:=fI h1.aD (n*3+2) v;rw[<- kW ik 3 (λ_=>rfl) zi ⟨(aZ hs n).page,(aZ hs n).data,(aZ hs n).df,ax,cx⟩ 2 v ω hs n hn (by rw[hv];rfl)] at r
   grind
 . rw[F9 _ _ _ _ hn];by_cases c:n=i
   . rw[aQ c];show World.ownsRow _ lo _ 2 (.slice ax (aZ hs n).df.length cx) _ _
     grind [oQ,aI.row,vD]
   rw[aH c];exact nJ.row (h1.df i ω) (λb hx=>z (h.lX i ω b hx) ξ)
 . rw[F9 _ _ _ _ hn] at hx;by_cases c:n=i
   . rw[aQ c] at hx;have hx:bN (.slice ax (aZ hs n).df.length cx) b:=hx;rw[<- hv] at hx;show(if v.ownBlock=some b then ma.df n else lab b)=_;rw[aQ (show v.ownBlock=some b from hx),c]
   grind [lX]
 . show List.map eD _=_;exact(Lj hs n ⟨(aZ hs n).page,(aZ hs n).data,(aZ hs n).df,ax,cx⟩ hn rfl).trans h.same
 grind [F9,rest]
theorem xG.done {lo cb:Nat} {w:World} {lab:Nat->ma} {vS vF vL:Value} {k:aT} {hs:List bD} (h:xG lo cb w lab vS vF vL k hs hs.length):bO lo cb 30 [] w ⟨lab,vS,vF,vL,Nl,[]⟩ (aV ⟨k.aD,k.frames,k.slots,k.aj.take 0,k.hand⟩ hs) :=
 ⟨⟨h.vD,h.aD,h.df,h.frames,h.slots,nt _ _ _ _,rfl,λi hi=>absurd hi (gY _),h.lS,h.lX,h.lF,h.lL,(λb hb=>by cases hb),λi hi=>absurd hi (gY _),λi hi=>absurd hi (gY _)⟩,h.head,h.lH⟩
open Go.RowKit Tryz
theorem VS:(prog.info? 99).map (λi=>(i.zero,i.size,i.bytes))=some (some (.agg #[.bool false,Nl,Nl]),3,56):=by rfl
section
variable {P:Program} {T E K B:Nat} {Z:Value} (ht:P.underlying T=some (.slice E)) (hI:(P.info? E).map (λi=>(i.zero,i.size,i.bytes))=some (some Z,K,B)) (hZ:Z.cells.size=K) (hK:0<K)
include ht hI hZ hK
theorem YW {o:Oper} {a:Act} {w:World} {K':Act->World->Prop} {Q:Exit->Act->World->Prop} (s x:Operand)
  (ho:o.op=.call { callee:=.builtin .append,args:=#[s,x],argTypes:=#[T,T] })
  (base:Nat) (v:Value) (n:Nat) (xs:List Value) (hs:a.eval s=v) (hown:w.ownsRow base E K v n xs)
  (ao:Option Addr) (m c:Nat) (news:List Value) (hx:a.eval x=.slice ao m c) (hl:news.length=m*K) (hnews:0<m->∃ad,ao=some ad/\∀j u,news[j]?=some u->w.cell? (ad.add j)=some u) (h1:∀u∈news,u.oneCell'=true)
  (h63:n+m<=maxLen) (hbytes:(n+m)*B<=140737488355328) (hbase:base<=w.heap.size)
  (h:∀v' w',w'.ownsRow base E K v' (n+m) (xs++news)->w.grownBy w' v.ownBlock->(v'.ownBlock=v.ownBlock\/v'.ownBlock=some w.heap.size)->K' (a.put o.dst v') w'):o.wp P a w K' Q:=by
 obtain⟨i,h0,b,h2,h3⟩:=mQ hI;exact qZ s x T ho base E i Z K B ht h0 b h2 h3 hZ hK v n xs hs hown ao m c news hx hl hnews h1 h63 hbytes hbase h
theorem YX {ops:Array Oper} {rest:List Oper} {o:Oper} {a:Act} {w:World} {Q:Exit->Act->World->Prop} (hgd:o.guard=none) (s x:Operand)
  (ho:o.op=.call { callee:=.builtin .append,args:=#[s,x],argTypes:=#[T,T] })
  (base:Nat) (v:Value) (n:Nat) (xs:List Value) (hs:a.eval s=v) (hown:w.ownsRow base E K v n xs)
  (ao:Option Addr) (m c:Nat) (news:List Value) (hx:a.eval x=.slice ao m c) (hl:news.length=m*K) (hnews:0<m->∃ad,ao=some ad/\∀j u,news[j]?=some u->w.cell? (ad.add j)=some u) (h1:∀u∈news,u.oneCell'=true)
  (h63:n+m<=maxLen) (hbytes:(n+m)*B<=140737488355328) (hbase:base<=w.heap.size)
  (h:∀v' w',w'.ownsRow base E K v' (n+m) (xs++news)->w.grownBy w' v.ownBlock->(v'.ownBlock=v.ownBlock\/v'.ownBlock=some w.heap.size)->wpList P ops Q rest (a.put o.dst v') w'):wpList P ops Q (o::rest) a w :=
 wpList_plain hgd λ_ hK'=>YW ht hI hZ hK s x ho base v n xs hs hown ao m c news hx hl hnews h1 h63 hbytes hbase λv' w' h2 h3 h4=>hK' _ _ (h v' w' h2 h3 h4)
end
abbrev YY:=@YW prog 22 139 _ _ _ underlying22 VY rfl Δ
abbrev als:=@YW prog 97 174 _ _ _ underlying97 DJ rfl Δ
abbrev aly:=@YX prog 26 169 _ _ _ underlying26 VX rfl Δ
abbrev alu:=@YX prog 27 171 _ _ _ underlying27 VT rfl Δ
abbrev alv:=@YX prog 23 145 _ _ _ underlying23 VU rfl Δ
abbrev alx:=@YX prog 143 226 _ _ _ underlying143 VW rfl Δ
abbrev afD:=@YW prog 28 99 _ _ _ underlying28 VS rfl Δ
open Go.RowKit Tryz
theorem xG.at_ {lo cb:Nat} {w:World} {lab:Nat->ma} {aS:Option Addr} {m cS:Nat} {vF vL:Value} {k:aT} {hs:List bD} {n:Nat} (h:xG lo cb w lab (.slice aS m cS) vF vL k hs n) (hn:n<k.aD.length) :
  ∃sb,aS=some (Ad sb 0)/\¬cb=sb/\sb<w.heap.size/\w.cell? (Ad cb 0)=some (.slice aS m cS)/\w.cell? (Ad sb (n*3))=some (I (aZ k.aD n).page)/\w.cell? (Ad sb (n*3+1))=some (.string (aZ k.aD n).data)/\w.cell? (Ad sb (n*3+2))=some (.slice (aZ k.aD n).ao (aZ k.aD n).df.length (aZ k.aD n).cap)/\∀j,w.frozen? (Ad sb j)=false:=by
 have hl:=h.same.len;obtain⟨ao,cap,e,hc,hg⟩:=bh h.aD;injection e with e1 e2 e3;subst e1 e2 e3;obtain⟨g,rfl,q,b⟩:=hg ω;have at_:=λj (hj:j<3)=>kF ik (λ_=>rfl) zi h.aD n j ω hj
 have er:hs.getD n zi=aZ k.aD n:=h.rest n (aJ _);rw[er] at at_;exact⟨g,rfl,λe=>by have:=h.lS g rfl;grind [lH],b,aA h.head 0 rfl,at_ 0 ω,at_ 1 ω,at_ 2 ω,iN h.aD⟩
theorem Vk (w:World) (xs:List Value) (e:TypeId):∀j u,xs[j]?=some u->(w.alloc (.cells xs.toArray e)).cell? (((Ad w.heap.size 0):Addr).add j)=some u:=λj u hu=>by
 grind [Addr.add_lit,aA,bG]
theorem Ro (l:List cZ) (m:Nat) (h:m<l.length):l.take (m+1)=l.take m++[ak l m]:=by
 grind [List.take_add_one,ak]
theorem Rq (k:aT) (a:gN) (w:World) (hK:iB w a k) (hs:Dx k) :
  Calls prog 79 #[.agg (bj a k)] w (zN w k):=by
 obtain⟨P,hP⟩:=ex (zN w k);rw[<- hP];have HP:=ai hP;clear hP;have ba:=ai hK.aj;have Me:=ai (rz (f:=ik) (n:=3) (λ_=>rfl) (Vj hK.aD));have JV:=ai (rz (f:=gu) (n:=4) (λ_=>rfl) hK.frames);have bn:=ai (rz (f:=gq) (n:=2) (λ_=>rfl) hK.slots);obtain⟨WA,lQ⟩:=ex ((w.alloc (.cells (bj a k) 30)).alloc (.cells #[Nl,Nl,Nl,Nl,I 0] 30));have jo:Hid (Below w.heap.size w WA):=by rw[lQ];exact((aN _ _).alloc (aJ _) _).alloc ξ _
 have KB:Hid (WA.heap[w.heap.size]?=some (.cells (bj a k) 30 (0,0))):=by rw[lQ];exact bB (bG w _ _) _
 have RB:Hid (WA.heap[w.heap.size+1]?=some (.cells #[Nl,Nl,Nl,Nl,I 0] 30 (0,0))):=by
  grind [World.alloc]
 have HS:Hid (∀V,Below WA.heap.size WA V->V.cell? (Ad w.heap.size 0)=some (.slice a.aS k.aD.length a.cS)/\V.cell? (Ad w.heap.size 1)=some (.slice a.aF k.frames.length a.cF)/\V.cell? (Ad w.heap.size 2)=some (.slice a.aL k.slots.length a.cL)/\V.cell? (Ad w.heap.size 4)=some (I k.hand)):=λV hb=>by
  have h1:=aO KB.o hb (aM KB.o);exact⟨aA h1 0 rfl,aA h1 1 rfl,aA h1 2 rfl,aA h1 4 rfl⟩
 have ay:Hid (∀V,Below WA.heap.size WA V->Calls prog 131 #[.slice a.aS k.aD.length a.cS] V λe w'=>∃ad c,e=.returned (.slice ad k.aD.length c)/\w'.ownsRow V.heap.size 145 3 (.slice ad k.aD.length c) k.aD.length (k.aD.flatMap ik)/\Below V.heap.size V w'):=λV hV=>(aep _ _ _ _ V (eV ik 3 (λ_=>rfl) k.aD) (Me.o.below (jo.o.trans (hV.mono jo.o.size))) (agb _) hs.aD).mono λe w' ⟨v,h1,h2,h3⟩=>by
  grind [bh]
 have au:Hid (∀V,Below WA.heap.size WA V->Calls prog 132 #[.slice a.aF k.frames.length a.cF] V λe w'=>∃ad c,e=.returned (.slice ad k.frames.length c)/\w'.ownsRow V.heap.size 169 4 (.slice ad k.frames.length c) k.frames.length (k.frames.flatMap gu)/\Below V.heap.size V w'):=λV hV=>(aet _ _ _ _ V (eV gu 4 (λ_=>rfl) k.frames) (JV.o.below (jo.o.trans (hV.mono jo.o.size))) (Vn _) hs.frames).mono λe w' ⟨v,h1,h2,h3⟩=>by
  grind [bh]
 have VM:Hid (∀V,Below WA.heap.size WA V->Calls prog 133 #[.slice a.aL k.slots.length a.cL] V λe w'=>∃ad c,e=.returned (.slice ad k.slots.length c)/\w'.ownsRow V.heap.size 171 2 (.slice ad k.slots.length c) k.slots.length (k.slots.flatMap gq)/\Below V.heap.size V w'):=λV hV=>(aeo _ _ _ _ V (eV gq 2 (λ_=>rfl) k.slots) (bn.o.below (jo.o.trans (hV.mono jo.o.size))) (Vi _) hs.slots).mono λe w' ⟨v,h1,h2,h3⟩=>by
  grind [bh]
 have aE:Hid (∀V n,Below w.heap.size w V->n<k.aD.length->oh V (aZ k.aD n).ao (aZ k.aD n).df.length ((aZ k.aD n).df.flatMap jl)/\(aZ k.aD n).df.length<=1000000):=λV n hb hn=>by
  obtain⟨b,off,_,_,hi⟩:=hK.aD ω;have h4:mS w (aZ k.aD n).ao (aZ k.aD n).df:=(hi n hn).2.2.2;exact⟨rz (f:=jl) (n:=2) (λ_=>rfl) (Vl (h4.below hb)),hs.df n hn⟩
 have ot:=ai lQ;unfold bj at ot ⊢;clear lQ hK;go_enter func79,ntmps79;go_upto_region 1 with fail;rw[<- ot.o];go_cut [3] (λx3 wx=>∃cb aS cS aF cF aL cL,x3=.pointer (some (Ad cb 0))/\Xo WA.heap.size WA wx cb (.slice aS k.aD.length cS) (.slice aF k.frames.length cF) (.slice aL k.slots.length cL) k.hand k)
 case first =>
  refine uj (S:=λV=>V.cell? (Ad w.heap.size 0)=some (.slice a.aS k.aD.length a.cS)/\V.cell? (Ad w.heap.size 1)=some (.slice a.aF k.frames.length a.cF)/\V.cell? (Ad w.heap.size 2)=some (.slice a.aL k.slots.length a.cL)/\V.cell? (Ad w.heap.size 4)=some (I k.hand)) (z:=13) ρ ?_;have xB:=ai (aN WA.heap.size WA).drew;generalize WA.drew=WD at xB ⊢;have o5:=ai (HS.o _ xB.o);refine Mm 0 o5.o ?_;refine lO 1 o5.o ?_;refine Mm 3 o5.o ?_;refine lO 4 o5.o ?_;refine lO 6 o5.o ?_;refine lO 7 o5.o ?_;refine lO 9 o5.o ?_;refine lO 10 o5.o ?_;have G:Hid (IG WA WD [] none):=⟨xB.o,ξ,ξ,.nil⟩;clear o5;apply agL (H:=λ(V:World) (cb:Nat) (a1:Option Addr) (c1:Nat) (a2:Option Addr) (c2:Nat) (a3:Option Addr) (c3:Nat)=>IG WA V [(.slice a3 k.slots.length c3,171,2,k.slots.length,k.slots.flatMap gq),(.slice a2 k.frames.length c2,169,4,k.frames.length,k.frames.flatMap gu),(.slice a1 k.aD.length c1,145,3,k.aD.length,k.aD.flatMap ik)] (some cb))
  . intro a8
    repeat' (first
     | refine gS (rs:=[2,12]) (by decide +kernel) ξ (b7.cons rfl (λK hK=>?_) (b7.cons rfl (λK hK=>?_) b7.nil))
     | refine gS (rs:=[5,12]) (by decide +kernel) ξ (b7.cons rfl (λK hK=>?_) (b7.cons rfl (λK hK=>?_) b7.nil))
     | refine gS (rs:=[8,12]) (by decide +kernel) ξ (b7.cons rfl (λK hK=>?_) (b7.cons rfl (λK hK=>?_) b7.nil))
     | refine A8 2 (λK hK=>?_) (hr:=by decide +kernel)
     | refine A8 5 (λK hK=>?_) (hr:=by decide +kernel)
     | refine A8 8 (λK hK=>?_) (hr:=by decide +kernel)
     | refine A8 12 (λK hK=>?_) (hr:=by decide +kernel)
     | refine lO 11 (HS.o _ G.o.below) ?_ (hr:=by decide +kernel)
     | (rw[aQ ρ];go_simp;(first | (go_at_call 131;refine(ay.o _ G.o.below).mono ?_) | (go_at_call 132;refine(au.o _ G.o.below).mono ?_) | (go_at_call 133;refine(VM.o _ G.o.below).mono ?_));rintro e w1 ⟨a1,c1,rfl,h1,h2⟩;have G:=ai (G.o.row h1 h2);clear h1 h2;try go_simp
        refine hK.out _ _ (λ_=>HS.o _ G.o.below) ?_;clear hK K)
     | (go_simp;obtain⟨V1,b1,hV,hb,g⟩:=G.o.new;rw[hV,hb];have G:=ai g;clear hV hb g;refine hK.out _ _ (λ_=>HS.o _ G.o.below) ?_;clear hK K))
    all_goals (have:=a8 _ _ _ _ _ _ _ _ G.o;exact this)
  rintro V cb a1 c1 a2 c2 a3 c3 g;have G:=ai g;have HZ:=ai (g.cell cb rfl).2.1;clear g;have z:=kj HZ.o;have f:=br HZ.o;refine A8 13 λK hK=>?_
  go_simp;refine hK.out _ _ (λg=>absurd rfl g) ?_;refine Ab ρ ?_ _;go_wp2_with fail;go_meet
  case rel=>exact⟨_,a1,c1,a2,c2,a3,c3,rfl,G.o.four _⟩
 case rest =>
  obtain⟨cb,aS,cS,aF,cF,aL,cL,rfl,T⟩:=hcut;have dz:=ai T.below;have ag:Hid (∃lab,xG WA.heap.size cb wc lab (.slice aS k.aD.length cS) (.slice aF k.frames.length cF) (.slice aL k.slots.length cL) k k.aD 0):=ade T;have c0:wc.cell? (Ad cb 0)=some (.slice aS k.aD.length cS):=aA T.head 0 rfl;clear T;have bt:=hs.aD;go_wp2;go_loopw [23] (λiv wq=>∃n:Nat,∃lab hs',n<=k.aD.length/\iv=I (n:Int)/\xG WA.heap.size cb wq lab (.slice aS k.aD.length cS) (.slice aF k.frames.length cF) (.slice aL k.slots.length cL) k hs' n/\Below WA.heap.size WA wq) (λiv _=>k.aD.length-(intOf iv).toNat)
  case atStart =>
   grind [Hid.o]
  case round =>
   obtain⟨n,lab,hs',hn,rfl,r,ov⟩:=hrel;by_cases hlt:n<k.aD.length
   . have bz:(n:Int)<(k.aD.length:Int):=by omega
     obtain⟨sb,rfl,aw,bx,d0,x0,x1,x2,fz⟩:=r.at_ hlt;have bd:=r.same.len;have hlo:WA.heap.size<=wr.heap.size:=ov.size;have b9:WA.heap.size<=sb:=(r.vD sb (by rw[r.lS sb rfl];simp)).1;have er:aZ hs' n=aZ k.aD n:=r.rest n (aJ _);have a9:cb<wr.heap.size:=aM r.head;have Z:=aE.o wr n (jo.o.trans (ov.mono jo.o.size)) hlt;obtain⟨sh,W⟩:=ex (aZ k.aD n);rw[<- W] at x0 x1 x2 Z er;obtain⟨pg,dt,fx,ao,cp⟩:=sh;simp only at x0 x1 x2 Z;obtain⟨Qt,an⟩:=Z;obtain⟨WL,F⟩:=ex (wr.alloc (.cells #[I pg,.string dt,.slice ao fx.length cp] 145));have y:Below wr.heap.size wr WL:=by grind [Below.refl,Below.alloc]
     have BL:WL.heap[wr.heap.size]?=some (.cells #[I pg,.string dt,.slice ao fx.length cp] 145 (0,0)):=by grind [bG]
     have ae:Hid (∀V,Below WL.heap.size WL V->Calls prog 134 #[.slice ao fx.length cp] V λe w'=>∃ax cx,e=.returned (.slice ax fx.length cx)/\(w'.cell? (Ad cb 0)=some (.slice (some (Ad sb 0)) k.aD.length cS)/\w'.cell? (Ad wr.heap.size 2)=some (.slice ao fx.length cp))/\((w'.setCell (Ad sb (n*3+2)) (.slice ax fx.length cx)).cell? (Ad cb 0)=some (.slice (some (Ad sb 0)) k.aD.length cS)/\(w'.setCell (Ad sb (n*3+2)) (.slice ax fx.length cx)).cell? (Ad wr.heap.size 2)=some (.slice ao fx.length cp))/\w'.cell? (Ad sb (n*3+2))=some (.slice ao fx.length cp)/\w'.frozen? (Ad sb (n*3+2))=false/\(∃lab' atb,xG WA.heap.size cb (w'.setCell (Ad sb (n*3+2)) (.slice ax fx.length cx)) lab' (.slice (some (Ad sb 0)) k.aD.length cS) (.slice aF k.frames.length cF) (.slice aL k.slots.length cL) k atb (n+1))/\Below WA.heap.size WA (w'.setCell (Ad sb (n*3+2)) (.slice ax fx.length cx))):=λV hV=>(aes ao fx.length cp (fx.flatMap jl) V (eV jl 2 (λ_=>rfl) fx) (Qt.below (y.trans (hV.mono y.size))) (Vm _) an).mono λe w' ⟨v,h1,h2,h3⟩=>by
      obtain⟨ax,cx,rfl,_⟩:=bh h2;have U:Below WL.heap.size WL w':=hV.trans (h3.mono hV.size);have am:=r.below y;have bp:=am.below U;have bv:=oQ (base':=WL.heap.size) h2 (λg hg=>gj hV.size (h2.lt g hg).1);obtain⟨bE,e2,_,bX,d2,_,_,y2,b5⟩:=bp.at_ hlt;injection e2 with e2;injection e2 with e2 _ _;subst e2;rw[<- W] at y2;obtain⟨lab',N,_⟩:=am.step (n:=n) (ax:=ax) (cx:=cx) ω (gj hlo y.size) U Γ;rw[er] at N;have xl:w'.cell? (Ad wr.heap.size 2)=some (.slice ao fx.length cp):=aA (aO BL U (aM BL)) 2 rfl;have Tf:=(ov.trans (y.mono hlo)).trans (U.mono (gj hlo y.size));have QI:¬wr.heap.size=sb:=λe=>by omega
      exact⟨ax,cx,h1,⟨d2,xl⟩,⟨(cN _ _ _ _ _ _ aw).trans d2,(cN _ _ _ _ _ _ QI).trans xl⟩,y2,b5 _,⟨lab',_,N⟩,aI.below Tf (aI.set (λb=>b=sb) w' (Ad sb (n*3+2)) _ rfl) Tf.size (λb e=>ω)⟩
     have a0:=ai F;have VF:Hid (WL.drew.cell? (Ad cb 0)=some (.slice (some (Ad sb 0)) k.aD.length cS)/\WL.drew.cell? (Ad wr.heap.size 2)=some (.slice ao fx.length cp)):=⟨(y.drew.cell (p:=(Ad cb 0)) a9).trans d0,aA (aO BL (aN _ _).drew (aM BL)) 2 rfl⟩;have b6:=ai (aN WL.heap.size WL).drew;clear r ov Qt an er W F y BL bd hlo b9 ag dz fz a9;go_upto_region 5 with fail;rw[<- a0.o]
     go_region_held3 (λV=>V.cell? (Ad cb 0)=some (.slice (some (Ad sb 0)) k.aD.length cS)/\V.cell? (Ad wr.heap.size 2)=some (.slice ao fx.length cp)) (first | exact Fq.o | exact VF.o | exact ac.o)
      ((go_at_call 134;refine(ae.o _ b6.o).mono ?_;rintro e w5 ⟨ax,cx,rfl,s3,s4,y2,f2,N,Tf⟩;have Fq:=ai s3;have ac:=ai s4;have bs:=ai N;have c7:=ai Tf;clear s3 s4 N Tf))
     all_goals clear VF Fq ac ae
     all_goals go_wp2
     grind [intOf,Hid.o]
   obtain rfl:n=k.aD.length:=by omega
   have al:Hid (bO WA.heap.size cb 30 [] wr ⟨lab,.slice aS k.aD.length cS,.slice aF k.frames.length cF,.slice aL k.slots.length cL,Nl,[]⟩ (aV ⟨k.aD,k.frames,k.slots,k.aj.take 0,k.hand⟩ hs')):=xG.done (by rw[r.same.len];exact r);have ab:=ai r.same;have iI:=ai ov;have q3:wr.cell? (Ad w.heap.size 3)=some (.slice a.aP k.aj.length a.cP):=aA (aO KB.o ov (aM KB.o)) 3 rfl;have J9:=hs.aj;clear r ov ag dz;go_wp2;go_loopw [40] (λiv wq=>∃m:Nat,∃S J,m<=k.aj.length/\iv=I (m:Int)/\cD k.aD J/\bO WA.heap.size cb 30 [] wq S (aV ⟨k.aD,k.frames,k.slots,k.aj.take m,k.hand⟩ J)/\Below WA.heap.size WA wq) (λiv _=>k.aj.length-(intOf iv).toNat)
   case atStart=>grind [Hid.o]
   case round =>
    obtain⟨m,S,J,hm,rfl,B,mL,ov⟩:=hrel;by_cases Am:m<k.aj.length
    . have c6:(m:Int)<(k.aj.length:Int):=by omega
      obtain⟨pb,po,b3,X,Td⟩:=ba.o ω;obtain⟨va,ap,cp,v0,v1,v2,ZV,ZU,_⟩:=Td m Am;have Tp:=ZV;obtain⟨aa,ca,Ec,_⟩:=ZV;subst Ec;have A:Below w.heap.size w wr:=jo.o.trans (ov.mono jo.o.size);have z0:=(A.cell (p:=(Ad pb (po+m*3))) X).trans v0;have z1:=(A.cell (p:=(Ad pb (po+m*3+1))) X).trans v1;have z2:=(A.cell (p:=(Ad pb (po+m*3+2))) X).trans v2;have Q:=hs.bu m Am;have R:=hs.bl m Am;have a5:=Ro k.aj m Am;generalize ak k.aj m=sp at z0 z1 z2 Q R a5 Tp ZU;obtain⟨lv,xy,xx⟩:=sp;simp only at z0 z1 z2 Q R Tp ZU;obtain⟨bP,dP,eP,_⟩:=bh mL.aj;have bA:S.L.length<=1000000:=by have:=mL.len;grind [aV]
      obtain⟨WL,F⟩:=ex (wr.alloc (.cells #[.bool lv,.slice aa xy.length ca,.slice ap xx.length cp] 99));have y:Below wr.heap.size wr WL:=by grind [Below.refl,Below.alloc]
      have BL:WL.heap[wr.heap.size]?=some (.cells #[.bool lv,.slice aa xy.length ca,.slice ap xx.length cp] 99 (0,0)):=by grind [bG]
      have ZX:Below wr.heap.size wr WL.drew:=y.drew;have BD:WL.drew.heap[wr.heap.size]?=some (.cells #[.bool lv,.slice aa xy.length ca,.slice ap xx.length cp] 99 (0,0)):=aO BL (aN _ _).drew (aM BL);have a0:=ai F;obtain⟨WD,Y⟩:=ex WL.drew;rw[<- Y] at ZX BD;have bb:=ai Y;have M:=mL.below ZX;have aH:WA.heap.size<=WD.heap.size:=gj ov.size ZX.size;have aC:Hid (Calls prog 135 #[.agg #[.bool lv,.slice aa xy.length ca,.slice ap xx.length cp]] WD λe w'=>∃xa nx cx ya ny cy,e=.returned (.agg #[.bool lv,.slice xa nx cx,.slice ya ny cy])/\nK WD.heap.size w' ⟨lv,.slice xa nx cx,.slice ya ny cy⟩ ⟨lv,xy,xx⟩/\(∀b,bN (.slice ya ny cy) b->¬bN (.slice xa nx cx) b)/\Below WD.heap.size WD w'):=(IL ⟨lv,xy,xx⟩ aa ap xy.length ca cp WD (Tp.below (A.trans (ZX.mono A.size))) (ZU.below (A.trans (ZX.mono A.size))) Q R).mono λe w' ⟨va,vp,h1,h2,h3,h4⟩=>by
       obtain⟨xa,cx,ex,_⟩:=bh h2.bu;obtain⟨ya,cy,ey,_⟩:=bh h2.aY
       grind
      have b0:Hid (∀V,aI (λb=>bN S.vP b) WD V->V.cell? (Ad cb 3)=some (.slice bP S.L.length dP)/\V.cell? (Ad wr.heap.size 0)=some (.bool lv)/\V.cell? (Ad wr.heap.size 1)=some (.slice aa xy.length ca)/\V.cell? (Ad wr.heap.size 2)=some (.slice ap xx.length cp)/\V.frozen? (Ad cb 3)=false):=λV hV=>by
       have b1:=hV.keep M.head (λg=>by have:=mL.lP _ g;grind [bO.lH]);have b2:=hV.keep BD (λg=>by have:=(mL.aj.lt _ g).2;omega);refine⟨?_,aA b2 0 rfl,aA b2 1 rfl,aA b2 2 rfl,br b1 3⟩;rw[<- eP];exact aA b1 3 rfl
      have b8:Hid (∀w2 o,Below WD.heap.size WD w2->(w2.alloc o).ownsRow WA.heap.size 99 3 (.slice bP S.L.length dP) S.L.length (S.L.flatMap fX)):=λw2 o hb=>by
       have:=((aI.cA (D:=λ_=>False) hb).trans (aI.alloc _ w2 o) (λ_ _ g=>g)).row M.aj (λ_ _ g=>g)
       grind
      have bm:Hid (∀w2 w4 O v' l,Below WD.heap.size WD w2->nK WD.heap.size w2 l ⟨lv,xy,xx⟩->(∀b,bN l.vp b->¬bN l.va b)->(w2.alloc O).grownBy w4 S.vP.ownBlock->w4.ownsRow WA.heap.size 99 3 v' (S.L.length+1) (S.L.flatMap fX++fX l)->(v'.ownBlock=S.vP.ownBlock\/v'.ownBlock=some (w2.alloc O).heap.size)->∃S',bO WA.heap.size cb 30 [] (w4.setCell (Ad cb 3) v') S' (aV ⟨k.aD,k.frames,k.slots,k.aj.take (m+1),k.hand⟩ J)/\Below WA.heap.size WA (w4.setCell (Ad cb 3) v')):=λw2 w4 O v' l h1 h2 h3 h4 h5 h6=>by
       have m1:=M.push aH h1 h2 h3 h4 h5 h6;have m2:=m1.1;rw[a5];have Tf:=ov.trans (ZX.mono ov.size);exact⟨_,m2,aI.below Tf m1.2.2 Tf.size (λb hb=>(M.vD b hb).1)⟩
      have c5:=ai B;have Yr:Hid (∀w2,Below WD.heap.size WD w2->aI (λb=>bN S.vP b) WD w2):=λw2 h=>aI.cA h
      have b4:=ai eP;obtain⟨i0,a6,aq,ar,af⟩:=mQ VS;have PE:=ai a6;have az:=ai aq;have ZA:=ai ar;have Ih:=ai af;clear mL M ov A v0 v1 v2 Tp ZU Q R a5 F Y y BL ZX BD Td al ab iI B eP a6 aq ar af;rw[b3];go_upto_region 10 with fail;rw[<- a0.o];refine uj (S:=λV=>aI (λb=>bN S.vP b) WD V) (z:=7) ρ ?_;rw[<- bb.o];have uZ:=b0;have o5:Hid (aI (λb=>bN S.vP b) WD WD):=aI.refl _ _;refine Mm 0 o5.o ?_;refine lO 1 o5.o ?_ (hc:=uZ.o);refine lO 2 o5.o ?_ (hc:=uZ.o);refine gS (rs:=[3]) κ ξ ?_;refine b7.cons rfl (λK hK=>?_) b7.nil;rw[aQ ρ];go_simp;go_at_call 135;refine aC.o.mono ?_;rintro e w2 ⟨xa,nx,cx,ya,ny,cy,rfl,ah,a7,a4⟩;have bo:=ai ah;have bi:=ai a7;have iI:=ai a4;have Cu:=ai (Yr.o _ a4);clear ah a7 a4;try go_simp;refine hK.out _ _ (λ_=>?_) ?_
      . exact Cu.o
      clear hK K
      try simp only[Act.put,eQ,eI,ed]
      refine gS (rs:=[4]) κ ξ ?_;refine b7.cons rfl (λK hK=>?_) b7.nil;go_simp;refine hK.out _ _ (λ_=>?_) ?_
      . exact Cu.o.trans (aI.alloc _ _ _) (λ_ _ g=>g)
      clear hK K
      try simp only[Act.put,eQ,eI,ed]
      have bq:=iI.o.size;refine gS (rs:=[5]) κ ξ ?_;refine b7.cons rfl (λK hK=>?_) b7.nil;rw[aQ ρ];refine qZ (P:=prog) _ _ 28 rfl WA.heap.size 99 i0 (.agg #[.bool false,Nl,Nl]) 3 56 underlying28 PE.o az.o ZA.o Ih.o rfl Δ (.slice bP S.L.length dP) S.L.length (S.L.flatMap fX) rfl (b8.o _ _ iI.o) (some (Ad w2.heap.size 0)) 1 1 (fX ⟨lv,.slice xa nx cx,.slice ya ny cy⟩) rfl rfl (λ_=>⟨_,rfl,Vk w2 _ _⟩) (by intro u hu;simp[fX] at hu;rcases hu with rfl | rfl | rfl <;> rfl) (by grind [maxLen]) ω (by grind [World.size_alloc]) ?_;intro vG wG Tc Wx Wy;obtain⟨aG,cG,aX,_,_⟩:=bh Tc;subst aX;rw[<- b4.o] at Wx Wy;have OE:Hid (aI (λb=>bN S.vP b) WD wG):=(Cu.o.trans (aI.alloc _ _ _) (λ_ _ g=>g)).trans (aI.grown Wx (λq hq=>hq)) (λ_ _ g=>g);have av:=ai (bm.o w2 wG _ _ ⟨lv,.slice xa nx cx,.slice ya ny cy⟩ iI.o bo.o bi.o Wx Tc Wy);clear Tc Wx Wy;refine hK.out _ _ (λ_=>?_) ?_
      . exact OE.o
      clear hK K
      try simp only[Act.put,eQ,eI,ed]
      refine Mm 6 OE.o ?_;obtain⟨k0,k1,k2,k3,k4⟩:=uZ.o _ OE.o;refine gS (rs:=[7]) κ ξ ?_;refine b7.cons rfl (λK hK=>?_) b7.nil;go_simp;refine hK.out _ _ (λg=>absurd rfl g) ?_;refine Ab ρ ?_ _;go_wp2;go_roundw
      case rel =>
       obtain⟨S',h1,h2⟩:=av.o
       grind [Hid.o]
      grind [intOf]
    obtain rfl:m=k.aj.length:=by omega
    rw[sW] at mL;obtain⟨bS,nS,dS,eS⟩:∃b n d,S.vS=.slice b n d:=by obtain⟨b,d,e,_⟩:=bh mL.aD;grind
    obtain⟨bF,nF,dF,eF⟩:∃b n d,S.vF=.slice b n d:=by obtain⟨b,d,e,_⟩:=bh mL.frames;grind
    obtain⟨bL,nL,dL,eL⟩:∃b n d,S.vL=.slice b n d:=by obtain⟨b,d,e,_⟩:=bh mL.slots;grind
    obtain⟨bP,nP,dP,eP⟩:∃b n d,S.vP=.slice b n d:=by obtain⟨b,d,e,_⟩:=bh mL.aj;grind
    have c0:=mL.c0;have c1:=mL.c1;have c2:=mL.c2;have c3:=mL.c3;have c4:wr.cell? (Ad cb 4)=some (I k.hand):=mL.c4;rw[eS] at c0;rw[eF] at c1;rw[eL] at c2;rw[eP] at c3;have R1:=aO RB.o ov (aM RB.o);obtain⟨y0,y1,y2,y3,y4⟩:=kj R1;have f0:=br R1 0;have f1:=br R1 1;have f2:=br R1 2;have f3:=br R1 3;have f4:=br R1 4;have Js:w.heap.size+1<WA.heap.size:=aM RB.o;have A:Below w.heap.size w wr:=jo.o.trans (ov.mono jo.o.size);have eW:Hid (∀V,aI (λb=>b=w.heap.size+1) wr V->P (.returned (.agg #[.slice bS nS dS,.slice bF nF dF,.slice bL nL dL,.slice bP nP dP,I k.hand])) V):=λV hV=>by
     rw[HP.o];refine⟨S,J,B,Γ,(mL.toKr.kp hV (λb hb e=>by have:=(mL.vD b hb).1;omega)).mono ω,?_⟩
     grind [aI.below]
    have h5:Hid (∀s f l p h,(((((wr.setCell (Ad (w.heap.size+1) 0) s).setCell (Ad (w.heap.size+1) 1) f).setCell (Ad (w.heap.size+1) 2) l).setCell (Ad (w.heap.size+1) 3) p).setCell (Ad (w.heap.size+1) 4) h).heap[w.heap.size+1]?=some (.cells #[s,f,l,p,h] 30 (0,0))/\aI (λb=>b=w.heap.size+1) wr (((((wr.setCell (Ad (w.heap.size+1) 0) s).setCell (Ad (w.heap.size+1) 1) f).setCell (Ad (w.heap.size+1) 2) l).setCell (Ad (w.heap.size+1) 3) p).setCell (Ad (w.heap.size+1) 4) h)):=λs f l p h=>⟨dm (dm (dm (dm (dm R1 0 s) 1 f) 2 l) 3 p) 4 h,((((aI.set (λb=>b=w.heap.size+1) wr (Ad (w.heap.size+1) 0) s rfl).trans (aI.set (λb=>b=w.heap.size+1) _ (Ad (w.heap.size+1) 1) f rfl) (λ_ _ g=>g)).trans (aI.set (λb=>b=w.heap.size+1) _ (Ad (w.heap.size+1) 2) l rfl) (λ_ _ g=>g)).trans (aI.set (λb=>b=w.heap.size+1) _ (Ad (w.heap.size+1) 3) p rfl) (λ_ _ g=>g)).trans (aI.set (λb=>b=w.heap.size+1) _ (Ad (w.heap.size+1) 4) h rfl) (λ_ _ g=>g)⟩
    clear mL ov B eS eF eL eP Js A al ab iI R1;go_wp2;obtain⟨q1,q2⟩:=h5.out (.slice bS nS dS) (.slice bF nF dF) (.slice bL nL dL) (.slice bP nP dP) (I k.hand);obtain⟨y0,y1,y2,y3,y4⟩:=kj q1;refine bW (v:=.agg #[.slice bS nS dS,.slice bF nF dF,.slice bL nL dL,.slice bP nP dP,I k.hand]) (by simp[results,results79,go_sem,y0,y1,y2,y3,y4]) rfl ?_;exact eW.o _ q2
end Go.Proofs.YtlgoihmkgaaemaaGreat
