import Derived.Test.YtpgifpeohlllfaaGreatGT05
set_option maxHeartbeats 20000000
set_option linter.unusedVariables false
set_option maxRecDepth 100000
set_option linter.unusedSimpArgs false
namespace Go.Proofs.YtpgifpeohlllfaaGreat
namespace PM
open Go.RowKit
structure Pr where
 r:Nat->Int
 pc:Int
 st:Int
 cd:Int
 fk:Int
 fa:Int
end PM
namespace FM
open Go.RowKit
structure Pg where
 page:Int
 data:ByteArray
structure Sp where
 live:Bool
 aB:List AM.Ar
 aJ:List Pg
structure Wd where
 proc:Int
 value:Int
structure Fl where
 slots:Int
 aj:List Sp
 procs:List PM.Pr
 out:List Wd
def pg0:Pg:=⟨0,⟨#[]⟩⟩
def Y3 (l:List Pg) (i:Nat):Pg:=l.getD i pg0
def numbers (l:List Pg):List Int:=l.map (·.page)
theorem rising_pairwise:∀(l:List Int),(∀k,0<k->k<l.length->l.getD (k-1) 0<l.getD k 0)->l.Pairwise (·<·)
 | [],_=>List.Pairwise.nil
 | [a],_=>List.pairwise_singleton _ _
 | a::b::r,h=>by
  have ih:=rising_pairwise (b::r) (fun k h1 h2=>by
   have:=h (k+1) (by omega) (by simp at h2 ⊢;omega);obtain⟨j,rfl⟩:∃j,k=j+1:=⟨k-1,by omega⟩;exact this)
  have h0:a<b:=h 1 (by omega) (by simp);rw[List.pairwise_cons] at ih ⊢;refine⟨fun x hx=>?_,List.pairwise_cons.2 ih⟩;rcases List.mem_cons.1 hx with g | g
  · omega
  · have:=ih.1 x g;omega
theorem xq {l:List Int} (h:l.Pairwise (·<·)) (k:Nat) (h1:0<k) (h2:k<l.length):l.getD (k-1) 0<l.getD k 0:=by
 have:=List.pairwise_iff_getElem.1 h (k-1) k (by omega) h2 (by omega);rw[List.getD_eq_getElem?_getD,List.getD_eq_getElem?_getD,List.getElem?_eq_getElem h2,List.getElem?_eq_getElem (by omega)];exact this
end FM
namespace KM
open Go.RowKit
theorem qX (es:List En) (k:Nat):(es.map (·.page)).getD k 0=(aM es k).page:=by
 unfold aM;rw[List.getD_eq_getElem?_getD,List.getD_eq_getElem?_getD,List.getElem?_map];cases es[k]? <;> rfl
theorem iG {ar:List AM.Ar} {p:Int} (h:(AM.aR ar p).2=true):1<=p/\p<256:=by
 have:=FM.kO (FM.lN h) h;exact⟨this.1,this.2.1⟩
theorem yx {nf ns:Nat} {ar:List AM.Ar} {es:List En}:(∀i,i<es.length->qq nf ns ar (aM es i)/\lY es i<(aM es i).page)↔(∀e∈es,qq nf ns ar e)/\kW es:=by
 constructor
 · intro h;refine⟨fun e he=>?_,FM.rising_pairwise _ fun k h1 h2=>?_⟩
   · obtain⟨i,hi,rfl⟩:=fu js he;exact(h i hi).1
   · rw[List.length_map] at h2;rw[qX,qX];have:=(h k h2).2;unfold lY at this;rw[if_neg (by omega)] at this;exact this
 · rintro⟨h1,h2⟩ i hi;have he:=h1 (aM es i) (dO hi);refine⟨he,?_⟩;unfold lY;by_cases c:i=0
   · rw[if_pos c];have:=iG he.1;omega
   · rw[if_neg c,<- qX,<- qX];exact FM.xq h2 i (by omega) (by rw[List.length_map];exact hi)
theorem wM {hs:List LM.Sh} (hr:LM.dC hs=true) (p:Int):(filled hs p).size≠0↔(bW hs p).isSome=true:=by
 constructor
 · intro h;unfold filled at h;cases g:bW hs p with
   | some s=>rfl
   | none=>rw[g] at h;exact absurd rfl h
 · intro h;rw[wN hs hr p h];decide
theorem TR {ar:List AM.Ar} (hc:AM.aW ar=0) (p:Int):(AM.aR ar p).2=true↔∃a∈ar,a.page<=p/\p<a.page+a.aJ/\AM.aR ar p=(a,true):=by
 constructor
 · intro h;have hf:AM.aR ar p=AM.aU ar p:=by unfold AM.aR;rw[if_pos hc]
   rw[hf] at h;obtain⟨k,hk,h1,h2⟩:=FM.tY ar p h;refine⟨AM.at_ ar k,dO hk,((AM.nI _ _).1 h1).1,((AM.nI _ _).1 h1).2,?_⟩;rw[hf,<- h2,<- h]
 · rintro⟨a,_,_,_,e⟩;rw[e]
theorem Tp {ar:List AM.Ar} (hc:AM.aW ar=0) {a:AM.Ar} (ha:a∈ar) {p:Int} (h1:a.page<=p) (h2:p<a.page+a.aJ):AM.aR ar p=(a,true):=by
 obtain⟨k,hk,e⟩:=fu AM.nil ha;have e:AM.at_ ar k=a:=e;have hit:AM.hit (AM.at_ ar k) p=true:=by rw[e];exact(AM.nI _ _).2 ⟨h1,h2⟩
 have hf:AM.aR ar p=AM.aU ar p:=by unfold AM.aR;rw[if_pos hc]
 obtain⟨j,hj,g⟩:=LM.zw ar p k hk hit;have:(AM.aU ar p).2=true:=by rw[g]
 obtain⟨i,hi,i1,i2⟩:=FM.tY ar p this;have:=LM.xM ar hc p i k hi hk i1 hit;subst this;rw[hf];have e2:(AM.aU ar p).1=a:=by rw[i2,e]
 rw[<- e2,<- this]
theorem Ff {hs:List LM.Sh} (hr:LM.dC hs=true) {ar:List AM.Ar} (hc:AM.aW ar=0):pE hs ar=true↔∀p,(AM.aR ar p).2=true->(AM.aR ar p).1.zero=false->(bW hs p).isSome=true:=by
 unfold pE;rw[List.all_eq_true];constructor
 · intro h p hp hz;obtain⟨a,ha,h1,h2,e⟩:=(TR hc p).1 hp;rw[e] at hz;have hz:a.zero=false:=hz;have:=h a ha;rw[List.all_eq_true] at this;have:=this (p-a.page).toNat (List.mem_range.2 (by omega));rw[hz,Bool.false_or,decide_eq_true_eq,show a.page+((p-a.page).toNat:Int)=p by omega] at this;exact(wM hr p).1 this
 · intro h a ha;rw[List.all_eq_true];intro n hn;have hn:=List.mem_range.1 hn;have e:=Tp hc ha (p:=a.page+(n:Int)) (by omega) (by omega);cases z:a.zero with
   | true=>rfl
   | false =>
    rw[Bool.false_or,decide_eq_true_eq];exact(wM hr _).2 (h _ (by rw[e]) (by rw[e];exact z))
theorem SE (ss:List Sp) (k:Nat) (hk:k<ss.length):ss.take (k+1)=ss.take k++[au ss k]:=by
 rw[List.take_add_one];unfold au;rw[List.getD_eq_getElem?_getD,List.getElem?_eq_getElem hk];rfl
theorem su (ss:List Sp) (k:Nat) (hk:k<ss.length) (kd a:Int):names (ss.take (k+1)) kd a=names (ss.take k) kd a++dH (au ss k) kd a:=by
 rw[SE ss k hk,tL];congr 1;rw[fG,Bu,List.append_nil]
theorem Ed (nf ns:Nat):AV (fun _ _=>[]) nf ns (List.replicate nf gY,List.replicate ns gY):=by
 have h:∀n i,dm (List.replicate n gY) i=gY:=fun n i=>by
  unfold dm;rw[List.getD_eq_getElem?_getD,List.getElem?_replicate];by_cases c:i<n
  · rw[if_pos c];rfl
  · rw[if_neg c];rfl
 refine⟨⟨List.length_replicate,List.length_replicate⟩,fun i _=>?_,fun i _=>?_⟩
 · show Sum [] (dm (List.replicate nf gY) i);rw[h];exact⟨rfl,by simp⟩
 · show Sum [] (dm (List.replicate ns gY) i);rw[h];exact⟨rfl,by simp⟩
theorem YY {hs:List LM.Sh} (hr:LM.dC hs=true) {nf ns:Nat} {s:Sp} (h1:ld hs s=true) (h2:(∀e∈s.aA,qq nf ns s.aB e)/\kW s.aA):J8 hs nf ns s:=by
 unfold ld at h1;by_cases c:s.live=true
 · rw[if_pos c,Bool.and_eq_true,decide_eq_true_eq] at h1;exact⟨fun d=>(by rw[c] at d;cases d),h1.1,h2.2,h2.1,(Ff hr h1.1).1 h1.2⟩
 · rw[if_neg c,Bool.and_eq_true,decide_eq_true_eq,decide_eq_true_eq] at h1;have ha:=List.eq_nil_of_length_eq_zero h1.1;refine⟨fun _=>⟨ha,List.eq_nil_of_length_eq_zero h1.2⟩,by rw[ha];rfl,h2.2,h2.1,fun p hp=>?_⟩;rw[ha] at hp;cases hp
theorem Y8 {hs:List LM.Sh} (hr:LM.dC hs=true) {nf ns:Nat} {s:Sp} (h:J8 hs nf ns s):ld hs s=true:=by
 unfold ld;by_cases c:s.live=true
 · rw[if_pos c,h.aB,(Ff hr h.aB).2 h.ak];rfl
 · rw[if_neg c,(h.dead (by simpa using c)).1,(h.dead (by simpa using c)).2];rfl
theorem tB {hs:List LM.Sh} (hr:LM.dC hs=true) {nf ns:Nat} {u:List Us×List Us} (h:AV (fun _ _=>[]) nf ns u) (ss:List Sp):∀k,k<=ss.length->oO hs ss u k=true->AV (fun kd i=>names (ss.take k) kd i) nf ns (lD ss u k)/\∀i,i<k->J8 hs nf ns (au ss i)
 | 0,_,_=>⟨by
  have e:(fun kd i=>names (ss.take 0) kd i)=fun _ _=>[]:=by funext kd i;rfl
  rw[e];exact h,fun i hi=>by omega⟩
 | k+1,hk,hb=>by
  unfold oO at hb;rw[Bool.and_eq_true,Bool.and_eq_true] at hb;obtain⟨a1,a2⟩:=tB hr h ss k (by omega) hb.1;obtain⟨b1,b2⟩:=zF a1 (au ss k).aB (au ss k).aA _ (Nat.le_refl _) hb.2.2;refine⟨?_,fun i hi=>?_⟩
  · have e:(fun kd i=>names (ss.take (k+1)) kd i)=fun kd i=>names (ss.take k) kd i++nm (au ss k).aB kd i ((au ss k).aA.take (au ss k).aA.length):=by
     funext kd i;rw[su ss k (by omega),List.take_length];rfl
    rw[e];exact b1
  · by_cases c:i=k
    · subst c;exact YY hr hb.2.1 (yx.1 b2)
    · exact a2 i (by omega)
theorem Lh {ss:List Sp} {k:Nat} {kd a:Int} {x:Int×Bool} (h:x∈names (ss.take k) kd a):x∈names ss kd a:=by
 obtain⟨s,hs,r⟩:=gT.1 h;exact gT.2 ⟨s,List.mem_of_mem_take hs,r⟩
theorem Ef {hs:List LM.Sh} (hr:LM.dC hs=true) {nf ns:Nat} {u:List Us×List Us} (h:AV (fun _ _=>[]) nf ns u) (ss:List Sp) (hsp:∀i,i<ss.length->J8 hs nf ns (au ss i)) (ho:∀kd i,∀x∈names ss kd i,∀y∈names ss kd i,x=y):∀k,k<=ss.length->oO hs ss u k=true
 | 0,_=>rfl
 | k+1,hk=>by
  have ih:=Ef hr h ss hsp ho k (by omega);unfold oO;obtain⟨a1,_⟩:=tB hr h ss k (by omega) ih;have g:=hsp k (by omega);rw[ih,Y8 hr g,Bool.true_and,Bool.true_and];refine Cf a1 _ _ (yx.2 ⟨g.u9,g.eJ⟩) (fun kd i x hx y hy=>?_) _ (Nat.le_refl _);have key:∀z,z∈names (ss.take k) kd i++nm (au ss k).aB kd i (au ss k).aA->z∈names ss kd i:=fun z hz=>by
   refine Lh (k:=k+1) ?_;rw[su ss k (by omega)];exact hz
  exact ho kd i x (key x hx) y (key y hy)
theorem tS (f:Fr):uv f=true↔f=mz:=by
 unfold uv;rw[decide_eq_true_eq];constructor
 · rintro⟨h1,h2,h3,h4⟩;obtain⟨⟨⟨d⟩⟩,r,a,b⟩:=f;simp only at h2 h3 h4;subst h2 h3 h4;have:d=[]:=List.eq_nil_of_length_eq_zero h1;subst this;rfl
 · rintro rfl;exact⟨rfl,rfl,rfl,rfl⟩
theorem tT (f:Sl):oI f=true↔f=xe:=by
 unfold oI;rw[decide_eq_true_eq];constructor
 · rintro⟨h1,h2⟩;obtain⟨⟨⟨d⟩⟩,r⟩:=f;simp only at h2;subst h2;have:d=[]:=List.eq_nil_of_length_eq_zero h1;subst this;rfl
 · rintro rfl;exact⟨rfl,rfl⟩
theorem Jg {L:List (Int×Bool)} {u:Us} (h:Sum L u):∀x∈L,∀y∈L,x=y:=fun x hx y hy=>(h.2 x hx).trans (h.2 y hy).symm
theorem sum_nil {L:List (Int×Bool)} {u:Us} (h:Sum L u):u.refs=0↔L=[]:=by
 rw[h.1];constructor
 · exact fun e=>List.eq_nil_of_length_eq_zero (by omega)
 · rintro rfl;rfl
theorem PT {hs:List LM.Sh} {L:List (Int×Bool)} {u:Us} (h:Sum L u) (f:Fr):fT hs f u=true↔vA hs L f:=by
 unfold fT;by_cases c:u.refs=0
 · have hL:=(sum_nil h).1 c;subst hL;rw[if_pos c,tS];exact⟨fun e=>by rw[e];exact vA.none hs,fun e=>e.zero rfl⟩
 · have hL:L≠[]:=fun e=>c ((sum_nil h).2 e)
   rw[if_neg c,Bool.and_eq_true,decide_eq_true_eq,Bool.or_eq_true,decide_eq_true_eq];constructor
   · rintro⟨⟨h1,h2⟩,h3⟩;refine⟨h1.trans h.1,fun e=>absurd e hL,Jg h,fun _=>h2,fun d x hx=>?_⟩;rw[h.2 x hx];exact h3.resolve_left (by rw[d];simp)
   · intro g;refine⟨⟨g.refs.trans h.1.symm,g.size hL⟩,?_⟩;cases d:f.cj with
     | true=>exact .inl rfl
     | false =>
      obtain⟨x,hx⟩:=List.exists_mem_of_ne_nil _ hL;have:=g.fill d x hx;rw[h.2 x hx] at this;exact .inr this
theorem NJ {L:List (Int×Bool)} {u:Us} (h:Sum L u) (f:Sl):ij f u=true↔DT L f:=by
 unfold ij;by_cases c:u.refs=0
 · have hL:=(sum_nil h).1 c;subst hL;rw[if_pos c,tT];exact⟨fun e=>by rw[e];exact DT.none,fun e=>e.zero rfl⟩
 · have hL:L≠[]:=fun e=>c ((sum_nil h).2 e)
   rw[if_neg c,decide_eq_true_eq];constructor
   · rintro⟨h1,h2⟩;exact⟨h1.trans h.1,fun e=>absurd e hL,Jg h,fun _=>h2⟩
   · intro g;exact⟨g.refs.trans h.1.symm,g.size hL⟩
theorem Fq (k:Kn) (hc:counts k=true):ub k=true↔aQ k:=by
 unfold ub;simp only[Bool.and_eq_true,decide_eq_true_eq,List.all_eq_true,List.mem_range];have hz:=Ed k.frames.length k.slots.length;have hn:(fun kd i=>names (k.aj.take k.aj.length) kd i)=fun kd i=>names k.aj kd i:=by funext kd i;rw[List.take_length]
 constructor
 · rintro⟨h1,h2,h3,h4,h5,h6⟩;obtain⟨a1,a2⟩:=tB h1 hz k.aj _ (Nat.le_refl _) h3;rw[hn] at a1;refine⟨hc,h1,h2,fun s hs=>?_,h4,fun i hi=>(PT (a1.2.1 i hi) _).1 (h5 i hi),fun i hi=>(NJ (a1.2.2 i hi) _).1 (h6 i hi)⟩;obtain⟨j,hj,rfl⟩:=fu uu hs;exact a2 j hj
 · intro h;have ho:∀kd i,∀x∈names k.aj kd i,∀y∈names k.aj kd i,x=y:=fun kd i x hx y hy=>by
    obtain⟨s,hs,e,he,g1,g2,_⟩:=gT.1 hx;obtain⟨j,hj,rfl⟩:=fu uu hs;rcases fN h hj he with b | b
    · have:=(h.m7 e.loc.toNat b.2.2).one x (by rw[b.2.1,g2,<- b.1,g1];exact hx) y (by rw[b.2.1,g2,<- b.1,g1];exact hy);exact this
    · exact(h.slt e.loc.toNat b.2.2).one x (by rw[b.2.1,g2,<- b.1,g1];exact hx) y (by rw[b.2.1,g2,<- b.1,g1];exact hy)
   have hb:=Ef h.eJ hz k.aj (fun i hi=>h.sp hi) ho _ (Nat.le_refl _);obtain⟨a1,_⟩:=tB h.eJ hz k.aj _ (Nat.le_refl _) hb;rw[hn] at a1;exact⟨h.eJ,h.hand,hb,h.room,fun i hi=>(PT (a1.2.1 i hi) _).2 (h.m7 i hi),fun i hi=>(NJ (a1.2.2 i hi) _).2 (h.slt i hi)⟩
theorem kR (k:Kn):dR k=0↔aQ k:=by
 unfold dR;by_cases c:counts k=true
 · rw[if_neg (by rw[c];simp),<- Fq k c];by_cases d:ub k=true
   · rw[if_pos d];exact⟨fun _=>d,fun _=>rfl⟩
   · rw[if_neg d];exact⟨fun e=>by omega,fun e=>absurd e d⟩
 · rw[if_pos (by simpa using c)];exact⟨fun e=>by omega,fun h=>absurd h.counts c⟩
def xB (nf ns:Nat) (ar:List AM.Ar) (es:List En) (i:Nat):Bool:=((AM.aR ar (aM es i).page).2&&(i==0 || decide ((aM es (i-1)).page<(aM es i).page)))&&(if (aM es i).kind=1 then decide (0<=(aM es i).loc/\(aM es i).loc<=(nf:Int)-1) else if (aM es i).kind=2 then decide (0<=(aM es i).loc/\(aM es i).loc<=(ns:Int)-1) else false)
def nO (nf ns:Nat) (ar:List AM.Ar) (es:List En):Nat->Bool
 | 0=>true
 | k+1=>nO nf ns ar es k&&xB nf ns ar es k
def oQ (hs:List LM.Sh) (ar:List AM.Ar) (p:Int):Bool:=!((AM.aR ar p).2&&(!(AM.aR ar p).1.zero&&!(bW hs p).isSome))
def jw (hs:List LM.Sh) (ar:List AM.Ar):Nat->Bool
 | 0=>true
 | k+1=>jw hs ar k&&oQ hs ar ((k:Int)+1)
def iP (hs:List LM.Sh) (nf ns:Nat) (s:Sp):Bool:=if s.live then decide (AM.aW s.aB=0)&&(nO nf ns s.aB s.aA s.aA.length&&jw hs s.aB 255) else decide (s.aB.length=0)&&decide (s.aA.length=0)
structure Na where
 n:Int
 page:Int
 fine:Bool
 qz:AM.Ar
def na0:Na:=⟨0,0,true,AM.nil⟩
def mK (a:Na) (p:Int) (r:AM.Ar):Na:=⟨a.n+1,p,a.fine&&(decide (a.n=0) || (decide (p=a.page)&&r.zero==a.qz.zero)),r⟩
def Bw (ar:List AM.Ar) (kd i:Int) (a:Na) (e:En):Na:=if e.kind=kd/\e.loc=i then mK a e.page (AM.aR ar e.page).1 else a
def mM (ar:List AM.Ar) (es:List En) (kd i:Int) (a:Na):Nat->Na
 | 0=>a
 | k+1=>Bw ar kd i (mM ar es kd i a k) (aM es k)
def yR (ss:List Sp) (kd i:Int):Nat->Na
 | 0=>na0
 | k+1=>mM (au ss k).aB (au ss k).aA kd i (yR ss kd i k) (au ss k).aA.length
def dJ (ss:List Sp) (kd i:Int):Na:=yR ss kd i ss.length
def B6 (hs:List LM.Sh) (f:Fr) (a:Na):Bool:=decide (f.refs=a.n)&&(!(decide (a.n=0)&&!uv f)&&!(decide (0<a.n)&&(!a.fine || (decide (f.data.size≠16) || (!f.cj&&decide (f.data≠dY hs a.page a.qz.zero))))))
def Ge (f:Sl) (a:Na):Bool:=decide (f.refs=a.n)&&(!(decide (a.n=0)&&!oI f)&&!(decide (0<a.n)&&(!a.fine || decide (f.data.size≠16))))
def rV (k:Kn):Nat->Bool
 | 0=>true
 | n+1=>rV k n&&iP k.ak k.frames.length k.slots.length (au k.aj n)
def xy (k:Kn):Nat->Bool
 | 0=>true
 | n+1=>xy k n&&B6 k.ak (aH k.frames n) (dJ k.aj 1 n)
def xd (k:Kn):Nat->Bool
 | 0=>true
 | n+1=>xd k n&&Ge (bj k.slots n) (dJ k.aj 2 n)
def nN (k:Kn):Bool:=LM.dC k.ak&&(decide (0<=k.hand/\k.hand<=(k.frames.length:Int)-1)&&(rV k k.aj.length&&(decide (room k.aj<=(k.slots.length:Int))&&(xy k k.frames.length&&xd k k.slots.length))))
theorem rU {f:Nat->Bool} {g:Nat->Bool} (h0:g 0=true) (hs:∀k,g (k+1)=(g k&&f k)):∀n,g n=true↔∀i,i<n->f i=true
 | 0=>⟨fun _ i hi=>by omega,fun _=>h0⟩
 | n+1=>by
  rw[hs,Bool.and_eq_true,rU h0 hs n];constructor
  · rintro⟨h1,h2⟩ i hi;by_cases c:i=n
    · rw[c];exact h2
    · exact h1 i (by omega)
  · exact fun h=>⟨fun i hi=>h i (by omega),h n (by omega)⟩
theorem Mi {nf ns:Nat} {ar:List AM.Ar} {es:List En}:nO nf ns ar es es.length=true↔(∀e∈es,qq nf ns ar e)/\kW es:=by
 rw[rU (f:=xB nf ns ar es) rfl (fun _=>rfl),<- yx];have key:∀i,i<es.length->(xB nf ns ar es i=true↔qq nf ns ar (aM es i)/\lY es i<(aM es i).page):=fun i hi=>by
  unfold xB qq lY;rw[Bool.and_eq_true,Bool.and_eq_true,Bool.or_eq_true,beq_iff_eq,decide_eq_true_eq];constructor
  · rintro⟨⟨h1,h2⟩,h3⟩;refine⟨⟨h1,?_⟩,?_⟩
    · by_cases c:(aM es i).kind=1
      · rw[if_pos c,decide_eq_true_eq] at h3;exact .inl ⟨c,h3.1,by omega⟩
      · rw[if_neg c] at h3;by_cases d:(aM es i).kind=2
        · rw[if_pos d,decide_eq_true_eq] at h3;exact .inr ⟨d,h3.1,by omega⟩
        · rw[if_neg d] at h3;cases h3
    · by_cases c:i=0
      · rw[if_pos c];have:=iG h1;omega
      · rw[if_neg c];exact h2.resolve_left c
  · rintro⟨⟨h1,h2⟩,h3⟩;refine⟨⟨h1,?_⟩,?_⟩
    · by_cases c:i=0
      · exact .inl c
      · rw[if_neg c] at h3;exact .inr h3
    · rcases h2 with g | g
      · rw[if_pos g.1,decide_eq_true_eq];omega
      · rw[if_neg (by omega),if_pos g.1,decide_eq_true_eq];omega
 exact⟨fun h i hi=>(key i hi).1 (h i hi),fun h i hi=>(key i hi).2 (h i hi)⟩
theorem Ek {hs:List LM.Sh} {ar:List AM.Ar}:jw hs ar 255=true↔∀p,(AM.aR ar p).2=true->(AM.aR ar p).1.zero=false->(bW hs p).isSome=true:=by
 rw[rU (f:=fun k=>oQ hs ar ((k:Int)+1)) rfl (fun _=>rfl)];constructor
 · intro h p hp hz;have hb:=iG hp;have:=h (p-1).toNat (by omega);rw[show((p-1).toNat:Int)+1=p by omega] at this;unfold oQ at this;rw[hp,hz] at this;simpa using this
 · intro h i hi;unfold oQ;cases h1:(AM.aR ar ((i:Int)+1)).2 with
   | false=>rfl
   | true =>
    cases h2:(AM.aR ar ((i:Int)+1)).1.zero with
    | true=>rfl
    | false=>rw[h _ h1 h2];rfl
theorem CG {hs:List LM.Sh} {nf ns:Nat} {s:Sp}:iP hs nf ns s=true↔J8 hs nf ns s:=by
 unfold iP;by_cases c:s.live=true
 · rw[if_pos c,Bool.and_eq_true,Bool.and_eq_true,decide_eq_true_eq,Mi,Ek];exact⟨fun h=>⟨fun d=>(by rw[c] at d;cases d),h.1,h.2.1.2,h.2.1.1,h.2.2⟩,fun h=>⟨h.aB,⟨h.u9,h.eJ⟩,h.ak⟩⟩
 · rw[if_neg c,Bool.and_eq_true,decide_eq_true_eq,decide_eq_true_eq];constructor
   · rintro⟨h1,h2⟩;have ha:=List.eq_nil_of_length_eq_zero h1;have he:=List.eq_nil_of_length_eq_zero h2;refine⟨fun _=>⟨ha,he⟩,by rw[ha];rfl,by rw[he];exact List.Pairwise.nil,fun e g=>(by rw[he] at g;cases g),fun p hp=>?_⟩;rw[ha] at hp;cases hp
   · intro h;have:=h.dead (by simpa using c);rw[this.1,this.2];exact⟨rfl,rfl⟩
structure RU (L:List (Int×Bool)) (a:Na):Prop where
 n:a.n=L.length
 fine:a.fine=true↔∀x∈L,∀y∈L,x=y
 last:L≠[]->(a.page,a.qz.zero)∈L
theorem Ta {L:List (Int×Bool)} {a:Na} (h:RU L a) (p:Int) (r:AM.Ar):RU (L++[(p,r.zero)]) (mK a p r):=by
 refine⟨by show a.n+1=_;rw[h.n,List.length_append];rfl,?_,fun _=>List.mem_append.2 (.inr (by simp[mK]))⟩;show(a.fine&&(decide (a.n=0) || (decide (p=a.page)&&r.zero==a.qz.zero)))=true↔_;rw[Bool.and_eq_true,h.fine,Bool.or_eq_true,Bool.and_eq_true,decide_eq_true_eq,decide_eq_true_eq,beq_iff_eq];constructor
 · rintro⟨h1,h2⟩ x hx y hy;have key:∀z∈L,z=(p,r.zero):=fun z hz=>by
    have hne:L≠[]:=List.ne_nil_of_mem hz;have h2:=h2.resolve_left (fun e=>hne (List.eq_nil_of_length_eq_zero (by have:=h.n;omega)));rw[h1 z hz _ (h.last hne),h2.1,h2.2]
   have all:∀z∈L++[(p,r.zero)],z=(p,r.zero):=fun z hz=>by
    rcases List.mem_append.1 hz with g | g
    · exact key z g
    · simpa using g
   rw[all x hx,all y hy]
 · intro g;refine⟨fun x hx y hy=>g x (List.mem_append.2 (.inl hx)) y (List.mem_append.2 (.inl hy)),?_⟩;by_cases c:L=[]
   · left;rw[h.n,c];rfl
   · right;have:=g _ (List.mem_append.2 (.inl (h.last c))) (p,r.zero) (List.mem_append.2 (.inr (by simp)));injection this with e1 e2;exact⟨e1.symm,e2.symm⟩
theorem Jw {L:List (Int×Bool)} {a:Na} (h:RU L a) (ar:List AM.Ar) (es:List En) (kd i:Int):∀k,k<=es.length->RU (L++nm ar kd i (es.take k)) (mM ar es kd i a k)
 | 0,_=>by rw[List.take_zero];show RU (L++[]) a;rw[List.append_nil];exact h
 | k+1,hk=>by
  have ih:=Jw h ar es kd i k (by omega);rw[take_succ es k (by omega),fQ,<- List.append_assoc];show RU _ (Bw ar kd i (mM ar es kd i a k) (aM es k));unfold Bw;by_cases c:(aM es k).kind=kd/\(aM es k).loc=i
  · rw[if_pos c,lT ar c];exact Ta ih _ _
  · rw[if_neg c,jY ar c,List.append_nil];exact ih
theorem Om (ss:List Sp) (kd i:Int):∀k,k<=ss.length->RU (names (ss.take k) kd i) (yR ss kd i k)
 | 0,_=>⟨rfl,⟨fun _ x hx=>(by cases hx),fun _=>rfl⟩,fun e=>absurd rfl e⟩
 | k+1,hk=>by
  have:=Jw (Om ss kd i k (by omega)) (au ss k).aB (au ss k).aA kd i _ (Nat.le_refl _);rw[List.take_length] at this;rw[su ss k (by omega)];exact this
theorem uQ (ss:List Sp) (kd i:Int):RU (names ss kd i) (dJ ss kd i):=by
 have:=Om ss kd i ss.length (Nat.le_refl _);rw[List.take_length] at this;exact this
theorem JY {hs:List LM.Sh} {L:List (Int×Bool)} {a:Na} (h:RU L a) (f:Fr):B6 hs f a=true↔vA hs L f:=by
 unfold B6;rw[Bool.and_eq_true,Bool.and_eq_true,decide_eq_true_eq];by_cases c:L=[]
 · subst c;have hn:a.n=0:=h.n;rw[hn];simp only[decide_true,Bool.true_and,Bool.not_not,Int.lt_irrefl,decide_false,Bool.false_and,Bool.not_false,and_true,tS];exact⟨fun e=>by rw[e.2];exact vA.none hs,fun e=>⟨by rw[e.zero rfl];rfl,e.zero rfl⟩⟩
 · have hp:0<L.length:=List.length_pos_iff.2 c;have hn:0<a.n:=by rw[h.n];omega
   rw[decide_eq_false (show ¬a.n=0 by omega),decide_eq_true hn];simp only[Bool.false_and,Bool.not_false,Bool.true_and,true_and,Bool.not_eq_true',Bool.or_eq_false_iff,Bool.not_eq_false',Bool.and_eq_false_iff,decide_eq_false_iff_not,Decidable.not_not];constructor
   · rintro⟨h1,h2,h3,h4⟩;refine⟨h1.trans h.n,fun e=>absurd e c,h.fine.1 h2,fun _=>h3,fun d x hx=>?_⟩;rw[h.fine.1 h2 x hx _ (h.last c)];exact h4.resolve_left (by rw[d];simp)
   · intro g;refine⟨g.refs.trans h.n.symm,h.fine.2 g.one,g.size c,?_⟩;cases d:f.cj with
     | true=>exact .inl rfl
     | false=>exact .inr (g.fill d _ (h.last c))
theorem Jk {L:List (Int×Bool)} {a:Na} (h:RU L a) (f:Sl):Ge f a=true↔DT L f:=by
 unfold Ge;rw[Bool.and_eq_true,Bool.and_eq_true,decide_eq_true_eq];by_cases c:L=[]
 · subst c;have hn:a.n=0:=h.n;rw[hn];simp only[decide_true,Bool.true_and,Bool.not_not,Int.lt_irrefl,decide_false,Bool.false_and,Bool.not_false,and_true,tT];exact⟨fun e=>by rw[e.2];exact DT.none,fun e=>⟨by rw[e.zero rfl];rfl,e.zero rfl⟩⟩
 · have hp:0<L.length:=List.length_pos_iff.2 c;have hn:0<a.n:=by rw[h.n];omega
   rw[decide_eq_false (show ¬a.n=0 by omega),decide_eq_true hn];simp only[Bool.false_and,Bool.not_false,Bool.true_and,true_and,Bool.not_eq_true',Bool.or_eq_false_iff,Bool.not_eq_false',decide_eq_false_iff_not,Decidable.not_not];constructor
   · rintro⟨h1,h2,h3⟩;exact⟨h1.trans h.n,fun e=>absurd e c,h.fine.1 h2,fun _=>h3⟩
   · intro g;exact⟨g.refs.trans h.n.symm,h.fine.2 g.one,g.size c⟩
theorem Md (k:Kn) (hc:counts k=true):nN k=true↔aQ k:=by
 unfold nN;simp only[Bool.and_eq_true,decide_eq_true_eq];rw[rU (g:=rV k) (f:=fun n=>iP k.ak k.frames.length k.slots.length (au k.aj n)) rfl (fun _=>rfl),rU (g:=xy k) (f:=fun n=>B6 k.ak (aH k.frames n) (dJ k.aj 1 n)) rfl (fun _=>rfl),rU (g:=xd k) (f:=fun n=>Ge (bj k.slots n) (dJ k.aj 2 n)) rfl (fun _=>rfl)];constructor
 · rintro⟨h1,h2,h3,h4,h5,h6⟩;refine⟨hc,h1,by omega,fun s hs=>?_,h4,fun i hi=>(JY (uQ _ _ _) _).1 (h5 i hi),fun i hi=>(Jk (uQ _ _ _) _).1 (h6 i hi)⟩;obtain⟨j,hj,rfl⟩:=fu uu hs;exact CG.1 (h3 j hj)
 · intro h;have hh:=h.hand;exact⟨h.eJ,by omega,fun i hi=>CG.2 (h.sp hi),h.room,fun i hi=>(JY (uQ _ _ _) _).2 (h.m7 i hi),fun i hi=>(Jk (uQ _ _ _) _).2 (h.slt i hi)⟩
def ki (k:Kn):Int:=if counts k=false then 2 else if nN k then 0 else 1
theorem kQ (k:Kn):ki k=dR k:=by
 unfold ki dR;by_cases c:counts k=true
 · have:nN k=ub k:=by
    have h1:=Md k c;have h2:=Fq k c;cases a:nN k <;> cases b:ub k
    · rfl
    · exact absurd (h1.2 (h2.1 b)) (by rw[a];simp)
    · exact absurd (h2.2 (h1.1 a)) (by rw[b];simp)
    · rfl
   rw[this]
 · rw[if_pos (by simpa using c),if_pos (by simpa using c)]
end KM
namespace W
open Go.RowKit
theorem ai {p:Prop} (h:p):Hid p:=h
theorem bY {a b:Bool} (h:a=b):Ending.returned (.bool a)=.returned (.bool b):=by rw[h]
theorem za (n:Int) (w:World):Calls Tryz.prog 209 #[.int .u8 n] w fun e w'=>e=.returned (.bool (M.pA n))/\w=w':=by
 by_cases h1:97<=n/\n<=122
 · have e:M.pA n=true:=by unfold M.pA;rw[decide_eq_true h1];rfl
   rw[e];obtain⟨a,b⟩:=h1;go_enter Tryz.func209,Tryz.ntmps209;go_wp2;go_ret;exact⟨rfl,rfl⟩
 · by_cases h2:48<=n/\n<=57
   · have e:M.pA n=true:=by unfold M.pA;rw[decide_eq_true h2];simp
     rw[e];obtain⟨a,b⟩:=h2;have c:decide (97<=n)=false:=by simp;omega
     clear h1;go_enter Tryz.func209,Tryz.ntmps209;go_wp2;go_ret;exact⟨rfl,rfl⟩
   · by_cases h3:n=95
     · subst h3;go_enter Tryz.func209,Tryz.ntmps209;go_wp2;go_ret;exact⟨rfl,rfl⟩
     · have e:M.pA n=false:=by unfold M.pA;rw[decide_eq_false h1,decide_eq_false h2,decide_eq_false h3];rfl
       rw[e];have h3':(n==95)=false:=by simpa using h3
       by_cases a:97<=n
       · have b:decide (n<=122)=false:=by simp;omega
         have c:48<=n:=by omega
         have d:decide (n<=57)=false:=by simp;omega
         clear h1 h2;go_enter Tryz.func209,Tryz.ntmps209;go_wp2;go_ret;exact⟨rfl,rfl⟩
       · have a':decide (97<=n)=false:=by simpa using a
         by_cases c:48<=n
         · have d:decide (n<=57)=false:=by simp;omega
           clear h1 h2;go_enter Tryz.func209,Tryz.ntmps209;go_wp2;go_ret;exact⟨rfl,rfl⟩
         · have c':decide (48<=n)=false:=by simpa using c
           clear h1 h2;go_enter Tryz.func209,Tryz.ntmps209;go_wp2;go_ret;exact⟨rfl,rfl⟩
theorem Hq (s:ByteArray) (w:World) (hs:M.bD s.size):Calls Tryz.prog 198 #[.string s] w fun e w'=>e=.returned (.bool (M.pB s))/\w=w':=by
 unfold M.bD at hs;have oJ:s.size<=maxLen:=by unfold maxLen;omega
 by_cases h1:1<=s.size
 · by_cases h2:s.size<=12
   · have d1:¬(s.size:Int)<1:=by omega
     have d2:¬12<(s.size:Int):=by omega
     go_enter Tryz.func198,Tryz.ntmps198;go_wp2
     go_loop [14] (fun i=>∃k:Nat,k<=s.size/\i=I k/\∀j (hj:j<s.size),j<k->M.pA s[j].toNat=true) (fun i=>s.size-(intOf i).toNat)
     case atStart=>exact⟨0,by omega,rfl,fun j _ h=>by omega⟩
     case round =>
      obtain⟨k,hk,rfl,hall⟩:=hrel;have HA:=ai hall;clear hall;by_cases hlt:k<s.size
      · cases hc:M.pA s[k].toNat
        · have HR:=ai (M.S8 s k hlt hc);go_wp2_with (go_at_call 209;refine(za _ _).mono ?_;rintro e w' ⟨rfl,rfl⟩;rw[hc])
          go_ret;exact⟨bY HR.o.symm,rfl⟩
        · have HC:=ai hc;go_wp2_with (go_at_call 209;refine(za _ _).mono ?_;rintro e w' ⟨rfl,rfl⟩;rw[hc])
          go_round
          case rel=>exact⟨k+1,by omega,by go_num,fun j hj h=>if e:j=k then by subst e;exact HC.o else HA.o j hj (by omega)⟩
          case measure=>simp[intOf];omega
      · obtain rfl:k=s.size:=by omega
        have HR:=ai (M.Ol s h1 h2 (fun k hk=>HA.o k hk hk));go_wp2;go_ret;exact⟨bY HR.o.symm,rfl⟩
   · have HR:=ai (M.EO s (fun h=>h2 h.2));have d1:¬(s.size:Int)<1:=by omega
     have d2:12<(s.size:Int):=by omega
     go_enter Tryz.func198,Tryz.ntmps198;go_wp2;go_ret;exact⟨bY HR.o.symm,rfl⟩
 · have HR:=ai (M.EO s (fun h=>h1 h.1));have d1:(s.size:Int)<1:=by omega
   go_enter Tryz.func198,Tryz.ntmps198;go_wp2;go_ret;exact⟨bY HR.o.symm,rfl⟩
end W
namespace LW
open Go.RowKit
open W (ai)
theorem IQ (w:World):Below w.heap.size w w.drew:=⟨rfl,rfl,rfl,Nat.le_refl _,fun _ _=>rfl⟩
theorem bY {a b:Bool} (h:a=b):Ending.returned (.bool a)=.returned (.bool b):=by rw[h]
theorem pZ (s:LM.Sh) (w:World) (h:LM.oc w s.ao s.bg) (hf:LM.DF s) :
  Calls Tryz.prog 146 #[.agg (LM.lW s)] w fun e w'=>e=.returned (.bool (LM.bQ s))/\Below w.heap.size w w':=by
 obtain⟨f1,f2,f3,f4⟩:=hf;obtain⟨pg,dt,fs,ao,cap⟩:=s;simp only at f1 f2 f3 f4;unfold M.gu at f1;unfold M.bD at f2 f3;simp only[LM.lW];have hdl:dt.size<=maxLen:=by unfold maxLen;omega
 have F4:=ai f4;have HH:=ai h;clear f4 h;have HB:=ai ((Below.refl w.heap.size w).alloc (Nat.le_refl _) (.cells #[I pg,.string dt,.slice ao fs.length cap] 50));by_cases h1:pg<1
 · have e:LM.bQ ⟨pg,dt,fs,ao,cap⟩=false:=by
    unfold LM.bQ LM.jK;rw[decide_eq_false (by simp only;omega),Bool.false_and]
   rw[e];go_enter Tryz.func146,Tryz.ntmps146;go_wp2;go_ret;exact⟨rfl,HB.o⟩
 by_cases h2:255<pg
 · have e:LM.bQ ⟨pg,dt,fs,ao,cap⟩=false:=by
    unfold LM.bQ LM.jK;rw[decide_eq_false (by simp only;omega),Bool.false_and]
   rw[e];go_enter Tryz.func146,Tryz.ntmps146;go_wp2;go_ret;exact⟨rfl,HB.o⟩
 by_cases h3:dt.size=16
 · have h3':(dt.size:Int)=16:=by omega
   have e:LM.jK ⟨pg,dt,fs,ao,cap⟩=true:=by
    unfold LM.jK;exact decide_eq_true ⟨by simp only;omega,by simp only;omega,h3⟩
   have E:Hid (LM.bQ ⟨pg,dt,fs,ao,cap⟩=LM.cH fs fs.length):=by
    show _=_;unfold LM.bQ;rw[e,Bool.true_and]
   clear e h3;go_enter Tryz.func146,Tryz.ntmps146;go_wp2;go_loopw [23,3] (fun i en wr=>∃k:Nat,k<=fs.length/\i=I k/\en=I (LM.l6 fs k)/\LM.cH fs k=true/\Below w.heap.size w wr) (fun i _ _=>fs.length-(intOf i).toNat)
   case atStart=>exact⟨0,by omega,rfl,rfl,rfl,HB.o⟩
   case round =>
    obtain⟨k,hk,rfl,rfl,hg,hb⟩:=hrel;have HG:=ai hg;have iY:=ai hb;clear hg;by_cases hlt:k<fs.length
    · obtain⟨b,off,hao,hbl,bN⟩:=(HH.o.below hb) (by omega);subst hao;obtain⟨c0,c1⟩:=bN k hlt;obtain⟨g1,g2⟩:=F4.o k hlt;have ZX:=LM.jr fs k HG.o;obtain⟨f,wu⟩:=ex (LM.mi fs k);rw[<- wu] at c0 c1 g1 g2;unfold M.gu at g1;unfold M.bD at g2;have hfl:f.bytes.size<=maxLen:=by unfold maxLen;omega
      have s9:=ai wu;clear wu bN hb;obtain⟨en,hen⟩:=ex (LM.l6 fs k);rw[<- hen] at ZX;have iy:=ai hen;rw[<- hen];clear hen;have cQ:=ai (iY.o.alloc iY.o.size (.cells #[I f.off,.string f.bytes] 52));by_cases q1:f.off<en
      · have HX:Hid (LM.cH fs fs.length=false):=LM.mA fs k hlt (by rw[<- s9.o,<- iy.o];exact LM.qW (by omega));go_wp2;go_ret;exact⟨bY (by rw[E.o,HX.o]),cQ.o⟩
      by_cases q2:16<f.off
      · have HX:Hid (LM.cH fs fs.length=false):=LM.mA fs k hlt (by rw[<- s9.o,<- iy.o];exact LM.qW (by omega));go_wp2;go_ret;exact⟨bY (by rw[E.o,HX.o]),cQ.o⟩
      by_cases q3:(f.bytes.size:Int)<1
      · have HX:Hid (LM.cH fs fs.length=false):=LM.mA fs k hlt (by rw[<- s9.o,<- iy.o];exact LM.qW (by omega));go_wp2;go_ret;exact⟨bY (by rw[E.o,HX.o]),cQ.o⟩
      by_cases q4:16-f.off<(f.bytes.size:Int)
      · have HX:Hid (LM.cH fs fs.length=false):=LM.mA fs k hlt (by rw[<- s9.o,<- iy.o];exact LM.qW (by omega));go_wp2;go_ret;exact⟨bY (by rw[E.o,HX.o]),cQ.o⟩
      · have HX:Hid (LM.cH fs (k+1)=true):=by
         show _=_;simp only[LM.cH,Bool.and_eq_true];exact⟨HG.o,by rw[<- s9.o,<- iy.o];exact(LM.oK _ _).2 (by omega)⟩
        have HY:Hid (LM.l6 fs (k+1)=f.off+(f.bytes.size:Int)):=by show _=_;simp only[LM.l6];rw[<- s9.o]
        go_wp2;go_roundw
        case rel=>exact⟨k+1,by omega,by go_num,by rw[HY.o],HX.o,cQ.o⟩
        case measure=>simp[intOf];omega
    · obtain rfl:k=fs.length:=by omega
      go_wp2;go_ret;exact⟨bY (by rw[E.o,HG.o]),iY.o⟩
 · have e:LM.bQ ⟨pg,dt,fs,ao,cap⟩=false:=by
    unfold LM.bQ LM.jK;rw[decide_eq_false (fun h=>h3 h.2.2),Bool.false_and]
   have h3':((dt.size:Int)==16)=false:=by simp;omega
   rw[e];go_enter Tryz.func146,Tryz.ntmps146;go_wp2;go_ret;exact⟨rfl,HB.o⟩
end LW
namespace CW
open Go.RowKit
theorem Co (n:Int) (size:Nat) (w:World) (h2:size<=8) :
  Calls Tryz.prog 138 #[I n,I size] w fun e w'=>e=.returned (.string ⟨(Lib.leBytes size (CM.low n)).toArray⟩)/\Below w.heap.size w w':=by
 go_enter Tryz.func138,Tryz.ntmps138;go_wp2;go_loopw [0,5,6] (fun t s i wr=>∃k:Nat,k<=size/\i=I k/\t=I (CM.shr n k)/\s=.string ⟨(Lib.leBytes k (CM.low n)).toArray⟩/\Below w.heap.size w wr) (fun _ _ i _=>size-(intOf i).toNat)
 case atStart=>exact⟨0,by omega,rfl,by rw[CM.NK],rfl,Below.refl _ _⟩
 case round =>
  obtain⟨k,hk,rfl,rfl,rfl,hb⟩:=hrel;by_cases hlt:k<size
  · have hcv:(convert 137 9 (.slice (some (Ad wr.heap.size 0)) 1 1)).run Tryz.prog (wr.alloc (.cells #[.int .u8 (CM.shr n k%256)] 5))=.ok (.string ⟨#[(CM.low n/256 ^ k%256).toUInt8]⟩) (wr.alloc (.cells #[.int .u8 (CM.shr n k%256)] 5)):=by
     rw[<- CM.x8 n k (by omega)];refine run_convert_bytes_arg _ 137 5 Tryz.underlying137 Tryz.underlying5 _ 0 1 1 [CM.shr n k%256] rfl ?_ 9 Tryz.underlying9;intro i hi;obtain rfl:i=0:=by omega
     simp
    have hl:(Lib.leBytes k (CM.low n)).length=k:=Lib.leBytes_length _ _;have HN:Hid (Lib.leBytes (k+1) (CM.low n)=Lib.leBytes k (CM.low n)++[(CM.low n/256 ^ k%256).toUInt8]):=CM.tR _ _;go_wp2;go_roundw
    case rel=>exact⟨k+1,by omega,by go_num,by rw[<- CM.NL],by rw[HN.o];exact congrArg Value.string (CM.Lj _ [_]),hb.alloc (by have:=hb.size;omega) _⟩
    case measure=>simp[intOf];omega
  · obtain rfl:k=size:=by omega
    go_wp2;go_ret;exact⟨rfl,hb⟩
theorem Va:(Tryz.prog.info? 5).map (fun i=>(i.zero,i.size,i.bytes))=some (some (.int .u8 0),1,1):=by kernel_rfl
theorem T6 (s:ByteArray) (w:World) (hlim:s.size<=281474976710656) :
  Calls Tryz.prog 152 #[.string s] w fun e w'=>e=.returned (.string s)/\Below w.heap.size w w':=by
 by_cases h0:s.size=0
 · have hs:s=⟨#[]⟩:=by
    apply ByteArray.ext;exact Array.eq_empty_of_size_eq_zero h0
   subst hs;go_enter Tryz.func152,Tryz.ntmps152;go_wp2;go_ret;exact⟨rfl,Below.refl _ _⟩
 · obtain⟨i0,hi,hz0,hz1,hz2⟩:=info_parts Va;have hinfo:(Tryz.prog.info? 5).map (·.size)=some 1:=by rw[hi];simp[hz1]
   have hco:Tryz.prog.cellsOf 5=1:=by simp[Program.cellsOf,hi,hz1]
   obtain⟨M,hM⟩:=ex (madeCells (Value.int .u8 0).cells (((s.size:Nat):Int).toNat*i0.size));have hMs:M.size=s.size:=by rw[hM,size_madeCells,hz1];simp
   have hmk:∀W:World,(Instr.makeSlice 137 (I (s.size:Int)) (I (s.size:Int))).run Tryz.prog W=.ok (.slice (some (Ad W.heap.size 0)) s.size s.size) (W.alloc (.cells M 5)):=fun W=>by
    have h:=run_make (P:=Tryz.prog) W 137 5 i0 (.int .u8 0) Tryz.underlying137 hi hz0 .i64 .i64 (s.size:Int) (s.size:Int) (by omega) (by omega) (by rw[hz2];omega) (by omega);rw[<- hM] at h;simpa using h
   clear hM;have uW:=Lib.run_copy_row_string (P:=Tryz.prog) (w.alloc (.cells M 5)) 137 9 3 5 w.heap.size 0 s.size s.size s M 5 Tryz.underlying137 hinfo (heap_alloc_new w _) (Nat.le_refl _) (by omega);obtain⟨Y,hY⟩:=ex ((M.toList.take 0++Lib.byteCells s.data.toList++M.toList.drop (0+s.size)).toArray);rw[<- hY] at uW;have hYl:Y.toList=Lib.byteCells s.data.toList:=by
    rw[hY,List.toList_toArray,List.take_zero,List.nil_append,List.drop_of_length_le (by rw[Array.length_toList];omega),List.append_nil]
   have hYs:Y.size=s.size:=by rw[<- Array.length_toList,hYl,Lib.byteCells_length,<- Lib.size_eq]
   have hgY:((w.alloc (.cells M 5)).setRow w.heap.size Y).heap[w.heap.size]?=some (.cells Y 5 (0,0)):=setRow_heap _ _ M _ 5 (0,0) (heap_alloc_new w _);have hne:s.data.toList≠[]:=fun e=>h0 (by rw[Lib.size_eq,e];rfl)
   have hUS:=Lib.run_unsafeString_row (P:=Tryz.prog) ((w.alloc (.cells M 5)).setRow w.heap.size Y) 235 3 9 5 Tryz.underlying235 hco w.heap.size Y.size (by unfold World.shape?;rw[hgY]) s.data.toList hne (by rw[<- Lib.size_eq];omega) (by rw[<- Lib.size_eq];omega)
    (fun j x hx=>Lib.cells_of_row hgY Y.size j _ (by rw[List.take_of_length_le (by rw[Array.length_toList];exact Nat.le_refl _),hYl];simp[Lib.byteCells,hx]))
   rw[<- Lib.size_eq] at hUS;clear hY;go_enter Tryz.func152,Tryz.ntmps152;go_wp2;go_ret;have hb1:Below w.heap.size w (w.alloc (.cells M 5)):=(Below.refl _ w).alloc (Nat.le_refl _) _;have hb2:Below w.heap.size (w.alloc (.cells M 5)) ((w.alloc (.cells M 5)).setRow w.heap.size Y):=⟨rfl,rfl,rfl,by simp,fun k hk=>setRow_other _ _ _ _ (by omega)⟩;exact⟨rfl,Lib.below_freeze (hb1.trans hb2) (p:=(Ad w.heap.size 0)) (Nat.le_refl _) _⟩
theorem J2 (s:ByteArray) (w:World) (hlim:s.size<=281474976710656) :
  Calls Tryz.prog 116 #[.string s] w fun e w'=>e=.returned (.string s)/\Below w.heap.size w w':=by
 go_enter Tryz.func116,Tryz.ntmps116;go_wp2_with (go_at_call 152;refine(T6 _ _ hlim).mono ?_;rintro e w' ⟨rfl,hb⟩)
 go_ret;exact⟨rfl,by assumption⟩
theorem sG (l o n:Int) (w:World) (h1:0<=o) (h2:0<=n) (h3:o<=l) (h4:n<=l-o) (h5:l<=9223372036854775807) :
  Calls Tryz.prog 115 #[I l,I o,I n] w fun e w'=>e=.returned (.bool true)/\w=w':=by
 go_enter Tryz.func115,Tryz.ntmps115;go_wp2;go_ret;exact⟨rfl,rfl⟩
theorem yI (s:ByteArray) (o n:Nat) (w:World) (hs:s.size<=140737488351232) (h:o+n<=s.size) :
  Calls Tryz.prog 63 #[.string s,I o,I n] w fun e w'=>e=.returned (.tuple #[.string (s.extract o (o+n)),I 0])/\Below w.heap.size w w':=by
 go_enter Tryz.func63,Tryz.ntmps63;go_wp2_with (first | (go_at_call 115;refine(sG _ _ _ _ (by omega) (by omega) (by omega) (by omega) (by omega)).mono ?_;rintro e w' ⟨rfl,rfl⟩) | (go_at_call 116;refine(J2 _ _ (by simp;omega)).mono ?_;rintro e w' ⟨rfl,hb⟩))
 go_ret2
 exact⟨rfl,by assumption⟩
theorem C4 (s t:ByteArray) (o:Nat) (w:World) (hs:s.size<=140737488351232) (h:o+t.size<=s.size) :
  Calls Tryz.prog 65 #[.string s,I o,.string t] w fun e w'=>e=.returned (.tuple #[.string (CL.over s o t),I 0])/\Below w.heap.size w w':=by
 obtain⟨i0,hi,hz0,hz1,hz2⟩:=info_parts Va;have hinfo:(Tryz.prog.info? 5).map (·.size)=some 1:=by rw[hi];simp[hz1]
 obtain⟨c,hc⟩:∃c,grownCap w s.size 0 5=c:=⟨_,rfl⟩;have hcs:s.size<=c:=by rw[<- hc];exact grownCap_ge _ _ _ _
 have hcv:=run_bytes_of_string (P:=Tryz.prog) w 9 137 5 s Tryz.underlying9 Tryz.underlying137 Tryz.underlying5;rw[hc] at hcv;clear hc;have hRs:(bytesRow s c).size=c:=by rw[CL.AQ];omega
 have hov:=CL.Hb s o t c h;obtain⟨R,hR⟩:=ex (bytesRow s c);rw[<- hR] at hcv hRs hov;clear hR;rw[hRs] at hcv;have hgR:((w.alloc (.cells R 5 (c,c+1))).drew).heap[w.heap.size]?=some (.cells R 5 (c,c+1)):=heap_alloc_new w _;by_cases h0:t.size=0
 · have uW:=fun W d l c=>Lib.run_copy_empty_string (P:=Tryz.prog) W 137 9 3 5 d l c t Tryz.underlying137 (by rw[hinfo];rfl) h0
   rw[CL.N5 s o t h0] at hov ⊢;have hcb:(convert 137 9 (.slice (some (Ad w.heap.size 0)) s.size c)).run Tryz.prog ((w.alloc (.cells R 5 (c,c+1))).drew)=.ok (.string s) ((w.alloc (.cells R 5 (c,c+1))).drew):=by
    have es:strOfNums (s.data.toList.map fun b=>(b.toNat:Int))=s:=(CM.py _).trans (Lib.mk_data s);refine Eq.trans ?_ (congrArg (fun x=>Result.ok (Value.string x) ((w.alloc (.cells R 5 (c,c+1))).drew)) es);refine run_convert_bytes_arg _ 137 5 Tryz.underlying137 Tryz.underlying5 _ 0 s.size c _ (by rw[List.length_map,<- Lib.size_eq]) ?_ 9 Tryz.underlying9;intro i hi;have ht:t.data.toList=[]:=List.eq_nil_of_length_eq_zero (by rw[<- Lib.size_eq];exact h0);have e:=hov i hi;rw[ht,h0] at e;rw[Nat.zero_add,cell_of_row _ _ _ _ _ _ hgR];simpa [Lib.byteCells] using e
   go_enter Tryz.func65,Tryz.ntmps65;go_wp2_with (first | (go_at_call 115;refine(sG _ _ _ _ (by omega) (by omega) (by omega) (by omega) (by omega)).mono ?_;rintro e w' ⟨rfl,rfl⟩))
   all_goals go_ret2
   all_goals exact⟨rfl,((Below.refl _ _).alloc (Nat.le_refl _) _).drew⟩
 · have hno:¬c=o:=by omega
   have uW:=CL.Fy (P:=Tryz.prog) ((w.alloc (.cells R 5 (c,c+1))).drew) 137 9 3 5 w.heap.size o (s.size-o) (c-o) t R 5 c (c+1) Tryz.underlying137 hinfo hgR (by omega) (by omega) (by omega);obtain⟨Y,hY⟩:=ex ((R.toList.take o++Lib.byteCells t.data.toList++R.toList.drop (o+t.size)).toArray);rw[<- hY] at uW;have hgY:(((w.alloc (.cells R 5 (c,c+1))).drew).setRow w.heap.size Y).heap[w.heap.size]?=some (.cells Y 5 (c,c+1)):=setRow_heap _ _ R _ 5 (c,c+1) hgR;have hcb:(convert 137 9 (.slice (some (Ad w.heap.size 0)) s.size c)).run Tryz.prog (((w.alloc (.cells R 5 (c,c+1))).drew).setRow w.heap.size Y)=.ok (.string (CL.over s o t)) (((w.alloc (.cells R 5 (c,c+1))).drew).setRow w.heap.size Y):=by
    rw[<- Lib.mk_data (CL.over s o t),<- CM.py];refine run_convert_bytes_arg _ 137 5 Tryz.underlying137 Tryz.underlying5 _ 0 s.size c _ (by rw[List.length_map];exact CL.oD s o t h) ?_ 9 Tryz.underlying9;intro i hi;rw[Nat.zero_add,cell_of_row _ _ _ _ _ _ hgY,hY];simpa using hov i hi
   clear hov hY;go_enter Tryz.func65,Tryz.ntmps65;go_wp2_with (first | (go_at_call 115;refine(sG _ _ _ _ (by omega) (by omega) (by omega) (by omega) (by omega)).mono ?_;rintro e w' ⟨rfl,rfl⟩))
   go_ret2
   exact⟨rfl,below_setRow ((Below.refl _ _).alloc (Nat.le_refl _) _).drew (Nat.le_refl _) _⟩
theorem N6 (s t:ByteArray) (o:Nat) (w:World) (hs:s.size<=140737488351232) (h:o+t.size<=s.size) :
  Calls Tryz.prog 68 #[.string s,I o,.string t] w fun e w'=>e=.returned (.string (CL.over s o t))/\Below w.heap.size w w':=by
 have h1:(o:Int)<=(s.size:Int):=by omega
 have h2:(o:Int)+(t.size:Int)<=(s.size:Int):=by omega
 go_enter Tryz.func68,Tryz.ntmps68;go_wp2
 go_quiet (fail)
 go_wp2;go_ret;exact⟨by rw[<- CL.Ha s o t];rfl,Go.below_drewN (Below.refl _ _) _⟩
end CW
end Go.Proofs.YtpgifpeohlllfaaGreat
