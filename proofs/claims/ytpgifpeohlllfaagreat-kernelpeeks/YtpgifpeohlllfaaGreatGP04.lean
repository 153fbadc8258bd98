import Derived.Test.YtpgifpeohlllfaaGreatGP00
import Derived.Test.YtpgifpeohlllfaaGreatGP03
import Derived.Test.YtpgifpeohlllfaaGreatGP02
import Derived.Test.YtpgifpeohlllfaaGreatProg
import Derived.WalkLawsBesides
import Derived.WalkSpells
import Derived.Deep.QuietTactic
import Derived.BigQuiet
import Derived.WalkKit
import Derived.Below
set_option maxHeartbeats 20000000
set_option linter.unusedVariables false
set_option maxRecDepth 100000
set_option linter.unusedSimpArgs false
namespace Go.Proofs.YtpgifpeohlllfaaGreat
namespace PM
open Go.RowKit
structure Pr where
 r:Nat->Int
 pc:Int
 st:Int
 cd:Int
 fk:Int
 fa:Int
end PM
namespace FM
open Go.RowKit
structure Pg where
 page:Int
 data:ByteArray
structure Sp where
 live:Bool
 aA:List AM.Ar
 aB:List Pg
structure Wd where
 proc:Int
 value:Int
structure Fl where
 slots:Int
 aj:List Sp
 procs:List PM.Pr
 out:List Wd
def pg0:Pg:=⟨0,⟨#[]⟩⟩
def numbers (l:List Pg):List Int:=l.map (·.page)
theorem rising_pairwise:∀(l:List Int),(∀k,0<k->k<l.length->l.getD (k-1) 0<l.getD k 0)->l.Pairwise (·<·)
 | [],_=>List.Pairwise.nil
 | [a],_=>List.pairwise_singleton _ _
 | a::b::r,h=>by
  have ih:=rising_pairwise (b::r) (fun k h1 h2=>by
   have:=h (k+1) (by omega) (by simp at h2 ⊢;omega)
   obtain⟨j,rfl⟩:∃j,k=j+1:=⟨k-1,by omega⟩
   exact this)
  have h0:a<b:=h 1 (by omega) (by simp)
  rw[List.pairwise_cons] at ih ⊢
  refine⟨fun x hx=>?_,List.pairwise_cons.2 ih⟩
  rcases List.mem_cons.1 hx with g | g
  · omega
  · have:=ih.1 x g
    omega
theorem uY {l:List Int} (h:l.Pairwise (·<·)) (k:Nat) (h1:0<k) (h2:k<l.length):l.getD (k-1) 0<l.getD k 0:=by
 have:=List.pairwise_iff_getElem.1 h (k-1) k (by omega) h2 (by omega)
 rw[List.getD_eq_getElem?_getD,List.getD_eq_getElem?_getD,List.getElem?_eq_getElem h2,List.getElem?_eq_getElem (by omega)]
 exact this
end FM
namespace KM
open Go.RowKit
theorem pM (es:List En) (k:Nat):(es.map (·.page)).getD k 0=(aJ es k).page:=by
 unfold aJ
 rw[List.getD_eq_getElem?_getD,List.getD_eq_getElem?_getD,List.getElem?_map]
 cases es[k]? <;> rfl
theorem iY {ar:List AM.Ar} {p:Int} (h:(AM.aK ar p).2=true):1<=p/\p<256:=by
 have:=FM.jN (FM.kr h) h
 exact⟨this.1,this.2.1⟩
theorem wy {nf ns:Nat} {ar:List AM.Ar} {es:List En}:(∀i,i<es.length->o5 nf ns ar (aJ es i)/\kL es i<(aJ es i).page)↔(∀e∈es,o5 nf ns ar e)/\jU es:=by
 constructor
 · intro h
   refine⟨fun e he=>?_,FM.rising_pairwise _ fun k h1 h2=>?_⟩
   · obtain⟨i,hi,rfl⟩:=eu jz he
     exact(h i hi).1
   · rw[List.length_map] at h2
     rw[pM,pM]
     have:=(h k h2).2
     unfold kL at this
     rw[if_neg (by omega)] at this
     exact this
 · rintro⟨h1,h2⟩ i hi
   have he:=h1 (aJ es i) (dB hi)
   refine⟨he,?_⟩
   unfold kL
   by_cases c:i=0
   · rw[if_pos c];have:=iY he.1;omega
   · rw[if_neg c,<- pM,<- pM]
     exact FM.uY h2 i (by omega) (by rw[List.length_map];exact hi)
theorem uE {hs:List LM.Sh} (hr:LM.cZ hs=true) (p:Int):(filled hs p).size≠0↔(bK hs p).isSome=true:=by
 constructor
 · intro h
   unfold filled at h
   cases g:bK hs p with
   | some s=>rfl
   | none=>rw[g] at h;exact absurd rfl h
 · intro h
   rw[uF hs hr p h];decide
theorem PF {ar:List AM.Ar} (hc:AM.aO ar=0) (p:Int):(AM.aK ar p).2=true↔∃a∈ar,a.page<=p/\p<a.page+a.aB/\AM.aK ar p=(a,true):=by
 constructor
 · intro h
   have hf:AM.aK ar p=AM.aN ar p:=by unfold AM.aK;rw[if_pos hc]
   rw[hf] at h
   obtain⟨k,hk,h1,h2⟩:=FM.rY ar p h
   refine⟨AM.at_ ar k,dB hk,((AM.mz _ _).1 h1).1,((AM.mz _ _).1 h1).2,?_⟩
   rw[hf,<- h2,<- h]
 · rintro⟨a,_,_,_,e⟩
   rw[e]
theorem O7 {ar:List AM.Ar} (hc:AM.aO ar=0) {a:AM.Ar} (ha:a∈ar) {p:Int} (h1:a.page<=p) (h2:p<a.page+a.aB):AM.aK ar p=(a,true):=by
 obtain⟨k,hk,e⟩:=eu AM.nil ha
 have e:AM.at_ ar k=a:=e
 have hit:AM.hit (AM.at_ ar k) p=true:=by rw[e];exact(AM.mz _ _).2 ⟨h1,h2⟩
 have hf:AM.aK ar p=AM.aN ar p:=by unfold AM.aK;rw[if_pos hc]
 obtain⟨j,hj,g⟩:=LM.xo ar p k hk hit
 have:(AM.aN ar p).2=true:=by rw[g]
 obtain⟨i,hi,i1,i2⟩:=FM.rY ar p this
 have:=LM.vB ar hc p i k hi hk i1 hit
 subst this
 rw[hf]
 have e2:(AM.aN ar p).1=a:=by rw[i2,e]
 rw[<- e2,<- this]
theorem C6 {hs:List LM.Sh} (hr:LM.cZ hs=true) {ar:List AM.Ar} (hc:AM.aO ar=0):og hs ar=true↔∀p,(AM.aK ar p).2=true->(AM.aK ar p).1.zero=false->(bK hs p).isSome=true:=by
 unfold og
 rw[List.all_eq_true]
 constructor
 · intro h p hp hz
   obtain⟨a,ha,h1,h2,e⟩:=(PF hc p).1 hp
   rw[e] at hz
   have hz:a.zero=false:=hz
   have:=h a ha
   rw[List.all_eq_true] at this
   have:=this (p-a.page).toNat (List.mem_range.2 (by omega))
   rw[hz,Bool.false_or,decide_eq_true_eq,show a.page+((p-a.page).toNat:Int)=p by omega] at this
   exact(uE hr p).1 this
 · intro h a ha
   rw[List.all_eq_true]
   intro n hn
   have hn:=List.mem_range.1 hn
   have e:=O7 hc ha (p:=a.page+(n:Int)) (by omega) (by omega)
   cases z:a.zero with
   | true=>rfl
   | false =>
    rw[Bool.false_or,decide_eq_true_eq]
    exact(uE hr _).2 (h _ (by rw[e]) (by rw[e];exact z))
theorem Ou (ss:List Sp) (k:Nat) (hk:k<ss.length):ss.take (k+1)=ss.take k++[aq ss k]:=by
 rw[List.take_add_one]
 unfold aq
 rw[List.getD_eq_getElem?_getD,List.getElem?_eq_getElem hk]
 rfl
theorem qF (ss:List Sp) (k:Nat) (hk:k<ss.length) (kd a:Int):names (ss.take (k+1)) kd a=names (ss.take k) kd a++eG (aq ss k) kd a:=by
 rw[Ou ss k hk,Ax]
 congr 1
 rw[fC,ID,List.append_nil]
theorem BW (nf ns:Nat):yC (fun _ _=>[]) nf ns (List.replicate nf gz,List.replicate ns gz):=by
 have h:∀n i,cQ (List.replicate n gz) i=gz:=fun n i=>by
  unfold cQ
  rw[List.getD_eq_getElem?_getD,List.getElem?_replicate]
  by_cases c:i<n
  · rw[if_pos c];rfl
  · rw[if_neg c];rfl
 refine⟨⟨List.length_replicate,List.length_replicate⟩,fun i _=>?_,fun i _=>?_⟩
 · show Sum [] (cQ (List.replicate nf gz) i);rw[h];exact⟨rfl,by simp⟩
 · show Sum [] (cQ (List.replicate ns gz) i);rw[h];exact⟨rfl,by simp⟩
theorem UE {hs:List LM.Sh} (hr:LM.cZ hs=true) {nf ns:Nat} {s:Sp} (h1:jZ hs s=true) (h2:(∀e∈s.au,o5 nf ns s.aA e)/\jU s.au):J5 hs nf ns s:=by
 unfold jZ at h1
 by_cases c:s.live=true
 · rw[if_pos c,Bool.and_eq_true,decide_eq_true_eq] at h1
   exact⟨fun d=>(by rw[c] at d;cases d),h1.1,h2.2,h2.1,(C6 hr h1.1).1 h1.2⟩
 · rw[if_neg c,Bool.and_eq_true,decide_eq_true_eq,decide_eq_true_eq] at h1
   have ha:=List.eq_nil_of_length_eq_zero h1.1
   refine⟨fun _=>⟨ha,List.eq_nil_of_length_eq_zero h1.2⟩,by rw[ha];rfl,h2.2,h2.1,fun p hp=>?_⟩
   rw[ha] at hp
   cases hp
theorem UL {hs:List LM.Sh} (hr:LM.cZ hs=true) {nf ns:Nat} {s:Sp} (h:J5 hs nf ns s):jZ hs s=true:=by
 unfold jZ
 by_cases c:s.live=true
 · rw[if_pos c,h.aA,(C6 hr h.aA).2 h.ak];rfl
 · rw[if_neg c,(h.dead (by simpa using c)).1,(h.dead (by simpa using c)).2];rfl
theorem ru {hs:List LM.Sh} (hr:LM.cZ hs=true) {nf ns:Nat} {u:List Us×List Us} (h:yC (fun _ _=>[]) nf ns u) (ss:List Sp):∀k,k<=ss.length->nC hs ss u k=true->yC (fun kd i=>names (ss.take k) kd i) nf ns (kj ss u k)/\∀i,i<k->J5 hs nf ns (aq ss i)
 | 0,_,_=>⟨by
  have e:(fun kd i=>names (ss.take 0) kd i)=fun _ _=>[]:=by funext kd i;rfl
  rw[e]
  exact h,fun i hi=>by omega⟩
 | k+1,hk,hb=>by
  unfold nC at hb
  rw[Bool.and_eq_true,Bool.and_eq_true] at hb
  obtain⟨a1,a2⟩:=ru hr h ss k (by omega) hb.1
  obtain⟨b1,b2⟩:=xz a1 (aq ss k).aA (aq ss k).au _ (Nat.le_refl _) hb.2.2
  refine⟨?_,fun i hi=>?_⟩
  · have e:(fun kd i=>names (ss.take (k+1)) kd i)=fun kd i=>names (ss.take k) kd i++nm (aq ss k).aA kd i ((aq ss k).au.take (aq ss k).au.length):=by
     funext kd i
     rw[qF ss k (by omega),List.take_length]
     rfl
    rw[e];exact b1
  · by_cases c:i=k
    · subst c;exact UE hr hb.2.1 (wy.1 b2)
    · exact a2 i (by omega)
theorem IC {ss:List Sp} {k:Nat} {kd a:Int} {x:Int×Bool} (h:x∈names (ss.take k) kd a):x∈names ss kd a:=by
 obtain⟨s,hs,r⟩:=ig.1 h
 exact ig.2 ⟨s,List.mem_of_mem_take hs,r⟩
theorem B0 {hs:List LM.Sh} (hr:LM.cZ hs=true) {nf ns:Nat} {u:List Us×List Us} (h:yC (fun _ _=>[]) nf ns u) (ss:List Sp) (hsp:∀i,i<ss.length->J5 hs nf ns (aq ss i)) (ho:∀kd i,∀x∈names ss kd i,∀y∈names ss kd i,x=y):∀k,k<=ss.length->nC hs ss u k=true
 | 0,_=>rfl
 | k+1,hk=>by
  have ih:=B0 hr h ss hsp ho k (by omega)
  unfold nC
  obtain⟨a1,_⟩:=ru hr h ss k (by omega) ih
  have g:=hsp k (by omega)
  rw[ih,UL hr g,Bool.true_and,Bool.true_and]
  refine zF a1 _ _ (wy.2 ⟨g.tH,g.dU⟩) (fun kd i x hx y hy=>?_) _ (Nat.le_refl _)
  have key:∀z,z∈names (ss.take k) kd i++nm (aq ss k).aA kd i (aq ss k).au->z∈names ss kd i:=fun z hz=>by
   refine IC (k:=k+1) ?_
   rw[qF ss k (by omega)]
   exact hz
  exact ho kd i x (key x hx) y (key y hy)
theorem rQ (f:Fr):sD f=true↔f=l9:=by
 unfold sD
 rw[decide_eq_true_eq]
 constructor
 · rintro⟨h1,h2,h3,h4⟩
   obtain⟨⟨⟨d⟩⟩,r,a,b⟩:=f
   simp only at h2 h3 h4
   subst h2 h3 h4
   have:d=[]:=List.eq_nil_of_length_eq_zero h1
   subst this
   rfl
 · rintro rfl;exact⟨rfl,rfl,rfl,rfl⟩
theorem rR (f:Sl):nt f=true↔f=xY:=by
 unfold nt
 rw[decide_eq_true_eq]
 constructor
 · rintro⟨h1,h2⟩
   obtain⟨⟨⟨d⟩⟩,r⟩:=f
   simp only at h2
   subst h2
   have:d=[]:=List.eq_nil_of_length_eq_zero h1
   subst this
   rfl
 · rintro rfl;exact⟨rfl,rfl⟩
theorem Gj {L:List (Int×Bool)} {u:Us} (h:Sum L u):∀x∈L,∀y∈L,x=y:=fun x hx y hy=>(h.2 x hx).trans (h.2 y hy).symm
theorem sum_nil {L:List (Int×Bool)} {u:Us} (h:Sum L u):u.refs=0↔L=[]:=by
 rw[h.1]
 constructor
 · exact fun e=>List.eq_nil_of_length_eq_zero (by omega)
 · rintro rfl;rfl
theorem MD {hs:List LM.Sh} {L:List (Int×Bool)} {u:Us} (h:Sum L u) (f:Fr):fq hs f u=true↔uQ hs L f:=by
 unfold fq
 by_cases c:u.refs=0
 · have hL:=(sum_nil h).1 c
   subst hL
   rw[if_pos c,rQ]
   exact⟨fun e=>by rw[e];exact uQ.none hs,fun e=>e.zero rfl⟩
 · have hL:L≠[]:=fun e=>c ((sum_nil h).2 e)
   rw[if_neg c,Bool.and_eq_true,decide_eq_true_eq,Bool.or_eq_true,decide_eq_true_eq]
   constructor
   · rintro⟨⟨h1,h2⟩,h3⟩
     refine⟨h1.trans h.1,fun e=>absurd e hL,Gj h,fun _=>h2,fun d x hx=>?_⟩
     rw[h.2 x hx]
     exact h3.resolve_left (by rw[d];simp)
   · intro g
     refine⟨⟨g.refs.trans h.1.symm,g.size hL⟩,?_⟩
     cases d:f.bW with
     | true=>exact .inl rfl
     | false =>
      obtain⟨x,hx⟩:=List.exists_mem_of_ne_nil _ hL
      have:=g.fill d x hx
      rw[h.2 x hx] at this
      exact .inr this
theorem KN {L:List (Int×Bool)} {u:Us} (h:Sum L u) (f:Sl):gF f u=true↔DC L f:=by
 unfold gF
 by_cases c:u.refs=0
 · have hL:=(sum_nil h).1 c
   subst hL
   rw[if_pos c,rR]
   exact⟨fun e=>by rw[e];exact DC.none,fun e=>e.zero rfl⟩
 · have hL:L≠[]:=fun e=>c ((sum_nil h).2 e)
   rw[if_neg c,decide_eq_true_eq]
   constructor
   · rintro⟨h1,h2⟩
     exact⟨h1.trans h.1,fun e=>absurd e hL,Gj h,fun _=>h2⟩
   · intro g
     exact⟨g.refs.trans h.1.symm,g.size hL⟩
theorem De (k:Kn) (hc:counts k=true):rZ k=true↔aQ k:=by
 unfold rZ
 simp only[Bool.and_eq_true,decide_eq_true_eq,List.all_eq_true,List.mem_range]
 have hz:=BW k.frames.length k.slots.length
 have hn:(fun kd i=>names (k.aj.take k.aj.length) kd i)=fun kd i=>names k.aj kd i:=by funext kd i;rw[List.take_length]
 constructor
 · rintro⟨h1,h2,h3,h4,h5,h6⟩
   obtain⟨a1,a2⟩:=ru h1 hz k.aj _ (Nat.le_refl _) h3
   rw[hn] at a1
   refine⟨hc,h1,h2,fun s hs=>?_,h4,fun i hi=>(MD (a1.2.1 i hi) _).1 (h5 i hi),fun i hi=>(KN (a1.2.2 i hi) _).1 (h6 i hi)⟩
   obtain⟨j,hj,rfl⟩:=eu DN hs
   exact a2 j hj
 · intro h
   have ho:∀kd i,∀x∈names k.aj kd i,∀y∈names k.aj kd i,x=y:=fun kd i x hx y hy=>by
    obtain⟨s,hs,e,he,g1,g2,_⟩:=ig.1 hx
    obtain⟨j,hj,rfl⟩:=eu DN hs
    rcases fE h hj he with b | b
    · have:=(h.mO e.loc.toNat b.2.2).one x (by rw[b.2.1,g2,<- b.1,g1];exact hx) y (by rw[b.2.1,g2,<- b.1,g1];exact hy)
      exact this
    · exact(h.slt e.loc.toNat b.2.2).one x (by rw[b.2.1,g2,<- b.1,g1];exact hx) y (by rw[b.2.1,g2,<- b.1,g1];exact hy)
   have hb:=B0 h.dU hz k.aj (fun i hi=>h.sp hi) ho _ (Nat.le_refl _)
   obtain⟨a1,_⟩:=ru h.dU hz k.aj _ (Nat.le_refl _) hb
   rw[hn] at a1
   exact⟨h.dU,h.hand,hb,h.room,fun i hi=>(MD (a1.2.1 i hi) _).2 (h.mO i hi),fun i hi=>(KN (a1.2.2 i hi) _).2 (h.slt i hi)⟩
theorem jP (k:Kn):dA k=0↔aQ k:=by
 unfold dA
 by_cases c:counts k=true
 · rw[if_neg (by rw[c];simp),<- De k c]
   by_cases d:rZ k=true
   · rw[if_pos d];exact⟨fun _=>d,fun _=>rfl⟩
   · rw[if_neg d];exact⟨fun e=>by omega,fun e=>absurd e d⟩
 · rw[if_pos (by simpa using c)]
   exact⟨fun e=>by omega,fun h=>absurd h.counts c⟩
def ve (nf ns:Nat) (ar:List AM.Ar) (es:List En) (i:Nat):Bool:=((AM.aK ar (aJ es i).page).2&&(i==0 || decide ((aJ es (i-1)).page<(aJ es i).page)))&&(if (aJ es i).kind=1 then decide (0<=(aJ es i).loc/\(aJ es i).loc<=(nf:Int)-1) else if (aJ es i).kind=2 then decide (0<=(aJ es i).loc/\(aJ es i).loc<=(ns:Int)-1) else false)
def mD (nf ns:Nat) (ar:List AM.Ar) (es:List En):Nat->Bool
 | 0=>true
 | k+1=>mD nf ns ar es k&&ve nf ns ar es k
def nE (hs:List LM.Sh) (ar:List AM.Ar) (p:Int):Bool:=!((AM.aK ar p).2&&(!(AM.aK ar p).1.zero&&!(bK hs p).isSome))
def iN (hs:List LM.Sh) (ar:List AM.Ar):Nat->Bool
 | 0=>true
 | k+1=>iN hs ar k&&nE hs ar ((k:Int)+1)
def ic (hs:List LM.Sh) (nf ns:Nat) (s:Sp):Bool:=if s.live then decide (AM.aO s.aA=0)&&(mD nf ns s.aA s.au s.au.length&&iN hs s.aA 255) else decide (s.aA.length=0)&&decide (s.au.length=0)
structure Na where
 n:Int
 page:Int
 fine:Bool
 o9:AM.Ar
def XC:Na:=⟨0,0,true,AM.nil⟩
def lC (a:Na) (p:Int) (r:AM.Ar):Na:=⟨a.n+1,p,a.fine&&(decide (a.n=0) || (decide (p=a.page)&&r.zero==a.o9.zero)),r⟩
def ze (ar:List AM.Ar) (kd i:Int) (a:Na) (e:En):Na:=if e.kind=kd/\e.loc=i then lC a e.page (AM.aK ar e.page).1 else a
def lD (ar:List AM.Ar) (es:List En) (kd i:Int) (a:Na):Nat->Na
 | 0=>a
 | k+1=>ze ar kd i (lD ar es kd i a k) (aJ es k)
def wT (ss:List Sp) (kd i:Int):Nat->Na
 | 0=>XC
 | k+1=>lD (aq ss k).aA (aq ss k).au kd i (wT ss kd i k) (aq ss k).au.length
def dg (ss:List Sp) (kd i:Int):Na:=wT ss kd i ss.length
def zy (hs:List LM.Sh) (f:Fr) (a:Na):Bool:=decide (f.refs=a.n)&&(!(decide (a.n=0)&&!sD f)&&!(decide (0<a.n)&&(!a.fine || (decide (f.data.size≠16) || (!f.bW&&decide (f.data≠dh hs a.page a.o9.zero))))))
def DR (f:Sl) (a:Na):Bool:=decide (f.refs=a.n)&&(!(decide (a.n=0)&&!nt f)&&!(decide (0<a.n)&&(!a.fine || decide (f.data.size≠16))))
def qu (k:Kn):Nat->Bool
 | 0=>true
 | n+1=>qu k n&&ic k.ak k.frames.length k.slots.length (aq k.aj n)
def u9 (k:Kn):Nat->Bool
 | 0=>true
 | n+1=>u9 k n&&zy k.ak (aD k.frames n) (dg k.aj 1 n)
def uS (k:Kn):Nat->Bool
 | 0=>true
 | n+1=>uS k n&&DR (bk k.slots n) (dg k.aj 2 n)
def mC (k:Kn):Bool:=LM.cZ k.ak&&(decide (0<=k.hand/\k.hand<=(k.frames.length:Int)-1)&&(qu k k.aj.length&&(decide (room k.aj<=(k.slots.length:Int))&&(u9 k k.frames.length&&uS k k.slots.length))))
theorem qq {f:Nat->Bool} {g:Nat->Bool} (h0:g 0=true) (hs:∀k,g (k+1)=(g k&&f k)):∀n,g n=true↔∀i,i<n->f i=true
 | 0=>⟨fun _ i hi=>by omega,fun _=>h0⟩
 | n+1=>by
  rw[hs,Bool.and_eq_true,qq h0 hs n]
  constructor
  · rintro⟨h1,h2⟩ i hi
    by_cases c:i=n
    · rw[c];exact h2
    · exact h1 i (by omega)
  · exact fun h=>⟨fun i hi=>h i (by omega),h n (by omega)⟩
theorem Js {nf ns:Nat} {ar:List AM.Ar} {es:List En}:mD nf ns ar es es.length=true↔(∀e∈es,o5 nf ns ar e)/\jU es:=by
 rw[qq (f:=ve nf ns ar es) rfl (fun _=>rfl),<- wy]
 have key:∀i,i<es.length->(ve nf ns ar es i=true↔o5 nf ns ar (aJ es i)/\kL es i<(aJ es i).page):=fun i hi=>by
  unfold ve o5 kL
  rw[Bool.and_eq_true,Bool.and_eq_true,Bool.or_eq_true,beq_iff_eq,decide_eq_true_eq]
  constructor
  · rintro⟨⟨h1,h2⟩,h3⟩
    refine⟨⟨h1,?_⟩,?_⟩
    · by_cases c:(aJ es i).kind=1
      · rw[if_pos c,decide_eq_true_eq] at h3
        exact .inl ⟨c,h3.1,by omega⟩
      · rw[if_neg c] at h3
        by_cases d:(aJ es i).kind=2
        · rw[if_pos d,decide_eq_true_eq] at h3
          exact .inr ⟨d,h3.1,by omega⟩
        · rw[if_neg d] at h3;cases h3
    · by_cases c:i=0
      · rw[if_pos c];have:=iY h1;omega
      · rw[if_neg c];exact h2.resolve_left c
  · rintro⟨⟨h1,h2⟩,h3⟩
    refine⟨⟨h1,?_⟩,?_⟩
    · by_cases c:i=0
      · exact .inl c
      · rw[if_neg c] at h3;exact .inr h3
    · rcases h2 with g | g
      · rw[if_pos g.1,decide_eq_true_eq];omega
      · rw[if_neg (by omega),if_pos g.1,decide_eq_true_eq];omega
 exact⟨fun h i hi=>(key i hi).1 (h i hi),fun h i hi=>(key i hi).2 (h i hi)⟩
theorem Ce {hs:List LM.Sh} {ar:List AM.Ar}:iN hs ar 255=true↔∀p,(AM.aK ar p).2=true->(AM.aK ar p).1.zero=false->(bK hs p).isSome=true:=by
 rw[qq (f:=fun k=>nE hs ar ((k:Int)+1)) rfl (fun _=>rfl)]
 constructor
 · intro h p hp hz
   have hb:=iY hp
   have:=h (p-1).toNat (by omega)
   rw[show((p-1).toNat:Int)+1=p by omega] at this
   unfold nE at this
   rw[hp,hz] at this
   simpa using this
 · intro h i hi
   unfold nE
   cases h1:(AM.aK ar ((i:Int)+1)).2 with
   | false=>rfl
   | true =>
    cases h2:(AM.aK ar ((i:Int)+1)).1.zero with
    | true=>rfl
    | false=>rw[h _ h1 h2];rfl
theorem Ab {hs:List LM.Sh} {nf ns:Nat} {s:Sp}:ic hs nf ns s=true↔J5 hs nf ns s:=by
 unfold ic
 by_cases c:s.live=true
 · rw[if_pos c,Bool.and_eq_true,Bool.and_eq_true,decide_eq_true_eq,Js,Ce]
   exact⟨fun h=>⟨fun d=>(by rw[c] at d;cases d),h.1,h.2.1.2,h.2.1.1,h.2.2⟩,fun h=>⟨h.aA,⟨h.tH,h.dU⟩,h.ak⟩⟩
 · rw[if_neg c,Bool.and_eq_true,decide_eq_true_eq,decide_eq_true_eq]
   constructor
   · rintro⟨h1,h2⟩
     have ha:=List.eq_nil_of_length_eq_zero h1
     have he:=List.eq_nil_of_length_eq_zero h2
     refine⟨fun _=>⟨ha,he⟩,by rw[ha];rfl,by rw[he];exact List.Pairwise.nil,fun e g=>(by rw[he] at g;cases g),fun p hp=>?_⟩
     rw[ha] at hp
     cases hp
   · intro h
     have:=h.dead (by simpa using c)
     rw[this.1,this.2]
     exact⟨rfl,rfl⟩
structure NY (L:List (Int×Bool)) (a:Na):Prop where
 n:a.n=L.length
 fine:a.fine=true↔∀x∈L,∀y∈L,x=y
 last:L≠[]->(a.page,a.o9.zero)∈L
theorem OW {L:List (Int×Bool)} {a:Na} (h:NY L a) (p:Int) (r:AM.Ar):NY (L++[(p,r.zero)]) (lC a p r):=by
 refine⟨by show a.n+1=_;rw[h.n,List.length_append];rfl,?_,fun _=>List.mem_append.2 (.inr (by simp[lC]))⟩
 show(a.fine&&(decide (a.n=0) || (decide (p=a.page)&&r.zero==a.o9.zero)))=true↔_
 rw[Bool.and_eq_true,h.fine,Bool.or_eq_true,Bool.and_eq_true,decide_eq_true_eq,decide_eq_true_eq,beq_iff_eq]
 constructor
 · rintro⟨h1,h2⟩ x hx y hy
   have key:∀z∈L,z=(p,r.zero):=fun z hz=>by
    have hne:L≠[]:=List.ne_nil_of_mem hz
    have h2:=h2.resolve_left (fun e=>hne (List.eq_nil_of_length_eq_zero (by have:=h.n;omega)))
    rw[h1 z hz _ (h.last hne),h2.1,h2.2]
   have all:∀z∈L++[(p,r.zero)],z=(p,r.zero):=fun z hz=>by
    rcases List.mem_append.1 hz with g | g
    · exact key z g
    · simpa using g
   rw[all x hx,all y hy]
 · intro g
   refine⟨fun x hx y hy=>g x (List.mem_append.2 (.inl hx)) y (List.mem_append.2 (.inl hy)),?_⟩
   by_cases c:L=[]
   · left;rw[h.n,c];rfl
   · right
     have:=g _ (List.mem_append.2 (.inl (h.last c))) (p,r.zero) (List.mem_append.2 (.inr (by simp)))
     injection this with e1 e2
     exact⟨e1.symm,e2.symm⟩
theorem GA {L:List (Int×Bool)} {a:Na} (h:NY L a) (ar:List AM.Ar) (es:List En) (kd i:Int):∀k,k<=es.length->NY (L++nm ar kd i (es.take k)) (lD ar es kd i a k)
 | 0,_=>by rw[List.take_zero];show NY (L++[]) a;rw[List.append_nil];exact h
 | k+1,hk=>by
  have ih:=GA h ar es kd i k (by omega)
  rw[take_succ es k (by omega),eZ,<- List.append_assoc]
  show NY _ (ze ar kd i (lD ar es kd i a k) (aJ es k))
  unfold ze
  by_cases c:(aJ es k).kind=kd/\(aJ es k).loc=i
  · rw[if_pos c,kE ar c];exact OW ih _ _
  · rw[if_neg c,jq ar c,List.append_nil];exact ih
theorem Lz (ss:List Sp) (kd i:Int):∀k,k<=ss.length->NY (names (ss.take k) kd i) (wT ss kd i k)
 | 0,_=>⟨rfl,⟨fun _ x hx=>(by cases hx),fun _=>rfl⟩,fun e=>absurd rfl e⟩
 | k+1,hk=>by
  have:=GA (Lz ss kd i k (by omega)) (aq ss k).aA (aq ss k).au kd i _ (Nat.le_refl _)
  rw[List.take_length] at this
  rw[qF ss k (by omega)]
  exact this
theorem sZ (ss:List Sp) (kd i:Int):NY (names ss kd i) (dg ss kd i):=by
 have:=Lz ss kd i ss.length (Nat.le_refl _)
 rw[List.take_length] at this
 exact this
theorem G6 {hs:List LM.Sh} {L:List (Int×Bool)} {a:Na} (h:NY L a) (f:Fr):zy hs f a=true↔uQ hs L f:=by
 unfold zy
 rw[Bool.and_eq_true,Bool.and_eq_true,decide_eq_true_eq]
 by_cases c:L=[]
 · subst c
   have hn:a.n=0:=h.n
   rw[hn]
   simp only[decide_true,Bool.true_and,Bool.not_not,Int.lt_irrefl,decide_false,Bool.false_and,Bool.not_false,and_true,rQ]
   exact⟨fun e=>by rw[e.2];exact uQ.none hs,fun e=>⟨by rw[e.zero rfl];rfl,e.zero rfl⟩⟩
 · have hp:0<L.length:=List.length_pos_iff.2 c
   have hn:0<a.n:=by rw[h.n];omega
   rw[decide_eq_false (show ¬a.n=0 by omega),decide_eq_true hn]
   simp only[Bool.false_and,Bool.not_false,Bool.true_and,true_and,Bool.not_eq_true',Bool.or_eq_false_iff,Bool.not_eq_false',Bool.and_eq_false_iff,decide_eq_false_iff_not,Decidable.not_not]
   constructor
   · rintro⟨h1,h2,h3,h4⟩
     refine⟨h1.trans h.n,fun e=>absurd e c,h.fine.1 h2,fun _=>h3,fun d x hx=>?_⟩
     rw[h.fine.1 h2 x hx _ (h.last c)]
     exact h4.resolve_left (by rw[d];simp)
   · intro g
     refine⟨g.refs.trans h.n.symm,h.fine.2 g.one,g.size c,?_⟩
     cases d:f.bW with
     | true=>exact .inl rfl
     | false=>exact .inr (g.fill d _ (h.last c))
theorem Gn {L:List (Int×Bool)} {a:Na} (h:NY L a) (f:Sl):DR f a=true↔DC L f:=by
 unfold DR
 rw[Bool.and_eq_true,Bool.and_eq_true,decide_eq_true_eq]
 by_cases c:L=[]
 · subst c
   have hn:a.n=0:=h.n
   rw[hn]
   simp only[decide_true,Bool.true_and,Bool.not_not,Int.lt_irrefl,decide_false,Bool.false_and,Bool.not_false,and_true,rR]
   exact⟨fun e=>by rw[e.2];exact DC.none,fun e=>⟨by rw[e.zero rfl];rfl,e.zero rfl⟩⟩
 · have hp:0<L.length:=List.length_pos_iff.2 c
   have hn:0<a.n:=by rw[h.n];omega
   rw[decide_eq_false (show ¬a.n=0 by omega),decide_eq_true hn]
   simp only[Bool.false_and,Bool.not_false,Bool.true_and,true_and,Bool.not_eq_true',Bool.or_eq_false_iff,Bool.not_eq_false',decide_eq_false_iff_not,Decidable.not_not]
   constructor
   · rintro⟨h1,h2,h3⟩
     exact⟨h1.trans h.n,fun e=>absurd e c,h.fine.1 h2,fun _=>h3⟩
   · intro g
     exact⟨g.refs.trans h.n.symm,h.fine.2 g.one,g.size c⟩
theorem Jn (k:Kn) (hc:counts k=true):mC k=true↔aQ k:=by
 unfold mC
 simp only[Bool.and_eq_true,decide_eq_true_eq]
 rw[qq (g:=qu k) (f:=fun n=>ic k.ak k.frames.length k.slots.length (aq k.aj n)) rfl (fun _=>rfl),qq (g:=u9 k) (f:=fun n=>zy k.ak (aD k.frames n) (dg k.aj 1 n)) rfl (fun _=>rfl),qq (g:=uS k) (f:=fun n=>DR (bk k.slots n) (dg k.aj 2 n)) rfl (fun _=>rfl)]
 constructor
 · rintro⟨h1,h2,h3,h4,h5,h6⟩
   refine⟨hc,h1,by omega,fun s hs=>?_,h4,fun i hi=>(G6 (sZ _ _ _) _).1 (h5 i hi),fun i hi=>(Gn (sZ _ _ _) _).1 (h6 i hi)⟩
   obtain⟨j,hj,rfl⟩:=eu DN hs
   exact Ab.1 (h3 j hj)
 · intro h
   have hh:=h.hand
   exact⟨h.dU,by omega,fun i hi=>Ab.2 (h.sp hi),h.room,fun i hi=>(G6 (sZ _ _ _) _).2 (h.mO i hi),fun i hi=>(Gn (sZ _ _ _) _).2 (h.slt i hi)⟩
def jw (k:Kn):Int:=if counts k=false then 2 else if mC k then 0 else 1
theorem jO (k:Kn):jw k=dA k:=by
 unfold jw dA
 by_cases c:counts k=true
 · have:mC k=rZ k:=by
    have h1:=Jn k c;have h2:=De k c
    cases a:mC k <;> cases b:rZ k
    · rfl
    · exact absurd (h1.2 (h2.1 b)) (by rw[a];simp)
    · exact absurd (h2.2 (h1.1 a)) (by rw[b];simp)
    · rfl
   rw[this]
 · rw[if_pos (by simpa using c),if_pos (by simpa using c)]
end KM
namespace AW
open Go.RowKit
theorem iQ (p n t:Int) (z:Bool) (w:World) (h1:-9223372036854775808<=p+n) (h2:p+n<=9223372036854775807) :
  Calls Tryz.prog 117 #[.agg #[I p,I n,I t,.bool z]] w fun e w'=>e=.returned (I (p+n))/\Below w.heap.size w w':=by
 go_enter Tryz.func117,Tryz.ntmps117
 go_wp2
 go_ret
 exact⟨rfl,(Below.refl _ _).alloc (Nat.le_refl _) _⟩
theorem dW (p n:Int) (w:World) (hp:-9223372036854775808<=p/\p<=9223372036854775807) (hn:-9223372036854775808<=n/\n<=9223372036854775807) :
  Calls Tryz.prog 143 #[I p,I n] w fun e w'=>e=.returned (.bool (AM.dE p n))/\w=w':=by
 by_cases h1:1<=p
 · by_cases h2:1<=n
   · by_cases h3:n<=256-p
     · have e:AM.dE p n=true:=by simp[AM.dE,h1,h2,h3]
       have h4:n<=255-p+1:=by omega
       rw[e]
       go_enter Tryz.func143,Tryz.ntmps143
       go_wp2
       go_ret
       exact⟨rfl,rfl⟩
     · have e:AM.dE p n=false:=by simp[AM.dE];omega
       have h4:decide (n<=255-p+1)=false:=by simp;omega
       rw[e]
       go_enter Tryz.func143,Tryz.ntmps143
       go_wp2
       go_ret
       exact⟨rfl,rfl⟩
   · have e:AM.dE p n=false:=by simp[AM.dE];omega
     have h4:decide (1<=n)=false:=by simp;omega
     rw[e]
     go_enter Tryz.func143,Tryz.ntmps143
     go_wp2
     go_ret
     exact⟨rfl,rfl⟩
 · have e:AM.dE p n=false:=by simp[AM.dE];omega
   have h4:decide (1<=p)=false:=by simp;omega
   rw[e]
   go_enter Tryz.func143,Tryz.ntmps143
   go_wp2
   go_ret
   exact⟨rfl,rfl⟩
theorem gq (p:Int) (w:World) :
  Calls Tryz.prog 144 #[I p] w fun e w'=>e=.returned (.bool (AM.iq p))/\w=w':=by
 by_cases h1:0<=p
 · by_cases h2:p<=3
   · have e:AM.iq p=true:=by simp[AM.iq,h1,h2]
     rw[e]
     go_enter Tryz.func144,Tryz.ntmps144
     go_wp2
     go_ret
     exact⟨rfl,rfl⟩
   · have e:AM.iq p=false:=by simp[AM.iq];omega
     have h4:decide (p<=3)=false:=by simp;omega
     rw[e]
     go_enter Tryz.func144,Tryz.ntmps144
     go_wp2
     go_ret
     exact⟨rfl,rfl⟩
 · have e:AM.iq p=false:=by simp[AM.iq];omega
   have h4:decide (0<=p)=false:=by simp;omega
   rw[e]
   go_enter Tryz.func144,Tryz.ntmps144
   go_wp2
   go_ret
   exact⟨rfl,rfl⟩
end AW
namespace Q
open Go.RowKit
structure eU (B:Nat) (w:World) where
 world:World
 keeps:Below B w world
theorem dO (w:World):Nonempty (eU w.heap.size w):=⟨⟨w,Below.refl _ _⟩⟩
theorem bc {P:Program} {id:Nat} {Q:Exit->Act->World->Prop} {a:Act} {w:World} {l:List Oper} (hm:P.follows .mixedOrders=true) (hB:Region.lexB .any l.toArray=true)
  (h:wpQuiet P l.toArray (fun w'=>∃x:eU w.heap.size w,w'=x.world) (fun a'=>∀w',(∃x:eU w.heap.size w,w'=x.world)->Q .normal a' w') l a):(Code.region id l.toArray true).wp P Q a w :=
 wp_region_quiet (C:=fun w'=>∃x:eU w.heap.size w,w'=x.world) hm hB ⟨⟨_,(Below.refl _ _).drew⟩,rfl⟩ (by simpa using h)
theorem bB {P:Program} {f:FuncId} {args:Array Value} {v:Value} {w:World} (h:∀W,Calls P f args W fun e w'=>e=.returned v/\Below W.heap.size W w') (x:eU w.heap.size w) :
  Calls P f args x.world fun e w''=>e=.returned v/\∃y:eU w.heap.size w,w''=y.world :=
 (h x.world).mono fun e w'' ⟨he,hb⟩=>⟨he,⟨w'',x.keeps.trans (hb.mono x.keeps.size)⟩,rfl⟩
theorem cC {w:World} (x:eU w.heap.size w) (b o:Nat) (h:b<w.heap.size):x.world.cell? (Ad b o)=w.cell? (Ad b o):=x.keeps.cell (p:=(Ad b o)) h
end Q
namespace AW
open Go.RowKit
theorem Az (ap an Bz bp bn bt:Int) (az bz:Bool) (w:World) (h1:-9223372036854775808<=ap+an) (h2:ap+an<=9223372036854775807) (he:bp=ap+an) :
  Calls Tryz.prog 145 #[.agg #[I ap,I an,I Bz,.bool az],.agg #[I bp,I bn,I bt,.bool bz]] w fun e w'=>e=.returned (.bool (bt != Bz || bz != az))/\Below w.heap.size w w':=by
 obtain⟨W,hW⟩:=ex ((w.alloc (.cells #[I ap,I an,I Bz,.bool az] 47)).alloc (.cells #[I bp,I bn,I bt,.bool bz] 47))
 have hs:W.heap.size=w.heap.size+2:=by rw[hW];simp
 have mN:=Q.dO W
 have hkc:=@Q.cC W
 have c0:∀x:Q.eU W.heap.size W,x.world.cell? (Ad w.heap.size 0)=some (I ap):=fun x=>by rw[hkc x _ _ (by omega),hW];simp
 have c1:∀x:Q.eU W.heap.size W,x.world.cell? (Ad w.heap.size 1)=some (I an):=fun x=>by rw[hkc x _ _ (by omega),hW];simp
 have c2:∀x:Q.eU W.heap.size W,x.world.cell? (Ad w.heap.size 2)=some (I Bz):=fun x=>by rw[hkc x _ _ (by omega),hW];simp
 have c3:∀x:Q.eU W.heap.size W,x.world.cell? (Ad w.heap.size 3)=some (.bool az):=fun x=>by rw[hkc x _ _ (by omega),hW];simp
 have d0:∀x:Q.eU W.heap.size W,x.world.cell? (Ad (w.heap.size+1) 0)=some (I bp):=fun x=>by rw[hkc x _ _ (by omega),hW];simp
 have d2:∀x:Q.eU W.heap.size W,x.world.cell? (Ad (w.heap.size+1) 2)=some (I bt):=fun x=>by rw[hkc x _ _ (by omega),hW];simp
 have d3:∀x:Q.eU W.heap.size W,x.world.cell? (Ad (w.heap.size+1) 3)=some (.bool bz):=fun x=>by rw[hkc x _ _ (by omega),hW];simp
 have hbW:Hid (Below w.heap.size w W):=by show Below _ _ _;rw[hW];exact((Below.refl _ _).alloc (Nat.le_refl _) _).alloc (by simp) _
 have HW:Hid (W=(w.alloc (.cells #[I ap,I an,I Bz,.bool az] 47)).alloc (.cells #[I bp,I bn,I bt,.bool bz] 47)):=hW
 clear hW hs hkc
 have hx:(bp==ap+an)=true:=by simp[he]
 clear he
 go_enter Tryz.func145,Tryz.ntmps145
 go_wp2_with fail
 rw[<- HW.o]
 refine Q.bc (by kernel_rfl) (by kernel_rfl) ?_
 repeat (first | go_big_quiet_step ((go_at_call 117;exact Q.bB (fun W=>iQ _ _ _ _ W h1 h2) _)) | quiet_step ((go_at_call 117;exact Q.bB (fun W=>iQ _ _ _ _ W h1 h2) _)))
 refine wpQuiet_nil ?_
 intro _ hw'
 obtain⟨x,hw''⟩:=hw'
 subst hw''
 go_wp2
 all_goals go_ret
 all_goals exact⟨by first | (simp[*];done) | (simp[*];cases bz <;> cases az <;> rfl),hbW.out.trans (x.keeps.mono hbW.out.size)⟩
theorem Ay (ap an Bz bp bn bt:Int) (az bz:Bool) (w:World) (h1:-9223372036854775808<=ap+an) (h2:ap+an<=9223372036854775807) (he:¬bp=ap+an) :
  Calls Tryz.prog 145 #[.agg #[I ap,I an,I Bz,.bool az],.agg #[I bp,I bn,I bt,.bool bz]] w fun e w'=>e=.returned (.bool (decide (ap+an<bp)))/\Below w.heap.size w w':=by
 obtain⟨W,hW⟩:=ex ((w.alloc (.cells #[I ap,I an,I Bz,.bool az] 47)).alloc (.cells #[I bp,I bn,I bt,.bool bz] 47))
 have hs:W.heap.size=w.heap.size+2:=by rw[hW];simp
 have mN:=Q.dO W
 have hkc:=@Q.cC W
 have c0:∀x:Q.eU W.heap.size W,x.world.cell? (Ad w.heap.size 0)=some (I ap):=fun x=>by rw[hkc x _ _ (by omega),hW];simp
 have c1:∀x:Q.eU W.heap.size W,x.world.cell? (Ad w.heap.size 1)=some (I an):=fun x=>by rw[hkc x _ _ (by omega),hW];simp
 have c2:∀x:Q.eU W.heap.size W,x.world.cell? (Ad w.heap.size 2)=some (I Bz):=fun x=>by rw[hkc x _ _ (by omega),hW];simp
 have c3:∀x:Q.eU W.heap.size W,x.world.cell? (Ad w.heap.size 3)=some (.bool az):=fun x=>by rw[hkc x _ _ (by omega),hW];simp
 have d0:∀x:Q.eU W.heap.size W,x.world.cell? (Ad (w.heap.size+1) 0)=some (I bp):=fun x=>by rw[hkc x _ _ (by omega),hW];simp
 have hbW:Hid (Below w.heap.size w W):=by show Below _ _ _;rw[hW];exact((Below.refl _ _).alloc (Nat.le_refl _) _).alloc (by simp) _
 have HW:Hid (W=(w.alloc (.cells #[I ap,I an,I Bz,.bool az] 47)).alloc (.cells #[I bp,I bn,I bt,.bool bz] 47)):=hW
 have hs2:Hid (w.heap.size+2<=W.heap.size):=by show _<=_;omega
 clear hW hs hkc
 have hx:(bp==ap+an)=false:=by simp[he]
 clear he
 go_enter Tryz.func145,Tryz.ntmps145
 go_wp2_with fail
 rw[<- HW.o]
 refine Q.bc (by kernel_rfl) (by kernel_rfl) ?_
 repeat (first | go_big_quiet_step ((go_at_call 117;exact Q.bB (fun W=>iQ _ _ _ _ W h1 h2) _)) | quiet_step ((go_at_call 117;exact Q.bB (fun W=>iQ _ _ _ _ W h1 h2) _)))
 refine wpQuiet_nil ?_
 intro _ hw'
 obtain⟨x,hw''⟩:=hw'
 subst hw''
 have c0x:=c0 x
 have c1x:=c1 x
 have c2x:=c2 x
 have c3x:=c3 x
 have d0x:=d0 x
 have hsx:Hid (w.heap.size+2<=x.world.heap.size):=Nat.le_trans hs2.out x.keeps.size
 have zq:Hid (Below w.heap.size w x.world):=hbW.out.trans (x.keeps.mono hbW.out.size)
 clear HW c0 c1 c2 c3 d0 mN hbW hs2
 obtain⟨V,hV⟩:=ex x.world
 rw[<- hV] at c0x c1x c2x c3x d0x hsx zq ⊢
 clear hV
 have mN:=Q.dO V
 have hkc:=@Q.cC V
 have Zg:=hsx.out
 have c0:∀x:Q.eU V.heap.size V,x.world.cell? (Ad w.heap.size 0)=some (I ap):=fun x=>by rw[hkc x _ _ (by omega),c0x]
 have c1:∀x:Q.eU V.heap.size V,x.world.cell? (Ad w.heap.size 1)=some (I an):=fun x=>by rw[hkc x _ _ (by omega),c1x]
 have c2:∀x:Q.eU V.heap.size V,x.world.cell? (Ad w.heap.size 2)=some (I Bz):=fun x=>by rw[hkc x _ _ (by omega),c2x]
 have c3:∀x:Q.eU V.heap.size V,x.world.cell? (Ad w.heap.size 3)=some (.bool az):=fun x=>by rw[hkc x _ _ (by omega),c3x]
 have d0:∀x:Q.eU V.heap.size V,x.world.cell? (Ad (w.heap.size+1) 0)=some (I bp):=fun x=>by rw[hkc x _ _ (by omega),d0x]
 clear hkc Zg
 go_wp2_with fail
 refine Q.bc (by kernel_rfl) (by kernel_rfl) ?_
 repeat (first | go_big_quiet_step ((go_at_call 117;exact Q.bB (fun W=>iQ _ _ _ _ W h1 h2) _)) | quiet_step ((go_at_call 117;exact Q.bB (fun W=>iQ _ _ _ _ W h1 h2) _)))
 refine wpQuiet_nil ?_
 intro _ hw'
 obtain⟨y,hw''⟩:=hw'
 subst hw''
 go_wp2
 go_ret
 exact⟨rfl,zq.out.trans (y.keeps.mono zq.out.size)⟩
theorem j3 (a b:AM.Ar) (w:World) (h1:-9223372036854775808<=a.page+a.aB) (h2:a.page+a.aB<=9223372036854775807) :
  Calls Tryz.prog 145 #[.agg #[I a.page,I a.aB,I a.bJ,.bool a.zero],.agg #[I b.page,I b.aB,I b.bJ,.bool b.zero]] w fun e w'=>e=.returned (.bool (AM.eT a b))/\Below w.heap.size w w':=by
 unfold AM.eT AM.Ar.dN
 split
 · exact Az _ _ _ _ _ _ _ _ w h1 h2 (by assumption)
 · exact Ay _ _ _ _ _ _ _ _ w h1 h2 (by assumption)
theorem ft {k:IntKind} {a b:Int} (h:a=b):Ending.returned (.int k a)=.returned (.int k b):=by rw[h]
theorem lQ (l:List AM.Ar) (b off cap:Nat) (w:World) (hl:AM.zP w b off l) (hf:∀i,i<l.length->AM.Fits (AM.at_ l i)) (hn:l.length<=140737488351232) :
  Calls Tryz.prog 98 #[.slice (some (Ad b off)) l.length cap] w fun e w'=>e=.returned (I (AM.aO l))/\Below w.heap.size w w':=by
 by_cases hm:255<l.length
 · have e:AM.aO l=2:=by simp[AM.aO,hm]
   rw[e]
   have hm':(255:Int)<(l.length:Int):=by omega
   go_enter Tryz.func98,Tryz.ntmps98
   go_wp2
   go_ret
   exact⟨rfl,Below.refl _ _⟩
 · have hm':¬(255:Int)<(l.length:Int):=by omega
   have e:AM.aO l=if AM.good l then 0 else 1:=by simp[AM.aO,hm]
   have E:Hid (AM.aO l=if AM.good l then 0 else 1):=e
   clear e
   go_enter Tryz.func98,Tryz.ntmps98
   go_wp2
   go_loopw [10] (fun i wr=>∃k:Nat,k<=l.length/\i=I k/\AM.fO l k=true/\Below w.heap.size w wr) (fun i _=>l.length-(intOf i).toNat)
   case atStart=>exact⟨0,by omega,rfl,rfl,Below.refl _ _⟩
   case round =>
    obtain⟨k,hk,rfl,hg,hb⟩:=hrel
    have HG:Hid (AM.fO l k=true):=hg
    clear hg
    by_cases hlt:k<l.length
    · obtain⟨c0,c1,c2,c3⟩:=(hl.below hb) k hlt
      obtain⟨f1,f2,f3⟩:=hf k hlt
      obtain⟨a,ha⟩:=ex (AM.at_ l k)
      rw[<- ha] at c0 c1 c2 c3 f1 f2 f3
      have HA:Hid (a=AM.at_ l k):=ha
      clear ha
      by_cases hp:AM.dE a.page a.aB=true
      · by_cases hq:AM.iq a.bJ=true
        · obtain⟨W,hW⟩:=ex (wr.alloc (.cells #[I a.page,I a.aB,I a.bJ,.bool a.zero] 47))
          have hs:W.heap.size=wr.heap.size+1:=by rw[hW];simp
          have hbW:Hid (Below w.heap.size w W):=by show Below _ _ _;rw[hW];exact hb.alloc hb.size _
          by_cases JZ:k=0
          · have hok:Hid (AM.mL l k=true):=by show _=true;unfold AM.mL;rw[<- HA.o,hp,hq,JZ];rfl
            have z1:decide ((0:Int)<(k:Int))=false:=by simp;omega
            have z2:decide (0<k)=false:=by simp;omega
            clear JZ
            go_wp2_with (first | (go_at_call 143;refine(dW _ _ _ f1 f2).mono ?_;rintro e w' ⟨rfl,rfl⟩) | (go_at_call 144;refine(gq _ _).mono ?_;rintro e w' ⟨rfl,rfl⟩))
            go_quiet (fail)
            go_wp2
            go_roundw
            case rel=>exact⟨k+1,by omega,by go_num,AM.Gv l k HG.o hok.out,below_drewN (hb.alloc hb.size _) _⟩
            case measure=>simp[intOf];omega
          · have mN:=Q.dO W
            have hkc:=@Q.cC W
            have Zy:=hl.below hbW.out
            have hbl:=Zy.lt k hlt
            obtain⟨g0,g1,g2,g3⟩:=Zy (k-1) (by omega)
            obtain⟨fp1,fp2,fp3⟩:=hf (k-1) (by omega)
            obtain⟨p,XL⟩:=ex (AM.at_ l (k-1))
            rw[<- XL] at g0 g1 g2 g3 fp1 fp2 fp3
            have CX:=AM.tC l k HG.o (k-1) (by omega)
            have hps:AM.dE p.page p.aB=true:=by
             unfold AM.mL at CX
             rw[<- XL] at CX
             simp only[Bool.and_eq_true] at CX
             exact CX.1.1
            have hpb:1<=p.page/\1<=p.aB/\p.aB<=256-p.page:=by simpa [AM.dE] using hps
            have hok:Hid (AM.mL l k=AM.eT p a):=by show _=_;unfold AM.mL;rw[<- HA.o,<- XL,hp,hq];simp[JZ]
            have k0:∀x:Q.eU W.heap.size W,x.world.cell? ⟨b,off+(k-1)*4,none⟩=some (I p.page):=fun x=>by rw[hkc x _ _ hbl,g0]
            have k1:∀x:Q.eU W.heap.size W,x.world.cell? ⟨b,off+(k-1)*4+1,none⟩=some (I p.aB):=fun x=>by rw[hkc x _ _ hbl,g1]
            have k2:∀x:Q.eU W.heap.size W,x.world.cell? ⟨b,off+(k-1)*4+2,none⟩=some (I p.bJ):=fun x=>by rw[hkc x _ _ hbl,g2]
            have k3:∀x:Q.eU W.heap.size W,x.world.cell? ⟨b,off+(k-1)*4+3,none⟩=some (.bool p.zero):=fun x=>by rw[hkc x _ _ hbl,g3]
            have e0:∀x:Q.eU W.heap.size W,x.world.cell? (Ad wr.heap.size 0)=some (I a.page):=fun x=>by rw[hkc x _ _ (by omega),hW];simp
            have e1:∀x:Q.eU W.heap.size W,x.world.cell? (Ad wr.heap.size 1)=some (I a.aB):=fun x=>by rw[hkc x _ _ (by omega),hW];simp
            have e2:∀x:Q.eU W.heap.size W,x.world.cell? (Ad wr.heap.size 2)=some (I a.bJ):=fun x=>by rw[hkc x _ _ (by omega),hW];simp
            have e3:∀x:Q.eU W.heap.size W,x.world.cell? (Ad wr.heap.size 3)=some (.bool a.zero):=fun x=>by rw[hkc x _ _ (by omega),hW];simp
            have HW:Hid (W=wr.alloc (.cells #[I a.page,I a.aB,I a.bJ,.bool a.zero] 47)):=hW
            have hk1:(1:Int)<=(k:Int):=by omega
            have hk2:0<k:=by omega
            have hk3:(0:Int)<(k:Int):=by omega
            clear hW hs hkc Zy hbl g0 g1 g2 g3 XL CX hps hl
            by_cases hfo:AM.eT p a=true
            · go_wp2_with (first | (go_at_call 143;refine(dW _ _ _ f1 f2).mono ?_;rintro e w' ⟨rfl,rfl⟩) | (go_at_call 144;refine(gq _ _).mono ?_;rintro e w' ⟨rfl,rfl⟩))
              rw[<- HW.o]
              refine Q.bc (by kernel_rfl) (by kernel_rfl) ?_
              repeat (first | go_big_quiet_step ((go_at_call 145;exact Q.bB (fun W=>j3 p a W (by omega) (by omega)) _)) | quiet_step ((go_at_call 145;exact Q.bB (fun W=>j3 p a W (by omega) (by omega)) _)))
              refine wpQuiet_nil ?_
              intro _ hw'
              obtain⟨x,hw''⟩:=hw'
              subst hw''
              go_wp2
              go_roundw
              case rel=>exact⟨k+1,by omega,by go_num,AM.Gv l k HG.o (hok.out.trans hfo),hbW.out.trans (x.keeps.mono hbW.out.size)⟩
              case measure=>simp[intOf];omega
            · have ZJ:AM.eT p a=false:=by simpa using hfo
              clear hfo
              go_wp2_with (first | (go_at_call 143;refine(dW _ _ _ f1 f2).mono ?_;rintro e w' ⟨rfl,rfl⟩) | (go_at_call 144;refine(gq _ _).mono ?_;rintro e w' ⟨rfl,rfl⟩))
              rw[<- HW.o]
              refine Q.bc (by kernel_rfl) (by kernel_rfl) ?_
              repeat (first | go_big_quiet_step ((go_at_call 145;exact Q.bB (fun W=>j3 p a W (by omega) (by omega)) _)) | quiet_step ((go_at_call 145;exact Q.bB (fun W=>j3 p a W (by omega) (by omega)) _)))
              refine wpQuiet_nil ?_
              intro _ hw'
              obtain⟨x,hw''⟩:=hw'
              subst hw''
              go_wp2
              go_ret
              exact⟨ft (by rw[E.o,AM.FE l k hlt (hok.out.trans ZJ)];rfl),hbW.out.trans (x.keeps.mono hbW.out.size)⟩
        · have hq':AM.iq a.bJ=false:=by simpa using hq
          clear hq
          have hbad:Hid (AM.mL l k=false):=by show _=false;unfold AM.mL;rw[<- HA.o,hp,hq'];rfl
          go_wp2_with (first | (go_at_call 143;refine(dW _ _ _ f1 f2).mono ?_;rintro e w' ⟨rfl,rfl⟩) | (go_at_call 144;refine(gq _ _).mono ?_;rintro e w' ⟨rfl,rfl⟩))
          go_ret
          exact⟨ft (by rw[E.o,AM.FE l k hlt hbad.out];rfl),hb.alloc hb.size _⟩
      · have hp':AM.dE a.page a.aB=false:=by simpa using hp
        clear hp
        have hbad:Hid (AM.mL l k=false):=by show _=false;unfold AM.mL;rw[<- HA.o,hp'];rfl
        go_wp2_with (first | (go_at_call 143;refine(dW _ _ _ f1 f2).mono ?_;rintro e w' ⟨rfl,rfl⟩))
        go_ret
        exact⟨ft (by rw[E.o,AM.FE l k hlt hbad.out];rfl),hb.alloc hb.size _⟩
    · obtain rfl:k=l.length:=by omega
      go_wp2
      go_ret
      exact⟨ft (by rw[E.o,show AM.good l=true from HG.o];rfl),hb⟩
theorem tJ (ao:Option Addr) (cap:Nat) (w:World) :
  Calls Tryz.prog 98 #[.slice ao 0 cap] w fun e w'=>e=.returned (I (AM.aO []))/\Below w.heap.size w w':=by
 have e:AM.aO []=0:=by decide
 rw[e]
 go_enter Tryz.func98,Tryz.ntmps98
 go_wp2
 refine wp_loop_rounds 1 ?_
 rw[rounds_succ]
 go_wp2
 go_ret
 exact⟨rfl,Below.refl _ _⟩
theorem D9 (l:List AM.Ar) (b off cap:Nat) (w:World) (hl:AM.zP w b off l) (hf:∀i,i<l.length->AM.Fits (AM.at_ l i)) (hn:l.length<=140737488351232) :
  Calls Tryz.prog 54 #[.slice (some (Ad b off)) l.length cap] w fun e w'=>e=.returned (I (AM.cD l))/\Below w.heap.size w w':=by
 by_cases hc:AM.aO l=0
 · have hlen:=AM.gm l hc
   have HC:Hid (AM.cD l=AM.sumTo l l.length):=by show _=_;simp[AM.cD,hc]
   have HK:Hid (AM.aO l=0):=hc
   go_enter Tryz.func54,Tryz.ntmps54
   go_wp2_with fail
   refine(lQ l b off cap _ hl hf hn).mono ?_
   rintro e w1 ⟨rfl,hb1⟩
   rw[hc]
   clear hc
   go_wp2
   go_loopw [3,11] (fun s i wr=>∃k:Nat,k<=l.length/\i=I k/\s=I (AM.sumTo l k)/\Below w.heap.size w wr) (fun _ i _=>l.length-(intOf i).toNat)
   case atStart=>exact⟨0,by omega,rfl,rfl,hb1⟩
   case round =>
    obtain⟨k,hk,rfl,rfl,hb⟩:=hrel
    have Bu:=AM.rp l HK.o k hk
    by_cases hlt:k<l.length
    · obtain⟨c0,c1,c2,c3⟩:=(hl.below hb) k hlt
      have hsu:Hid (AM.sumTo l (k+1)=AM.sumTo l k+(AM.at_ l k).aB):=rfl
      have hbk:=AM.cM l k (AM.cH l HK.o k hlt)
      obtain⟨a,ha⟩:=ex (AM.at_ l k)
      rw[<- ha] at c0 c1 c2 c3 hsu hbk
      clear ha
      go_wp2
      go_roundw
      case rel=>exact⟨k+1,by omega,by go_num,by rw[hsu.out],hb.alloc hb.size _⟩
      case measure=>simp[intOf];omega
    · obtain rfl:k=l.length:=by omega
      go_wp2
      go_ret
      exact⟨ft HC.o.symm,hb⟩
 · have HC:Hid (AM.cD l=0):=by show _=_;simp[AM.cD,hc]
   have hc':(AM.aO l != 0)=true:=by simpa using hc
   go_enter Tryz.func54,Tryz.ntmps54
   go_wp2_with fail
   refine(lQ l b off cap _ hl hf hn).mono ?_
   rintro e w1 ⟨rfl,hb1⟩
   go_wp2
   go_ret
   exact⟨ft HC.o.symm,hb1⟩
theorem Hx (ao:Option Addr) (cap:Nat) (w:World) :
  Calls Tryz.prog 54 #[.slice ao 0 cap] w fun e w'=>e=.returned (I (AM.cD []))/\Below w.heap.size w w':=by
 have e:AM.cD []=0:=by decide
 have e2:AM.aO []=0:=by decide
 rw[e]
 go_enter Tryz.func54,Tryz.ntmps54
 go_wp2_with fail
 refine(tJ ao cap _).mono ?_
 rintro e w1 ⟨rfl,hb1⟩
 rw[e2]
 go_wp2
 refine wp_loop_rounds 1 ?_
 rw[rounds_succ]
 go_wp2
 go_ret
 exact⟨rfl,hb1⟩
end AW
end Go.Proofs.YtpgifpeohlllfaaGreat
