import Derived.Test.YtpgifpeohlllfaaGreatGS00
import Derived.Test.YtpgifpeohlllfaaGreatGS05
import Derived.Test.YtpgifpeohlllfaaGreatGS03
import Derived.Test.YtpgifpeohlllfaaGreatProg
import Derived.Test.YtpgifpeohlllfaaGreatGS02
import Derived.WalkLawsBesides
import Derived.WalkSpells
import Derived.Laws.BytesArg
import Derived.Laws.OwnMore
import Derived.Lib.Walk
import Derived.Lib.BufferWrite
import Derived.Lib.Hide
import Derived.Laws.MakeOwn
import Derived.Laws.IdiomStrings
import Derived.Deep.QuietTactic
import Derived.BigQuiet
import Derived.Laws.CopyOwn
set_option maxHeartbeats 20000000
set_option linter.unusedVariables false
set_option maxRecDepth 100000
set_option linter.unusedSimpArgs false
namespace Go.Proofs.YtpgifpeohlllfaaGreat
namespace PM
open Go.RowKit
structure Pr where
 r:Nat->Int
 pc:Int
 st:Int
 cd:Int
 fk:Int
 fa:Int
end PM
namespace FM
open Go.RowKit
structure Pg where
 page:Int
 data:ByteArray
structure Sp where
 live:Bool
 aD:List AM.Ar
 aH:List Pg
structure Wd where
 proc:Int
 value:Int
structure Fl where
 slots:Int
 aj:List Sp
 procs:List PM.Pr
 out:List Wd
def pg0:Pg:=⟨0,⟨#[]⟩⟩
def XB (l:List Pg) (i:Nat):Pg:=l.getD i pg0
def numbers (l:List Pg):List Int:=l.map (·.page)
theorem rising_pairwise:∀(l:List Int),(∀k,0<k->k<l.length->l.getD (k-1) 0<l.getD k 0)->l.Pairwise (·<·)
 | [],_=>List.Pairwise.nil
 | [a],_=>List.pairwise_singleton _ _
 | a::b::r,h=>by
  have ih:=rising_pairwise (b::r) (fun k h1 h2=>by
   have:=h (k+1) (by omega) (by simp at h2 ⊢;omega)
   obtain⟨j,rfl⟩:∃j,k=j+1:=⟨k-1,by omega⟩
   exact this)
  have h0:a<b:=h 1 (by omega) (by simp)
  rw[List.pairwise_cons] at ih ⊢
  refine⟨fun x hx=>?_,List.pairwise_cons.2 ih⟩
  rcases List.mem_cons.1 hx with g | g
  · omega
  · have:=ih.1 x g
    omega
theorem wI {l:List Int} (h:l.Pairwise (·<·)) (k:Nat) (h1:0<k) (h2:k<l.length):l.getD (k-1) 0<l.getD k 0:=by
 have:=List.pairwise_iff_getElem.1 h (k-1) k (by omega) h2 (by omega)
 rw[List.getD_eq_getElem?_getD,List.getD_eq_getElem?_getD,List.getElem?_eq_getElem h2,List.getElem?_eq_getElem (by omega)]
 exact this
end FM
namespace KM
open Go.RowKit
theorem qE (es:List En) (k:Nat):(es.map (·.page)).getD k 0=(aN es k).page:=by
 unfold aN
 rw[List.getD_eq_getElem?_getD,List.getD_eq_getElem?_getD,List.getElem?_map]
 cases es[k]? <;> rfl
theorem jw {ar:List AM.Ar} {p:Int} (h:(AM.aT ar p).2=true):1<=p/\p<256:=by
 have:=FM.ky (FM.kV h) h
 exact⟨this.1,this.2.1⟩
theorem xS {nf ns:Nat} {ar:List AM.Ar} {es:List En}:(∀i,i<es.length->pY nf ns ar (aN es i)/\lu es i<(aN es i).page)↔(∀e∈es,pY nf ns ar e)/\kI es:=by
 constructor
 · intro h
   refine⟨fun e he=>?_,FM.rising_pairwise _ fun k h1 h2=>?_⟩
   · obtain⟨i,hi,rfl⟩:=eZ jI he
     exact(h i hi).1
   · rw[List.length_map] at h2
     rw[qE,qE]
     have:=(h k h2).2
     unfold lu at this
     rw[if_neg (by omega)] at this
     exact this
 · rintro⟨h1,h2⟩ i hi
   have he:=h1 (aN es i) (dX hi)
   refine⟨he,?_⟩
   unfold lu
   by_cases c:i=0
   · rw[if_pos c];have:=jw he.1;omega
   · rw[if_neg c,<- qE,<- qE]
     exact FM.wI h2 i (by omega) (by rw[List.length_map];exact hi)
theorem vQ {hs:List LM.Sh} (hr:LM.cV hs=true) (p:Int):(filled hs p).size≠0↔(bU hs p).isSome=true:=by
 constructor
 · intro h
   unfold filled at h
   cases g:bU hs p with
   | some s=>rfl
   | none=>rw[g] at h;exact absurd rfl h
 · intro h
   rw[vR hs hr p h];decide
theorem RI {ar:List AM.Ar} (hc:AM.aR ar=0) (p:Int):(AM.aT ar p).2=true↔∃a∈ar,a.page<=p/\p<a.page+a.aH/\AM.aT ar p=(a,true):=by
 constructor
 · intro h
   have hf:AM.aT ar p=AM.aM ar p:=by unfold AM.aT;rw[if_pos hc]
   rw[hf] at h
   obtain⟨k,hk,h1,h2⟩:=FM.tJ ar p h
   refine⟨AM.at_ ar k,dX hk,((AM.mY _ _).1 h1).1,((AM.mY _ _).1 h1).2,?_⟩
   rw[hf,<- h2,<- h]
 · rintro⟨a,_,_,_,e⟩
   rw[e]
theorem Q6 {ar:List AM.Ar} (hc:AM.aR ar=0) {a:AM.Ar} (ha:a∈ar) {p:Int} (h1:a.page<=p) (h2:p<a.page+a.aH):AM.aT ar p=(a,true):=by
 obtain⟨k,hk,e⟩:=eZ AM.nil ha
 have e:AM.at_ ar k=a:=e
 have hit:AM.hit (AM.at_ ar k) p=true:=by rw[e];exact(AM.mY _ _).2 ⟨h1,h2⟩
 have hf:AM.aT ar p=AM.aM ar p:=by unfold AM.aT;rw[if_pos hc]
 obtain⟨j,hj,g⟩:=LM.yQ ar p k hk hit
 have:(AM.aM ar p).2=true:=by rw[g]
 obtain⟨i,hi,i1,i2⟩:=FM.tJ ar p this
 have:=LM.xh ar hc p i k hi hk i1 hit
 subst this
 rw[hf]
 have e2:(AM.aM ar p).1=a:=by rw[i2,e]
 rw[<- e2,<- this]
theorem EF {hs:List LM.Sh} (hr:LM.cV hs=true) {ar:List AM.Ar} (hc:AM.aR ar=0):o7 hs ar=true↔∀p,(AM.aT ar p).2=true->(AM.aT ar p).1.zero=false->(bU hs p).isSome=true:=by
 unfold o7
 rw[List.all_eq_true]
 constructor
 · intro h p hp hz
   obtain⟨a,ha,h1,h2,e⟩:=(RI hc p).1 hp
   rw[e] at hz
   have hz:a.zero=false:=hz
   have:=h a ha
   rw[List.all_eq_true] at this
   have:=this (p-a.page).toNat (List.mem_range.2 (by omega))
   rw[hz,Bool.false_or,decide_eq_true_eq,show a.page+((p-a.page).toNat:Int)=p by omega] at this
   exact(vQ hr p).1 this
 · intro h a ha
   rw[List.all_eq_true]
   intro n hn
   have hn:=List.mem_range.1 hn
   have e:=Q6 hc ha (p:=a.page+(n:Int)) (by omega) (by omega)
   cases z:a.zero with
   | true=>rfl
   | false =>
    rw[Bool.false_or,decide_eq_true_eq]
    exact(vQ hr _).2 (h _ (by rw[e]) (by rw[e];exact z))
theorem QD (ss:List Sp) (k:Nat) (hk:k<ss.length):ss.take (k+1)=ss.take k++[au ss k]:=by
 rw[List.take_add_one]
 unfold au
 rw[List.getD_eq_getElem?_getD,List.getElem?_eq_getElem hk]
 rfl
theorem rR (ss:List Sp) (k:Nat) (hk:k<ss.length) (kd a:Int):names (ss.take (k+1)) kd a=names (ss.take k) kd a++fq (au ss k) kd a:=by
 rw[QD ss k hk,Cx]
 congr 1
 rw[fT,Kc,List.append_nil]
theorem Dz (nf ns:Nat):Ah (fun _ _=>[]) nf ns (List.replicate nf gX,List.replicate ns gX):=by
 have h:∀n i,dh (List.replicate n gX) i=gX:=fun n i=>by
  unfold dh
  rw[List.getD_eq_getElem?_getD,List.getElem?_replicate]
  by_cases c:i<n
  · rw[if_pos c];rfl
  · rw[if_neg c];rfl
 refine⟨⟨List.length_replicate,List.length_replicate⟩,fun i _=>?_,fun i _=>?_⟩
 · show Sum [] (dh (List.replicate nf gX) i);rw[h];exact⟨rfl,by simp⟩
 · show Sum [] (dh (List.replicate ns gX) i);rw[h];exact⟨rfl,by simp⟩
theorem Xw {hs:List LM.Sh} (hr:LM.cV hs=true) {nf ns:Nat} {s:Sp} (h1:kL hs s=true) (h2:(∀e∈s.aA,pY nf ns s.aD e)/\kI s.aA):Mc hs nf ns s:=by
 unfold kL at h1
 by_cases c:s.live=true
 · rw[if_pos c,Bool.and_eq_true,decide_eq_true_eq] at h1
   exact⟨fun d=>(by rw[c] at d;cases d),h1.1,h2.2,h2.1,(EF hr h1.1).1 h1.2⟩
 · rw[if_neg c,Bool.and_eq_true,decide_eq_true_eq,decide_eq_true_eq] at h1
   have ha:=List.eq_nil_of_length_eq_zero h1.1
   refine⟨fun _=>⟨ha,List.eq_nil_of_length_eq_zero h1.2⟩,by rw[ha];rfl,h2.2,h2.1,fun p hp=>?_⟩
   rw[ha] at hp
   cases hp
theorem XG {hs:List LM.Sh} (hr:LM.cV hs=true) {nf ns:Nat} {s:Sp} (h:Mc hs nf ns s):kL hs s=true:=by
 unfold kL
 by_cases c:s.live=true
 · rw[if_pos c,h.aD,(EF hr h.aD).2 h.ak];rfl
 · rw[if_neg c,(h.dead (by simpa using c)).1,(h.dead (by simpa using c)).2];rfl
theorem sQ {hs:List LM.Sh} (hr:LM.cV hs=true) {nf ns:Nat} {u:List Us×List Us} (h:Ah (fun _ _=>[]) nf ns u) (ss:List Sp):∀k,k<=ss.length->om hs ss u k=true->Ah (fun kd i=>names (ss.take k) kd i) nf ns (kS ss u k)/\∀i,i<k->Mc hs nf ns (au ss i)
 | 0,_,_=>⟨by
  have e:(fun kd i=>names (ss.take 0) kd i)=fun _ _=>[]:=by funext kd i;rfl
  rw[e]
  exact h,fun i hi=>by omega⟩
 | k+1,hk,hb=>by
  unfold om at hb
  rw[Bool.and_eq_true,Bool.and_eq_true] at hb
  obtain⟨a1,a2⟩:=sQ hr h ss k (by omega) hb.1
  obtain⟨b1,b2⟩:=yY a1 (au ss k).aD (au ss k).aA _ (Nat.le_refl _) hb.2.2
  refine⟨?_,fun i hi=>?_⟩
  · have e:(fun kd i=>names (ss.take (k+1)) kd i)=fun kd i=>names (ss.take k) kd i++nm (au ss k).aD kd i ((au ss k).aA.take (au ss k).aA.length):=by
     funext kd i
     rw[rR ss k (by omega),List.take_length]
     rfl
    rw[e];exact b1
  · by_cases c:i=k
    · subst c;exact Xw hr hb.2.1 (xS.1 b2)
    · exact a2 i (by omega)
theorem Kb {ss:List Sp} {k:Nat} {kd a:Int} {x:Int×Bool} (h:x∈names (ss.take k) kd a):x∈names ss kd a:=by
 obtain⟨s,hs,r⟩:=iL.1 h
 exact iL.2 ⟨s,List.mem_of_mem_take hs,r⟩
theorem DB {hs:List LM.Sh} (hr:LM.cV hs=true) {nf ns:Nat} {u:List Us×List Us} (h:Ah (fun _ _=>[]) nf ns u) (ss:List Sp) (hsp:∀i,i<ss.length->Mc hs nf ns (au ss i)) (ho:∀kd i,∀x∈names ss kd i,∀y∈names ss kd i,x=y):∀k,k<=ss.length->om hs ss u k=true
 | 0,_=>rfl
 | k+1,hk=>by
  have ih:=DB hr h ss hsp ho k (by omega)
  unfold om
  obtain⟨a1,_⟩:=sQ hr h ss k (by omega) ih
  have g:=hsp k (by omega)
  rw[ih,XG hr g,Bool.true_and,Bool.true_and]
  refine Bl a1 _ _ (xS.2 ⟨g.vW,g.eN⟩) (fun kd i x hx y hy=>?_) _ (Nat.le_refl _)
  have key:∀z,z∈names (ss.take k) kd i++nm (au ss k).aD kd i (au ss k).aA->z∈names ss kd i:=fun z hz=>by
   refine Kb (k:=k+1) ?_
   rw[rR ss k (by omega)]
   exact hz
  exact ho kd i x (key x hx) y (key y hy)
theorem tD (f:Fr):tV f=true↔f=kY:=by
 unfold tV
 rw[decide_eq_true_eq]
 constructor
 · rintro⟨h1,h2,h3,h4⟩
   obtain⟨⟨⟨d⟩⟩,r,a,b⟩:=f
   simp only at h2 h3 h4
   subst h2 h3 h4
   have:d=[]:=List.eq_nil_of_length_eq_zero h1
   subst this
   rfl
 · rintro rfl;exact⟨rfl,rfl,rfl,rfl⟩
theorem tE (f:Sl):n9 f=true↔f=sS:=by
 unfold n9
 rw[decide_eq_true_eq]
 constructor
 · rintro⟨h1,h2⟩
   obtain⟨⟨⟨d⟩⟩,r⟩:=f
   simp only at h2
   subst h2
   have:d=[]:=List.eq_nil_of_length_eq_zero h1
   subst this
   rfl
 · rintro rfl;exact⟨rfl,rfl⟩
theorem Ix {L:List (Int×Bool)} {u:Us} (h:Sum L u):∀x∈L,∀y∈L,x=y:=fun x hx y hy=>(h.2 x hx).trans (h.2 y hy).symm
theorem sum_nil {L:List (Int×Bool)} {u:Us} (h:Sum L u):u.refs=0↔L=[]:=by
 rw[h.1]
 constructor
 · exact fun e=>List.eq_nil_of_length_eq_zero (by omega)
 · rintro rfl;rfl
theorem OS {hs:List LM.Sh} {L:List (Int×Bool)} {u:Us} (h:Sum L u) (f:Fr):fM hs f u=true↔wj hs L f:=by
 unfold fM
 by_cases c:u.refs=0
 · have hL:=(sum_nil h).1 c
   subst hL
   rw[if_pos c,tD]
   exact⟨fun e=>by rw[e];exact wj.none hs,fun e=>e.zero rfl⟩
 · have hL:L≠[]:=fun e=>c ((sum_nil h).2 e)
   rw[if_neg c,Bool.and_eq_true,decide_eq_true_eq,Bool.or_eq_true,decide_eq_true_eq]
   constructor
   · rintro⟨⟨h1,h2⟩,h3⟩
     refine⟨h1.trans h.1,fun e=>absurd e hL,Ix h,fun _=>h2,fun d x hx=>?_⟩
     rw[h.2 x hx]
     exact h3.resolve_left (by rw[d];simp)
   · intro g
     refine⟨⟨g.refs.trans h.1.symm,g.size hL⟩,?_⟩
     cases d:f.b9 with
     | true=>exact .inl rfl
     | false =>
      obtain⟨x,hx⟩:=List.exists_mem_of_ne_nil _ hL
      have:=g.fill d x hx
      rw[h.2 x hx] at this
      exact .inr this
theorem MK {L:List (Int×Bool)} {u:Us} (h:Sum L u) (f:Sl):ig f u=true↔Fh L f:=by
 unfold ig
 by_cases c:u.refs=0
 · have hL:=(sum_nil h).1 c
   subst hL
   rw[if_pos c,tE]
   exact⟨fun e=>by rw[e];exact Fh.none,fun e=>e.zero rfl⟩
 · have hL:L≠[]:=fun e=>c ((sum_nil h).2 e)
   rw[if_neg c,decide_eq_true_eq]
   constructor
   · rintro⟨h1,h2⟩
     exact⟨h1.trans h.1,fun e=>absurd e hL,Ix h,fun _=>h2⟩
   · intro g
     exact⟨g.refs.trans h.1.symm,g.size hL⟩
theorem EM (k:Kn) (hc:counts k=true):tK k=true↔aU k:=by
 unfold tK
 simp only[Bool.and_eq_true,decide_eq_true_eq,List.all_eq_true,List.mem_range]
 have hz:=Dz k.frames.length k.slots.length
 have hn:(fun kd i=>names (k.aj.take k.aj.length) kd i)=fun kd i=>names k.aj kd i:=by funext kd i;rw[List.take_length]
 constructor
 · rintro⟨h1,h2,h3,h4,h5,h6⟩
   obtain⟨a1,a2⟩:=sQ h1 hz k.aj _ (Nat.le_refl _) h3
   rw[hn] at a1
   refine⟨hc,h1,h2,fun s hs=>?_,h4,fun i hi=>(OS (a1.2.1 i hi) _).1 (h5 i hi),fun i hi=>(MK (a1.2.2 i hi) _).1 (h6 i hi)⟩
   obtain⟨j,hj,rfl⟩:=eZ Fw hs
   exact a2 j hj
 · intro h
   have ho:∀kd i,∀x∈names k.aj kd i,∀y∈names k.aj kd i,x=y:=fun kd i x hx y hy=>by
    obtain⟨s,hs,e,he,g1,g2,_⟩:=iL.1 hx
    obtain⟨j,hj,rfl⟩:=eZ Fw hs
    rcases fV h hj he with b | b
    · have:=(h.nz e.loc.toNat b.2.2).one x (by rw[b.2.1,g2,<- b.1,g1];exact hx) y (by rw[b.2.1,g2,<- b.1,g1];exact hy)
      exact this
    · exact(h.slt e.loc.toNat b.2.2).one x (by rw[b.2.1,g2,<- b.1,g1];exact hx) y (by rw[b.2.1,g2,<- b.1,g1];exact hy)
   have hb:=DB h.eN hz k.aj (fun i hi=>h.sp hi) ho _ (Nat.le_refl _)
   obtain⟨a1,_⟩:=sQ h.eN hz k.aj _ (Nat.le_refl _) hb
   rw[hn] at a1
   exact⟨h.eN,h.hand,hb,h.room,fun i hi=>(OS (a1.2.1 i hi) _).2 (h.nz i hi),fun i hi=>(MK (a1.2.2 i hi) _).2 (h.slt i hi)⟩
theorem kz (k:Kn):dx k=0↔aU k:=by
 unfold dx
 by_cases c:counts k=true
 · rw[if_neg (by rw[c];simp),<- EM k c]
   by_cases d:tK k=true
   · rw[if_pos d];exact⟨fun _=>d,fun _=>rfl⟩
   · rw[if_neg d];exact⟨fun e=>by omega,fun e=>absurd e d⟩
 · rw[if_pos (by simpa using c)]
   exact⟨fun e=>by omega,fun h=>absurd h.counts c⟩
def wP (nf ns:Nat) (ar:List AM.Ar) (es:List En) (i:Nat):Bool:=((AM.aT ar (aN es i).page).2&&(i==0 || decide ((aN es (i-1)).page<(aN es i).page)))&&(if (aN es i).kind=1 then decide (0<=(aN es i).loc/\(aN es i).loc<=(nf:Int)-1) else if (aN es i).kind=2 then decide (0<=(aN es i).loc/\(aN es i).loc<=(ns:Int)-1) else false)
def m8 (nf ns:Nat) (ar:List AM.Ar) (es:List En):Nat->Bool
 | 0=>true
 | k+1=>m8 nf ns ar es k&&wP nf ns ar es k
def oq (hs:List LM.Sh) (ar:List AM.Ar) (p:Int):Bool:=!((AM.aT ar p).2&&(!(AM.aT ar p).1.zero&&!(bU hs p).isSome))
def jk (hs:List LM.Sh) (ar:List AM.Ar):Nat->Bool
 | 0=>true
 | k+1=>jk hs ar k&&oq hs ar ((k:Int)+1)
def iJ (hs:List LM.Sh) (nf ns:Nat) (s:Sp):Bool:=if s.live then decide (AM.aR s.aD=0)&&(m8 nf ns s.aD s.aA s.aA.length&&jk hs s.aD 255) else decide (s.aD.length=0)&&decide (s.aA.length=0)
structure Na where
 n:Int
 page:Int
 fine:Bool
 qa:AM.Ar
def UI:Na:=⟨0,0,true,AM.nil⟩
def mn (a:Na) (p:Int) (r:AM.Ar):Na:=⟨a.n+1,p,a.fine&&(decide (a.n=0) || (decide (p=a.page)&&r.zero==a.qa.zero)),r⟩
def A4 (ar:List AM.Ar) (kd i:Int) (a:Na) (e:En):Na:=if e.kind=kd/\e.loc=i then mn a e.page (AM.aT ar e.page).1 else a
def mo (ar:List AM.Ar) (es:List En) (kd i:Int) (a:Na):Nat->Na
 | 0=>a
 | k+1=>A4 ar kd i (mo ar es kd i a k) (aN es k)
def yu (ss:List Sp) (kd i:Int):Nat->Na
 | 0=>UI
 | k+1=>mo (au ss k).aD (au ss k).aA kd i (yu ss kd i k) (au ss k).aA.length
def dG (ss:List Sp) (kd i:Int):Na:=yu ss kd i ss.length
def Bg (hs:List LM.Sh) (f:Fr) (a:Na):Bool:=decide (f.refs=a.n)&&(!(decide (a.n=0)&&!tV f)&&!(decide (0<a.n)&&(!a.fine || (decide (f.data.size≠16) || (!f.b9&&decide (f.data≠dY hs a.page a.qa.zero))))))
def Fy (f:Sl) (a:Na):Bool:=decide (f.refs=a.n)&&(!(decide (a.n=0)&&!n9 f)&&!(decide (0<a.n)&&(!a.fine || decide (f.data.size≠16))))
def rH (k:Kn):Nat->Bool
 | 0=>true
 | n+1=>rH k n&&iJ k.ak k.frames.length k.slots.length (au k.aj n)
def wN (k:Kn):Nat->Bool
 | 0=>true
 | n+1=>wN k n&&Bg k.ak (aI k.frames n) (dG k.aj 1 n)
def wu (k:Kn):Nat->Bool
 | 0=>true
 | n+1=>wu k n&&Fy (bG k.slots n) (dG k.aj 2 n)
def m7 (k:Kn):Bool:=LM.cV k.ak&&(decide (0<=k.hand/\k.hand<=(k.frames.length:Int)-1)&&(rH k k.aj.length&&(decide (room k.aj<=(k.slots.length:Int))&&(wN k k.frames.length&&wu k k.slots.length))))
theorem rG {f:Nat->Bool} {g:Nat->Bool} (h0:g 0=true) (hs:∀k,g (k+1)=(g k&&f k)):∀n,g n=true↔∀i,i<n->f i=true
 | 0=>⟨fun _ i hi=>by omega,fun _=>h0⟩
 | n+1=>by
  rw[hs,Bool.and_eq_true,rG h0 hs n]
  constructor
  · rintro⟨h1,h2⟩ i hi
    by_cases c:i=n
    · rw[c];exact h2
    · exact h1 i (by omega)
  · exact fun h=>⟨fun i hi=>h i (by omega),h n (by omega)⟩
theorem Lt {nf ns:Nat} {ar:List AM.Ar} {es:List En}:m8 nf ns ar es es.length=true↔(∀e∈es,pY nf ns ar e)/\kI es:=by
 rw[rG (f:=wP nf ns ar es) rfl (fun _=>rfl),<- xS]
 have key:∀i,i<es.length->(wP nf ns ar es i=true↔pY nf ns ar (aN es i)/\lu es i<(aN es i).page):=fun i hi=>by
  unfold wP pY lu
  rw[Bool.and_eq_true,Bool.and_eq_true,Bool.or_eq_true,beq_iff_eq,decide_eq_true_eq]
  constructor
  · rintro⟨⟨h1,h2⟩,h3⟩
    refine⟨⟨h1,?_⟩,?_⟩
    · by_cases c:(aN es i).kind=1
      · rw[if_pos c,decide_eq_true_eq] at h3
        exact .inl ⟨c,h3.1,by omega⟩
      · rw[if_neg c] at h3
        by_cases d:(aN es i).kind=2
        · rw[if_pos d,decide_eq_true_eq] at h3
          exact .inr ⟨d,h3.1,by omega⟩
        · rw[if_neg d] at h3;cases h3
    · by_cases c:i=0
      · rw[if_pos c];have:=jw h1;omega
      · rw[if_neg c];exact h2.resolve_left c
  · rintro⟨⟨h1,h2⟩,h3⟩
    refine⟨⟨h1,?_⟩,?_⟩
    · by_cases c:i=0
      · exact .inl c
      · rw[if_neg c] at h3;exact .inr h3
    · rcases h2 with g | g
      · rw[if_pos g.1,decide_eq_true_eq];omega
      · rw[if_neg (by omega),if_pos g.1,decide_eq_true_eq];omega
 exact⟨fun h i hi=>(key i hi).1 (h i hi),fun h i hi=>(key i hi).2 (h i hi)⟩
theorem DI {hs:List LM.Sh} {ar:List AM.Ar}:jk hs ar 255=true↔∀p,(AM.aT ar p).2=true->(AM.aT ar p).1.zero=false->(bU hs p).isSome=true:=by
 rw[rG (f:=fun k=>oq hs ar ((k:Int)+1)) rfl (fun _=>rfl)]
 constructor
 · intro h p hp hz
   have hb:=jw hp
   have:=h (p-1).toNat (by omega)
   rw[show((p-1).toNat:Int)+1=p by omega] at this
   unfold oq at this
   rw[hp,hz] at this
   simpa using this
 · intro h i hi
   unfold oq
   cases h1:(AM.aT ar ((i:Int)+1)).2 with
   | false=>rfl
   | true =>
    cases h2:(AM.aT ar ((i:Int)+1)).1.zero with
    | true=>rfl
    | false=>rw[h _ h1 h2];rfl
theorem Cb {hs:List LM.Sh} {nf ns:Nat} {s:Sp}:iJ hs nf ns s=true↔Mc hs nf ns s:=by
 unfold iJ
 by_cases c:s.live=true
 · rw[if_pos c,Bool.and_eq_true,Bool.and_eq_true,decide_eq_true_eq,Lt,DI]
   exact⟨fun h=>⟨fun d=>(by rw[c] at d;cases d),h.1,h.2.1.2,h.2.1.1,h.2.2⟩,fun h=>⟨h.aD,⟨h.vW,h.eN⟩,h.ak⟩⟩
 · rw[if_neg c,Bool.and_eq_true,decide_eq_true_eq,decide_eq_true_eq]
   constructor
   · rintro⟨h1,h2⟩
     have ha:=List.eq_nil_of_length_eq_zero h1
     have he:=List.eq_nil_of_length_eq_zero h2
     refine⟨fun _=>⟨ha,he⟩,by rw[ha];rfl,by rw[he];exact List.Pairwise.nil,fun e g=>(by rw[he] at g;cases g),fun p hp=>?_⟩
     rw[ha] at hp
     cases hp
   · intro h
     have:=h.dead (by simpa using c)
     rw[this.1,this.2]
     exact⟨rfl,rfl⟩
structure Qb (L:List (Int×Bool)) (a:Na):Prop where
 n:a.n=L.length
 fine:a.fine=true↔∀x∈L,∀y∈L,x=y
 last:L≠[]->(a.page,a.qa.zero)∈L
theorem QW {L:List (Int×Bool)} {a:Na} (h:Qb L a) (p:Int) (r:AM.Ar):Qb (L++[(p,r.zero)]) (mn a p r):=by
 refine⟨by show a.n+1=_;rw[h.n,List.length_append];rfl,?_,fun _=>List.mem_append.2 (.inr (by simp[mn]))⟩
 show(a.fine&&(decide (a.n=0) || (decide (p=a.page)&&r.zero==a.qa.zero)))=true↔_
 rw[Bool.and_eq_true,h.fine,Bool.or_eq_true,Bool.and_eq_true,decide_eq_true_eq,decide_eq_true_eq,beq_iff_eq]
 constructor
 · rintro⟨h1,h2⟩ x hx y hy
   have key:∀z∈L,z=(p,r.zero):=fun z hz=>by
    have hne:L≠[]:=List.ne_nil_of_mem hz
    have h2:=h2.resolve_left (fun e=>hne (List.eq_nil_of_length_eq_zero (by have:=h.n;omega)))
    rw[h1 z hz _ (h.last hne),h2.1,h2.2]
   have all:∀z∈L++[(p,r.zero)],z=(p,r.zero):=fun z hz=>by
    rcases List.mem_append.1 hz with g | g
    · exact key z g
    · simpa using g
   rw[all x hx,all y hy]
 · intro g
   refine⟨fun x hx y hy=>g x (List.mem_append.2 (.inl hx)) y (List.mem_append.2 (.inl hy)),?_⟩
   by_cases c:L=[]
   · left;rw[h.n,c];rfl
   · right
     have:=g _ (List.mem_append.2 (.inl (h.last c))) (p,r.zero) (List.mem_append.2 (.inr (by simp)))
     injection this with e1 e2
     exact⟨e1.symm,e2.symm⟩
theorem IV {L:List (Int×Bool)} {a:Na} (h:Qb L a) (ar:List AM.Ar) (es:List En) (kd i:Int):∀k,k<=es.length->Qb (L++nm ar kd i (es.take k)) (mo ar es kd i a k)
 | 0,_=>by rw[List.take_zero];show Qb (L++[]) a;rw[List.append_nil];exact h
 | k+1,hk=>by
  have ih:=IV h ar es kd i k (by omega)
  rw[take_succ es k (by omega),fJ,<- List.append_assoc]
  show Qb _ (A4 ar kd i (mo ar es kd i a k) (aN es k))
  unfold A4
  by_cases c:(aN es k).kind=kd/\(aN es k).loc=i
  · rw[if_pos c,ld ar c];exact QW ih _ _
  · rw[if_neg c,jS ar c,List.append_nil];exact ih
theorem Nt (ss:List Sp) (kd i:Int):∀k,k<=ss.length->Qb (names (ss.take k) kd i) (yu ss kd i k)
 | 0,_=>⟨rfl,⟨fun _ x hx=>(by cases hx),fun _=>rfl⟩,fun e=>absurd rfl e⟩
 | k+1,hk=>by
  have:=IV (Nt ss kd i k (by omega)) (au ss k).aD (au ss k).aA kd i _ (Nat.le_refl _)
  rw[List.take_length] at this
  rw[rR ss k (by omega)]
  exact this
theorem uv (ss:List Sp) (kd i:Int):Qb (names ss kd i) (dG ss kd i):=by
 have:=Nt ss kd i ss.length (Nat.le_refl _)
 rw[List.take_length] at this
 exact this
theorem Ji {hs:List LM.Sh} {L:List (Int×Bool)} {a:Na} (h:Qb L a) (f:Fr):Bg hs f a=true↔wj hs L f:=by
 unfold Bg
 rw[Bool.and_eq_true,Bool.and_eq_true,decide_eq_true_eq]
 by_cases c:L=[]
 · subst c
   have hn:a.n=0:=h.n
   rw[hn]
   simp only[decide_true,Bool.true_and,Bool.not_not,Int.lt_irrefl,decide_false,Bool.false_and,Bool.not_false,and_true,tD]
   exact⟨fun e=>by rw[e.2];exact wj.none hs,fun e=>⟨by rw[e.zero rfl];rfl,e.zero rfl⟩⟩
 · have hp:0<L.length:=List.length_pos_iff.2 c
   have hn:0<a.n:=by rw[h.n];omega
   rw[decide_eq_false (show ¬a.n=0 by omega),decide_eq_true hn]
   simp only[Bool.false_and,Bool.not_false,Bool.true_and,true_and,Bool.not_eq_true',Bool.or_eq_false_iff,Bool.not_eq_false',Bool.and_eq_false_iff,decide_eq_false_iff_not,Decidable.not_not]
   constructor
   · rintro⟨h1,h2,h3,h4⟩
     refine⟨h1.trans h.n,fun e=>absurd e c,h.fine.1 h2,fun _=>h3,fun d x hx=>?_⟩
     rw[h.fine.1 h2 x hx _ (h.last c)]
     exact h4.resolve_left (by rw[d];simp)
   · intro g
     refine⟨g.refs.trans h.n.symm,h.fine.2 g.one,g.size c,?_⟩
     cases d:f.b9 with
     | true=>exact .inl rfl
     | false=>exact .inr (g.fill d _ (h.last c))
theorem ID {L:List (Int×Bool)} {a:Na} (h:Qb L a) (f:Sl):Fy f a=true↔Fh L f:=by
 unfold Fy
 rw[Bool.and_eq_true,Bool.and_eq_true,decide_eq_true_eq]
 by_cases c:L=[]
 · subst c
   have hn:a.n=0:=h.n
   rw[hn]
   simp only[decide_true,Bool.true_and,Bool.not_not,Int.lt_irrefl,decide_false,Bool.false_and,Bool.not_false,and_true,tE]
   exact⟨fun e=>by rw[e.2];exact Fh.none,fun e=>⟨by rw[e.zero rfl];rfl,e.zero rfl⟩⟩
 · have hp:0<L.length:=List.length_pos_iff.2 c
   have hn:0<a.n:=by rw[h.n];omega
   rw[decide_eq_false (show ¬a.n=0 by omega),decide_eq_true hn]
   simp only[Bool.false_and,Bool.not_false,Bool.true_and,true_and,Bool.not_eq_true',Bool.or_eq_false_iff,Bool.not_eq_false',decide_eq_false_iff_not,Decidable.not_not]
   constructor
   · rintro⟨h1,h2,h3⟩
     exact⟨h1.trans h.n,fun e=>absurd e c,h.fine.1 h2,fun _=>h3⟩
   · intro g
     exact⟨g.refs.trans h.n.symm,h.fine.2 g.one,g.size c⟩
theorem Lm (k:Kn) (hc:counts k=true):m7 k=true↔aU k:=by
 unfold m7
 simp only[Bool.and_eq_true,decide_eq_true_eq]
 rw[rG (g:=rH k) (f:=fun n=>iJ k.ak k.frames.length k.slots.length (au k.aj n)) rfl (fun _=>rfl),rG (g:=wN k) (f:=fun n=>Bg k.ak (aI k.frames n) (dG k.aj 1 n)) rfl (fun _=>rfl),rG (g:=wu k) (f:=fun n=>Fy (bG k.slots n) (dG k.aj 2 n)) rfl (fun _=>rfl)]
 constructor
 · rintro⟨h1,h2,h3,h4,h5,h6⟩
   refine⟨hc,h1,by omega,fun s hs=>?_,h4,fun i hi=>(Ji (uv _ _ _) _).1 (h5 i hi),fun i hi=>(ID (uv _ _ _) _).1 (h6 i hi)⟩
   obtain⟨j,hj,rfl⟩:=eZ Fw hs
   exact Cb.1 (h3 j hj)
 · intro h
   have hh:=h.hand
   exact⟨h.eN,by omega,fun i hi=>Cb.2 (h.sp hi),h.room,fun i hi=>(Ji (uv _ _ _) _).2 (h.nz i hi),fun i hi=>(ID (uv _ _ _) _).2 (h.slt i hi)⟩
def iU (k:Kn):Int:=if counts k=false then 2 else if m7 k then 0 else 1
theorem jy (k:Kn):iU k=dx k:=by
 unfold iU dx
 by_cases c:counts k=true
 · have:m7 k=tK k:=by
    have h1:=Lm k c;have h2:=EM k c
    cases a:m7 k <;> cases b:tK k
    · rfl
    · exact absurd (h1.2 (h2.1 b)) (by rw[a];simp)
    · exact absurd (h2.2 (h1.1 a)) (by rw[b];simp)
    · rfl
   rw[this]
 · rw[if_pos (by simpa using c),if_pos (by simpa using c)]
end KM
namespace W
open Go.RowKit
theorem ai {p:Prop} (h:p):Hid p:=h
theorem bV {a b:Bool} (h:a=b):Ending.returned (.bool a)=.returned (.bool b):=by rw[h]
theorem yH (n:Int) (w:World):Calls Tryz.prog 209 #[.int .u8 n] w fun e w'=>e=.returned (.bool (M.oW n))/\w=w':=by
 by_cases h1:97<=n/\n<=122
 · have e:M.oW n=true:=by unfold M.oW;rw[decide_eq_true h1];rfl
   rw[e]
   obtain⟨a,b⟩:=h1
   go_enter Tryz.func209,Tryz.ntmps209
   go_wp2
   go_ret
   exact⟨rfl,rfl⟩
 · by_cases h2:48<=n/\n<=57
   · have e:M.oW n=true:=by unfold M.oW;rw[decide_eq_true h2];simp
     rw[e]
     obtain⟨a,b⟩:=h2
     have c:decide (97<=n)=false:=by simp;omega
     clear h1
     go_enter Tryz.func209,Tryz.ntmps209
     go_wp2
     go_ret
     exact⟨rfl,rfl⟩
   · by_cases h3:n=95
     · subst h3
       go_enter Tryz.func209,Tryz.ntmps209
       go_wp2
       go_ret
       exact⟨rfl,rfl⟩
     · have e:M.oW n=false:=by unfold M.oW;rw[decide_eq_false h1,decide_eq_false h2,decide_eq_false h3];rfl
       rw[e]
       have h3':(n==95)=false:=by simpa using h3
       by_cases a:97<=n
       · have b:decide (n<=122)=false:=by simp;omega
         have c:48<=n:=by omega
         have d:decide (n<=57)=false:=by simp;omega
         clear h1 h2
         go_enter Tryz.func209,Tryz.ntmps209
         go_wp2
         go_ret
         exact⟨rfl,rfl⟩
       · have a':decide (97<=n)=false:=by simpa using a
         by_cases c:48<=n
         · have d:decide (n<=57)=false:=by simp;omega
           clear h1 h2
           go_enter Tryz.func209,Tryz.ntmps209
           go_wp2
           go_ret
           exact⟨rfl,rfl⟩
         · have c':decide (48<=n)=false:=by simpa using c
           clear h1 h2
           go_enter Tryz.func209,Tryz.ntmps209
           go_wp2
           go_ret
           exact⟨rfl,rfl⟩
theorem GU (s:ByteArray) (w:World) (hs:M.bf s.size):Calls Tryz.prog 198 #[.string s] w fun e w'=>e=.returned (.bool (M.oX s))/\w=w':=by
 unfold M.bf at hs
 have oa:s.size<=maxLen:=by unfold maxLen;omega
 by_cases h1:1<=s.size
 · by_cases h2:s.size<=12
   · have d1:¬(s.size:Int)<1:=by omega
     have d2:¬12<(s.size:Int):=by omega
     go_enter Tryz.func198,Tryz.ntmps198
     go_wp2
     go_loop [14] (fun i=>∃k:Nat,k<=s.size/\i=I k/\∀j (hj:j<s.size),j<k->M.oW s[j].toNat=true) (fun i=>s.size-(intOf i).toNat)
     case atStart=>exact⟨0,by omega,rfl,fun j _ h=>by omega⟩
     case round =>
      obtain⟨k,hk,rfl,hall⟩:=hrel
      have HA:=ai hall
      clear hall
      by_cases hlt:k<s.size
      · cases hc:M.oW s[k].toNat
        · have HR:=ai (M.QU s k hlt hc)
          go_wp2_with (go_at_call 209;refine(yH _ _).mono ?_;rintro e w' ⟨rfl,rfl⟩;rw[hc])
          go_ret
          exact⟨bV HR.o.symm,rfl⟩
        · have HC:=ai hc
          go_wp2_with (go_at_call 209;refine(yH _ _).mono ?_;rintro e w' ⟨rfl,rfl⟩;rw[hc])
          go_round
          case rel=>exact⟨k+1,by omega,by go_num,fun j hj h=>if e:j=k then by subst e;exact HC.o else HA.o j hj (by omega)⟩
          case measure=>simp[intOf];omega
      · obtain rfl:k=s.size:=by omega
        have HR:=ai (M.Ns s h1 h2 (fun k hk=>HA.o k hk hk))
        go_wp2
        go_ret
        exact⟨bV HR.o.symm,rfl⟩
   · have HR:=ai (M.Ef s (fun h=>h2 h.2))
     have d1:¬(s.size:Int)<1:=by omega
     have d2:12<(s.size:Int):=by omega
     go_enter Tryz.func198,Tryz.ntmps198
     go_wp2
     go_ret
     exact⟨bV HR.o.symm,rfl⟩
 · have HR:=ai (M.Ef s (fun h=>h1 h.1))
   have d1:(s.size:Int)<1:=by omega
   go_enter Tryz.func198,Tryz.ntmps198
   go_wp2
   go_ret
   exact⟨bV HR.o.symm,rfl⟩
end W
namespace LW
open Go.RowKit
open W (ai)
theorem zo (w:World):Below w.heap.size w w.drew:=⟨rfl,rfl,rfl,Nat.le_refl _,fun _ _=>rfl⟩
theorem bV {a b:Bool} (h:a=b):Ending.returned (.bool a)=.returned (.bool b):=by rw[h]
theorem pO (s:LM.Sh) (w:World) (h:LM.nE w s.ao s.bh) (hf:LM.De s) :
  Calls Tryz.prog 146 #[.agg (LM.ll s)] w fun e w'=>e=.returned (.bool (LM.bN s))/\Below w.heap.size w w':=by
 obtain⟨f1,f2,f3,f4⟩:=hf
 obtain⟨pg,dt,fs,ao,cap⟩:=s
 simp only at f1 f2 f3 f4
 unfold M.gj at f1
 unfold M.bf at f2 f3
 simp only[LM.ll]
 have hdl:dt.size<=maxLen:=by unfold maxLen;omega
 have F4:=ai f4
 have HH:=ai h
 clear f4 h
 have HB:=ai ((Below.refl w.heap.size w).alloc (Nat.le_refl _) (.cells #[I pg,.string dt,.slice ao fs.length cap] 50))
 by_cases h1:pg<1
 · have e:LM.bN ⟨pg,dt,fs,ao,cap⟩=false:=by
    unfold LM.bN LM.jE
    rw[decide_eq_false (by simp only;omega),Bool.false_and]
   rw[e]
   go_enter Tryz.func146,Tryz.ntmps146
   go_wp2
   go_ret
   exact⟨rfl,HB.o⟩
 by_cases h2:255<pg
 · have e:LM.bN ⟨pg,dt,fs,ao,cap⟩=false:=by
    unfold LM.bN LM.jE
    rw[decide_eq_false (by simp only;omega),Bool.false_and]
   rw[e]
   go_enter Tryz.func146,Tryz.ntmps146
   go_wp2
   go_ret
   exact⟨rfl,HB.o⟩
 by_cases h3:dt.size=16
 · have h3':(dt.size:Int)=16:=by omega
   have e:LM.jE ⟨pg,dt,fs,ao,cap⟩=true:=by
    unfold LM.jE
    exact decide_eq_true ⟨by simp only;omega,by simp only;omega,h3⟩
   have E:Hid (LM.bN ⟨pg,dt,fs,ao,cap⟩=LM.b7 fs fs.length):=by
    show _=_
    unfold LM.bN
    rw[e,Bool.true_and]
   clear e h3
   go_enter Tryz.func146,Tryz.ntmps146
   go_wp2
   go_loopw [23,3] (fun i en wr=>∃k:Nat,k<=fs.length/\i=I k/\en=I (LM.lD fs k)/\LM.b7 fs k=true/\Below w.heap.size w wr) (fun i _ _=>fs.length-(intOf i).toNat)
   case atStart=>exact⟨0,by omega,rfl,rfl,rfl,HB.o⟩
   case round =>
    obtain⟨k,hk,rfl,rfl,hg,hb⟩:=hrel
    have HG:=ai hg
    have fw:=ai hb
    clear hg
    by_cases hlt:k<fs.length
    · obtain⟨b,off,hao,hbl,bM⟩:=(HH.o.below hb) (by omega)
      subst hao
      obtain⟨c0,c1⟩:=bM k hlt
      obtain⟨g1,g2⟩:=F4.o k hlt
      have YE:=LM.jg fs k HG.o
      obtain⟨f,vw⟩:=ex (LM.lQ fs k)
      rw[<- vw] at c0 c1 g1 g2
      unfold M.gj at g1
      unfold M.bf at g2
      have hfl:f.bytes.size<=maxLen:=by unfold maxLen;omega
      have sK:=ai vw
      clear vw bM hb
      obtain⟨en,hen⟩:=ex (LM.lD fs k)
      rw[<- hen] at YE
      have iG:=ai hen
      rw[<- hen]
      clear hen
      have cJ:=ai (fw.o.alloc fw.o.size (.cells #[I f.off,.string f.bytes] 52))
      by_cases q1:f.off<en
      · have HX:Hid (LM.b7 fs fs.length=false):=LM.l7 fs k hlt (by rw[<- sK.o,<- iG.o];exact LM.qB (by omega))
        go_wp2
        go_ret
        exact⟨bV (by rw[E.o,HX.o]),cJ.o⟩
      by_cases q2:16<f.off
      · have HX:Hid (LM.b7 fs fs.length=false):=LM.l7 fs k hlt (by rw[<- sK.o,<- iG.o];exact LM.qB (by omega))
        go_wp2
        go_ret
        exact⟨bV (by rw[E.o,HX.o]),cJ.o⟩
      by_cases q3:(f.bytes.size:Int)<1
      · have HX:Hid (LM.b7 fs fs.length=false):=LM.l7 fs k hlt (by rw[<- sK.o,<- iG.o];exact LM.qB (by omega))
        go_wp2
        go_ret
        exact⟨bV (by rw[E.o,HX.o]),cJ.o⟩
      by_cases q4:16-f.off<(f.bytes.size:Int)
      · have HX:Hid (LM.b7 fs fs.length=false):=LM.l7 fs k hlt (by rw[<- sK.o,<- iG.o];exact LM.qB (by omega))
        go_wp2
        go_ret
        exact⟨bV (by rw[E.o,HX.o]),cJ.o⟩
      · have HX:Hid (LM.b7 fs (k+1)=true):=by
         show _=_
         simp only[LM.b7,Bool.and_eq_true]
         exact⟨HG.o,by rw[<- sK.o,<- iG.o];exact(LM.oc _ _).2 (by omega)⟩
        have HY:Hid (LM.lD fs (k+1)=f.off+(f.bytes.size:Int)):=by show _=_;simp only[LM.lD];rw[<- sK.o]
        go_wp2
        go_roundw
        case rel=>exact⟨k+1,by omega,by go_num,by rw[HY.o],HX.o,cJ.o⟩
        case measure=>simp[intOf];omega
    · obtain rfl:k=fs.length:=by omega
      go_wp2
      go_ret
      exact⟨bV (by rw[E.o,HG.o]),fw.o⟩
 · have e:LM.bN ⟨pg,dt,fs,ao,cap⟩=false:=by
    unfold LM.bN LM.jE
    rw[decide_eq_false (fun h=>h3 h.2.2),Bool.false_and]
   have h3':((dt.size:Int)==16)=false:=by simp;omega
   rw[e]
   go_enter Tryz.func146,Tryz.ntmps146
   go_wp2
   go_ret
   exact⟨rfl,HB.o⟩
end LW
namespace CW
open Go.RowKit
theorem Bu (n:Int) (size:Nat) (w:World) (h2:size<=8) :
  Calls Tryz.prog 138 #[I n,I size] w fun e w'=>e=.returned (.string ⟨(Lib.leBytes size (CM.low n)).toArray⟩)/\Below w.heap.size w w':=by
 go_enter Tryz.func138,Tryz.ntmps138
 go_wp2
 go_loopw [0,5,6] (fun t s i wr=>∃k:Nat,k<=size/\i=I k/\t=I (CM.shr n k)/\s=.string ⟨(Lib.leBytes k (CM.low n)).toArray⟩/\Below w.heap.size w wr) (fun _ _ i _=>size-(intOf i).toNat)
 case atStart=>exact⟨0,by omega,rfl,by rw[CM.ML],rfl,Below.refl _ _⟩
 case round =>
  obtain⟨k,hk,rfl,rfl,rfl,hb⟩:=hrel
  by_cases hlt:k<size
  · have hcv:(convert 137 9 (.slice (some (Ad wr.heap.size 0)) 1 1)).run Tryz.prog (wr.alloc (.cells #[.int .u8 (CM.shr n k%256)] 5))=.ok (.string ⟨#[(CM.low n/256 ^ k%256).toUInt8]⟩) (wr.alloc (.cells #[.int .u8 (CM.shr n k%256)] 5)):=by
     rw[<- CM.xC n k (by omega)]
     refine run_convert_bytes_arg _ 137 5 Tryz.underlying137 Tryz.underlying5 _ 0 1 1 [CM.shr n k%256] rfl ?_ 9 Tryz.underlying9
     intro i hi
     obtain rfl:i=0:=by omega
     simp
    have hl:(Lib.leBytes k (CM.low n)).length=k:=Lib.leBytes_length _ _
    have HN:Hid (Lib.leBytes (k+1) (CM.low n)=Lib.leBytes k (CM.low n)++[(CM.low n/256 ^ k%256).toUInt8]):=CM.tA _ _
    go_wp2
    go_roundw
    case rel=>exact⟨k+1,by omega,by go_num,by rw[<- CM.MM],by rw[HN.o];exact congrArg Value.string (CM.Ke _ [_]),hb.alloc (by have:=hb.size;omega) _⟩
    case measure=>simp[intOf];omega
  · obtain rfl:k=size:=by omega
    go_wp2
    go_ret
    exact⟨rfl,hb⟩
theorem Tx:(Tryz.prog.info? 5).map (fun i=>(i.zero,i.size,i.bytes))=some (some (.int .u8 0),1,1):=by kernel_rfl
theorem R7 (s:ByteArray) (w:World) (hlim:s.size<=281474976710656) :
  Calls Tryz.prog 152 #[.string s] w fun e w'=>e=.returned (.string s)/\Below w.heap.size w w':=by
 by_cases h0:s.size=0
 · have hs:s=⟨#[]⟩:=by
    apply ByteArray.ext
    exact Array.eq_empty_of_size_eq_zero h0
   subst hs
   go_enter Tryz.func152,Tryz.ntmps152
   go_wp2
   go_ret
   exact⟨rfl,Below.refl _ _⟩
 · obtain⟨i0,hi,hz0,hz1,hz2⟩:=info_parts Tx
   have hinfo:(Tryz.prog.info? 5).map (·.size)=some 1:=by rw[hi];simp[hz1]
   have hco:Tryz.prog.cellsOf 5=1:=by simp[Program.cellsOf,hi,hz1]
   obtain⟨M,hM⟩:=ex (madeCells (Value.int .u8 0).cells (((s.size:Nat):Int).toNat*i0.size))
   have hMs:M.size=s.size:=by rw[hM,size_madeCells,hz1];simp
   have hmk:∀W:World,(Instr.makeSlice 137 (I (s.size:Int)) (I (s.size:Int))).run Tryz.prog W=.ok (.slice (some (Ad W.heap.size 0)) s.size s.size) (W.alloc (.cells M 5)):=fun W=>by
    have h:=run_make (P:=Tryz.prog) W 137 5 i0 (.int .u8 0) Tryz.underlying137 hi hz0 .i64 .i64 (s.size:Int) (s.size:Int) (by omega) (by omega) (by rw[hz2];omega) (by omega)
    rw[<- hM] at h
    simpa using h
   clear hM
   have xk:=Lib.run_copy_row_string (P:=Tryz.prog) (w.alloc (.cells M 5)) 137 9 3 5 w.heap.size 0 s.size s.size s M 5 Tryz.underlying137 hinfo (heap_alloc_new w _) (Nat.le_refl _) (by omega)
   obtain⟨Y,hY⟩:=ex ((M.toList.take 0++Lib.byteCells s.data.toList++M.toList.drop (0+s.size)).toArray)
   rw[<- hY] at xk
   have hYl:Y.toList=Lib.byteCells s.data.toList:=by
    rw[hY,List.toList_toArray,List.take_zero,List.nil_append,List.drop_of_length_le (by rw[Array.length_toList];omega),List.append_nil]
   have YX:Y.size=s.size:=by rw[<- Array.length_toList,hYl,Lib.byteCells_length,<- Lib.size_eq]
   have hgY:((w.alloc (.cells M 5)).setRow w.heap.size Y).heap[w.heap.size]?=some (.cells Y 5 (0,0)):=setRow_heap _ _ M _ 5 (0,0) (heap_alloc_new w _)
   have hne:s.data.toList≠[]:=fun e=>h0 (by rw[Lib.size_eq,e];rfl)
   have hUS:=Lib.run_unsafeString_row (P:=Tryz.prog) ((w.alloc (.cells M 5)).setRow w.heap.size Y) 235 3 9 5 Tryz.underlying235 hco w.heap.size Y.size (by unfold World.shape?;rw[hgY]) s.data.toList hne (by rw[<- Lib.size_eq];omega) (by rw[<- Lib.size_eq];omega)
    (fun j x hx=>Lib.cells_of_row hgY Y.size j _ (by rw[List.take_of_length_le (by rw[Array.length_toList];exact Nat.le_refl _),hYl];simp[Lib.byteCells,hx]))
   rw[<- Lib.size_eq] at hUS
   clear hY
   go_enter Tryz.func152,Tryz.ntmps152
   go_wp2
   go_ret
   have hb1:Below w.heap.size w (w.alloc (.cells M 5)):=(Below.refl _ w).alloc (Nat.le_refl _) _
   have hb2:Below w.heap.size (w.alloc (.cells M 5)) ((w.alloc (.cells M 5)).setRow w.heap.size Y):=⟨rfl,rfl,rfl,by simp,fun k hk=>setRow_other _ _ _ _ (by omega)⟩
   exact⟨rfl,Lib.below_freeze (hb1.trans hb2) (p:=(Ad w.heap.size 0)) (Nat.le_refl _) _⟩
theorem Jm (s:ByteArray) (w:World) (hlim:s.size<=281474976710656) :
  Calls Tryz.prog 116 #[.string s] w fun e w'=>e=.returned (.string s)/\Below w.heap.size w w':=by
 go_enter Tryz.func116,Tryz.ntmps116
 go_wp2_with (go_at_call 152;refine(R7 _ _ hlim).mono ?_;rintro e w' ⟨rfl,hb⟩)
 go_ret
 exact⟨rfl,by assumption⟩
theorem rW (l o n:Int) (w:World) (h1:0<=o) (h2:0<=n) (h3:o<=l) (h4:n<=l-o) (h5:l<=9223372036854775807) :
  Calls Tryz.prog 115 #[I l,I o,I n] w fun e w'=>e=.returned (.bool true)/\w=w':=by
 go_enter Tryz.func115,Tryz.ntmps115
 go_wp2
 go_ret
 exact⟨rfl,rfl⟩
theorem yg (s:ByteArray) (o n:Nat) (w:World) (hs:s.size<=140737488351232) (h:o+n<=s.size) :
  Calls Tryz.prog 63 #[.string s,I o,I n] w fun e w'=>e=.returned (.tuple #[.string (s.extract o (o+n)),I 0])/\Below w.heap.size w w':=by
 go_enter Tryz.func63,Tryz.ntmps63
 go_wp2_with (first | (go_at_call 115;refine(rW _ _ _ _ (by omega) (by omega) (by omega) (by omega) (by omega)).mono ?_;rintro e w' ⟨rfl,rfl⟩) | (go_at_call 116;refine(Jm _ _ (by simp;omega)).mono ?_;rintro e w' ⟨rfl,hb⟩))
 go_ret2
 exact⟨rfl,by assumption⟩
theorem CA (s t:ByteArray) (o:Nat) (w:World) (hs:s.size<=140737488351232) (h:o+t.size<=s.size) :
  Calls Tryz.prog 65 #[.string s,I o,.string t] w fun e w'=>e=.returned (.tuple #[.string (CL.over s o t),I 0])/\Below w.heap.size w w':=by
 obtain⟨i0,hi,hz0,hz1,hz2⟩:=info_parts Tx
 have hinfo:(Tryz.prog.info? 5).map (·.size)=some 1:=by rw[hi];simp[hz1]
 obtain⟨c,hc⟩:∃c,grownCap w s.size 0 5=c:=⟨_,rfl⟩
 have hcs:s.size<=c:=by rw[<- hc];exact grownCap_ge _ _ _ _
 have hcv:=run_bytes_of_string (P:=Tryz.prog) w 9 137 5 s Tryz.underlying9 Tryz.underlying137 Tryz.underlying5
 rw[hc] at hcv
 clear hc
 have hRs:(bytesRow s c).size=c:=by rw[CL.Af];omega
 have hov:=CL.Gz s o t c h
 obtain⟨R,hR⟩:=ex (bytesRow s c)
 rw[<- hR] at hcv hRs hov
 clear hR
 rw[hRs] at hcv
 have hgR:((w.alloc (.cells R 5 (c,c+1))).drew).heap[w.heap.size]?=some (.cells R 5 (c,c+1)):=heap_alloc_new w _
 by_cases h0:t.size=0
 · have xk:=fun W d l c=>Lib.run_copy_empty_string (P:=Tryz.prog) W 137 9 3 5 d l c t Tryz.underlying137 (by rw[hinfo];rfl) h0
   rw[CL.Nb s o t h0] at hov ⊢
   have hcb:(convert 137 9 (.slice (some (Ad w.heap.size 0)) s.size c)).run Tryz.prog ((w.alloc (.cells R 5 (c,c+1))).drew)=.ok (.string s) ((w.alloc (.cells R 5 (c,c+1))).drew):=by
    have es:strOfNums (s.data.toList.map fun b=>(b.toNat:Int))=s:=(CM.oV _).trans (Lib.mk_data s)
    refine Eq.trans ?_ (congrArg (fun x=>Result.ok (Value.string x) ((w.alloc (.cells R 5 (c,c+1))).drew)) es)
    refine run_convert_bytes_arg _ 137 5 Tryz.underlying137 Tryz.underlying5 _ 0 s.size c _ (by rw[List.length_map,<- Lib.size_eq]) ?_ 9 Tryz.underlying9
    intro i hi
    have ht:t.data.toList=[]:=List.eq_nil_of_length_eq_zero (by rw[<- Lib.size_eq];exact h0)
    have e:=hov i hi
    rw[ht,h0] at e
    rw[Nat.zero_add,cell_of_row _ _ _ _ _ _ hgR]
    simpa [Lib.byteCells] using e
   go_enter Tryz.func65,Tryz.ntmps65
   go_wp2_with (first | (go_at_call 115;refine(rW _ _ _ _ (by omega) (by omega) (by omega) (by omega) (by omega)).mono ?_;rintro e w' ⟨rfl,rfl⟩))
   all_goals go_ret2
   all_goals exact⟨rfl,((Below.refl _ _).alloc (Nat.le_refl _) _).drew⟩
 · have hno:¬c=o:=by omega
   have xk:=CL.EY (P:=Tryz.prog) ((w.alloc (.cells R 5 (c,c+1))).drew) 137 9 3 5 w.heap.size o (s.size-o) (c-o) t R 5 c (c+1) Tryz.underlying137 hinfo hgR (by omega) (by omega) (by omega)
   obtain⟨Y,hY⟩:=ex ((R.toList.take o++Lib.byteCells t.data.toList++R.toList.drop (o+t.size)).toArray)
   rw[<- hY] at xk
   have hgY:(((w.alloc (.cells R 5 (c,c+1))).drew).setRow w.heap.size Y).heap[w.heap.size]?=some (.cells Y 5 (c,c+1)):=setRow_heap _ _ R _ 5 (c,c+1) hgR
   have hcb:(convert 137 9 (.slice (some (Ad w.heap.size 0)) s.size c)).run Tryz.prog (((w.alloc (.cells R 5 (c,c+1))).drew).setRow w.heap.size Y)=.ok (.string (CL.over s o t)) (((w.alloc (.cells R 5 (c,c+1))).drew).setRow w.heap.size Y):=by
    rw[<- Lib.mk_data (CL.over s o t),<- CM.oV]
    refine run_convert_bytes_arg _ 137 5 Tryz.underlying137 Tryz.underlying5 _ 0 s.size c _ (by rw[List.length_map];exact CL.nV s o t h) ?_ 9 Tryz.underlying9
    intro i hi
    rw[Nat.zero_add,cell_of_row _ _ _ _ _ _ hgY,hY]
    simpa using hov i hi
   clear hov hY
   go_enter Tryz.func65,Tryz.ntmps65
   go_wp2_with (first | (go_at_call 115;refine(rW _ _ _ _ (by omega) (by omega) (by omega) (by omega) (by omega)).mono ?_;rintro e w' ⟨rfl,rfl⟩))
   go_ret2
   exact⟨rfl,below_setRow ((Below.refl _ _).alloc (Nat.le_refl _) _).drew (Nat.le_refl _) _⟩
theorem Nc (s t:ByteArray) (o:Nat) (w:World) (hs:s.size<=140737488351232) (h:o+t.size<=s.size) :
  Calls Tryz.prog 68 #[.string s,I o,.string t] w fun e w'=>e=.returned (.string (CL.over s o t))/\Below w.heap.size w w':=by
 have h1:(o:Int)<=(s.size:Int):=by omega
 have h2:(o:Int)+(t.size:Int)<=(s.size:Int):=by omega
 go_enter Tryz.func68,Tryz.ntmps68
 go_wp2
 go_quiet (fail)
 go_wp2
 go_ret
 exact⟨by rw[<- CL.Gy s o t];rfl,below_drewN (Below.refl _ _) _⟩
end CW
end Go.Proofs.YtpgifpeohlllfaaGreat
