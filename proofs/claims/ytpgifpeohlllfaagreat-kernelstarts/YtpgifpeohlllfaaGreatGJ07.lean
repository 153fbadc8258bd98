import Derived.Test.YtpgifpeohlllfaaGreatGJ06
import Derived.Test.YtpgifpeohlllfaaGreatProg
import Derived.Test.YtpgifpeohlllfaaGreatGJ02
import Derived.Test.YtpgifpeohlllfaaGreatGJ00
import Derived.WalkLawsBesides
import Derived.WalkSpells
import Derived.Test.YtpgifpeohlllfaaGreatGJ03
import Derived.Laws.BytesArg
import Derived.Laws.OwnMore
set_option maxHeartbeats 20000000
set_option linter.unusedVariables false
set_option maxRecDepth 100000
set_option linter.unusedSimpArgs false
namespace Go.Proofs.YtpgifpeohlllfaaGreat
namespace KM
open Go.RowKit
theorem enAt_page (es : List En) (k : Nat) : (es.map (·.page)).getD k 0 = (enAt es k).page:=by
 unfold enAt
 rw [List.getD_eq_getElem?_getD,List.getD_eq_getElem?_getD,List.getElem?_map]
 cases es[k]? <;> rfl
theorem mapped_pos {ar : List AM.Ar} {p : Int} (h : (AM.findN ar p).2 = true) : 1 <= p /\ p < 256:=by
 have:=FM.found_page (FM.found_check h) h
 exact ⟨this.1,this.2.1⟩
theorem rise_iff {nf ns : Nat} {ar : List AM.Ar} {es : List En} : (∀ i,i < es.length -> entOk nf ns ar (enAt es i) /\ lastP es i < (enAt es i).page) ↔ (∀ e ∈ es,entOk nf ns ar e) /\ Rise es:=by
 constructor
 · intro h
   refine ⟨fun e he=>?_,FM.rising_pairwise _ fun k h1 h2=>?_⟩
   · obtain ⟨i,hi,rfl⟩:=mem_getD en0 he
     exact (h i hi).1
   · rw [List.length_map] at h2
     rw [enAt_page,enAt_page]
     have:=(h k h2).2
     unfold lastP at this
     rw [if_neg (by omega)] at this
     exact this
 · rintro ⟨h1,h2⟩ i hi
   have he:=h1 (enAt es i) (getD_mem hi)
   refine ⟨he,?_⟩
   unfold lastP
   by_cases c : i = 0
   · rw [if_pos c];have:=mapped_pos he.1;omega
   · rw [if_neg c,<- enAt_page,<- enAt_page]
     exact FM.pairwise_rising h2 i (by omega) (by rw [List.length_map];exact hi)
theorem filled_some {hs : List LM.Sh} (hr : LM.riseB hs = true) (p : Int) : (filled hs p).size ≠ 0 ↔ (sheetFor hs p).isSome = true:=by
 constructor
 · intro h
   unfold filled at h
   cases g : sheetFor hs p with
   | some s=>rfl
   | none=>rw [g] at h;exact absurd rfl h
 · intro h
   rw [filled_size hs hr p h];decide
theorem find_in {ar : List AM.Ar} (hc : AM.checkN ar = 0) (p : Int) : (AM.findN ar p).2 = true ↔ ∃ a ∈ ar,a.page <= p /\ p < a.page + a.pages /\ AM.findN ar p = (a,true):=by
 constructor
 · intro h
   have hf : AM.findN ar p = AM.findFrom ar p:=by unfold AM.findN;rw [if_pos hc]
   rw [hf] at h
   obtain ⟨k,hk,h1,h2⟩:=FM.from_mem ar p h
   refine ⟨AM.at_ ar k,getD_mem hk,((AM.hit_iff _ _).1 h1).1,((AM.hit_iff _ _).1 h1).2,?_⟩
   rw [hf,<- h2,<- h]
 · rintro ⟨a,_,_,_,e⟩
   rw [e]
theorem in_find {ar : List AM.Ar} (hc : AM.checkN ar = 0) {a : AM.Ar} (ha : a ∈ ar) {p : Int} (h1 : a.page <= p) (h2 : p < a.page + a.pages) : AM.findN ar p = (a,true):=by
 obtain ⟨k,hk,e⟩:=mem_getD AM.nil ha
 have e : AM.at_ ar k = a:=e
 have hit : AM.hit (AM.at_ ar k) p = true:=by rw [e];exact (AM.hit_iff _ _).2 ⟨h1,h2⟩
 have hf : AM.findN ar p = AM.findFrom ar p:=by unfold AM.findN;rw [if_pos hc]
 obtain ⟨j,hj,g⟩:=LM.find_hit ar p k hk hit
 have : (AM.findFrom ar p).2 = true:=by rw [g]
 obtain ⟨i,hi,i1,i2⟩:=FM.from_mem ar p this
 have:=LM.hit_one ar hc p i k hi hk i1 hit
 subst this
 rw [hf]
 have e2 : (AM.findFrom ar p).1 = a:=by rw [i2,e]
 rw [<- e2,<- this]
theorem have_iff {hs : List LM.Sh} (hr : LM.riseB hs = true) {ar : List AM.Ar} (hc : AM.checkN ar = 0) : haveB hs ar = true ↔ ∀ p,(AM.findN ar p).2 = true -> (AM.findN ar p).1.zero = false -> (sheetFor hs p).isSome = true:=by
 unfold haveB
 rw [List.all_eq_true]
 constructor
 · intro h p hp hz
   obtain ⟨a,ha,h1,h2,e⟩:=(find_in hc p).1 hp
   rw [e] at hz
   have hz : a.zero = false:=hz
   have:=h a ha
   rw [List.all_eq_true] at this
   have:=this (p - a.page).toNat (List.mem_range.2 (by omega))
   rw [hz,Bool.false_or,decide_eq_true_eq,show a.page + ((p - a.page).toNat : Int) = p by omega] at this
   exact (filled_some hr p).1 this
 · intro h a ha
   rw [List.all_eq_true]
   intro n hn
   have hn:=List.mem_range.1 hn
   have e:=in_find hc ha (p:=a.page + (n : Int)) (by omega) (by omega)
   cases z : a.zero with
   | true=>rfl
   | false =>
    rw [Bool.false_or,decide_eq_true_eq]
    exact (filled_some hr _).2 (h _ (by rw [e]) (by rw [e];exact z))
theorem take_sp (ss : List Sp) (k : Nat) (hk : k < ss.length) : ss.take (k + 1) = ss.take k ++ [spAt ss k]:=by
 rw [List.take_add_one]
 unfold spAt
 rw [List.getD_eq_getElem?_getD,List.getElem?_eq_getElem hk]
 rfl
theorem names_take (ss : List Sp) (k : Nat) (hk : k < ss.length) (kd a : Int) : names (ss.take (k + 1)) kd a = names (ss.take k) kd a ++ nameIn (spAt ss k) kd a:=by
 rw [take_sp ss k hk,names_append]
 congr 1
 rw [names_cons,names_nil,List.append_nil]
theorem sum_zero (nf ns : Nat) : SumA (fun _ _=>[]) nf ns (List.replicate nf us0,List.replicate ns us0):=by
 have h : ∀ n i,usAt (List.replicate n us0) i = us0:=fun n i=>by
  unfold usAt
  rw [List.getD_eq_getElem?_getD,List.getElem?_replicate]
  by_cases c : i < n
  · rw [if_pos c];rfl
  · rw [if_neg c];rfl
 refine ⟨⟨List.length_replicate,List.length_replicate⟩,fun i _=>?_,fun i _=>?_⟩
 · show Sum [] (usAt (List.replicate nf us0) i);rw [h];exact ⟨rfl,by simp⟩
 · show Sum [] (usAt (List.replicate ns us0) i);rw [h];exact ⟨rfl,by simp⟩
theorem sp_of {hs : List LM.Sh} (hr : LM.riseB hs = true) {nf ns : Nat} {s : Sp} (h1 : rightSp hs s = true) (h2 : (∀ e ∈ s.ents,entOk nf ns s.areas e) /\ Rise s.ents) : SpR hs nf ns s:=by
 unfold rightSp at h1
 by_cases c : s.live = true
 · rw [if_pos c,Bool.and_eq_true,decide_eq_true_eq] at h1
   exact ⟨fun d=>(by rw [c] at d;cases d),h1.1,h2.2,h2.1,(have_iff hr h1.1).1 h1.2⟩
 · rw [if_neg c,Bool.and_eq_true,decide_eq_true_eq,decide_eq_true_eq] at h1
   have ha:=List.eq_nil_of_length_eq_zero h1.1
   refine ⟨fun _=>⟨ha,List.eq_nil_of_length_eq_zero h1.2⟩,by rw [ha];rfl,h2.2,h2.1,fun p hp=>?_⟩
   rw [ha] at hp
   cases hp
theorem of_sp {hs : List LM.Sh} (hr : LM.riseB hs = true) {nf ns : Nat} {s : Sp} (h : SpR hs nf ns s) : rightSp hs s = true:=by
 unfold rightSp
 by_cases c : s.live = true
 · rw [if_pos c,h.areas,(have_iff hr h.areas).2 h.sheets];rfl
 · rw [if_neg c,(h.dead (by simpa using c)).1,(h.dead (by simpa using c)).2];rfl
theorem sps_all {hs : List LM.Sh} (hr : LM.riseB hs = true) {nf ns : Nat} {u : List Us × List Us} (h : SumA (fun _ _=>[]) nf ns u) (ss : List Sp) : ∀ k,k <= ss.length -> spsB hs ss u k = true -> SumA (fun kd i=>names (ss.take k) kd i) nf ns (spsU ss u k) /\ ∀ i,i < k -> SpR hs nf ns (spAt ss i)
 | 0,_,_=>⟨by
  have e : (fun kd i=>names (ss.take 0) kd i) = fun _ _=>[]:=by funext kd i;rfl
  rw [e]
  exact h,fun i hi=>by omega⟩
 | k + 1,hk,hb=>by
  unfold spsB at hb
  rw [Bool.and_eq_true,Bool.and_eq_true] at hb
  obtain ⟨a1,a2⟩:=sps_all hr h ss k (by omega) hb.1
  obtain ⟨b1,b2⟩:=ents_all a1 (spAt ss k).areas (spAt ss k).ents _ (Nat.le_refl _) hb.2.2
  refine ⟨?_,fun i hi=>?_⟩
  · have e : (fun kd i=>names (ss.take (k + 1)) kd i) = fun kd i=>names (ss.take k) kd i ++ nm (spAt ss k).areas kd i ((spAt ss k).ents.take (spAt ss k).ents.length):=by
     funext kd i
     rw [names_take ss k (by omega),List.take_length]
     rfl
    rw [e];exact b1
  · by_cases c : i = k
    · subst c;exact sp_of hr hb.2.1 (rise_iff.1 b2)
    · exact a2 i (by omega)
theorem names_sub {ss : List Sp} {k : Nat} {kd a : Int} {x : Int × Bool} (h : x ∈ names (ss.take k) kd a) : x ∈ names ss kd a:=by
 obtain ⟨s,hs,r⟩:=mem_names.1 h
 exact mem_names.2 ⟨s,List.mem_of_mem_take hs,r⟩
theorem sps_back {hs : List LM.Sh} (hr : LM.riseB hs = true) {nf ns : Nat} {u : List Us × List Us} (h : SumA (fun _ _=>[]) nf ns u) (ss : List Sp) (hsp : ∀ i,i < ss.length -> SpR hs nf ns (spAt ss i)) (ho : ∀ kd i,∀ x ∈ names ss kd i,∀ y ∈ names ss kd i,x = y) : ∀ k,k <= ss.length -> spsB hs ss u k = true
 | 0,_=>rfl
 | k + 1,hk=>by
  have ih:=sps_back hr h ss hsp ho k (by omega)
  unfold spsB
  obtain ⟨a1,_⟩:=sps_all hr h ss k (by omega) ih
  have g:=hsp k (by omega)
  rw [ih,of_sp hr g,Bool.true_and,Bool.true_and]
  refine ents_back a1 _ _ (rise_iff.2 ⟨g.ent,g.rise⟩) (fun kd i x hx y hy=>?_) _ (Nat.le_refl _)
  have key : ∀ z,z ∈ names (ss.take k) kd i ++ nm (spAt ss k).areas kd i (spAt ss k).ents -> z ∈ names ss kd i:=fun z hz=>by
   refine names_sub (k:=k + 1) ?_
   rw [names_take ss k (by omega)]
   exact hz
  exact ho kd i x (key x hx) y (key y hy)
theorem isZ_iff (f : Fr) : isZ f = true ↔ f = fr0:=by
 unfold isZ
 rw [decide_eq_true_eq]
 constructor
 · rintro ⟨h1,h2,h3,h4⟩
   obtain ⟨⟨⟨d⟩⟩,r,a,b⟩:=f
   simp only at h2 h3 h4
   subst h2 h3 h4
   have : d = []:=List.eq_nil_of_length_eq_zero h1
   subst this
   rfl
 · rintro rfl;exact ⟨rfl,rfl,rfl,rfl⟩
theorem isZS_iff (f : Sl) : isZS f = true ↔ f = sl0:=by
 unfold isZS
 rw [decide_eq_true_eq]
 constructor
 · rintro ⟨h1,h2⟩
   obtain ⟨⟨⟨d⟩⟩,r⟩:=f
   simp only at h2
   subst h2
   have : d = []:=List.eq_nil_of_length_eq_zero h1
   subst this
   rfl
 · rintro rfl;exact ⟨rfl,rfl⟩
theorem sum_one {L : List (Int × Bool)} {u : Us} (h : Sum L u) : ∀ x ∈ L,∀ y ∈ L,x = y:=fun x hx y hy=>(h.2 x hx).trans (h.2 y hy).symm
theorem sum_nil {L : List (Int × Bool)} {u : Us} (h : Sum L u) : u.refs = 0 ↔ L = []:=by
 rw [h.1]
 constructor
 · exact fun e=>List.eq_nil_of_length_eq_zero (by omega)
 · rintro rfl;rfl
theorem fr_iff {hs : List LM.Sh} {L : List (Int × Bool)} {u : Us} (h : Sum L u) (f : Fr) : rightFr hs f u = true ↔ FrR hs L f:=by
 unfold rightFr
 by_cases c : u.refs = 0
 · have hL:=(sum_nil h).1 c
   subst hL
   rw [if_pos c,isZ_iff]
   exact ⟨fun e=>by rw [e];exact FrR.none hs,fun e=>e.zero rfl⟩
 · have hL : L ≠ []:=fun e=>c ((sum_nil h).2 e)
   rw [if_neg c,Bool.and_eq_true,decide_eq_true_eq,Bool.or_eq_true,decide_eq_true_eq]
   constructor
   · rintro ⟨⟨h1,h2⟩,h3⟩
     refine ⟨h1.trans h.1,fun e=>absurd e hL,sum_one h,fun _=>h2,fun d x hx=>?_⟩
     rw [h.2 x hx]
     exact h3.resolve_left (by rw [d];simp)
   · intro g
     refine ⟨⟨g.refs.trans h.1.symm,g.size hL⟩,?_⟩
     cases d : f.dirty with
     | true=>exact .inl rfl
     | false =>
      obtain ⟨x,hx⟩:=List.exists_mem_of_ne_nil _ hL
      have:=g.fill d x hx
      rw [h.2 x hx] at this
      exact .inr this
theorem sl_iff {L : List (Int × Bool)} {u : Us} (h : Sum L u) (f : Sl) : rightSl f u = true ↔ SlR L f:=by
 unfold rightSl
 by_cases c : u.refs = 0
 · have hL:=(sum_nil h).1 c
   subst hL
   rw [if_pos c,isZS_iff]
   exact ⟨fun e=>by rw [e];exact SlR.none,fun e=>e.zero rfl⟩
 · have hL : L ≠ []:=fun e=>c ((sum_nil h).2 e)
   rw [if_neg c,decide_eq_true_eq]
   constructor
   · rintro ⟨h1,h2⟩
     exact ⟨h1.trans h.1,fun e=>absurd e hL,sum_one h,fun _=>h2⟩
   · intro g
     exact ⟨g.refs.trans h.1.symm,g.size hL⟩
theorem fine_iff (k : Kn) (hc : counts k = true) : fineP k = true ↔ RightK k:=by
 unfold fineP
 simp only [Bool.and_eq_true,decide_eq_true_eq,List.all_eq_true,List.mem_range]
 have hz:=sum_zero k.frames.length k.slots.length
 have hn : (fun kd i=>names (k.spaces.take k.spaces.length) kd i) = fun kd i=>names k.spaces kd i:=by funext kd i;rw [List.take_length]
 constructor
 · rintro ⟨h1,h2,h3,h4,h5,h6⟩
   obtain ⟨a1,a2⟩:=sps_all h1 hz k.spaces _ (Nat.le_refl _) h3
   rw [hn] at a1
   refine ⟨hc,h1,h2,fun s hs=>?_,h4,fun i hi=>(fr_iff (a1.2.1 i hi) _).1 (h5 i hi),fun i hi=>(sl_iff (a1.2.2 i hi) _).1 (h6 i hi)⟩
   obtain ⟨j,hj,rfl⟩:=mem_getD sp0 hs
   exact a2 j hj
 · intro h
   have ho : ∀ kd i,∀ x ∈ names k.spaces kd i,∀ y ∈ names k.spaces kd i,x = y:=fun kd i x hx y hy=>by
    obtain ⟨s,hs,e,he,g1,g2,_⟩:=mem_names.1 hx
    obtain ⟨j,hj,rfl⟩:=mem_getD sp0 hs
    rcases loc_bd h hj he with b | b
    · have:=(h.frm e.loc.toNat b.2.2).one x (by rw [b.2.1,g2,<- b.1,g1];exact hx) y (by rw [b.2.1,g2,<- b.1,g1];exact hy)
      exact this
    · exact (h.slt e.loc.toNat b.2.2).one x (by rw [b.2.1,g2,<- b.1,g1];exact hx) y (by rw [b.2.1,g2,<- b.1,g1];exact hy)
   have hb:=sps_back h.rise hz k.spaces (fun i hi=>h.sp hi) ho _ (Nat.le_refl _)
   obtain ⟨a1,_⟩:=sps_all h.rise hz k.spaces _ (Nat.le_refl _) hb
   rw [hn] at a1
   exact ⟨h.rise,h.hand,hb,h.room,fun i hi=>(fr_iff (a1.2.1 i hi) _).2 (h.frm i hi),fun i hi=>(sl_iff (a1.2.2 i hi) _).2 (h.slt i hi)⟩
theorem check_iff (k : Kn) : checkK k = 0 ↔ RightK k:=by
 unfold checkK
 by_cases c : counts k = true
 · rw [if_neg (by rw [c];simp),<- fine_iff k c]
   by_cases d : fineP k = true
   · rw [if_pos d];exact ⟨fun _=>d,fun _=>rfl⟩
   · rw [if_neg d];exact ⟨fun e=>by omega,fun e=>absurd e d⟩
 · rw [if_pos (by simpa using c)]
   exact ⟨fun e=>by omega,fun h=>absurd h.counts c⟩
def entR (nf ns : Nat) (ar : List AM.Ar) (es : List En) (i : Nat) : Bool:=((AM.findN ar (enAt es i).page).2 && (i == 0 || decide ((enAt es (i - 1)).page < (enAt es i).page))) && (if (enAt es i).kind = 1 then decide (0 <= (enAt es i).loc /\ (enAt es i).loc <= (nf : Int) - 1) else if (enAt es i).kind = 2 then decide (0 <= (enAt es i).loc /\ (enAt es i).loc <= (ns : Int) - 1) else false)
def entsR (nf ns : Nat) (ar : List AM.Ar) (es : List En) : Nat -> Bool
 | 0=>true
 | k + 1=>entsR nf ns ar es k && entR nf ns ar es k
def sheetR (hs : List LM.Sh) (ar : List AM.Ar) (p : Int) : Bool:=!((AM.findN ar p).2 && (!(AM.findN ar p).1.zero && !(sheetFor hs p).isSome))
def sheetsR (hs : List LM.Sh) (ar : List AM.Ar) : Nat -> Bool
 | 0=>true
 | k + 1=>sheetsR hs ar k && sheetR hs ar ((k : Int) + 1)
def spFineR (hs : List LM.Sh) (nf ns : Nat) (s : Sp) : Bool:=if s.live then decide (AM.checkN s.areas = 0) && (entsR nf ns s.areas s.ents s.ents.length && sheetsR hs s.areas 255) else decide (s.areas.length = 0) && decide (s.ents.length = 0)
structure Na where
 n : Int
 page : Int
 fine : Bool
 area : AM.Ar
def na0 : Na:=⟨0,0,true,AM.nil⟩
def naStep (a : Na) (p : Int) (r : AM.Ar) : Na:=⟨a.n + 1,p,a.fine && (decide (a.n = 0) || (decide (p = a.page) && r.zero == a.area.zero)),r⟩
def naEnt (ar : List AM.Ar) (kd i : Int) (a : Na) (e : En) : Na:=if e.kind = kd /\ e.loc = i then naStep a e.page (AM.findN ar e.page).1 else a
def naEnts (ar : List AM.Ar) (es : List En) (kd i : Int) (a : Na) : Nat -> Na
 | 0=>a
 | k + 1=>naEnt ar kd i (naEnts ar es kd i a k) (enAt es k)
def naSps (ss : List Sp) (kd i : Int) : Nat -> Na
 | 0=>na0
 | k + 1=>naEnts (spAt ss k).areas (spAt ss k).ents kd i (naSps ss kd i k) (spAt ss k).ents.length
def namersN (ss : List Sp) (kd i : Int) : Na:=naSps ss kd i ss.length
def frR (hs : List LM.Sh) (f : Fr) (a : Na) : Bool:=decide (f.refs = a.n) && (!(decide (a.n = 0) && !isZ f) && !(decide (0 < a.n) && (!a.fine || (decide (f.data.size ≠ 16) || (!f.dirty && decide (f.data ≠ fillK hs a.page a.area.zero))))))
def slR (f : Sl) (a : Na) : Bool:=decide (f.refs = a.n) && (!(decide (a.n = 0) && !isZS f) && !(decide (0 < a.n) && (!a.fine || decide (f.data.size ≠ 16))))
def spsR (k : Kn) : Nat -> Bool
 | 0=>true
 | n + 1=>spsR k n && spFineR k.sheets k.frames.length k.slots.length (spAt k.spaces n)
def frsR (k : Kn) : Nat -> Bool
 | 0=>true
 | n + 1=>frsR k n && frR k.sheets (frAt k.frames n) (namersN k.spaces 1 n)
def slsR (k : Kn) : Nat -> Bool
 | 0=>true
 | n + 1=>slsR k n && slR (slAt k.slots n) (namersN k.spaces 2 n)
def fineR (k : Kn) : Bool:=LM.riseB k.sheets && (decide (0 <= k.hand /\ k.hand <= (k.frames.length : Int) - 1) && (spsR k k.spaces.length && (decide (room k.spaces <= (k.slots.length : Int)) && (frsR k k.frames.length && slsR k k.slots.length))))
theorem to_all {f : Nat -> Bool} {g : Nat -> Bool} (h0 : g 0 = true) (hs : ∀ k,g (k + 1) = (g k && f k)) : ∀ n,g n = true ↔ ∀ i,i < n -> f i = true
 | 0=>⟨fun _ i hi=>by omega,fun _=>h0⟩
 | n + 1=>by
  rw [hs,Bool.and_eq_true,to_all h0 hs n]
  constructor
  · rintro ⟨h1,h2⟩ i hi
    by_cases c : i = n
    · rw [c];exact h2
    · exact h1 i (by omega)
  · exact fun h=>⟨fun i hi=>h i (by omega),h n (by omega)⟩
theorem entsR_iff {nf ns : Nat} {ar : List AM.Ar} {es : List En} : entsR nf ns ar es es.length = true ↔ (∀ e ∈ es,entOk nf ns ar e) /\ Rise es:=by
 rw [to_all (f:=entR nf ns ar es) rfl (fun _=>rfl),<- rise_iff]
 have key : ∀ i,i < es.length -> (entR nf ns ar es i = true ↔ entOk nf ns ar (enAt es i) /\ lastP es i < (enAt es i).page):=fun i hi=>by
  unfold entR entOk lastP
  rw [Bool.and_eq_true,Bool.and_eq_true,Bool.or_eq_true,beq_iff_eq,decide_eq_true_eq]
  constructor
  · rintro ⟨⟨h1,h2⟩,h3⟩
    refine ⟨⟨h1,?_⟩,?_⟩
    · by_cases c : (enAt es i).kind = 1
      · rw [if_pos c,decide_eq_true_eq] at h3
        exact .inl ⟨c,h3.1,by omega⟩
      · rw [if_neg c] at h3
        by_cases d : (enAt es i).kind = 2
        · rw [if_pos d,decide_eq_true_eq] at h3
          exact .inr ⟨d,h3.1,by omega⟩
        · rw [if_neg d] at h3;cases h3
    · by_cases c : i = 0
      · rw [if_pos c];have:=mapped_pos h1;omega
      · rw [if_neg c];exact h2.resolve_left c
  · rintro ⟨⟨h1,h2⟩,h3⟩
    refine ⟨⟨h1,?_⟩,?_⟩
    · by_cases c : i = 0
      · exact .inl c
      · rw [if_neg c] at h3;exact .inr h3
    · rcases h2 with g | g
      · rw [if_pos g.1,decide_eq_true_eq];omega
      · rw [if_neg (by omega),if_pos g.1,decide_eq_true_eq];omega
 exact ⟨fun h i hi=>(key i hi).1 (h i hi),fun h i hi=>(key i hi).2 (h i hi)⟩
theorem sheetsR_iff {hs : List LM.Sh} {ar : List AM.Ar} : sheetsR hs ar 255 = true ↔ ∀ p,(AM.findN ar p).2 = true -> (AM.findN ar p).1.zero = false -> (sheetFor hs p).isSome = true:=by
 rw [to_all (f:=fun k=>sheetR hs ar ((k : Int) + 1)) rfl (fun _=>rfl)]
 constructor
 · intro h p hp hz
   have hb:=mapped_pos hp
   have:=h (p - 1).toNat (by omega)
   rw [show ((p - 1).toNat : Int) + 1 = p by omega] at this
   unfold sheetR at this
   rw [hp,hz] at this
   simpa using this
 · intro h i hi
   unfold sheetR
   cases h1 : (AM.findN ar ((i : Int) + 1)).2 with
   | false=>rfl
   | true =>
    cases h2 : (AM.findN ar ((i : Int) + 1)).1.zero with
    | true=>rfl
    | false=>rw [h _ h1 h2];rfl
theorem spR_iff {hs : List LM.Sh} {nf ns : Nat} {s : Sp} : spFineR hs nf ns s = true ↔ SpR hs nf ns s:=by
 unfold spFineR
 by_cases c : s.live = true
 · rw [if_pos c,Bool.and_eq_true,Bool.and_eq_true,decide_eq_true_eq,entsR_iff,sheetsR_iff]
   exact ⟨fun h=>⟨fun d=>(by rw [c] at d;cases d),h.1,h.2.1.2,h.2.1.1,h.2.2⟩,fun h=>⟨h.areas,⟨h.ent,h.rise⟩,h.sheets⟩⟩
 · rw [if_neg c,Bool.and_eq_true,decide_eq_true_eq,decide_eq_true_eq]
   constructor
   · rintro ⟨h1,h2⟩
     have ha:=List.eq_nil_of_length_eq_zero h1
     have he:=List.eq_nil_of_length_eq_zero h2
     refine ⟨fun _=>⟨ha,he⟩,by rw [ha];rfl,by rw [he];exact List.Pairwise.nil,fun e g=>(by rw [he] at g;cases g),fun p hp=>?_⟩
     rw [ha] at hp
     cases hp
   · intro h
     have:=h.dead (by simpa using c)
     rw [this.1,this.2]
     exact ⟨rfl,rfl⟩
structure NaR (L : List (Int × Bool)) (a : Na) : Prop where
 n : a.n = L.length
 fine : a.fine = true ↔ ∀ x ∈ L,∀ y ∈ L,x = y
 last : L ≠ [] -> (a.page,a.area.zero) ∈ L
theorem na_step {L : List (Int × Bool)} {a : Na} (h : NaR L a) (p : Int) (r : AM.Ar) : NaR (L ++ [(p,r.zero)]) (naStep a p r):=by
 refine ⟨by show a.n + 1 = _;rw [h.n,List.length_append];rfl,?_,fun _=>List.mem_append.2 (.inr (by simp [naStep]))⟩
 show (a.fine && (decide (a.n = 0) || (decide (p = a.page) && r.zero == a.area.zero))) = true ↔ _
 rw [Bool.and_eq_true,h.fine,Bool.or_eq_true,Bool.and_eq_true,decide_eq_true_eq,decide_eq_true_eq,beq_iff_eq]
 constructor
 · rintro ⟨h1,h2⟩ x hx y hy
   have key : ∀ z ∈ L,z = (p,r.zero):=fun z hz=>by
    have hne : L ≠ []:=List.ne_nil_of_mem hz
    have h2:=h2.resolve_left (fun e=>hne (List.eq_nil_of_length_eq_zero (by have:=h.n;omega)))
    rw [h1 z hz _ (h.last hne),h2.1,h2.2]
   have all : ∀ z ∈ L ++ [(p,r.zero)],z = (p,r.zero):=fun z hz=>by
    rcases List.mem_append.1 hz with g | g
    · exact key z g
    · simpa using g
   rw [all x hx,all y hy]
 · intro g
   refine ⟨fun x hx y hy=>g x (List.mem_append.2 (.inl hx)) y (List.mem_append.2 (.inl hy)),?_⟩
   by_cases c : L = []
   · left;rw [h.n,c];rfl
   · right
     have:=g _ (List.mem_append.2 (.inl (h.last c))) (p,r.zero) (List.mem_append.2 (.inr (by simp)))
     injection this with e1 e2
     exact ⟨e1.symm,e2.symm⟩
theorem na_ents {L : List (Int × Bool)} {a : Na} (h : NaR L a) (ar : List AM.Ar) (es : List En) (kd i : Int) : ∀ k,k <= es.length -> NaR (L ++ nm ar kd i (es.take k)) (naEnts ar es kd i a k)
 | 0,_=>by rw [List.take_zero];show NaR (L ++ []) a;rw [List.append_nil];exact h
 | k + 1,hk=>by
  have ih:=na_ents h ar es kd i k (by omega)
  rw [take_succ es k (by omega),nm_append,<- List.append_assoc]
  show NaR _ (naEnt ar kd i (naEnts ar es kd i a k) (enAt es k))
  unfold naEnt
  by_cases c : (enAt es k).kind = kd /\ (enAt es k).loc = i
  · rw [if_pos c,nm_yes ar c];exact na_step ih _ _
  · rw [if_neg c,nm_no ar c,List.append_nil];exact ih
theorem na_sps (ss : List Sp) (kd i : Int) : ∀ k,k <= ss.length -> NaR (names (ss.take k) kd i) (naSps ss kd i k)
 | 0,_=>⟨rfl,⟨fun _ x hx=>(by cases hx),fun _=>rfl⟩,fun e=>absurd rfl e⟩
 | k + 1,hk=>by
  have:=na_ents (na_sps ss kd i k (by omega)) (spAt ss k).areas (spAt ss k).ents kd i _ (Nat.le_refl _)
  rw [List.take_length] at this
  rw [names_take ss k (by omega)]
  exact this
theorem na_all (ss : List Sp) (kd i : Int) : NaR (names ss kd i) (namersN ss kd i):=by
 have:=na_sps ss kd i ss.length (Nat.le_refl _)
 rw [List.take_length] at this
 exact this
theorem frR_iff {hs : List LM.Sh} {L : List (Int × Bool)} {a : Na} (h : NaR L a) (f : Fr) : frR hs f a = true ↔ FrR hs L f:=by
 unfold frR
 rw [Bool.and_eq_true,Bool.and_eq_true,decide_eq_true_eq]
 by_cases c : L = []
 · subst c
   have hn : a.n = 0:=h.n
   rw [hn]
   simp only [decide_true,Bool.true_and,Bool.not_not,Int.lt_irrefl,decide_false,Bool.false_and,Bool.not_false,and_true,isZ_iff]
   exact ⟨fun e=>by rw [e.2];exact FrR.none hs,fun e=>⟨by rw [e.zero rfl];rfl,e.zero rfl⟩⟩
 · have hp : 0 < L.length:=List.length_pos_iff.2 c
   have hn : 0 < a.n:=by rw [h.n];omega
   rw [decide_eq_false (show ¬ a.n = 0 by omega),decide_eq_true hn]
   simp only [Bool.false_and,Bool.not_false,Bool.true_and,true_and,Bool.not_eq_true',Bool.or_eq_false_iff,Bool.not_eq_false',Bool.and_eq_false_iff,decide_eq_false_iff_not,Decidable.not_not]
   constructor
   · rintro ⟨h1,h2,h3,h4⟩
     refine ⟨h1.trans h.n,fun e=>absurd e c,h.fine.1 h2,fun _=>h3,fun d x hx=>?_⟩
     rw [h.fine.1 h2 x hx _ (h.last c)]
     exact h4.resolve_left (by rw [d];simp)
   · intro g
     refine ⟨g.refs.trans h.n.symm,h.fine.2 g.one,g.size c,?_⟩
     cases d : f.dirty with
     | true=>exact .inl rfl
     | false=>exact .inr (g.fill d _ (h.last c))
theorem slR_iff {L : List (Int × Bool)} {a : Na} (h : NaR L a) (f : Sl) : slR f a = true ↔ SlR L f:=by
 unfold slR
 rw [Bool.and_eq_true,Bool.and_eq_true,decide_eq_true_eq]
 by_cases c : L = []
 · subst c
   have hn : a.n = 0:=h.n
   rw [hn]
   simp only [decide_true,Bool.true_and,Bool.not_not,Int.lt_irrefl,decide_false,Bool.false_and,Bool.not_false,and_true,isZS_iff]
   exact ⟨fun e=>by rw [e.2];exact SlR.none,fun e=>⟨by rw [e.zero rfl];rfl,e.zero rfl⟩⟩
 · have hp : 0 < L.length:=List.length_pos_iff.2 c
   have hn : 0 < a.n:=by rw [h.n];omega
   rw [decide_eq_false (show ¬ a.n = 0 by omega),decide_eq_true hn]
   simp only [Bool.false_and,Bool.not_false,Bool.true_and,true_and,Bool.not_eq_true',Bool.or_eq_false_iff,Bool.not_eq_false',decide_eq_false_iff_not,Decidable.not_not]
   constructor
   · rintro ⟨h1,h2,h3⟩
     exact ⟨h1.trans h.n,fun e=>absurd e c,h.fine.1 h2,fun _=>h3⟩
   · intro g
     exact ⟨g.refs.trans h.n.symm,h.fine.2 g.one,g.size c⟩
theorem fineR_iff (k : Kn) (hc : counts k = true) : fineR k = true ↔ RightK k:=by
 unfold fineR
 simp only [Bool.and_eq_true,decide_eq_true_eq]
 rw [to_all (g:=spsR k) (f:=fun n=>spFineR k.sheets k.frames.length k.slots.length (spAt k.spaces n)) rfl (fun _=>rfl),to_all (g:=frsR k) (f:=fun n=>frR k.sheets (frAt k.frames n) (namersN k.spaces 1 n)) rfl (fun _=>rfl),to_all (g:=slsR k) (f:=fun n=>slR (slAt k.slots n) (namersN k.spaces 2 n)) rfl (fun _=>rfl)]
 constructor
 · rintro ⟨h1,h2,h3,h4,h5,h6⟩
   refine ⟨hc,h1,by omega,fun s hs=>?_,h4,fun i hi=>(frR_iff (na_all _ _ _) _).1 (h5 i hi),fun i hi=>(slR_iff (na_all _ _ _) _).1 (h6 i hi)⟩
   obtain ⟨j,hj,rfl⟩:=mem_getD sp0 hs
   exact spR_iff.1 (h3 j hj)
 · intro h
   have hh:=h.hand
   exact ⟨h.rise,by omega,fun i hi=>spR_iff.2 (h.sp hi),h.room,fun i hi=>(frR_iff (na_all _ _ _) _).2 (h.frm i hi),fun i hi=>(slR_iff (na_all _ _ _) _).2 (h.slt i hi)⟩
def checkR (k : Kn) : Int:=if counts k = false then 2 else if fineR k then 0 else 1
theorem check_same (k : Kn) : checkR k = checkK k:=by
 unfold checkR checkK
 by_cases c : counts k = true
 · have : fineR k = fineP k:=by
    have h1:=fineR_iff k c;have h2:=fine_iff k c
    cases a : fineR k <;> cases b : fineP k
    · rfl
    · exact absurd (h1.2 (h2.1 b)) (by rw [a];simp)
    · exact absurd (h2.2 (h1.1 a)) (by rw [b];simp)
    · rfl
   rw [this]
 · rw [if_pos (by simpa using c),if_pos (by simpa using c)]
end KM
namespace W
open Go.RowKit
theorem hideC {p : Prop} (h : p) : Hid p:=h
theorem ret_bool {a b : Bool} (h : a = b) : Ending.returned (.bool a) = .returned (.bool b):=by rw [h]
set_option maxHeartbeats 1000000 in
theorem inName_any (n : Int) (w : World) : Calls Tryz.prog 209 #[.int .u8 n] w fun e w'=>e = .returned (.bool (M.signB n)) /\ w = w':=by
 by_cases h1 : 97 <= n /\ n <= 122
 · have e : M.signB n = true:=by unfold M.signB;rw [decide_eq_true h1];rfl
   rw [e]
   obtain ⟨a,b⟩:=h1
   go_enter Tryz.func209,Tryz.ntmps209
   go_wp2
   go_ret
   exact ⟨rfl,rfl⟩
 · by_cases h2 : 48 <= n /\ n <= 57
   · have e : M.signB n = true:=by unfold M.signB;rw [decide_eq_true h2];simp
     rw [e]
     obtain ⟨a,b⟩:=h2
     have c : decide (97 <= n) = false:=by simp;omega
     clear h1
     go_enter Tryz.func209,Tryz.ntmps209
     go_wp2
     go_ret
     exact ⟨rfl,rfl⟩
   · by_cases h3 : n = 95
     · subst h3
       go_enter Tryz.func209,Tryz.ntmps209
       go_wp2
       go_ret
       exact ⟨rfl,rfl⟩
     · have e : M.signB n = false:=by unfold M.signB;rw [decide_eq_false h1,decide_eq_false h2,decide_eq_false h3];rfl
       rw [e]
       have h3' : (n == 95) = false:=by simpa using h3
       by_cases a : 97 <= n
       · have b : decide (n <= 122) = false:=by simp;omega
         have c : 48 <= n:=by omega
         have d : decide (n <= 57) = false:=by simp;omega
         clear h1 h2
         go_enter Tryz.func209,Tryz.ntmps209
         go_wp2
         go_ret
         exact ⟨rfl,rfl⟩
       · have a' : decide (97 <= n) = false:=by simpa using a
         by_cases c : 48 <= n
         · have d : decide (n <= 57) = false:=by simp;omega
           clear h1 h2
           go_enter Tryz.func209,Tryz.ntmps209
           go_wp2
           go_ret
           exact ⟨rfl,rfl⟩
         · have c' : decide (48 <= n) = false:=by simpa using c
           clear h1 h2
           go_enter Tryz.func209,Tryz.ntmps209
           go_wp2
           go_ret
           exact ⟨rfl,rfl⟩
set_option maxHeartbeats 1000000 in
theorem isName_any (s : ByteArray) (w : World) (hs : M.Short s.size) : Calls Tryz.prog 198 #[.string s] w fun e w'=>e = .returned (.bool (M.nameB s)) /\ w = w':=by
 unfold M.Short at hs
 have hml : s.size <= maxLen:=by unfold maxLen;omega
 by_cases h1 : 1 <= s.size
 · by_cases h2 : s.size <= 12
   · have d1 : ¬ (s.size : Int) < 1:=by omega
     have d2 : ¬ 12 < (s.size : Int):=by omega
     go_enter Tryz.func198,Tryz.ntmps198
     go_wp2
     go_loop [14] (fun i=>∃ k : Nat,k <= s.size /\ i = .int .i64 k /\ ∀ j (hj : j < s.size),j < k -> M.signB s[j].toNat = true) (fun i=>s.size - (intOf i).toNat)
     case atStart=>exact ⟨0,by omega,rfl,fun j _ h=>by omega⟩
     case round =>
      obtain ⟨k,hk,rfl,hall⟩:=hrel
      have HA:=hideC hall
      clear hall
      by_cases hlt : k < s.size
      · cases hc : M.signB s[k].toNat
        · have HR:=hideC (M.name_no s k hlt hc)
          go_wp2_with (go_at_call 209;refine (inName_any _ _).mono ?_;rintro e w' ⟨rfl,rfl⟩;rw [hc])
          go_ret
          exact ⟨ret_bool HR.out.symm,rfl⟩
        · have HC:=hideC hc
          go_wp2_with (go_at_call 209;refine (inName_any _ _).mono ?_;rintro e w' ⟨rfl,rfl⟩;rw [hc])
          go_round
          case rel=>exact ⟨k + 1,by omega,by go_num,fun j hj h=>if e : j = k then by subst e;exact HC.out else HA.out j hj (by omega)⟩
          case measure=>simp [intOf];omega
      · obtain rfl : k = s.size:=by omega
        have HR:=hideC (M.name_yes s h1 h2 (fun k hk=>HA.out k hk hk))
        go_wp2
        go_ret
        exact ⟨ret_bool HR.out.symm,rfl⟩
   · have HR:=hideC (M.name_len s (fun h=>h2 h.2))
     have d1 : ¬ (s.size : Int) < 1:=by omega
     have d2 : 12 < (s.size : Int):=by omega
     go_enter Tryz.func198,Tryz.ntmps198
     go_wp2
     go_ret
     exact ⟨ret_bool HR.out.symm,rfl⟩
 · have HR:=hideC (M.name_len s (fun h=>h1 h.1))
   have d1 : (s.size : Int) < 1:=by omega
   go_enter Tryz.func198,Tryz.ntmps198
   go_wp2
   go_ret
   exact ⟨ret_bool HR.out.symm,rfl⟩
end W
namespace LW
open Go.RowKit
open W (hideC)
theorem below_drew (w : World) : Below w.heap.size w w.drew:=⟨rfl,rfl,rfl,Nat.le_refl _,fun _ _=>rfl⟩
theorem ret_bool {a b : Bool} (h : a = b) : Ending.returned (.bool a) = .returned (.bool b):=by rw [h]
set_option maxHeartbeats 2000000 in
theorem rightSheet_any (s : LM.Sh) (w : World) (h : LM.HasF w s.ao s.fixes) (hf : LM.FitH s) :
  Calls Tryz.prog 146 #[.agg (LM.cellsH s)] w fun e w'=>e = .returned (.bool (LM.sheetB s)) /\ Below w.heap.size w w':=by
 obtain ⟨f1,f2,f3,f4⟩:=hf
 obtain ⟨pg,dt,fs,ao,cap⟩:=s
 simp only at f1 f2 f3 f4
 unfold M.I64 at f1
 unfold M.Short at f2 f3
 simp only [LM.cellsH]
 have hdl : dt.size <= maxLen:=by unfold maxLen;omega
 have F4:=hideC f4
 have HH:=hideC h
 clear f4 h
 have HB:=hideC ((Below.refl w.heap.size w).alloc (Nat.le_refl _) (.cells #[.int .i64 pg,.string dt,.slice ao fs.length cap] 50))
 by_cases h1 : pg < 1
 · have e : LM.sheetB ⟨pg,dt,fs,ao,cap⟩ = false:=by
    unfold LM.sheetB LM.headB
    rw [decide_eq_false (by simp only;omega),Bool.false_and]
   rw [e]
   go_enter Tryz.func146,Tryz.ntmps146
   go_wp2
   go_ret
   exact ⟨rfl,HB.out⟩
 by_cases h2 : 255 < pg
 · have e : LM.sheetB ⟨pg,dt,fs,ao,cap⟩ = false:=by
    unfold LM.sheetB LM.headB
    rw [decide_eq_false (by simp only;omega),Bool.false_and]
   rw [e]
   go_enter Tryz.func146,Tryz.ntmps146
   go_wp2
   go_ret
   exact ⟨rfl,HB.out⟩
 by_cases h3 : dt.size = 16
 · have h3' : (dt.size : Int) = 16:=by omega
   have e : LM.headB ⟨pg,dt,fs,ao,cap⟩ = true:=by
    unfold LM.headB
    exact decide_eq_true ⟨by simp only;omega,by simp only;omega,h3⟩
   have E : Hid (LM.sheetB ⟨pg,dt,fs,ao,cap⟩ = LM.fixesTo fs fs.length):=by
    show _ = _
    unfold LM.sheetB
    rw [e,Bool.true_and]
   clear e h3
   go_enter Tryz.func146,Tryz.ntmps146
   go_wp2
   go_loopw [23,3] (fun i en wr=>∃ k : Nat,k <= fs.length /\ i = .int .i64 k /\ en = .int .i64 (LM.endTo fs k) /\ LM.fixesTo fs k = true /\ Below w.heap.size w wr) (fun i _ _=>fs.length - (intOf i).toNat)
   case atStart=>exact ⟨0,by omega,rfl,rfl,rfl,HB.out⟩
   case round =>
    obtain ⟨k,hk,rfl,rfl,hg,hb⟩:=hrel
    have HG:=hideC hg
    have HBr:=hideC hb
    clear hg
    by_cases hlt : k < fs.length
    · obtain ⟨b,off,hao,hbl,hlie⟩:=(HH.out.below hb) (by omega)
      subst hao
      obtain ⟨c0,c1⟩:=hlie k hlt
      obtain ⟨g1,g2⟩:=F4.out k hlt
      have hed:=LM.endTo_ge fs k HG.out
      obtain ⟨f,hfe⟩ : ∃ f,f = LM.fxAt fs k:=⟨_,rfl⟩
      rw [<- hfe] at c0 c1 g1 g2
      unfold M.I64 at g1
      unfold M.Short at g2
      have hfl : f.bytes.size <= maxLen:=by unfold maxLen;omega
      have HFE:=hideC hfe
      clear hfe hlie hb
      obtain ⟨en,hen⟩ : ∃ en,en = LM.endTo fs k:=⟨_,rfl⟩
      rw [<- hen] at hed
      have HEN:=hideC hen
      rw [<- hen]
      clear hen
      have HBA:=hideC (HBr.out.alloc HBr.out.size (.cells #[.int .i64 f.off,.string f.bytes] 52))
      by_cases q1 : f.off < en
      · have HX : Hid (LM.fixesTo fs fs.length = false):=LM.fixes_bad fs k hlt (by rw [<- HFE.out,<- HEN.out];exact LM.fixB_no (by omega))
        go_wp2
        go_ret
        exact ⟨ret_bool (by rw [E.out,HX.out]),HBA.out⟩
      by_cases q2 : 16 < f.off
      · have HX : Hid (LM.fixesTo fs fs.length = false):=LM.fixes_bad fs k hlt (by rw [<- HFE.out,<- HEN.out];exact LM.fixB_no (by omega))
        go_wp2
        go_ret
        exact ⟨ret_bool (by rw [E.out,HX.out]),HBA.out⟩
      by_cases q3 : (f.bytes.size : Int) < 1
      · have HX : Hid (LM.fixesTo fs fs.length = false):=LM.fixes_bad fs k hlt (by rw [<- HFE.out,<- HEN.out];exact LM.fixB_no (by omega))
        go_wp2
        go_ret
        exact ⟨ret_bool (by rw [E.out,HX.out]),HBA.out⟩
      by_cases q4 : 16 - f.off < (f.bytes.size : Int)
      · have HX : Hid (LM.fixesTo fs fs.length = false):=LM.fixes_bad fs k hlt (by rw [<- HFE.out,<- HEN.out];exact LM.fixB_no (by omega))
        go_wp2
        go_ret
        exact ⟨ret_bool (by rw [E.out,HX.out]),HBA.out⟩
      · have HX : Hid (LM.fixesTo fs (k + 1) = true):=by
         show _ = _
         simp only [LM.fixesTo,Bool.and_eq_true]
         exact ⟨HG.out,by rw [<- HFE.out,<- HEN.out];exact (LM.fixB_iff _ _).2 (by omega)⟩
        have HY : Hid (LM.endTo fs (k + 1) = f.off + (f.bytes.size : Int)):=by show _ = _;simp only [LM.endTo];rw [<- HFE.out]
        go_wp2
        go_roundw
        case rel=>exact ⟨k + 1,by omega,by go_num,by rw [HY.out],HX.out,HBA.out⟩
        case measure=>simp [intOf];omega
    · obtain rfl : k = fs.length:=by omega
      go_wp2
      go_ret
      exact ⟨ret_bool (by rw [E.out,HG.out]),HBr.out⟩
 · have e : LM.sheetB ⟨pg,dt,fs,ao,cap⟩ = false:=by
    unfold LM.sheetB LM.headB
    rw [decide_eq_false (fun h=>h3 h.2.2),Bool.false_and]
   have h3' : ((dt.size : Int) == 16) = false:=by simp;omega
   rw [e]
   go_enter Tryz.func146,Tryz.ntmps146
   go_wp2
   go_ret
   exact ⟨rfl,HB.out⟩
end LW
namespace CW
open Go.RowKit
set_option maxHeartbeats 400000 in
theorem bytes_any (n : Int) (size : Nat) (w : World) (h2 : size <= 8) :
  Calls Tryz.prog 138 #[.int .i64 n,.int .i64 size] w fun e w'=>e = .returned (.string ⟨(Lib.leBytes size (CM.low n)).toArray⟩) /\ Below w.heap.size w w':=by
 go_enter Tryz.func138,Tryz.ntmps138
 go_wp2
 go_loopw [0,5,6] (fun t s i wr=>∃ k : Nat,k <= size /\ i = .int .i64 k /\ t = .int .i64 (CM.shr n k) /\ s = .string ⟨(Lib.leBytes k (CM.low n)).toArray⟩ /\ Below w.heap.size w wr) (fun _ _ i _=>size - (intOf i).toNat)
 case atStart=>exact ⟨0,by omega,rfl,by rw [CM.shr_zero],rfl,Below.refl _ _⟩
 case round =>
  obtain ⟨k,hk,rfl,rfl,rfl,hb⟩:=hrel
  by_cases hlt : k < size
  · have hcv : (convert 137 9 (.slice (some ⟨wr.heap.size,0,none⟩) 1 1)).run Tryz.prog (wr.alloc (.cells #[.int .u8 (CM.shr n k % 256)] 5)) = .ok (.string ⟨#[(CM.low n / 256 ^ k % 256).toUInt8]⟩) (wr.alloc (.cells #[.int .u8 (CM.shr n k % 256)] 5)):=by
     rw [<- CM.strOfNums_byte n k (by omega)]
     refine run_convert_bytes_arg _ 137 5 Tryz.underlying137 Tryz.underlying5 _ 0 1 1 [CM.shr n k % 256] rfl ?_ 9 Tryz.underlying9
     intro i hi
     obtain rfl : i = 0:=by omega
     simp
    have hl : (Lib.leBytes k (CM.low n)).length = k:=Lib.leBytes_length _ _
    have HN : Hid (Lib.leBytes (k + 1) (CM.low n) = Lib.leBytes k (CM.low n) ++ [(CM.low n / 256 ^ k % 256).toUInt8]):=CM.leBytes_snoc _ _
    go_wp2
    go_roundw
    case rel=>exact ⟨k + 1,by omega,by go_num,by rw [<- CM.shr_succ],by rw [HN.out];exact congrArg Value.string (CM.mk_append _ [_]),hb.alloc (by have:=hb.size;omega) _⟩
    case measure=>simp [intOf];omega
  · obtain rfl : k = size:=by omega
    go_wp2
    go_ret
    exact ⟨rfl,hb⟩
theorem info5 : (Tryz.prog.info? 5).map (fun i=>(i.zero,i.size,i.bytes)) = some (some (.int .u8 0),1,1):=by kernel_rfl
end CW
end Go.Proofs.YtpgifpeohlllfaaGreat
