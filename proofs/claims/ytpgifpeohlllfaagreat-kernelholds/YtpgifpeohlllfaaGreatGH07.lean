import Derived.Test.YtpgifpeohlllfaaGreatGH06
import Derived.Test.YtpgifpeohlllfaaGreatProg
import Derived.Test.YtpgifpeohlllfaaGreatGH02
import Derived.Test.YtpgifpeohlllfaaGreatGH00
import Derived.WalkLawsBesides
import Derived.WalkSpells
import Derived.Test.YtpgifpeohlllfaaGreatGH03
import Derived.Laws.BytesArg
import Derived.Laws.OwnMore
import Derived.Lib.Walk
import Derived.Lib.BufferWrite
import Derived.Lib.Hide
import Derived.Laws.MakeOwn
import Derived.Laws.IdiomStrings
import Derived.Deep.QuietTactic
import Derived.BigQuiet
import Derived.Laws.CopyOwn
set_option maxHeartbeats 20000000
set_option linter.unusedVariables false
set_option maxRecDepth 100000
set_option linter.unusedSimpArgs false
namespace Go.Proofs.YtpgifpeohlllfaaGreat
namespace KM
open Go.RowKit
theorem enAt_page (es : List En) (k : Nat) : (es.map (·.page)).getD k 0 = (enAt es k).page:=by
 unfold enAt
 rw [List.getD_eq_getElem?_getD,List.getD_eq_getElem?_getD,List.getElem?_map]
 cases es[k]? <;> rfl
theorem mapped_pos {ar : List AM.Ar} {p : Int} (h : (AM.findN ar p).2 = true) : 1 <= p /\ p < 256:=by
 have:=FM.found_page (FM.found_check h) h
 exact ⟨this.1,this.2.1⟩
theorem rise_iff {nf ns : Nat} {ar : List AM.Ar} {es : List En} : (∀ i,i < es.length -> entOk nf ns ar (enAt es i) /\ lastP es i < (enAt es i).page) ↔ (∀ e ∈ es,entOk nf ns ar e) /\ Rise es:=by
 constructor
 · intro h
   refine ⟨fun e he=>?_,FM.rising_pairwise _ fun k h1 h2=>?_⟩
   · obtain ⟨i,hi,rfl⟩:=mem_getD en0 he
     exact (h i hi).1
   · rw [List.length_map] at h2
     rw [enAt_page,enAt_page]
     have:=(h k h2).2
     unfold lastP at this
     rw [if_neg (by omega)] at this
     exact this
 · rintro ⟨h1,h2⟩ i hi
   have he:=h1 (enAt es i) (getD_mem hi)
   refine ⟨he,?_⟩
   unfold lastP
   by_cases c : i = 0
   · rw [if_pos c];have:=mapped_pos he.1;omega
   · rw [if_neg c,<- enAt_page,<- enAt_page]
     exact FM.pairwise_rising h2 i (by omega) (by rw [List.length_map];exact hi)
theorem filled_some {hs : List LM.Sh} (hr : LM.riseB hs = true) (p : Int) : (filled hs p).size ≠ 0 ↔ (sheetFor hs p).isSome = true:=by
 constructor
 · intro h
   unfold filled at h
   cases g : sheetFor hs p with
   | some s=>rfl
   | none=>rw [g] at h;exact absurd rfl h
 · intro h
   rw [filled_size hs hr p h];decide
theorem find_in {ar : List AM.Ar} (hc : AM.checkN ar = 0) (p : Int) : (AM.findN ar p).2 = true ↔ ∃ a ∈ ar,a.page <= p /\ p < a.page + a.pages /\ AM.findN ar p = (a,true):=by
 constructor
 · intro h
   have hf : AM.findN ar p = AM.findFrom ar p:=by unfold AM.findN;rw [if_pos hc]
   rw [hf] at h
   obtain ⟨k,hk,h1,h2⟩:=FM.from_mem ar p h
   refine ⟨AM.at_ ar k,getD_mem hk,((AM.hit_iff _ _).1 h1).1,((AM.hit_iff _ _).1 h1).2,?_⟩
   rw [hf,<- h2,<- h]
 · rintro ⟨a,_,_,_,e⟩
   rw [e]
theorem in_find {ar : List AM.Ar} (hc : AM.checkN ar = 0) {a : AM.Ar} (ha : a ∈ ar) {p : Int} (h1 : a.page <= p) (h2 : p < a.page + a.pages) : AM.findN ar p = (a,true):=by
 obtain ⟨k,hk,e⟩:=mem_getD AM.nil ha
 have e : AM.at_ ar k = a:=e
 have hit : AM.hit (AM.at_ ar k) p = true:=by rw [e];exact (AM.hit_iff _ _).2 ⟨h1,h2⟩
 have hf : AM.findN ar p = AM.findFrom ar p:=by unfold AM.findN;rw [if_pos hc]
 obtain ⟨j,hj,g⟩:=LM.find_hit ar p k hk hit
 have : (AM.findFrom ar p).2 = true:=by rw [g]
 obtain ⟨i,hi,i1,i2⟩:=FM.from_mem ar p this
 have:=LM.hit_one ar hc p i k hi hk i1 hit
 subst this
 rw [hf]
 have e2 : (AM.findFrom ar p).1 = a:=by rw [i2,e]
 rw [<- e2,<- this]
theorem have_iff {hs : List LM.Sh} (hr : LM.riseB hs = true) {ar : List AM.Ar} (hc : AM.checkN ar = 0) : haveB hs ar = true ↔ ∀ p,(AM.findN ar p).2 = true -> (AM.findN ar p).1.zero = false -> (sheetFor hs p).isSome = true:=by
 unfold haveB
 rw [List.all_eq_true]
 constructor
 · intro h p hp hz
   obtain ⟨a,ha,h1,h2,e⟩:=(find_in hc p).1 hp
   rw [e] at hz
   have hz : a.zero = false:=hz
   have:=h a ha
   rw [List.all_eq_true] at this
   have:=this (p - a.page).toNat (List.mem_range.2 (by omega))
   rw [hz,Bool.false_or,decide_eq_true_eq,show a.page + ((p - a.page).toNat : Int) = p by omega] at this
   exact (filled_some hr p).1 this
 · intro h a ha
   rw [List.all_eq_true]
   intro n hn
   have hn:=List.mem_range.1 hn
   have e:=in_find hc ha (p:=a.page + (n : Int)) (by omega) (by omega)
   cases z : a.zero with
   | true=>rfl
   | false =>
    rw [Bool.false_or,decide_eq_true_eq]
    exact (filled_some hr _).2 (h _ (by rw [e]) (by rw [e];exact z))
theorem take_sp (ss : List Sp) (k : Nat) (hk : k < ss.length) : ss.take (k + 1) = ss.take k ++ [spAt ss k]:=by
 rw [List.take_add_one]
 unfold spAt
 rw [List.getD_eq_getElem?_getD,List.getElem?_eq_getElem hk]
 rfl
theorem names_take (ss : List Sp) (k : Nat) (hk : k < ss.length) (kd a : Int) : names (ss.take (k + 1)) kd a = names (ss.take k) kd a ++ nameIn (spAt ss k) kd a:=by
 rw [take_sp ss k hk,names_append]
 congr 1
 rw [names_cons,names_nil,List.append_nil]
theorem sum_zero (nf ns : Nat) : SumA (fun _ _=>[]) nf ns (List.replicate nf us0,List.replicate ns us0):=by
 have h : ∀ n i,usAt (List.replicate n us0) i = us0:=fun n i=>by
  unfold usAt
  rw [List.getD_eq_getElem?_getD,List.getElem?_replicate]
  by_cases c : i < n
  · rw [if_pos c];rfl
  · rw [if_neg c];rfl
 refine ⟨⟨List.length_replicate,List.length_replicate⟩,fun i _=>?_,fun i _=>?_⟩
 · show Sum [] (usAt (List.replicate nf us0) i);rw [h];exact ⟨rfl,by simp⟩
 · show Sum [] (usAt (List.replicate ns us0) i);rw [h];exact ⟨rfl,by simp⟩
theorem sp_of {hs : List LM.Sh} (hr : LM.riseB hs = true) {nf ns : Nat} {s : Sp} (h1 : rightSp hs s = true) (h2 : (∀ e ∈ s.ents,entOk nf ns s.areas e) /\ Rise s.ents) : SpR hs nf ns s:=by
 unfold rightSp at h1
 by_cases c : s.live = true
 · rw [if_pos c,Bool.and_eq_true,decide_eq_true_eq] at h1
   exact ⟨fun d=>(by rw [c] at d;cases d),h1.1,h2.2,h2.1,(have_iff hr h1.1).1 h1.2⟩
 · rw [if_neg c,Bool.and_eq_true,decide_eq_true_eq,decide_eq_true_eq] at h1
   have ha:=List.eq_nil_of_length_eq_zero h1.1
   refine ⟨fun _=>⟨ha,List.eq_nil_of_length_eq_zero h1.2⟩,by rw [ha];rfl,h2.2,h2.1,fun p hp=>?_⟩
   rw [ha] at hp
   cases hp
theorem of_sp {hs : List LM.Sh} (hr : LM.riseB hs = true) {nf ns : Nat} {s : Sp} (h : SpR hs nf ns s) : rightSp hs s = true:=by
 unfold rightSp
 by_cases c : s.live = true
 · rw [if_pos c,h.areas,(have_iff hr h.areas).2 h.sheets];rfl
 · rw [if_neg c,(h.dead (by simpa using c)).1,(h.dead (by simpa using c)).2];rfl
theorem sps_all {hs : List LM.Sh} (hr : LM.riseB hs = true) {nf ns : Nat} {u : List Us × List Us} (h : SumA (fun _ _=>[]) nf ns u) (ss : List Sp) : ∀ k,k <= ss.length -> spsB hs ss u k = true -> SumA (fun kd i=>names (ss.take k) kd i) nf ns (spsU ss u k) /\ ∀ i,i < k -> SpR hs nf ns (spAt ss i)
 | 0,_,_=>⟨by
  have e : (fun kd i=>names (ss.take 0) kd i) = fun _ _=>[]:=by funext kd i;rfl
  rw [e]
  exact h,fun i hi=>by omega⟩
 | k + 1,hk,hb=>by
  unfold spsB at hb
  rw [Bool.and_eq_true,Bool.and_eq_true] at hb
  obtain ⟨a1,a2⟩:=sps_all hr h ss k (by omega) hb.1
  obtain ⟨b1,b2⟩:=ents_all a1 (spAt ss k).areas (spAt ss k).ents _ (Nat.le_refl _) hb.2.2
  refine ⟨?_,fun i hi=>?_⟩
  · have e : (fun kd i=>names (ss.take (k + 1)) kd i) = fun kd i=>names (ss.take k) kd i ++ nm (spAt ss k).areas kd i ((spAt ss k).ents.take (spAt ss k).ents.length):=by
     funext kd i
     rw [names_take ss k (by omega),List.take_length]
     rfl
    rw [e];exact b1
  · by_cases c : i = k
    · subst c;exact sp_of hr hb.2.1 (rise_iff.1 b2)
    · exact a2 i (by omega)
theorem names_sub {ss : List Sp} {k : Nat} {kd a : Int} {x : Int × Bool} (h : x ∈ names (ss.take k) kd a) : x ∈ names ss kd a:=by
 obtain ⟨s,hs,r⟩:=mem_names.1 h
 exact mem_names.2 ⟨s,List.mem_of_mem_take hs,r⟩
theorem sps_back {hs : List LM.Sh} (hr : LM.riseB hs = true) {nf ns : Nat} {u : List Us × List Us} (h : SumA (fun _ _=>[]) nf ns u) (ss : List Sp) (hsp : ∀ i,i < ss.length -> SpR hs nf ns (spAt ss i)) (ho : ∀ kd i,∀ x ∈ names ss kd i,∀ y ∈ names ss kd i,x = y) : ∀ k,k <= ss.length -> spsB hs ss u k = true
 | 0,_=>rfl
 | k + 1,hk=>by
  have ih:=sps_back hr h ss hsp ho k (by omega)
  unfold spsB
  obtain ⟨a1,_⟩:=sps_all hr h ss k (by omega) ih
  have g:=hsp k (by omega)
  rw [ih,of_sp hr g,Bool.true_and,Bool.true_and]
  refine ents_back a1 _ _ (rise_iff.2 ⟨g.ent,g.rise⟩) (fun kd i x hx y hy=>?_) _ (Nat.le_refl _)
  have key : ∀ z,z ∈ names (ss.take k) kd i ++ nm (spAt ss k).areas kd i (spAt ss k).ents -> z ∈ names ss kd i:=fun z hz=>by
   refine names_sub (k:=k + 1) ?_
   rw [names_take ss k (by omega)]
   exact hz
  exact ho kd i x (key x hx) y (key y hy)
theorem isZ_iff (f : Fr) : isZ f = true ↔ f = fr0:=by
 unfold isZ
 rw [decide_eq_true_eq]
 constructor
 · rintro ⟨h1,h2,h3,h4⟩
   obtain ⟨⟨⟨d⟩⟩,r,a,b⟩:=f
   simp only at h2 h3 h4
   subst h2 h3 h4
   have : d = []:=List.eq_nil_of_length_eq_zero h1
   subst this
   rfl
 · rintro rfl;exact ⟨rfl,rfl,rfl,rfl⟩
theorem isZS_iff (f : Sl) : isZS f = true ↔ f = sl0:=by
 unfold isZS
 rw [decide_eq_true_eq]
 constructor
 · rintro ⟨h1,h2⟩
   obtain ⟨⟨⟨d⟩⟩,r⟩:=f
   simp only at h2
   subst h2
   have : d = []:=List.eq_nil_of_length_eq_zero h1
   subst this
   rfl
 · rintro rfl;exact ⟨rfl,rfl⟩
theorem sum_one {L : List (Int × Bool)} {u : Us} (h : Sum L u) : ∀ x ∈ L,∀ y ∈ L,x = y:=fun x hx y hy=>(h.2 x hx).trans (h.2 y hy).symm
theorem sum_nil {L : List (Int × Bool)} {u : Us} (h : Sum L u) : u.refs = 0 ↔ L = []:=by
 rw [h.1]
 constructor
 · exact fun e=>List.eq_nil_of_length_eq_zero (by omega)
 · rintro rfl;rfl
theorem fr_iff {hs : List LM.Sh} {L : List (Int × Bool)} {u : Us} (h : Sum L u) (f : Fr) : rightFr hs f u = true ↔ FrR hs L f:=by
 unfold rightFr
 by_cases c : u.refs = 0
 · have hL:=(sum_nil h).1 c
   subst hL
   rw [if_pos c,isZ_iff]
   exact ⟨fun e=>by rw [e];exact FrR.none hs,fun e=>e.zero rfl⟩
 · have hL : L ≠ []:=fun e=>c ((sum_nil h).2 e)
   rw [if_neg c,Bool.and_eq_true,decide_eq_true_eq,Bool.or_eq_true,decide_eq_true_eq]
   constructor
   · rintro ⟨⟨h1,h2⟩,h3⟩
     refine ⟨h1.trans h.1,fun e=>absurd e hL,sum_one h,fun _=>h2,fun d x hx=>?_⟩
     rw [h.2 x hx]
     exact h3.resolve_left (by rw [d];simp)
   · intro g
     refine ⟨⟨g.refs.trans h.1.symm,g.size hL⟩,?_⟩
     cases d : f.dirty with
     | true=>exact .inl rfl
     | false =>
      obtain ⟨x,hx⟩:=List.exists_mem_of_ne_nil _ hL
      have:=g.fill d x hx
      rw [h.2 x hx] at this
      exact .inr this
theorem sl_iff {L : List (Int × Bool)} {u : Us} (h : Sum L u) (f : Sl) : rightSl f u = true ↔ SlR L f:=by
 unfold rightSl
 by_cases c : u.refs = 0
 · have hL:=(sum_nil h).1 c
   subst hL
   rw [if_pos c,isZS_iff]
   exact ⟨fun e=>by rw [e];exact SlR.none,fun e=>e.zero rfl⟩
 · have hL : L ≠ []:=fun e=>c ((sum_nil h).2 e)
   rw [if_neg c,decide_eq_true_eq]
   constructor
   · rintro ⟨h1,h2⟩
     exact ⟨h1.trans h.1,fun e=>absurd e hL,sum_one h,fun _=>h2⟩
   · intro g
     exact ⟨g.refs.trans h.1.symm,g.size hL⟩
theorem fine_iff (k : Kn) (hc : counts k = true) : fineP k = true ↔ RightK k:=by
 unfold fineP
 simp only [Bool.and_eq_true,decide_eq_true_eq,List.all_eq_true,List.mem_range]
 have hz:=sum_zero k.frames.length k.slots.length
 have hn : (fun kd i=>names (k.spaces.take k.spaces.length) kd i) = fun kd i=>names k.spaces kd i:=by funext kd i;rw [List.take_length]
 constructor
 · rintro ⟨h1,h2,h3,h4,h5,h6⟩
   obtain ⟨a1,a2⟩:=sps_all h1 hz k.spaces _ (Nat.le_refl _) h3
   rw [hn] at a1
   refine ⟨hc,h1,h2,fun s hs=>?_,h4,fun i hi=>(fr_iff (a1.2.1 i hi) _).1 (h5 i hi),fun i hi=>(sl_iff (a1.2.2 i hi) _).1 (h6 i hi)⟩
   obtain ⟨j,hj,rfl⟩:=mem_getD sp0 hs
   exact a2 j hj
 · intro h
   have ho : ∀ kd i,∀ x ∈ names k.spaces kd i,∀ y ∈ names k.spaces kd i,x = y:=fun kd i x hx y hy=>by
    obtain ⟨s,hs,e,he,g1,g2,_⟩:=mem_names.1 hx
    obtain ⟨j,hj,rfl⟩:=mem_getD sp0 hs
    rcases loc_bd h hj he with b | b
    · have:=(h.frm e.loc.toNat b.2.2).one x (by rw [b.2.1,g2,<- b.1,g1];exact hx) y (by rw [b.2.1,g2,<- b.1,g1];exact hy)
      exact this
    · exact (h.slt e.loc.toNat b.2.2).one x (by rw [b.2.1,g2,<- b.1,g1];exact hx) y (by rw [b.2.1,g2,<- b.1,g1];exact hy)
   have hb:=sps_back h.rise hz k.spaces (fun i hi=>h.sp hi) ho _ (Nat.le_refl _)
   obtain ⟨a1,_⟩:=sps_all h.rise hz k.spaces _ (Nat.le_refl _) hb
   rw [hn] at a1
   exact ⟨h.rise,h.hand,hb,h.room,fun i hi=>(fr_iff (a1.2.1 i hi) _).2 (h.frm i hi),fun i hi=>(sl_iff (a1.2.2 i hi) _).2 (h.slt i hi)⟩
theorem check_iff (k : Kn) : checkK k = 0 ↔ RightK k:=by
 unfold checkK
 by_cases c : counts k = true
 · rw [if_neg (by rw [c];simp),<- fine_iff k c]
   by_cases d : fineP k = true
   · rw [if_pos d];exact ⟨fun _=>d,fun _=>rfl⟩
   · rw [if_neg d];exact ⟨fun e=>by omega,fun e=>absurd e d⟩
 · rw [if_pos (by simpa using c)]
   exact ⟨fun e=>by omega,fun h=>absurd h.counts c⟩
structure Na where
 n : Int
 page : Int
 fine : Bool
 area : AM.Ar
structure NaR (L : List (Int × Bool)) (a : Na) : Prop where
 n : a.n = L.length
 fine : a.fine = true ↔ ∀ x ∈ L,∀ y ∈ L,x = y
 last : L ≠ [] -> (a.page,a.area.zero) ∈ L
end KM
namespace W
open Go.RowKit
theorem hideC {p : Prop} (h : p) : Hid p:=h
theorem ret_bool {a b : Bool} (h : a = b) : Ending.returned (.bool a) = .returned (.bool b):=by rw [h]
set_option maxHeartbeats 1000000 in
theorem inName_any (n : Int) (w : World) : Calls Tryz.prog 209 #[.int .u8 n] w fun e w'=>e = .returned (.bool (M.signB n)) /\ w = w':=by
 by_cases h1 : 97 <= n /\ n <= 122
 · have e : M.signB n = true:=by unfold M.signB;rw [decide_eq_true h1];rfl
   rw [e]
   obtain ⟨a,b⟩:=h1
   go_enter Tryz.func209,Tryz.ntmps209
   go_wp2
   go_ret
   exact ⟨rfl,rfl⟩
 · by_cases h2 : 48 <= n /\ n <= 57
   · have e : M.signB n = true:=by unfold M.signB;rw [decide_eq_true h2];simp
     rw [e]
     obtain ⟨a,b⟩:=h2
     have c : decide (97 <= n) = false:=by simp;omega
     clear h1
     go_enter Tryz.func209,Tryz.ntmps209
     go_wp2
     go_ret
     exact ⟨rfl,rfl⟩
   · by_cases h3 : n = 95
     · subst h3
       go_enter Tryz.func209,Tryz.ntmps209
       go_wp2
       go_ret
       exact ⟨rfl,rfl⟩
     · have e : M.signB n = false:=by unfold M.signB;rw [decide_eq_false h1,decide_eq_false h2,decide_eq_false h3];rfl
       rw [e]
       have h3' : (n == 95) = false:=by simpa using h3
       by_cases a : 97 <= n
       · have b : decide (n <= 122) = false:=by simp;omega
         have c : 48 <= n:=by omega
         have d : decide (n <= 57) = false:=by simp;omega
         clear h1 h2
         go_enter Tryz.func209,Tryz.ntmps209
         go_wp2
         go_ret
         exact ⟨rfl,rfl⟩
       · have a' : decide (97 <= n) = false:=by simpa using a
         by_cases c : 48 <= n
         · have d : decide (n <= 57) = false:=by simp;omega
           clear h1 h2
           go_enter Tryz.func209,Tryz.ntmps209
           go_wp2
           go_ret
           exact ⟨rfl,rfl⟩
         · have c' : decide (48 <= n) = false:=by simpa using c
           clear h1 h2
           go_enter Tryz.func209,Tryz.ntmps209
           go_wp2
           go_ret
           exact ⟨rfl,rfl⟩
set_option maxHeartbeats 1000000 in
theorem isName_any (s : ByteArray) (w : World) (hs : M.Short s.size) : Calls Tryz.prog 198 #[.string s] w fun e w'=>e = .returned (.bool (M.nameB s)) /\ w = w':=by
 unfold M.Short at hs
 have hml : s.size <= maxLen:=by unfold maxLen;omega
 by_cases h1 : 1 <= s.size
 · by_cases h2 : s.size <= 12
   · have d1 : ¬ (s.size : Int) < 1:=by omega
     have d2 : ¬ 12 < (s.size : Int):=by omega
     go_enter Tryz.func198,Tryz.ntmps198
     go_wp2
     go_loop [14] (fun i=>∃ k : Nat,k <= s.size /\ i = .int .i64 k /\ ∀ j (hj : j < s.size),j < k -> M.signB s[j].toNat = true) (fun i=>s.size - (intOf i).toNat)
     case atStart=>exact ⟨0,by omega,rfl,fun j _ h=>by omega⟩
     case round =>
      obtain ⟨k,hk,rfl,hall⟩:=hrel
      have HA:=hideC hall
      clear hall
      by_cases hlt : k < s.size
      · cases hc : M.signB s[k].toNat
        · have HR:=hideC (M.name_no s k hlt hc)
          go_wp2_with (go_at_call 209;refine (inName_any _ _).mono ?_;rintro e w' ⟨rfl,rfl⟩;rw [hc])
          go_ret
          exact ⟨ret_bool HR.out.symm,rfl⟩
        · have HC:=hideC hc
          go_wp2_with (go_at_call 209;refine (inName_any _ _).mono ?_;rintro e w' ⟨rfl,rfl⟩;rw [hc])
          go_round
          case rel=>exact ⟨k + 1,by omega,by go_num,fun j hj h=>if e : j = k then by subst e;exact HC.out else HA.out j hj (by omega)⟩
          case measure=>simp [intOf];omega
      · obtain rfl : k = s.size:=by omega
        have HR:=hideC (M.name_yes s h1 h2 (fun k hk=>HA.out k hk hk))
        go_wp2
        go_ret
        exact ⟨ret_bool HR.out.symm,rfl⟩
   · have HR:=hideC (M.name_len s (fun h=>h2 h.2))
     have d1 : ¬ (s.size : Int) < 1:=by omega
     have d2 : 12 < (s.size : Int):=by omega
     go_enter Tryz.func198,Tryz.ntmps198
     go_wp2
     go_ret
     exact ⟨ret_bool HR.out.symm,rfl⟩
 · have HR:=hideC (M.name_len s (fun h=>h1 h.1))
   have d1 : (s.size : Int) < 1:=by omega
   go_enter Tryz.func198,Tryz.ntmps198
   go_wp2
   go_ret
   exact ⟨ret_bool HR.out.symm,rfl⟩
end W
namespace LW
open Go.RowKit
open W (hideC)
theorem ret_bool {a b : Bool} (h : a = b) : Ending.returned (.bool a) = .returned (.bool b):=by rw [h]
set_option maxHeartbeats 2000000 in
theorem rightSheet_any (s : LM.Sh) (w : World) (h : LM.HasF w s.ao s.fixes) (hf : LM.FitH s) :
  Calls Tryz.prog 146 #[.agg (LM.cellsH s)] w fun e w'=>e = .returned (.bool (LM.sheetB s)) /\ Below w.heap.size w w':=by
 obtain ⟨f1,f2,f3,f4⟩:=hf
 obtain ⟨pg,dt,fs,ao,cap⟩:=s
 simp only at f1 f2 f3 f4
 unfold M.I64 at f1
 unfold M.Short at f2 f3
 simp only [LM.cellsH]
 have hdl : dt.size <= maxLen:=by unfold maxLen;omega
 have F4:=hideC f4
 have HH:=hideC h
 clear f4 h
 have HB:=hideC ((Below.refl w.heap.size w).alloc (Nat.le_refl _) (.cells #[.int .i64 pg,.string dt,.slice ao fs.length cap] 50))
 by_cases h1 : pg < 1
 · have e : LM.sheetB ⟨pg,dt,fs,ao,cap⟩ = false:=by
    unfold LM.sheetB LM.headB
    rw [decide_eq_false (by simp only;omega),Bool.false_and]
   rw [e]
   go_enter Tryz.func146,Tryz.ntmps146
   go_wp2
   go_ret
   exact ⟨rfl,HB.out⟩
 by_cases h2 : 255 < pg
 · have e : LM.sheetB ⟨pg,dt,fs,ao,cap⟩ = false:=by
    unfold LM.sheetB LM.headB
    rw [decide_eq_false (by simp only;omega),Bool.false_and]
   rw [e]
   go_enter Tryz.func146,Tryz.ntmps146
   go_wp2
   go_ret
   exact ⟨rfl,HB.out⟩
 by_cases h3 : dt.size = 16
 · have h3' : (dt.size : Int) = 16:=by omega
   have e : LM.headB ⟨pg,dt,fs,ao,cap⟩ = true:=by
    unfold LM.headB
    exact decide_eq_true ⟨by simp only;omega,by simp only;omega,h3⟩
   have E : Hid (LM.sheetB ⟨pg,dt,fs,ao,cap⟩ = LM.fixesTo fs fs.length):=by
    show _ = _
    unfold LM.sheetB
    rw [e,Bool.true_and]
   clear e h3
   go_enter Tryz.func146,Tryz.ntmps146
   go_wp2
   go_loopw [23,3] (fun i en wr=>∃ k : Nat,k <= fs.length /\ i = .int .i64 k /\ en = .int .i64 (LM.endTo fs k) /\ LM.fixesTo fs k = true /\ Below w.heap.size w wr) (fun i _ _=>fs.length - (intOf i).toNat)
   case atStart=>exact ⟨0,by omega,rfl,rfl,rfl,HB.out⟩
   case round =>
    obtain ⟨k,hk,rfl,rfl,hg,hb⟩:=hrel
    have HG:=hideC hg
    have HBr:=hideC hb
    clear hg
    by_cases hlt : k < fs.length
    · obtain ⟨b,off,hao,hbl,hlie⟩:=(HH.out.below hb) (by omega)
      subst hao
      obtain ⟨c0,c1⟩:=hlie k hlt
      obtain ⟨g1,g2⟩:=F4.out k hlt
      have hed:=LM.endTo_ge fs k HG.out
      obtain ⟨f,hfe⟩ : ∃ f,f = LM.fxAt fs k:=⟨_,rfl⟩
      rw [<- hfe] at c0 c1 g1 g2
      unfold M.I64 at g1
      unfold M.Short at g2
      have hfl : f.bytes.size <= maxLen:=by unfold maxLen;omega
      have HFE:=hideC hfe
      clear hfe hlie hb
      obtain ⟨en,hen⟩ : ∃ en,en = LM.endTo fs k:=⟨_,rfl⟩
      rw [<- hen] at hed
      have HEN:=hideC hen
      rw [<- hen]
      clear hen
      have HBA:=hideC (HBr.out.alloc HBr.out.size (.cells #[.int .i64 f.off,.string f.bytes] 52))
      by_cases q1 : f.off < en
      · have HX : Hid (LM.fixesTo fs fs.length = false):=LM.fixes_bad fs k hlt (by rw [<- HFE.out,<- HEN.out];exact LM.fixB_no (by omega))
        go_wp2
        go_ret
        exact ⟨ret_bool (by rw [E.out,HX.out]),HBA.out⟩
      by_cases q2 : 16 < f.off
      · have HX : Hid (LM.fixesTo fs fs.length = false):=LM.fixes_bad fs k hlt (by rw [<- HFE.out,<- HEN.out];exact LM.fixB_no (by omega))
        go_wp2
        go_ret
        exact ⟨ret_bool (by rw [E.out,HX.out]),HBA.out⟩
      by_cases q3 : (f.bytes.size : Int) < 1
      · have HX : Hid (LM.fixesTo fs fs.length = false):=LM.fixes_bad fs k hlt (by rw [<- HFE.out,<- HEN.out];exact LM.fixB_no (by omega))
        go_wp2
        go_ret
        exact ⟨ret_bool (by rw [E.out,HX.out]),HBA.out⟩
      by_cases q4 : 16 - f.off < (f.bytes.size : Int)
      · have HX : Hid (LM.fixesTo fs fs.length = false):=LM.fixes_bad fs k hlt (by rw [<- HFE.out,<- HEN.out];exact LM.fixB_no (by omega))
        go_wp2
        go_ret
        exact ⟨ret_bool (by rw [E.out,HX.out]),HBA.out⟩
      · have HX : Hid (LM.fixesTo fs (k + 1) = true):=by
         show _ = _
         simp only [LM.fixesTo,Bool.and_eq_true]
         exact ⟨HG.out,by rw [<- HFE.out,<- HEN.out];exact (LM.fixB_iff _ _).2 (by omega)⟩
        have HY : Hid (LM.endTo fs (k + 1) = f.off + (f.bytes.size : Int)):=by show _ = _;simp only [LM.endTo];rw [<- HFE.out]
        go_wp2
        go_roundw
        case rel=>exact ⟨k + 1,by omega,by go_num,by rw [HY.out],HX.out,HBA.out⟩
        case measure=>simp [intOf];omega
    · obtain rfl : k = fs.length:=by omega
      go_wp2
      go_ret
      exact ⟨ret_bool (by rw [E.out,HG.out]),HBr.out⟩
 · have e : LM.sheetB ⟨pg,dt,fs,ao,cap⟩ = false:=by
    unfold LM.sheetB LM.headB
    rw [decide_eq_false (fun h=>h3 h.2.2),Bool.false_and]
   have h3' : ((dt.size : Int) == 16) = false:=by simp;omega
   rw [e]
   go_enter Tryz.func146,Tryz.ntmps146
   go_wp2
   go_ret
   exact ⟨rfl,HB.out⟩
end LW
namespace CW
open Go.RowKit
set_option maxHeartbeats 400000 in
theorem bytes_any (n : Int) (size : Nat) (w : World) (h2 : size <= 8) :
  Calls Tryz.prog 138 #[.int .i64 n,.int .i64 size] w fun e w'=>e = .returned (.string ⟨(Lib.leBytes size (CM.low n)).toArray⟩) /\ Below w.heap.size w w':=by
 go_enter Tryz.func138,Tryz.ntmps138
 go_wp2
 go_loopw [0,5,6] (fun t s i wr=>∃ k : Nat,k <= size /\ i = .int .i64 k /\ t = .int .i64 (CM.shr n k) /\ s = .string ⟨(Lib.leBytes k (CM.low n)).toArray⟩ /\ Below w.heap.size w wr) (fun _ _ i _=>size - (intOf i).toNat)
 case atStart=>exact ⟨0,by omega,rfl,by rw [CM.shr_zero],rfl,Below.refl _ _⟩
 case round =>
  obtain ⟨k,hk,rfl,rfl,rfl,hb⟩:=hrel
  by_cases hlt : k < size
  · have hcv : (convert 137 9 (.slice (some ⟨wr.heap.size,0,none⟩) 1 1)).run Tryz.prog (wr.alloc (.cells #[.int .u8 (CM.shr n k % 256)] 5)) = .ok (.string ⟨#[(CM.low n / 256 ^ k % 256).toUInt8]⟩) (wr.alloc (.cells #[.int .u8 (CM.shr n k % 256)] 5)):=by
     rw [<- CM.strOfNums_byte n k (by omega)]
     refine run_convert_bytes_arg _ 137 5 Tryz.underlying137 Tryz.underlying5 _ 0 1 1 [CM.shr n k % 256] rfl ?_ 9 Tryz.underlying9
     intro i hi
     obtain rfl : i = 0:=by omega
     simp
    have hl : (Lib.leBytes k (CM.low n)).length = k:=Lib.leBytes_length _ _
    have HN : Hid (Lib.leBytes (k + 1) (CM.low n) = Lib.leBytes k (CM.low n) ++ [(CM.low n / 256 ^ k % 256).toUInt8]):=CM.leBytes_snoc _ _
    go_wp2
    go_roundw
    case rel=>exact ⟨k + 1,by omega,by go_num,by rw [<- CM.shr_succ],by rw [HN.out];exact congrArg Value.string (CM.mk_append _ [_]),hb.alloc (by have:=hb.size;omega) _⟩
    case measure=>simp [intOf];omega
  · obtain rfl : k = size:=by omega
    go_wp2
    go_ret
    exact ⟨rfl,hb⟩
theorem info5 : (Tryz.prog.info? 5).map (fun i=>(i.zero,i.size,i.bytes)) = some (some (.int .u8 0),1,1):=by kernel_rfl
set_option maxHeartbeats 400000 in
theorem clone18 (s : ByteArray) (w : World) (hlim : s.size <= 281474976710656) :
  Calls Tryz.prog 152 #[.string s] w fun e w'=>e = .returned (.string s) /\ Below w.heap.size w w':=by
 by_cases h0 : s.size = 0
 · have hs : s = ⟨#[]⟩:=by
    apply ByteArray.ext
    exact Array.eq_empty_of_size_eq_zero h0
   subst hs
   go_enter Tryz.func152,Tryz.ntmps152
   go_wp2
   go_ret
   exact ⟨rfl,Below.refl _ _⟩
 · obtain ⟨i0,hi,hz0,hz1,hz2⟩:=info_parts info5
   have hinfo : (Tryz.prog.info? 5).map (·.size) = some 1:=by rw [hi];simp [hz1]
   have hco : Tryz.prog.cellsOf 5 = 1:=by simp [Program.cellsOf,hi,hz1]
   obtain ⟨M,hM⟩ : ∃ M,M = madeCells (Value.int .u8 0).cells (((s.size : Nat) : Int).toNat * i0.size):=⟨_,rfl⟩
   have hMs : M.size = s.size:=by rw [hM,size_madeCells,hz1];simp
   have hmk : ∀ W : World,(Instr.makeSlice 137 (.int .i64 (s.size : Int)) (.int .i64 (s.size : Int))).run Tryz.prog W = .ok (.slice (some ⟨W.heap.size,0,none⟩) s.size s.size) (W.alloc (.cells M 5)):=fun W=>by
    have h:=run_make (P:=Tryz.prog) W 137 5 i0 (.int .u8 0) Tryz.underlying137 hi hz0 .i64 .i64 (s.size : Int) (s.size : Int) (by omega) (by omega) (by rw [hz2];omega) (by omega)
    rw [<- hM] at h
    simpa using h
   clear hM
   have hcp:=Lib.run_copy_row_string (P:=Tryz.prog) (w.alloc (.cells M 5)) 137 9 3 5 w.heap.size 0 s.size s.size s M 5 Tryz.underlying137 hinfo (heap_alloc_new w _) (Nat.le_refl _) (by omega)
   obtain ⟨Y,hY⟩ : ∃ Y,Y = (M.toList.take 0 ++ Lib.byteCells s.data.toList ++ M.toList.drop (0 + s.size)).toArray:=⟨_,rfl⟩
   rw [<- hY] at hcp
   have hYl : Y.toList = Lib.byteCells s.data.toList:=by
    rw [hY,List.toList_toArray,List.take_zero,List.nil_append,List.drop_of_length_le (by rw [Array.length_toList];omega),List.append_nil]
   have hYs : Y.size = s.size:=by rw [<- Array.length_toList,hYl,Lib.byteCells_length,<- Lib.size_eq]
   have hgY : ((w.alloc (.cells M 5)).setRow w.heap.size Y).heap[w.heap.size]? = some (.cells Y 5 (0,0)):=setRow_heap _ _ M _ 5 (0,0) (heap_alloc_new w _)
   have hne : s.data.toList ≠ []:=fun e=>h0 (by rw [Lib.size_eq,e];rfl)
   have hUS:=Lib.run_unsafeString_row (P:=Tryz.prog) ((w.alloc (.cells M 5)).setRow w.heap.size Y) 235 3 9 5 Tryz.underlying235 hco w.heap.size Y.size (by unfold World.shape?;rw [hgY]) s.data.toList hne (by rw [<- Lib.size_eq];omega) (by rw [<- Lib.size_eq];omega)
    (fun j x hx=>Lib.cells_of_row hgY Y.size j _ (by rw [List.take_of_length_le (by rw [Array.length_toList];exact Nat.le_refl _),hYl];simp [Lib.byteCells,hx]))
   rw [<- Lib.size_eq] at hUS
   clear hY
   go_enter Tryz.func152,Tryz.ntmps152
   go_wp2
   go_ret
   have hb1 : Below w.heap.size w (w.alloc (.cells M 5)):=(Below.refl _ w).alloc (Nat.le_refl _) _
   have hb2 : Below w.heap.size (w.alloc (.cells M 5)) ((w.alloc (.cells M 5)).setRow w.heap.size Y):=⟨rfl,rfl,rfl,by simp,fun k hk=>setRow_other _ _ _ _ (by omega)⟩
   exact ⟨rfl,Lib.below_freeze (hb1.trans hb2) (p:=⟨w.heap.size,0,none⟩) (Nat.le_refl _) _⟩
theorem clone17 (s : ByteArray) (w : World) (hlim : s.size <= 281474976710656) :
  Calls Tryz.prog 116 #[.string s] w fun e w'=>e = .returned (.string s) /\ Below w.heap.size w w':=by
 go_enter Tryz.func116,Tryz.ntmps116
 go_wp2_with (go_at_call 152;refine (clone18 _ _ hlim).mono ?_;rintro e w' ⟨rfl,hb⟩)
 go_ret
 exact ⟨rfl,by assumption⟩
theorem inside_yes (l o n : Int) (w : World) (h1 : 0 <= o) (h2 : 0 <= n) (h3 : o <= l) (h4 : n <= l - o) (h5 : l <= 9223372036854775807) :
  Calls Tryz.prog 115 #[.int .i64 l,.int .i64 o,.int .i64 n] w fun e w'=>e = .returned (.bool true) /\ w = w':=by
 go_enter Tryz.func115,Tryz.ntmps115
 go_wp2
 go_ret
 exact ⟨rfl,rfl⟩
theorem part_yes (s : ByteArray) (o n : Nat) (w : World) (hs : s.size <= 140737488351232) (h : o + n <= s.size) :
  Calls Tryz.prog 63 #[.string s,.int .i64 o,.int .i64 n] w fun e w'=>e = .returned (.tuple #[.string (s.extract o (o + n)),.int .i64 0]) /\ Below w.heap.size w w':=by
 go_enter Tryz.func63,Tryz.ntmps63
 go_wp2_with (first | (go_at_call 115;refine (inside_yes _ _ _ _ (by omega) (by omega) (by omega) (by omega) (by omega)).mono ?_;rintro e w' ⟨rfl,rfl⟩) | (go_at_call 116;refine (clone17 _ _ (by simp;omega)).mono ?_;rintro e w' ⟨rfl,hb⟩))
 go_ret2
 exact ⟨rfl,by assumption⟩
set_option maxHeartbeats 400000 in
theorem lay_yes (s t : ByteArray) (o : Nat) (w : World) (hs : s.size <= 140737488351232) (h : o + t.size <= s.size) :
  Calls Tryz.prog 65 #[.string s,.int .i64 o,.string t] w fun e w'=>e = .returned (.tuple #[.string (CL.over s o t),.int .i64 0]) /\ Below w.heap.size w w':=by
 obtain ⟨i0,hi,hz0,hz1,hz2⟩:=info_parts info5
 have hinfo : (Tryz.prog.info? 5).map (·.size) = some 1:=by rw [hi];simp [hz1]
 obtain ⟨c,hc⟩ : ∃ c,grownCap w s.size 0 5 = c:=⟨_,rfl⟩
 have hcs : s.size <= c:=by rw [<- hc];exact grownCap_ge _ _ _ _
 have hcv:=run_bytes_of_string (P:=Tryz.prog) w 9 137 5 s Tryz.underlying9 Tryz.underlying137 Tryz.underlying5
 rw [hc] at hcv
 clear hc
 have hRs : (bytesRow s c).size = c:=by rw [CL.bytesRow_size];omega
 have hov:=CL.over_cells s o t c h
 obtain ⟨R,hR⟩ : ∃ R,R = bytesRow s c:=⟨_,rfl⟩
 rw [<- hR] at hcv hRs hov
 clear hR
 rw [hRs] at hcv
 have hgR : ((w.alloc (.cells R 5 (c,c + 1))).drew).heap[w.heap.size]? = some (.cells R 5 (c,c + 1)):=heap_alloc_new w _
 by_cases h0 : t.size = 0
 · have hcp:=fun W d l c=>Lib.run_copy_empty_string (P:=Tryz.prog) W 137 9 3 5 d l c t Tryz.underlying137 (by rw [hinfo];rfl) h0
   rw [CL.over_nil s o t h0] at hov ⊢
   have hcb : (convert 137 9 (.slice (some ⟨w.heap.size,0,none⟩) s.size c)).run Tryz.prog ((w.alloc (.cells R 5 (c,c + 1))).drew) = .ok (.string s) ((w.alloc (.cells R 5 (c,c + 1))).drew):=by
    have es : strOfNums (s.data.toList.map fun b=>(b.toNat : Int)) = s:=(CM.strOfNums_bytes _).trans (Lib.mk_data s)
    refine Eq.trans ?_ (congrArg (fun x=>Result.ok (Value.string x) ((w.alloc (.cells R 5 (c,c + 1))).drew)) es)
    refine run_convert_bytes_arg _ 137 5 Tryz.underlying137 Tryz.underlying5 _ 0 s.size c _ (by rw [List.length_map,<- Lib.size_eq]) ?_ 9 Tryz.underlying9
    intro i hi
    have ht : t.data.toList = []:=List.eq_nil_of_length_eq_zero (by rw [<- Lib.size_eq];exact h0)
    have e:=hov i hi
    rw [ht,h0] at e
    rw [Nat.zero_add,cell_of_row _ _ _ _ _ _ hgR]
    simpa [Lib.byteCells] using e
   go_enter Tryz.func65,Tryz.ntmps65
   go_wp2_with (first | (go_at_call 115;refine (inside_yes _ _ _ _ (by omega) (by omega) (by omega) (by omega) (by omega)).mono ?_;rintro e w' ⟨rfl,rfl⟩))
   all_goals go_ret2
   all_goals exact ⟨rfl,((Below.refl _ _).alloc (Nat.le_refl _) _).drew⟩
 · have hno : ¬ c = o:=by omega
   have hcp:=CL.copy_marked (P:=Tryz.prog) ((w.alloc (.cells R 5 (c,c + 1))).drew) 137 9 3 5 w.heap.size o (s.size - o) (c - o) t R 5 c (c + 1) Tryz.underlying137 hinfo hgR (by omega) (by omega) (by omega)
   obtain ⟨Y,hY⟩ : ∃ Y,Y = (R.toList.take o ++ Lib.byteCells t.data.toList ++ R.toList.drop (o + t.size)).toArray:=⟨_,rfl⟩
   rw [<- hY] at hcp
   have hgY : (((w.alloc (.cells R 5 (c,c + 1))).drew).setRow w.heap.size Y).heap[w.heap.size]? = some (.cells Y 5 (c,c + 1)):=setRow_heap _ _ R _ 5 (c,c + 1) hgR
   have hcb : (convert 137 9 (.slice (some ⟨w.heap.size,0,none⟩) s.size c)).run Tryz.prog (((w.alloc (.cells R 5 (c,c + 1))).drew).setRow w.heap.size Y) = .ok (.string (CL.over s o t)) (((w.alloc (.cells R 5 (c,c + 1))).drew).setRow w.heap.size Y):=by
    rw [<- Lib.mk_data (CL.over s o t),<- CM.strOfNums_bytes]
    refine run_convert_bytes_arg _ 137 5 Tryz.underlying137 Tryz.underlying5 _ 0 s.size c _ (by rw [List.length_map];exact CL.over_size s o t h) ?_ 9 Tryz.underlying9
    intro i hi
    rw [Nat.zero_add,cell_of_row _ _ _ _ _ _ hgY,hY]
    simpa using hov i hi
   clear hov hY
   go_enter Tryz.func65,Tryz.ntmps65
   go_wp2_with (first | (go_at_call 115;refine (inside_yes _ _ _ _ (by omega) (by omega) (by omega) (by omega) (by omega)).mono ?_;rintro e w' ⟨rfl,rfl⟩))
   go_ret2
   exact ⟨rfl,below_setRow ((Below.refl _ _).alloc (Nat.le_refl _) _).drew (Nat.le_refl _) _⟩
end CW
namespace LW
open Go.RowKit
open W (hideC)
theorem ret_sn {s t : ByteArray} {a b : Int} (h : s = t) (g : a = b) : Ending.returned (.tuple #[.string s,.int .i64 a]) = .returned (.tuple #[.string t,.int .i64 b]):=by rw [h,g]
set_option maxHeartbeats 2000000 in
theorem fill_any (s : LM.Sh) (w : World) (h : LM.HasF w s.ao s.fixes) (hf : LM.FitH s) :
  Calls Tryz.prog 148 #[.agg (LM.cellsH s)] w fun e w'=>e = .returned (.tuple #[.string (LM.fillN s).1,.int .i64 (LM.fillN s).2]) /\ Below w.heap.size w w':=by
 have HR : Hid (∀ W,Below w.heap.size w W -> Calls Tryz.prog 146 #[.agg (LM.cellsH s)] W fun e w'=>e = .returned (.bool (LM.sheetB s)) /\ Below W.heap.size W w'):=fun W hb=>rightSheet_any s W (h.below hb) hf
 obtain ⟨f1,f2,f3,f4⟩:=hf
 obtain ⟨pg,dt,fs,ao,cap⟩:=s
 simp only at f1 f2 f3 f4
 unfold M.Short at f2 f3
 simp only [LM.cellsH] at HR
 simp only [LM.cellsH]
 have hdl : dt.size <= maxLen:=by unfold maxLen;omega
 have F4:=hideC f4
 have HH:=hideC h
 clear f4 h f1
 have HB:=hideC ((Below.refl w.heap.size w).alloc (Nat.le_refl _) (.cells #[.int .i64 pg,.string dt,.slice ao fs.length cap] 50))
 have BX:=hideC (B.new w #[.int .i64 pg,.string dt,.slice ao fs.length cap] 50)
 by_cases hs : LM.sheetB ⟨pg,dt,fs,ao,cap⟩ = true
 · have HN : Hid (LM.fillN ⟨pg,dt,fs,ao,cap⟩ = (LM.laidTo dt fs fs.length,0)):=by
    show _ = _
    unfold LM.fillN
    rw [if_pos hs]
    rfl
   obtain ⟨hd,hfx⟩ : LM.headB ⟨pg,dt,fs,ao,cap⟩ = true /\ LM.fixesTo fs fs.length = true:=by
    unfold LM.sheetB at hs
    simpa using hs
   have h16 : dt.size = 16:=by
    unfold LM.headB at hd
    exact (of_decide_eq_true hd).2.2
   have HFX:=hideC hfx
   rw [hs] at HR
   clear hs hd hfx
   go_enter Tryz.func148,Tryz.ntmps148
   go_wp2_with (first | (go_at_call 146;refine (HR.out _ HB.out).mono ?_;rintro e w1 ⟨rfl,hb⟩;have HB:=hideC (HB.out.trans (hb.mono HB.out.size));have BX:=hideC (B.below BX.out hb (B.isLt BX.out));have q0:=B.cell BX.out 0 rfl;have q1:=B.cell BX.out 1 rfl;have q2:=B.cell BX.out 2 rfl;clear hb) | (go_at_call 116;refine (CW.clone17 _ _ (by omega)).mono ?_;rintro e w2 ⟨rfl,hb⟩;have HB:=hideC (HB.out.trans (hb.mono HB.out.size));have BX:=hideC (B.below BX.out hb (B.isLt BX.out));have q0:=B.cell BX.out 0 rfl;have q1:=B.cell BX.out 1 rfl;have q2:=B.cell BX.out 2 rfl;clear hb))
   go_loopw [16,4] (fun i d wr=>∃ k : Nat,k <= fs.length /\ i = .int .i64 k /\ d = .string (LM.laidTo dt fs k) /\ Below w.heap.size w wr) (fun i _ _=>fs.length - (intOf i).toNat)
   case atStart=>exact ⟨0,by omega,rfl,rfl,HB.out⟩
   case round =>
    obtain ⟨k,hk,rfl,rfl,hb⟩:=hrel
    have HBr:=hideC hb
    by_cases hlt : k < fs.length
    · obtain ⟨b,off,hao,hbl,hlie⟩:=(HH.out.below hb) (by omega)
      subst hao
      obtain ⟨c0,c1⟩:=hlie k hlt
      have hok:=(LM.fixB_iff _ _).1 (LM.fixesTo_ok fs fs.length HFX.out k hlt)
      have hgk : LM.fixesTo fs k = true:=by
       cases e : LM.fixesTo fs k
       · rw [LM.fixesTo_false fs k fs.length (by omega) e] at HFX
         cases HFX
       · rfl
      have hed:=LM.endTo_ge fs k hgk
      have hsz:=LM.laidTo_size dt fs h16 k hgk
      have HNX : Hid (LM.laidTo dt fs (k + 1) = CL.over (LM.laidTo dt fs k) (LM.fxAt fs k).off.toNat (LM.fxAt fs k).bytes):=rfl
      obtain ⟨f,hfe⟩ : ∃ f,f = LM.fxAt fs k:=⟨_,rfl⟩
      rw [<- hfe] at c0 c1 hok HNX
      obtain ⟨D,hD⟩ : ∃ D,D = LM.laidTo dt fs k:=⟨_,rfl⟩
      rw [<- hD] at hsz HNX
      rw [<- hD]
      obtain ⟨o,ho⟩ : ∃ o : Nat,f.off = (o : Int):=⟨f.off.toNat,by omega⟩
      rw [ho] at c0 hok
      rw [ho,Int.toNat_natCast] at HNX
      clear hfe hD hgk hlie hb
      have HBA:=hideC (HBr.out.alloc HBr.out.size (.cells #[.int .i64 (o : Int),.string f.bytes] 52))
      go_wp2_with (go_at_call 65;refine (CW.lay_yes D f.bytes o _ (by omega) (by omega)).mono ?_;rintro e w3 ⟨rfl,hb⟩;have HBA:=hideC (HBA.out.trans (hb.mono HBA.out.size));clear hb)
      go_roundw
      case rel=>exact ⟨k + 1,by omega,by go_num,by rw [HNX.out],HBA.out⟩
      case measure=>simp [intOf];omega
    · obtain rfl : k = fs.length:=by omega
      go_wp2
      go_ret2
      exact ⟨ret_sn (by rw [HN.out]) (by rw [HN.out]),HBr.out⟩
 · have hs' : LM.sheetB ⟨pg,dt,fs,ao,cap⟩ = false:=by simpa using hs
   have HN : Hid (LM.fillN ⟨pg,dt,fs,ao,cap⟩ = (⟨#[]⟩,1)):=by
    show _ = _
    unfold LM.fillN
    rw [if_neg hs]
   rw [hs'] at HR
   clear hs hs'
   rw [HN.out]
   go_enter Tryz.func148,Tryz.ntmps148
   go_wp2_with (go_at_call 146;refine (HR.out _ HB.out).mono ?_;rintro e w1 ⟨rfl,hb⟩;have HB:=hideC (HB.out.trans (hb.mono HB.out.size));clear hb)
   go_ret2
   exact ⟨rfl,HB.out⟩
end LW
namespace KW
open Go.RowKit
open FW (hideC add_below)
def cellFr (f : KM.Fr) : List Value:=[.string f.data,.int .i64 f.refs,.bool f.dirty,.bool f.seen]
def cellSl (f : KM.Sl) : List Value:=[.string f.data,.int .i64 f.refs]
def cellEn (e : KM.En) : List Value:=[.int .i64 e.page,.int .i64 e.kind,.int .i64 e.loc]
def Lies {α : Type} (f : α -> List Value) (k : Nat) (d : α) (w : World) (b off : Nat) (l : List α) : Prop:=∀ i,i < l.length -> ∀ j,j < k -> w.cell? ⟨b,off + i * k + j,none⟩ = (f (l.getD i d))[j]?
def HasRow {α : Type} (f : α -> List Value) (k : Nat) (d : α) (w : World) (ao : Option Addr) (l : List α) : Prop:=M.HasBy (Lies f k d) w ao l
theorem HasRow.below {α : Type} {f : α -> List Value} {k : Nat} {d : α} {w w' : World} {ao : Option Addr} {l : List α} (h : HasRow f k d w ao l) (hb : Below w.heap.size w w') : HasRow f k d w' ao l :=
 M.HasBy.below (lie:=Lies f k d) (fun hb hlt h i hi j hj=>(M.below_cell hb hlt).trans (h i hi j hj)) h hb
def LieSp (w : World) (b off : Nat) (l : List KM.Sp) : Prop:=∀ i,i < l.length -> ∃ va ap cp,w.cell? ⟨b,off + i * 3,none⟩ = some (.bool (KM.spAt l i).live) /\ w.cell? ⟨b,off + i * 3 + 1,none⟩ = some va /\ w.cell? ⟨b,off + i * 3 + 2,none⟩ = some (.slice ap (KM.spAt l i).ents.length cp) /\ AW.Has w va (KM.spAt l i).areas /\ HasRow cellEn 3 KM.en0 w ap (KM.spAt l i).ents /\ (KM.spAt l i).ents.length <= cp
theorem lieSp {w w' : World} {b off : Nat} {l : List KM.Sp} (hb : Below w.heap.size w w') (hlt : b < w.heap.size) (h : LieSp w b off l) : LieSp w' b off l:=fun i hi=>by
 obtain ⟨va,ap,cp,c0,c1,c2,c3,c4,c5⟩:=h i hi
 exact ⟨va,ap,cp,(M.below_cell hb hlt).trans c0,(M.below_cell hb hlt).trans c1,(M.below_cell hb hlt).trans c2,c3.below hb,c4.below hb,c5⟩
def HasSp (w : World) (ao : Option Addr) (l : List KM.Sp) : Prop:=M.HasBy LieSp w ao l
theorem HasSp.below {w w' : World} {ao : Option Addr} {l : List KM.Sp} (h : HasSp w ao l) (hb : Below w.heap.size w w') : HasSp w' ao l:=M.HasBy.below (lie:=LieSp) (fun hb hlt h=>lieSp hb hlt h) h hb
structure KAt where
 aS : Option Addr
 cS : Nat
 aF : Option Addr
 cF : Nat
 aL : Option Addr
 cL : Nat
 aP : Option Addr
 cP : Nat
structure HasK (w : World) (a : KAt) (k : KM.Kn) : Prop where
 sheets : LM.HasH w a.aS k.sheets
 frames : HasRow cellFr 4 KM.fr0 w a.aF k.frames
 slots : HasRow cellSl 2 KM.sl0 w a.aL k.slots
 spaces : HasSp w a.aP k.spaces
theorem HasK.below {w w' : World} {a : KAt} {k : KM.Kn} (h : HasK w a k) (hb : Below w.heap.size w w') : HasK w' a k:=⟨h.sheets.below hb,h.frames.below hb,h.slots.below hb,h.spaces.below hb⟩
def cellsK (a : KAt) (k : KM.Kn) : Array Value:=#[.slice a.aS k.sheets.length a.cS,.slice a.aF k.frames.length a.cF,.slice a.aL k.slots.length a.cL,.slice a.aP k.spaces.length a.cP,.int .i64 k.hand]
structure FitSp (s : KM.Sp) : Prop where
 areas : AW.AllFit s.areas
 ents : M.Short s.ents.length
 ent : ∀ i,i < s.ents.length -> M.I64 (KM.enAt s.ents i).page /\ M.I64 (KM.enAt s.ents i).kind /\ M.I64 (KM.enAt s.ents i).loc
structure FitK (k : KM.Kn) : Prop where
 sheets : LM.FitHs k.sheets
 nf : M.Short k.frames.length
 fr : ∀ i,i < k.frames.length -> M.Short (KM.frAt k.frames i).data.size /\ M.I64 (KM.frAt k.frames i).refs
 ns : M.Short k.slots.length
 sl : ∀ i,i < k.slots.length -> M.Short (KM.slAt k.slots i).data.size /\ M.I64 (KM.slAt k.slots i).refs
 np : M.Short k.spaces.length
 sp : ∀ i,i < k.spaces.length -> FitSp (KM.spAt k.spaces i)
 hand : M.I64 k.hand
set_option maxHeartbeats 4000000 in
theorem counts_any (vS vF vL vP : Option Addr) (nS cS nF cF nL cL nP cP : Nat) (hd : Value) (w : World) :
  Calls Tryz.prog 109 #[.agg #[.slice vS nS cS,.slice vF nF cF,.slice vL nL cL,.slice vP nP cP,hd]] w fun e w'=>e = .returned (.bool (decide ((3 <= nF /\ nF <= 64) /\ nL <= 512 /\ (1 <= nP /\ nP <= 4) /\ nS <= 255))) /\ Below w.heap.size w w':=by
 obtain ⟨A,hA⟩ : ∃ A,A = decide ((3 <= nF /\ nF <= 64) /\ nL <= 512 /\ (1 <= nP /\ nP <= 4) /\ nS <= 255):=⟨_,rfl⟩
 rw [<- hA]
 have HA:=hideC hA
 clear hA
 rcases (show ¬ (3 : Int) <= nF ∨ ((3 : Int) <= nF /\ ¬ (nF : Int) <= 64) ∨ ((3 : Int) <= nF /\ (nF : Int) <= 64 /\ ¬ (nL : Int) <= 512) ∨ ((3 : Int) <= nF /\ (nF : Int) <= 64 /\ (nL : Int) <= 512 /\ ¬ (1 : Int) <= nP) ∨ ((3 : Int) <= nF /\ (nF : Int) <= 64 /\ (nL : Int) <= 512 /\ (1 : Int) <= nP /\ ¬ (nP : Int) <= 4) ∨ ((3 : Int) <= nF /\ (nF : Int) <= 64 /\ (nL : Int) <= 512 /\ (1 : Int) <= nP /\ (nP : Int) <= 4 /\ ¬ (nS : Int) <= 255) ∨ ((3 : Int) <= nF /\ (nF : Int) <= 64 /\ (nL : Int) <= 512 /\ (1 : Int) <= nP /\ (nP : Int) <= 4 /\ (nS : Int) <= 255) by omega) with g | ⟨g,g1⟩ | ⟨g,g1,g2⟩ | ⟨g,g1,g2,g3⟩ | ⟨g,g1,g2,g3,g4⟩ | ⟨g,g1,g2,g3,g4,g5⟩ | ⟨g,g1,g2,g3,g4,g5⟩
 all_goals
  go_enter Tryz.func109,Tryz.ntmps109
  go_wp2
  go_ret
  exact ⟨congrArg (fun b=>Ending.returned (.bool b)) (by rw [HA.out];simp;omega),(Below.refl _ _).alloc (Nat.le_refl _) _⟩
end KW
end Go.Proofs.YtpgifpeohlllfaaGreat
