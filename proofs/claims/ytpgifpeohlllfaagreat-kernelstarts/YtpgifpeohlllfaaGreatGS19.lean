import Derived.Test.YtpgifpeohlllfaaGreatGS00
import Derived.Test.YtpgifpeohlllfaaGreatGS17
import Derived.Test.YtpgifpeohlllfaaGreatGS16
import Derived.Test.YtpgifpeohlllfaaGreatGS13
set_option maxHeartbeats 20000000
set_option linter.unusedVariables false
set_option maxRecDepth 100000
set_option linter.unusedSimpArgs false
namespace Go.Proofs.YtpgifpeohlllfaaGreat
namespace KX
open Go.RowKit GK KO
open FW (ai aB)
open KW (bE bD aK aZ fu cI aJ dN bT)
open KS (Lc bJ oY dC blk cU)
def gh (lo mb:Nat) (tt:TypeId) (X:List Value) (w:World) (S:St) (v:Value) (k':KM.Kn) (e:Ending) (w':World):Prop:=e=.returned v/\∃S',Km lo mb tt X w' S' k'/\Ch S w S' w'
def nD (lo mb:Nat) (tt:TypeId) (X:List Value) (w:World) (S:St) (v:Value) (k':KM.Kn) (e:Ending) (w':World):Prop:=e=.returned v/\Km lo mb tt X w' S k'/\Ch S w S w'
theorem uL {lo mb:Nat} {tt:TypeId} {X:List Value} (k:KM.Kn) (S:St) (w:World) (e:KM.En) (d:Int) (h:Km lo mb tt X w S k) (h1:e.kind=1->0<=e.loc/\e.loc<(k.frames.length:Int)) (h2:e.kind≠1->0<=e.loc/\e.loc<(k.slots.length:Int)) (hd:d=1∨d=-1)
  (hr:(e.kind=1->-1000000<=(KM.aI k.frames e.loc.toNat).refs/\(KM.aI k.frames e.loc.toNat).refs<=1000000)/\(e.kind≠1->-1000000<=(KM.bG k.slots e.loc.toNat).refs/\(KM.bG k.slots e.loc.toNat).refs<=1000000)) :
  Calls Tryz.prog 85 #[.pointer (some (Ad mb 0)),dN e,I d] w (nD lo mb tt X w S (.tuple #[]) (KM.gD k e d)):=by
 obtain⟨pg,kd,lc⟩:=e
 unfold dN
 simp only at h1 h2 hr ⊢
 have bW:=ai ((Below.refl w.heap.size w).alloc (Nat.le_refl _) (.cells #[I pg,I kd,I lc] 45))
 have EB:=ai (B.new w #[I pg,I kd,I lc] 45)
 have HM:=ai (h.below bW.o)
 have HC0:Hid (Ch S w S (w.alloc (.cells #[I pg,I kd,I lc] 45))):=Ch.below bW.o
 by_cases c:kd=1
 · obtain⟨i,rfl⟩:∃i:Nat,lc=(i:Int):=⟨lc.toNat,by have:=h1 c;omega⟩
   have hi:i<k.frames.length:=by have:=h1 c;omega
   obtain⟨fb,cF,A⟩:=HM.o.toKr.fr (by omega)
   have UR:=hr.1 c
   rw[Int.toNat_natCast] at UR
   have x1:=A.x1 i hi
   have x0:=A.x0 i hi
   have x2:=A.x2 i hi
   have x3:=A.x3 i hi
   have f0:=A.fz (i*4)
   have f1:=A.fz (i*4+1)
   have f2:=A.fz (i*4+2)
   have f3:=A.fz (i*4+3)
   have c1:=HM.o.c1
   rw[A.v] at c1
   have e0:(w.alloc (.cells #[I pg,I kd,I (i:Int)] 45)).cell? (Ad w.heap.size 1)=some (I kd):=B.cell EB.o 1 rfl
   have e2:(w.alloc (.cells #[I pg,I kd,I (i:Int)] 45)).cell? (Ad w.heap.size 2)=some (I (i:Int)):=B.cell EB.o 2 rfl
   have Ba:(i:Int)<(k.frames.length:Int):=by omega
   have bw:Hid (∀V,(∃f,V=((w.alloc (.cells #[I pg,I kd,I (i:Int)] 45)).setCell (Ad fb (i*4+1)) (I ((KM.aI k.frames i).refs+d))).drew/\f=KM.aI k.frames i/\¬f.refs+d=0)∨(∃f,f=KM.aI k.frames i/\f.refs+d=0/\V=((((((w.alloc (.cells #[I pg,I kd,I (i:Int)] 45)).setCell (Ad fb (i*4+1)) (I ((KM.aI k.frames i).refs+d))).setCell (Ad fb (i*4)) (.string ⟨#[]⟩)).setCell (Ad fb (i*4+1)) (I 0)).setCell (Ad fb (i*4+2)) (.bool false)).setCell (Ad fb (i*4+3)) (.bool false)).drew)->nD lo mb tt X w S (.tuple #[]) (KM.gD k ⟨pg,kd,(i:Int)⟩ d) (.returned (.tuple #[])) V):=fun V hV=>by
    have hk:KM.gD k ⟨pg,kd,(i:Int)⟩ d={ k with frames:=k.frames.set i (KM.E0 (KM.aI k.frames i) d) }:=by
     unfold KM.gD
     rw[if_pos c,Int.toNat_natCast]
    rw[hk]
    have HD:=HM.o
    have CD:=HC0.o
    have P8:∀V:World,Below V.heap.size V V.drew:=fun V=>(Below.refl _ _).drew
    have m1:=HD.uh A.v hi (j:=1) (by omega) (f:=⟨(KM.aI k.frames i).data,(KM.aI k.frames i).refs+d,(KM.aI k.frames i).b9,(KM.aI k.frames i).seen⟩) (u:=I ((KM.aI k.frames i).refs+d)) rfl
    have Vy:=CD.trans (Pe HD.toKr A.v (i:=i*4+1) (u:=I ((KM.aI k.frames i).refs+d)))
    rcases hV with⟨f,rfl,rfl,hz⟩ | ⟨f,rfl,hz,rfl⟩
    · unfold KM.E0
      rw[if_neg hz]
      exact⟨rfl,m1.below (P8 _),Vy.trans (Ch.below (P8 _))⟩
    · unfold KM.E0
      rw[if_pos hz]
      have m2:=m1.NI A.v (i:=i) (by simpa using hi) KM.kY
      simp only[List.set_set] at m2
      exact⟨rfl,m2.1.below (P8 _),(Vy.trans m2.2).trans (Ch.below (P8 _))⟩
   obtain⟨P,hP⟩:=ex (nD lo mb tt X w S (.tuple #[]) (KM.gD k ⟨pg,kd,(i:Int)⟩ d))
   rw[<- hP] at bw ⊢
   obtain⟨F,hF⟩:=ex (KM.aI k.frames i)
   rw[<- hF] at x0 x1 x2 x3 UR bw
   obtain⟨n,hn⟩:=ex k.frames.length
   rw[<- hn] at c1 Ba
   have kb:(kd==1)=true:=by simpa using c
   have hw:IntKind.i64.wrap (F.refs+d)=F.refs+d:=IntWalk.i64_in _ (by omega)
   have HHF:=ai hF
   have hin:i<n:=by omega
   have FC:n<=140737488351232∨True:=.inr trivial
   clear h1 h2 hr h hP hF hn HM HC0 A EB bW c hd UR FC hi
   by_cases z:F.refs+d=0
   · have zb:(F.refs+d==0)=true:=by simpa using z
     have HZ:=ai z
     clear z
     go_enter Tryz.func85,Tryz.ntmps85
     go_upto_region 2 with fail
     go_region
     go_wp2
     refine bodyPost_ret (v:=.tuple #[]) (by simp[results,Tryz.results85,go_sem]) rfl ?_
     exact bw.o _ (.inr ⟨F,rfl,HZ.o,rfl⟩)
   · have zb:(F.refs+d==0)=false:=by simpa using z
     have HZ:=ai z
     clear z
     go_enter Tryz.func85,Tryz.ntmps85
     go_upto_region 2 with fail
     go_region
     go_wp2
     refine bodyPost_ret (v:=.tuple #[]) (by simp[results,Tryz.results85,go_sem]) rfl ?_
     exact bw.o _ (.inl ⟨F,rfl,rfl,HZ.o⟩)
 · obtain⟨i,rfl⟩:∃i:Nat,lc=(i:Int):=⟨lc.toNat,by have:=h2 c;omega⟩
   have hi:i<k.slots.length:=by have:=h2 c;omega
   obtain⟨fb,cF,A⟩:=HM.o.toKr.sl (by omega)
   have UR:=hr.2 c
   rw[Int.toNat_natCast] at UR
   have x1:=A.x1 i hi
   have x0:=A.x0 i hi
   have f0:=A.fz (i*2)
   have f1:=A.fz (i*2+1)
   have c1:=HM.o.c2
   rw[A.v] at c1
   have e0:(w.alloc (.cells #[I pg,I kd,I (i:Int)] 45)).cell? (Ad w.heap.size 1)=some (I kd):=B.cell EB.o 1 rfl
   have e2:(w.alloc (.cells #[I pg,I kd,I (i:Int)] 45)).cell? (Ad w.heap.size 2)=some (I (i:Int)):=B.cell EB.o 2 rfl
   have Ba:(i:Int)<(k.slots.length:Int):=by omega
   have bw:Hid (∀V,(∃f,V=((w.alloc (.cells #[I pg,I kd,I (i:Int)] 45)).setCell (Ad fb (i*2+1)) (I ((KM.bG k.slots i).refs+d))).drew/\f=KM.bG k.slots i/\¬f.refs+d=0)∨(∃f,f=KM.bG k.slots i/\f.refs+d=0/\V=((((w.alloc (.cells #[I pg,I kd,I (i:Int)] 45)).setCell (Ad fb (i*2+1)) (I ((KM.bG k.slots i).refs+d))).setCell (Ad fb (i*2)) (.string ⟨#[]⟩)).setCell (Ad fb (i*2+1)) (I 0)).drew)->nD lo mb tt X w S (.tuple #[]) (KM.gD k ⟨pg,kd,(i:Int)⟩ d) (.returned (.tuple #[])) V):=fun V hV=>by
    have hk:KM.gD k ⟨pg,kd,(i:Int)⟩ d={ k with slots:=k.slots.set i (KM.EZ (KM.bG k.slots i) d) }:=by
     unfold KM.gD
     rw[if_neg c,Int.toNat_natCast]
    rw[hk]
    have HD:=HM.o
    have CD:=HC0.o
    have P8:∀V:World,Below V.heap.size V V.drew:=fun V=>(Below.refl _ _).drew
    have m1:=HD.MS A.v hi (j:=1) (by omega) (f:=⟨(KM.bG k.slots i).data,(KM.bG k.slots i).refs+d⟩) (u:=I ((KM.bG k.slots i).refs+d)) rfl
    have Vy:=CD.trans (chL HD.toKr A.v (i:=i*2+1) (u:=I ((KM.bG k.slots i).refs+d)))
    rcases hV with⟨f,rfl,rfl,hz⟩ | ⟨f,rfl,hz,rfl⟩
    · unfold KM.EZ
      rw[if_neg hz]
      exact⟨rfl,m1.below (P8 _),Vy.trans (Ch.below (P8 _))⟩
    · unfold KM.EZ
      rw[if_pos hz]
      have m2:=m1.XM A.v (i:=i) (by simpa using hi) KM.sS
      simp only[List.set_set] at m2
      exact⟨rfl,m2.1.below (P8 _),(Vy.trans m2.2).trans (Ch.below (P8 _))⟩
   obtain⟨P,hP⟩:=ex (nD lo mb tt X w S (.tuple #[]) (KM.gD k ⟨pg,kd,(i:Int)⟩ d))
   rw[<- hP] at bw ⊢
   obtain⟨F,hF⟩:=ex (KM.bG k.slots i)
   rw[<- hF] at x0 x1 UR bw
   obtain⟨n,hn⟩:=ex k.slots.length
   rw[<- hn] at c1 Ba
   have kb:(kd==1)=false:=by simpa using c
   have hw:IntKind.i64.wrap (F.refs+d)=F.refs+d:=IntWalk.i64_in _ (by omega)
   have HHF:=ai hF
   have hin:i<n:=by omega
   clear h1 h2 hr h hP hF hn HM HC0 A EB bW c hd UR hi
   by_cases z:F.refs+d=0
   · have zb:(F.refs+d==0)=true:=by simpa using z
     have HZ:=ai z
     clear z
     go_enter Tryz.func85,Tryz.ntmps85
     go_upto_region 6 with fail
     go_region
     go_wp2
     refine bodyPost_end (v:=.tuple #[]) (by simp[results,Tryz.results85,go_sem]) rfl ?_
     exact bw.o _ (.inr ⟨F,rfl,HZ.o,rfl⟩)
   · have zb:(F.refs+d==0)=false:=by simpa using z
     have HZ:=ai z
     clear z
     go_enter Tryz.func85,Tryz.ntmps85
     go_upto_region 6 with fail
     go_region
     go_wp2
     refine bodyPost_end (v:=.tuple #[]) (by simp[results,Tryz.results85,go_sem]) rfl ?_
     exact bw.o _ (.inl ⟨F,rfl,rfl,HZ.o⟩)
def jQ (held:List Int) (k:KM.Kn) (i:Nat):KM.Kn:=if held.contains (i:Int) then k else { k with frames:=k.frames.set i (KM.unseen (KM.aI k.frames i)) }
theorem Gt {lo mb:Nat} {tt:TypeId} {X:List Value} (k:KM.Kn) (S:St) (w:World) (i:Nat) (held:List Int) (ah:Option Addr) (ch:Nat) (h:Km lo mb tt X w S k) (hi:i<k.frames.length) (hh:aZ bT 1 0 w ah held) (hl:held.length<=1000000) :
  Calls Tryz.prog 188 #[.pointer (some (Ad mb 0)),I (i:Int),.slice ah held.length ch] w (nD lo mb tt X w S (.bool (held.contains (i:Int) || (KM.aI k.frames i).seen)) (jQ held k i)):=by
 obtain⟨fb,cF,A⟩:=h.toKr.fr (by omega)
 have Uc:=ai (KW.nB held (i:Int) ah ch w hh hl)
 have x3:=A.x3 i hi
 have f3:=A.fz (i*4+3)
 have c1:=h.c1
 rw[A.v] at c1
 have Ba:(i:Int)<(k.frames.length:Int):=by omega
 rw[<- List.contains_eq_mem] at Uc
 cases hc:held.contains (i:Int) with
 | true =>
  have bw:Hid (nD lo mb tt X w S (.bool (true || (KM.aI k.frames i).seen)) (jQ held k i) (.returned (.bool true)) w):=⟨by simp,by unfold jQ;rw[if_pos hc];exact h,Ch.refl _ _⟩
  rw[hc] at Uc
  obtain⟨P,hP⟩:=ex (nD lo mb tt X w S (.bool (true || (KM.aI k.frames i).seen)) (jQ held k i))
  rw[<- hP] at bw ⊢
  clear hP hc hh h A hi hl x3 f3 c1 Ba
  go_enter Tryz.func188,Tryz.ntmps188
  go_wp2_with (go_at_call 95;refine Uc.o.mono ?_;rintro e w1 ⟨rfl,rfl⟩)
  exact bw.o
 | false =>
  have bw:Hid (nD lo mb tt X w S (.bool (false || (KM.aI k.frames i).seen)) (jQ held k i) (.returned (.bool (KM.aI k.frames i).seen)) (w.setCell (Ad fb (i*4+3)) (.bool false))):=⟨by simp,by
   unfold jQ
   rw[if_neg (by rw[hc];simp)]
   exact h.uh A.v hi (j:=3) (by omega) rfl,Pe h.toKr A.v⟩
  rw[hc] at Uc
  obtain⟨P,hP⟩:=ex (nD lo mb tt X w S (.bool (false || (KM.aI k.frames i).seen)) (jQ held k i))
  rw[<- hP] at bw ⊢
  obtain⟨F,hF⟩:=ex (KM.aI k.frames i)
  rw[<- hF] at x3 bw
  obtain⟨n,hn⟩:=ex k.frames.length
  rw[<- hn] at c1 Ba
  clear hP hc hh h A hi hl hF hn
  go_enter Tryz.func188,Tryz.ntmps188
  go_wp2_with (go_at_call 95;refine Uc.o.mono ?_;rintro e w1 ⟨rfl,rfl⟩)
  exact bw.o
theorem tq {lo mb:Nat} {tt:TypeId} {X:List Value} (k:KM.Kn) (S:St) (w:World) (h:Km lo mb tt X w S k) (hh:0<=k.hand/\k.hand<k.frames.length) (hn:k.frames.length<=1000000) :
  Calls Tryz.prog 189 #[.pointer (some (Ad mb 0))] w (nD lo mb tt X w S (.tuple #[]) { k with hand:=KM.gA k }):=by
 obtain⟨fb,cF,A⟩:=h.toKr.fr (by omega)
 have P8:Below w.heap.size w w.drew:=(Below.refl _ _).drew
 have bw:Hid (∀x,x=KM.gA k->nD lo mb tt X w S (.tuple #[]) { k with hand:=KM.gA k } (.returned (.tuple #[])) (w.setCell (Ad mb 4) (I x)).drew):=fun x hx=>by
  rw[hx]
  have:=h.QG (KM.gA k)
  exact⟨rfl,this.1.below (Below.refl _ _).drew,this.2.trans (Ch.below (Below.refl _ _).drew)⟩
 have hm:(k.hand+1).tmod (k.frames.length:Int)=KM.gA k:=by
  unfold KM.gA
  rw[Int.tmod_eq_emod_of_nonneg (by omega)]
 have c1:=h.c1
 rw[A.v] at c1
 have c4:=h.c4
 have f4:=h.free 4
 obtain⟨P,hP⟩:=ex (nD lo mb tt X w S (.tuple #[]) { k with hand:=KM.gA k })
 rw[<- hP] at bw ⊢
 obtain⟨NX,hNX⟩:=ex (KM.gA k)
 rw[<- hNX] at bw hm
 obtain⟨hd,CJ⟩:=ex k.hand
 rw[<- CJ] at c4 hh hm
 obtain⟨n,hne⟩:=ex k.frames.length
 rw[<- hne] at c1 hh hm hn
 have hw:IntKind.i64.wrap (hd+1)=hd+1:=IntWalk.i64_in _ (by omega)
 have hn0:¬(n:Int)=0:=by omega
 have hnb:((n:Int)==0)=false:=by rw[beq_eq_false_iff_ne];exact hn0
 have hNb:-9223372036854775808<=NX/\NX<=9223372036854775807:=by
  have h1:0<=(hd+1).tmod (n:Int):=Int.tmod_nonneg _ (by omega)
  have h2:(hd+1).tmod (n:Int)<(n:Int):=Int.tmod_lt_of_pos _ (by omega)
  omega
 have hw2:IntKind.i64.wrap NX=NX:=IntWalk.i64_in _ hNb
 clear hP hNX CJ hne h A
 go_enter Tryz.func189,Tryz.ntmps189
 go_region
 all_goals go_wp2
 all_goals refine bodyPost_end (v:=.tuple #[]) (by simp[results,Tryz.results189,go_sem]) rfl ?_
 all_goals exact bw.o _ rfl
end KX
namespace KI
open Go.RowKit GK
open KW (aK)
open KS (blk gV)
open FW (ai aB)
theorem fE (l:KM.En):(aK l).length=3:=rfl
theorem DG (w:World):(sizeOf 45).run Tryz.prog w=.ok 3 w:=by kernel_rfl
theorem Xt (w:World):(zeroValue 45).run Tryz.prog w=.ok (.agg #[I 0,I 0,I 0]) w:=by kernel_rfl
def kJ (lo:Nat) (vp:Value) (l:List KM.En) (w:World) (e:Ending) (w':World):Prop:=∃v',e=.returned v'/\w'.ownsRow lo 45 3 v' l.length (l.flatMap aK)/\Kp (blk vp) w w'/\(∀b,blk v' b->blk vp b∨w.heap.size<=b)
theorem fA {α:Type} {w:World} {lo:Nat} {e:TypeId} {k n:Nat} {ao:Option Addr} {cap:Nat} {xs:List Value} (h:w.ownsRow lo e k (.slice ao n cap) n xs):From w ao n xs:=fun hm=>by
 rcases h.2 with⟨h0,h1⟩ | ⟨g,cap',cur,hv,_,hg,_,_,_,ht⟩
 · omega
 · injection hv with e1 e2 e3
   refine⟨(Ad g 0),e1,fun j u hu=>?_⟩
   rw[Addr.add_lit,Nat.zero_add,cell_of_row w g j cur e (0,0) hg]
   rw[<- ht,List.getElem?_take] at hu
   split at hu
   · simpa using hu
   · cases hu
theorem GV (lo:Nat) (ps zs:List KM.En) (ao az:Option Addr) (cap cz wz:Nat) (w:World) (h:w.ownsRow lo 45 3 (.slice ao ps.length cap) ps.length (ps.flatMap aK)) (hz:w.ownsRow wz 45 3 (.slice az zs.length cz) zs.length (zs.flatMap aK)) (hlo:lo<=w.heap.size) (hm:1<=zs.length) (hn:ps.length<=100000) (q9:zs.length<=100000) :
  Calls Tryz.prog 192 #[.slice ao ps.length cap,I (ps.length:Int),.slice az zs.length cz] w (kJ lo (.slice ao ps.length cap) (ps++zs) w):=by
 have HH:=ai h
 have HF:=ai (fA (α:=Unit) hz)
 have HL:=ai (bH aK 3 fE zs)
 have H1:=ai (gV zs)
 obtain⟨_,_,e0,xk,_⟩:=aQ h
 injection e0 with e1 e2 e3
 subst e3
 obtain⟨n,hne⟩:=ex ps.length
 obtain⟨m,hme⟩:=ex zs.length
 have bw:Hid (∀v' (w':World),w'.ownsRow lo 45 3 v' (n+m) (ps.flatMap aK++zs.flatMap aK)->Kp (blk (.slice ao n cap)) w w'->(∀b,blk v' b->blk (.slice ao n cap) b∨w.heap.size<=b)->kJ lo (.slice ao n cap) (ps++zs) w (.returned v') w'):=fun v' w' h1 h2 h3=>⟨v',rfl,by rw[List.length_append,List.flatMap_append,<- hne,<- hme];exact h1,h2,h3⟩
 rw[<- hne] at HH hn xk ⊢
 rw[<- hme] at HF HL hm q9 ⊢
 obtain⟨P,hP⟩:=ex (kJ lo (.slice ao n cap) (ps++zs) w)
 rw[<- hP] at bw ⊢
 obtain⟨XS,Mb⟩:=ex (ps.flatMap aK)
 obtain⟨ZS,P6⟩:=ex (zs.flatMap aK)
 rw[<- Mb] at HH bw
 rw[<- P6] at HF HL H1 bw
 obtain⟨i0,hin,hz0,hz1,hz2⟩:=info_parts yF
 have qI:=ai hin
 have wS:=ai hz0
 have wR:=ai hz1
 have uO:=ai hz2
 have hm0:((m:Int)==0)=false:=by rw[beq_eq_false_iff_ne];omega
 clear h hz hne hme hP Mb P6 hin hz0 hz1 hz2 e1 e2
 go_enter Tryz.func192,Tryz.ntmps192
 go_wp2_with (at_builtin;refine bQ (P:=Tryz.prog) rfl _ _ 41 rfl lo 45 i0 (.agg #[I 0,I 0,I 0]) 3 24 Tryz.underlying41 qI.o wS.o wR.o uO.o rfl (by decide) (.slice ao n cap) n XS rfl HH.o az m cz ZS rfl HL.o HF.o H1.o (by unfold maxLen;omega) (by omega) hlo ?_;intro v' w' hown hgr hat;have pj:=ai hown;have HG2:=ai hgr;have kg:=ai hat;clear hown hgr hat)
 all_goals
  refine bw.o _ _ pj.o (Kp.grown HG2.o (fun _ e=>e)) (fun b hb=>?_)
  unfold blk at hb ⊢
  rcases kg.o with e | e
  · exact .inl (by rw[<- e];exact hb)
  · right
    rw[e] at hb
    injection hb with hb
    omega
theorem take_left' {α:Type} (a b:List α) (n:Nat) (h:a.length=n):(a++b).take n=a:=by subst h;exact List.take_left
theorem drop_left' {α:Type} (a b:List α) (n:Nat) (h:a.length=n):(a++b).drop n=b:=by subst h;exact List.drop_left
theorem JU {α:Type} (R Y X:List α) (a b:Nat) (hb:b=a+Y.length) (h:b+X.length<=R.length):(splice (splice R a Y) b X).take (b+X.length)=R.take a++(Y++X):=by
 subst hb
 have h1:(splice R a Y).take (a+Y.length)=R.take a++Y:=by
  unfold splice
  rw[<- List.append_assoc]
  exact take_left' _ _ _ (by rw[List.length_append,List.length_take];omega)
 unfold splice at h1 ⊢
 rw[h1,<- List.append_assoc,List.append_assoc (R.take a) Y X]
 exact take_left' _ _ _ (by rw[List.length_append,List.length_take,List.length_append];omega)
theorem DD {α:Type} (R Y X:List α) (a b:Nat) (hb:b=a+Y.length) (h:b+X.length<=R.length):(splice (splice R b X) a Y).take (b+X.length)=R.take a++(Y++X):=by
 subst hb
 have h1:(splice R (a+Y.length) X).take a=R.take a:=by
  unfold splice
  rw[List.take_append_of_le_length (by rw[List.length_take];omega),List.take_take,Nat.min_eq_left (by omega)]
 have h2:(splice R (a+Y.length) X).drop (a+Y.length)=X++R.drop (a+Y.length+X.length):=by
  unfold splice
  exact drop_left' _ _ _ (by rw[List.length_take];omega)
 have h3:splice (splice R (a+Y.length) X) a Y=R.take a++(Y++(X++R.drop (a+Y.length+X.length))):=by
  rw[<- h2,<- h1]
  rfl
 rw[h3,<- List.append_assoc,<- List.append_assoc,List.append_assoc (R.take a) Y X]
 exact take_left' _ _ _ (by rw[List.length_append,List.length_take,List.length_append];omega)
theorem Bp (ps:List KM.En) (i:Nat):(ps.flatMap aK).drop (i*3)=(ps.drop i).flatMap aK:=by
 induction ps generalizing i with
 | nil=>simp
 | cons a r ih =>
  cases i with
  | zero=>simp
  | succ i =>
   rw[List.flatMap_cons,List.drop_succ_cons,<- ih i,show(i+1)*3=i*3+3 by omega]
   rfl
theorem ud (ps:List KM.En) (i:Nat):(ps.flatMap aK).take (i*3)=(ps.take i).flatMap aK:=by
 induction ps generalizing i with
 | nil=>simp
 | cons a r ih =>
  cases i with
  | zero=>simp
  | succ i =>
   rw[List.flatMap_cons,List.take_succ_cons,List.flatMap_cons,<- ih i,show(i+1)*3=i*3+3 by omega]
   rfl
theorem ug (w:World) (g:Nat) (cs:Array Value):Kp (fun b=>b=g) w (w.setRow g cs):=⟨rfl,rfl,rfl,by simp[World.setRow],fun b _ hn=>setRow_other w g b cs hn⟩
theorem CC (lo:Nat) (ps zs:List KM.En) (pb zb cap cz wz i:Nat) (w:World) (h:w.ownsRow lo 45 3 (.slice (some (Ad pb 0)) ps.length cap) ps.length (ps.flatMap aK)) (hz:w.ownsRow wz 45 3 (.slice (some (Ad zb 0)) zs.length cz) zs.length (zs.flatMap aK)) (hne:zb≠pb) (hi:i<ps.length) (hm:1<=zs.length) (hn:ps.length<=100000) (q9:zs.length<=100000) (hroom:ps.length+zs.length<=cap) :
  Calls Tryz.prog 192 #[.slice (some (Ad pb 0)) ps.length cap,I (i:Int),.slice (some (Ad zb 0)) zs.length cz] w (kJ lo (.slice (some (Ad pb 0)) ps.length cap) (ps.take i++(zs++ps.drop i)) w):=by
 have LV:=ai (fA (α:=Unit) hz)
 have pk:=ai (fA (α:=Unit) h)
 have H1:=ai (gV zs)
 have Qs:=ai (gV ps)
 obtain⟨cur,hcz,U8,hcs,hct,hlo,hcm⟩:∃cur:Array Value,cur.size=cap*3/\w.heap[pb]?=some (.cells cur 45 (0,0))/\cap<=maxLen/\cur.toList.take (ps.length*3)=ps.flatMap aK/\lo<=pb/\ps.length<=cap:=by
  rcases h.2 with⟨h0,_⟩ | ⟨g,cap',cur,hv,hb,hg,h1,h2,h3,h4⟩
  · cases h0
  · injection hv with e1 e2 e3
    injection e1 with e1
    injection e1 with e1 _ _
    subst e1 e3
    exact⟨cur,h3,hg,h2,h4,hb,h1⟩
 obtain⟨Mw,hzg,abO⟩:∃Mw:Array Value,w.heap[zb]?=some (.cells Mw 45 (0,0))/\0<Mw.size:=by
  rcases hz.2 with⟨h0,_⟩ | ⟨g,cap',zc,hv,hb,hg,h1,h2,h3,h4⟩
  · cases h0
  · injection hv with e1 e2 e3
    injection e1 with e1
    injection e1 with e1 _ _
    subst e1
    exact⟨zc,hg,by rw[h3];omega⟩
 have hlx:=bH aK 3 fE ps
 have G7:=bH aK 3 fE zs
 obtain⟨R,hR⟩:=ex cur.toList
 have OH:R.length=cap*3:=by rw[hR];simpa using hcz
 have hRg:w.heap[pb]?=some (.cells R.toArray 45 (0,0)):=by rw[hR];simpa using U8
 rw[<- hR] at hct
 obtain⟨n,Ab⟩:=ex ps.length
 obtain⟨m,hme⟩:=ex zs.length
 obtain⟨XS,Mb⟩:=ex (ps.flatMap aK)
 obtain⟨ZS,P6⟩:=ex (zs.flatMap aK)
 rw[<- P6] at LV H1 G7
 rw[<- Mb] at pk hlx hct Qs
 rw[<- hme] at LV G7 hm q9 hroom ⊢
 rw[<- Ab] at pk hlx hct hi hn hroom hcm ⊢
 obtain⟨DS,OP⟩:=ex (XS.drop (i*3))
 have hDl:DS.length=(n-i)*3:=by rw[OP,List.length_drop,hlx];omega
 obtain⟨R1,tX⟩:=ex (splice R ((i+m)*3) DS)
 have CO:R1.length=cap*3:=by rw[tX,length_splice _ _ _ (by rw[hDl,OH];omega)];exact OH
 obtain⟨R2,CN⟩:=ex (splice R1 (i*3) ZS)
 have Hf:R2.length=cap*3:=by rw[CN,length_splice _ _ _ (by rw[G7,CO];omega)];exact CO
 have OI:R2.take ((n+m)*3)=XS.take (i*3)++(ZS++DS):=by
  have:=DD R ZS DS (i*3) ((i+m)*3) (by rw[G7];omega) (by rw[hDl,OH];omega)
  rw[<- tX,<- CN,hDl,show(i+m)*3+(n-i)*3=(n+m)*3 by omega] at this
  rw[this,<- hct,List.take_take,Nat.min_eq_left (by omega)]
 have Ou:∀ty dc sc,(Builtin.copy_ #[41,41] ty #[.slice (some (Ad pb ((i+m)*3))) (n+m-(i+m)) dc,.slice (some (Ad pb (i*3))) (n+m-i) sc]).run Tryz.prog w.drew=.ok (goInt (n-i)) (w.drew.setRow pb R1.toArray):=fun ty dc sc=>by
  have:=kK (P:=Tryz.prog) w.drew 41 41 ty 45 3 Tryz.underlying41 DG pb ((i+m)*3) (n+m-(i+m)) dc (some (Ad pb (i*3))) (n+m-i) sc R 45 hRg DS (by rw[hDl];simp only[Nat.min_def];split <;> omega) (fun _=>⟨_,rfl,fun j u hu=>by
   obtain⟨ad,e,hc⟩:=pk.o (by omega)
   injection e with e
   subst e
   have:=hc (i*3+j) u (by rw[OP,List.getElem?_drop] at hu;exact hu)
   rw[Addr.add_lit] at this ⊢
   rw[Nat.zero_add] at this
   exact this⟩) (by rw[hDl,OH];omega) (fun u hu=>Qs.o u (by rw[OP] at hu;exact List.mem_of_mem_drop hu))
  rw[this,<- tX]
  congr 2
  simp only[Nat.min_def];split <;> omega
 have hg1:(w.drew.setRow pb R1.toArray).heap[pb]?=some (.cells R1.toArray 45 (0,0)):=setRow_heap w.drew pb _ _ _ _ hRg
 obtain⟨W1,hW1⟩:=ex (w.drew.setRow pb R1.toArray)
 rw[<- hW1] at Ou hg1
 have UJ:Kp (fun b=>b=pb) w W1:=by rw[hW1];exact(Kp.drew _ w).trans (ug w.drew pb R1.toArray) (fun _ _ g=>g)
 have Ve:∀ty dc,(Builtin.copy_ #[41,41] ty #[.slice (some (Ad pb (i*3))) (n+m-i) dc,.slice (some (Ad zb 0)) m cz]).run Tryz.prog W1=.ok (goInt m) (W1.setRow pb R2.toArray):=fun ty dc=>by
  have:=kK (P:=Tryz.prog) W1 41 41 ty 45 3 Tryz.underlying41 DG pb (i*3) (n+m-i) dc (some (Ad zb 0)) m cz R1 45 hg1 ZS (by rw[G7];simp only[Nat.min_def];split <;> omega) (fun _=>⟨_,rfl,fun j u hu=>by
   obtain⟨ad,e,hc⟩:=LV.o (by omega)
   injection e with e
   subst e
   have:=hc j u hu
   exact UJ.cell this (by rw[Addr.add_lit];exact hne)⟩) (by rw[G7,CO];omega) H1.o
  rw[this,<- CN]
  congr 2
  simp only[Nat.min_def];split <;> omega
 have hg2:(W1.setRow pb R2.toArray).heap[pb]?=some (.cells R2.toArray 45 (0,0)):=setRow_heap W1 pb _ _ _ _ hg1
 have bw:Hid (kJ lo (.slice (some (Ad pb 0)) n cap) (ps.take i++(zs++ps.drop i)) w (.returned (.slice (some (Ad pb 0)) (n+m) cap)) (W1.setRow pb R2.toArray)):=by
  have hl:(ps.take i++(zs++ps.drop i)).length=n+m:=by rw[List.length_append,List.length_append,List.length_take,List.length_drop,<- Ab,<- hme];omega
  refine⟨_,rfl,?_,(UJ.trans (ug W1 pb _) (fun _ _ g=>g)).mono (fun b _ e=>by rw[e];rfl),fun b hb=>.inl hb⟩
  rw[hl]
  have hx:(ps.take i++(zs++ps.drop i)).flatMap aK=R2.take ((n+m)*3):=by
   rw[OI,Mb,P6,OP,Mb,ud,Bp,List.flatMap_append,List.flatMap_append]
  rw[hx]
  exact⟨by rw[List.length_take,Hf];omega,.inr ⟨pb,cap,R2.toArray,rfl,hlo,hg2,hroom,hcs,by simpa using Hf,by simp⟩⟩
 obtain⟨P,hP⟩:=ex (kJ lo (.slice (some (Ad pb 0)) n cap) (ps.take i++(zs++ps.drop i)) w)
 rw[<- hP] at bw ⊢
 have hov:∀lb cb,(callFunc 205 #[.slice (some (Ad zb 0)) m cz,.slice (some (Ad pb ((i+m)*3))) lb cb]).run Tryz.prog w=.ok (.value (.bool false)) w:=fun lb cb=>by
  rw[run_callFunc_extern Tryz.func205 (by kernel_rfl) (by kernel_rfl) (by kernel_rfl) (e:=Extern.SlicesOverlaps.overlaps #[41,41] #[4]) (by kernel_rfl),
   Lib.run_overlaps_apart w 41 4 45 Tryz.underlying41 3 DG (Ad zb 0) (Ad pb ((i+m)*3)) m cz lb cb hne 45 45 Mw.size cur.size (by simp[World.shape?,hzg]) (by simp[World.shape?,U8]) (by omega) (B.free hzg 0) (B.free hzg Mw.size)]
  rfl
 have hm0:((m:Int)==0)=false:=by rw[beq_eq_false_iff_ne];omega
 have hi0:((i:Int)==(n:Int))=false:=by rw[beq_eq_false_iff_ne];omega
 have hw1:IntKind.i64.wrap ((i:Int)+(m:Int))=(i:Int)+(m:Int):=IntWalk.i64_in _ (by omega)
 have hb1:(0:Int)<=(i:Int)+(m:Int):=by omega
 have hin:i<=n:=by omega
 have htn:((i:Int)+(m:Int)).toNat=i+m:=by omega
 have hb2:¬(cap=i+m):=by omega
 have hb3:(i:Int)<=(n:Int)+(m:Int):=by omega
 have hb4:¬(cap=i):=by omega
 have hr2:¬((cap:Int)<(n:Int)+(m:Int)):=by omega
 have YL:cap<=9223372036854775807:=by unfold maxLen at hcs;omega
 clear h hz Ab hme Mb P6 OP hDl tX CN hW1 hR OH hRg CO Hf OI hlx G7 hct U8 hcz hzg abO hP hg1 hg2 UJ LV pk H1 Qs hcs
 go_enter Tryz.func192,Tryz.ntmps192
 go_wp2_with (simp only[hov])
 go_region_law (refine zN rfl _ _ 41 41 rfl _ _ (by simp[Act.eval,Act.put]) (by simp[Act.eval,Act.put]) (Ou _ _ _) ?_)
 go_wp2_with (at_builtin;refine wk _ rfl _ _ 41 41 rfl _ _ rfl rfl (Ve _ _) ?_)
 exact bw.o
theorem Eo (lo:Nat) (ps zs:List KM.En) (pb zb cap cz wz i:Nat) (w:World) (h:w.ownsRow lo 45 3 (.slice (some (Ad pb 0)) ps.length cap) ps.length (ps.flatMap aK)) (hz:w.ownsRow wz 45 3 (.slice (some (Ad zb 0)) zs.length cz) zs.length (zs.flatMap aK)) (hlo:lo<=w.heap.size) (hi:i<ps.length) (hm:1<=zs.length) (hn:ps.length<=100000) (q9:zs.length<=100000) (hroom:cap<ps.length+zs.length) :
  Calls Tryz.prog 192 #[.slice (some (Ad pb 0)) ps.length cap,I (i:Int),.slice (some (Ad zb 0)) zs.length cz] w (kJ lo (.slice (some (Ad pb 0)) ps.length cap) (ps.take i++(zs++ps.drop i)) w):=by
 have LV:=ai (fA (α:=Unit) hz)
 have pk:=ai (fA (α:=Unit) h)
 have H1:=ai (gV zs)
 have Qs:=ai (gV ps)
 have hpb:pb<w.heap.size:=(h.lt pb rfl).2
 have hzb:zb<w.heap.size:=(hz.lt zb rfl).2
 have hcm:ps.length<=cap:=by
  obtain⟨_,_,e0,hcm,_⟩:=aQ h
  injection e0 with _ _ e3
  omega
 have hlx:=bH aK 3 fE ps
 have G7:=bH aK 3 fE zs
 obtain⟨n,Ab⟩:=ex ps.length
 obtain⟨m,hme⟩:=ex zs.length
 obtain⟨XS,Mb⟩:=ex (ps.flatMap aK)
 obtain⟨ZS,P6⟩:=ex (zs.flatMap aK)
 rw[<- P6] at LV H1 G7
 rw[<- Mb] at pk hlx Qs
 rw[<- hme] at LV G7 hm q9 hroom ⊢
 rw[<- Ab] at pk hlx hi hn hroom hcm ⊢
 obtain⟨i0,hin,hz0,hz1,hz2⟩:=info_parts yF
 have hold:(Builtin.firstCells i0.size i (.slice (some (Ad pb 0)) i cap)).run Tryz.prog w.drew=.ok (XS.take (i*3)).toArray w.drew:=by
  rw[hz1]
  exact run_firstCells_some w.drew 3 i (Ad pb 0) i cap (XS.take (i*3)) (by rw[List.length_take,hlx];omega) (fun j u hu=>by
   rw[List.getElem?_take] at hu
   split at hu
   · obtain⟨ad,e,hc⟩:=pk.o (by omega)
     injection e with e
     subst e
     exact hc j u hu
   · cases hu)
 have hik:i+(n+m-i)=n+m:=by omega
 have hkk:(n:Int)+(m:Int)-(i:Int)=((n+m-i:Nat):Int):=by omega
 obtain⟨G,hG⟩:=ex (grownCap w (n+m) cap 45)
 obtain⟨R,hR⟩:∃R:List Value,R=XS.take (i*3)++fp [I 0,I 0,I 0] (n+m-i)++fp [I 0,I 0,I 0] (G-(n+m)):=⟨_,rfl⟩
 have hGn:n+m<=G:=by rw[hG];exact grownCap_ge w _ _ _
 have Vq:G<=maxLen:=by rw[hG];exact grownCap_le_maxLen w (n+m) cap _ (by unfold maxLen;omega)
 have OH:R.length=G*3:=by
  rw[hR,List.length_append,List.length_append,fy,fy,List.length_take,hlx]
  simp only[List.length_cons,List.length_nil]
  omega
 have hRt:R.take (i*3)=XS.take (i*3):=by
  rw[hR,List.append_assoc]
  exact take_left' _ _ _ (by rw[List.length_take,hlx];omega)
 have hrz:∀ty,(Builtin.append_ #[41,3] ty #[.slice (some (Ad pb 0)) i cap,I ((n:Int)+(m:Int)-(i:Int))]).run Tryz.prog w=.ok (.slice (some (Ad w.heap.size 0)) (n+m) G) (w.drew.alloc (.cells R.toArray 45)):=fun ty=>by
  have h:=Lib.run_append_grow_zeros (P:=Tryz.prog) w 41 3 ty 45 i0 _ .i64 .i64 Tryz.underlying41 Tryz.underlying3 hin hz0 (some (Ad pb 0)) i cap (XS.take (i*3)) hold (n+m-i) (by omega) (by omega) (by omega) (by omega) (by rw[hz2];omega) (by rw[hz2,hik];exact growslice_fits hroom (by omega))
  rw[hik,<- hG] at h
  rw[hkk,h]
  congr 3
  rw[hR]
  have e1:=rC (Value.cells (.agg #[I 0,I 0,I 0])) (n+m-i) (by decide)
  have e2:=rC (Value.cells (.agg #[I 0,I 0,I 0])) (G-(n+m)) (by decide)
  apply Array.toList_inj.1
  rw[Array.toList_append,Array.toList_append,e1,e2]
  rfl
 have hg0:(w.drew.alloc (.cells R.toArray 45)).heap[w.heap.size]?=some (.cells R.toArray 45 (0,0)):=B.new w.drew _ _
 obtain⟨W0,hW0⟩:=ex (w.drew.alloc (.cells R.toArray 45))
 rw[<- hW0] at hrz hg0
 have kp0:Below w.heap.size w W0:=by rw[hW0];exact(Below.refl _ _).drew.alloc (Nat.le_refl _) _
 obtain⟨H,hH⟩:=ex w.heap.size
 rw[<- hH] at hrz hg0 hlo
 obtain⟨DS,OP⟩:=ex (XS.drop (i*3))
 have hDl:DS.length=(n-i)*3:=by rw[OP,List.length_drop,hlx];omega
 obtain⟨R1,tX⟩:=ex (splice R (i*3) ZS)
 have CO:R1.length=G*3:=by rw[tX,length_splice _ _ _ (by rw[G7,OH];omega)];exact OH
 obtain⟨R2,CN⟩:=ex (splice R1 ((i+m)*3) DS)
 have Hf:R2.length=G*3:=by rw[CN,length_splice _ _ _ (by rw[hDl,CO];omega)];exact CO
 have OI:R2.take ((n+m)*3)=XS.take (i*3)++(ZS++DS):=by
  have:=JU R ZS DS (i*3) ((i+m)*3) (by rw[G7];omega) (by rw[hDl,OH];omega)
  rw[<- tX,<- CN,hDl,show(i+m)*3+(n-i)*3=(n+m)*3 by omega] at this
  rw[this,hRt]
 have Ou:∀ty dc,(Builtin.copy_ #[41,41] ty #[.slice (some (Ad H (i*3))) (n+m-i) dc,.slice (some (Ad zb 0)) m cz]).run Tryz.prog W0=.ok (goInt m) (W0.setRow H R1.toArray):=fun ty dc=>by
  have:=kK (P:=Tryz.prog) W0 41 41 ty 45 3 Tryz.underlying41 DG H (i*3) (n+m-i) dc (some (Ad zb 0)) m cz R 45 hg0 ZS (by rw[G7];simp only[Nat.min_def];split <;> omega) (fun _=>⟨_,rfl,fun j u hu=>by
   obtain⟨ad,e,hc⟩:=LV.o (by omega)
   injection e with e
   subst e
   have:=hc j u hu
   rw[Addr.add_lit] at this ⊢
   exact(kp0.cell (p:=(Ad zb (0+j))) hzb).trans this⟩) (by rw[G7,OH];omega) H1.o
  rw[this,<- tX]
  congr 2
  simp only[Nat.min_def];split <;> omega
 have hg1:(W0.setRow H R1.toArray).heap[H]?=some (.cells R1.toArray 45 (0,0)):=setRow_heap W0 H _ _ _ _ hg0
 obtain⟨W1,hW1⟩:=ex (W0.setRow H R1.toArray)
 rw[<- hW1] at Ou hg1
 have UJ:Below w.heap.size w W1:=by rw[hW1];exact below_setRow kp0 (by omega) _
 have Ve:∀ty dc sc,(Builtin.copy_ #[41,41] ty #[.slice (some (Ad H ((i+m)*3))) (n+m-(i+m)) dc,.slice (some (Ad pb (i*3))) (n-i) sc]).run Tryz.prog W1.drew=.ok (goInt (n-i)) (W1.drew.setRow H R2.toArray):=fun ty dc sc=>by
  have:=kK (P:=Tryz.prog) W1.drew 41 41 ty 45 3 Tryz.underlying41 DG H ((i+m)*3) (n+m-(i+m)) dc (some (Ad pb (i*3))) (n-i) sc R1 45 hg1 DS (by rw[hDl];simp only[Nat.min_def];split <;> omega) (fun _=>⟨_,rfl,fun j u hu=>by
   obtain⟨ad,e,hc⟩:=pk.o (by omega)
   injection e with e
   subst e
   have:=hc (i*3+j) u (by rw[OP,List.getElem?_drop] at hu;exact hu)
   rw[Addr.add_lit] at this ⊢
   rw[Nat.zero_add] at this
   exact(UJ.cell (p:=(Ad pb (i*3+j))) hpb).trans this⟩) (by rw[hDl,CO];omega) (fun u hu=>Qs.o u (by rw[OP] at hu;exact List.mem_of_mem_drop hu))
  rw[this,<- CN]
  congr 2
  simp only[Nat.min_def];split <;> omega
 have hg2:(W1.drew.setRow H R2.toArray).heap[H]?=some (.cells R2.toArray 45 (0,0)):=setRow_heap W1.drew H _ _ _ _ hg1
 have kp2:Below w.heap.size w (W1.drew.setRow H R2.toArray):=below_setRow UJ.drew (by omega) _
 have bw:Hid (kJ lo (.slice (some (Ad pb 0)) n cap) (ps.take i++(zs++ps.drop i)) w (.returned (.slice (some (Ad H 0)) (n+m) G)) (W1.drew.setRow H R2.toArray)):=by
  have hl:(ps.take i++(zs++ps.drop i)).length=n+m:=by rw[List.length_append,List.length_append,List.length_take,List.length_drop,<- Ab,<- hme];omega
  refine⟨_,rfl,?_,Kp.aY kp2,fun b hb=>.inr (by have:some H=some b:=hb;injection this;omega)⟩
  rw[hl]
  have hx:(ps.take i++(zs++ps.drop i)).flatMap aK=R2.take ((n+m)*3):=by
   rw[OI,Mb,P6,OP,Mb,ud,Bp,List.flatMap_append,List.flatMap_append]
  rw[hx]
  exact⟨by rw[List.length_take,Hf];omega,.inr ⟨H,G,R2.toArray,rfl,hlo,hg2,hGn,Vq,by simpa using Hf,by simp⟩⟩
 obtain⟨P,hP⟩:=ex (kJ lo (.slice (some (Ad pb 0)) n cap) (ps.take i++(zs++ps.drop i)) w)
 rw[<- hP] at bw ⊢
 have hm0:((m:Int)==0)=false:=by rw[beq_eq_false_iff_ne];omega
 have aiu:((i:Int)==(n:Int))=false:=by rw[beq_eq_false_iff_ne];omega
 have hw1:IntKind.i64.wrap ((i:Int)+(m:Int))=(i:Int)+(m:Int):=IntWalk.i64_in _ (by omega)
 have hb1:(0:Int)<=(i:Int)+(m:Int):=by omega
 have ais:i<=n:=by omega
 have htn:((i:Int)+(m:Int)).toNat=i+m:=by omega
 have hb2:¬(G=i+m):=by omega
 have hb3:(i:Int)<=(n:Int):=by omega
 have hb4:¬(cap=i):=by omega
 have vA:¬(G=i):=by omega
 have hr2:(cap:Int)<(n:Int)+(m:Int):=by omega
 have YL:G<=9223372036854775807:=by unfold maxLen at Vq;omega
 clear h hz Ab hme Mb P6 OP hDl tX CN hW1 hW0 hR OH hRt CO Hf OI hlx G7 hP hg0 hg1 hg2 kp0 UJ kp2 LV pk H1 Qs Vq hG hH hold hin hz0 hz1 hz2 hik hkk
 go_enter Tryz.func192,Tryz.ntmps192
 go_wp2_with (first
  | (at_builtin;refine Lib.wpList_append_run _ rfl _ _ _ _ rfl _ _ rfl rfl _ _ (hrz _) ?_)
  | (at_builtin;refine wk _ rfl _ _ 41 41 rfl _ _ rfl rfl (Ou _ _) ?_))
 go_region_law (refine zN rfl _ _ 41 41 rfl _ _ (by simp[Act.eval,Act.put]) (by simp[Act.eval,Act.put]) (Ve _ _ _) ?_)
 go_wp2
 exact bw.o
theorem GX (lo:Nat) (ps zs:List KM.En) (vp vz:Value) (wz i:Nat) (w:World) (h:w.ownsRow lo 45 3 vp ps.length (ps.flatMap aK)) (hz:w.ownsRow wz 45 3 vz zs.length (zs.flatMap aK)) (hlo:lo<=w.heap.size) (hne:∀b,blk vz b->¬blk vp b) (hi:i<=ps.length) (hm:1<=zs.length) (hn:ps.length<=100000) (q9:zs.length<=100000) :
  Calls Tryz.prog 192 #[vp,I (i:Int),vz] w (kJ lo vp (ps.take i++(zs++ps.drop i)) w):=by
 obtain⟨ao,cap,rfl,xk,hg⟩:=aQ h
 obtain⟨az,cz,rfl,_,hgz⟩:=aQ hz
 by_cases c:i=ps.length
 · subst c
   have e:ps.take ps.length++(zs++ps.drop ps.length)=ps++zs:=by rw[List.take_length,List.drop_length,List.append_nil]
   rw[e]
   exact GV lo ps zs ao az cap cz wz w h hz hlo hm hn q9
 · obtain⟨pb,rfl,_,_⟩:=hg (by omega)
   obtain⟨zb,rfl,_,_⟩:=hgz (by omega)
   by_cases d:ps.length+zs.length<=cap
   · exact CC lo ps zs pb zb cap cz wz i w h hz (fun e=>hne zb rfl (by rw[e];rfl)) (by omega) hm hn q9 d
   · exact Eo lo ps zs pb zb cap cz wz i w h hz hlo (by omega) hm hn q9 (by omega)
end KI
end Go.Proofs.YtpgifpeohlllfaaGreat
