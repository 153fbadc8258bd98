import Derived.Test.YtpgifpeohlllfaaGreatGP00
import Derived.Test.YtpgifpeohlllfaaGreatGP20
import Derived.Test.YtpgifpeohlllfaaGreatGP19
set_option maxHeartbeats 20000000
set_option linter.unusedVariables false
set_option maxRecDepth 100000
set_option linter.unusedSimpArgs false
namespace Go.Proofs.YtpgifpeohlllfaaGreat
namespace KI
open Go.RowKit GK
open KW (aI)
open KS (blk gw)
open FW (ai aC)
theorem CQ (lo:Nat) (ps zs:List KM.En) (pb zb cap cz wz i:Nat) (w:World) (h:w.ownsRow lo 45 3 (.slice (some (Ad pb 0)) ps.length cap) ps.length (ps.flatMap aI)) (hz:w.ownsRow wz 45 3 (.slice (some (Ad zb 0)) zs.length cz) zs.length (zs.flatMap aI)) (hlo:lo<=w.heap.size) (hi:i<ps.length) (hm:1<=zs.length) (hn:ps.length<=100000) (qK:zs.length<=100000) (hroom:cap<ps.length+zs.length) :
  Calls Tryz.prog 192 #[.slice (some (Ad pb 0)) ps.length cap,I (i:Int),.slice (some (Ad zb 0)) zs.length cz] w (jV lo (.slice (some (Ad pb 0)) ps.length cap) (ps.take i++(zs++ps.drop i)) w):=by
 have QB:=ai (iC (α:=Unit) hz)
 have pQ:=ai (iC (α:=Unit) h)
 have H1:=ai (gw zs)
 have Od:=ai (gw ps)
 have hpb:pb<w.heap.size:=(h.lt pb rfl).2
 have hzb:zb<w.heap.size:=(hz.lt zb rfl).2
 have hcm:ps.length<=cap:=by
  obtain⟨_,_,e0,hcm,_⟩:=aR h
  injection e0 with _ _ e3
  omega
 have hlx:=bG aI 3 eQ ps
 have E5:=bG aI 3 eQ zs
 obtain⟨n,yt⟩:=ex ps.length
 obtain⟨m,hme⟩:=ex zs.length
 obtain⟨XS,J4⟩:=ex (ps.flatMap aI)
 obtain⟨ZS,NR⟩:=ex (zs.flatMap aI)
 rw[<- NR] at QB H1 E5
 rw[<- J4] at pQ hlx Od
 rw[<- hme] at QB E5 hm qK hroom ⊢
 rw[<- yt] at pQ hlx hi hn hroom hcm ⊢
 obtain⟨i0,hin,hz0,hz1,hz2⟩:=info_parts AJ
 have hold:(Builtin.firstCells i0.size i (.slice (some (Ad pb 0)) i cap)).run Tryz.prog w.drew=.ok (XS.take (i*3)).toArray w.drew:=by
  rw[hz1]
  exact run_firstCells_some w.drew 3 i (Ad pb 0) i cap (XS.take (i*3)) (by rw[List.length_take,hlx];omega) (fun j u hu=>by
   rw[List.getElem?_take] at hu
   split at hu
   · obtain⟨ad,e,hc⟩:=pQ.o (by omega)
     injection e with e
     subst e
     exact hc j u hu
   · cases hu)
 have hik:i+(n+m-i)=n+m:=by omega
 have hkk:(n:Int)+(m:Int)-(i:Int)=((n+m-i:Nat):Int):=by omega
 obtain⟨G,hG⟩:=ex (grownCap w (n+m) cap 45)
 obtain⟨R,hR⟩:∃R:List Value,R=XS.take (i*3)++eD [I 0,I 0,I 0] (n+m-i)++eD [I 0,I 0,I 0] (G-(n+m)):=⟨_,rfl⟩
 have hGn:n+m<=G:=by rw[hG];exact grownCap_ge w _ _ _
 have Tb:G<=maxLen:=by rw[hG];exact grownCap_le_maxLen w (n+m) cap _ (by unfold maxLen;omega)
 have Mu:R.length=G*3:=by
  rw[hR,List.length_append,List.length_append,eJ,eJ,List.length_take,hlx]
  simp only[List.length_cons,List.length_nil]
  omega
 have hRt:R.take (i*3)=XS.take (i*3):=by
  rw[hR,List.append_assoc]
  exact take_left' _ _ _ (by rw[List.length_take,hlx];omega)
 have Zl:∀ty,(Builtin.append_ #[41,3] ty #[.slice (some (Ad pb 0)) i cap,I ((n:Int)+(m:Int)-(i:Int))]).run Tryz.prog w=.ok (.slice (some (Ad w.heap.size 0)) (n+m) G) (w.drew.alloc (.cells R.toArray 45)):=fun ty=>by
  have h:=Lib.run_append_grow_zeros (P:=Tryz.prog) w 41 3 ty 45 i0 _ .i64 .i64 Tryz.underlying41 Tryz.underlying3 hin hz0 (some (Ad pb 0)) i cap (XS.take (i*3)) hold (n+m-i) (by omega) (by omega) (by omega) (by omega) (by rw[hz2];omega) (by rw[hz2,hik];exact growslice_fits hroom (by omega))
  rw[hik,<- hG] at h
  rw[hkk,h]
  congr 3
  rw[hR]
  have e1:=qm (Value.cells (.agg #[I 0,I 0,I 0])) (n+m-i) (by decide)
  have e2:=qm (Value.cells (.agg #[I 0,I 0,I 0])) (G-(n+m)) (by decide)
  apply Array.toList_inj.1
  rw[Array.toList_append,Array.toList_append,e1,e2]
  rfl
 have hg0:(w.drew.alloc (.cells R.toArray 45)).heap[w.heap.size]?=some (.cells R.toArray 45 (0,0)):=B.new w.drew _ _
 obtain⟨W0,hW0⟩:=ex (w.drew.alloc (.cells R.toArray 45))
 rw[<- hW0] at Zl hg0
 have Y3:Below w.heap.size w W0:=by rw[hW0];exact(Below.refl _ _).drew.alloc (Nat.le_refl _) _
 obtain⟨H,hH⟩:=ex w.heap.size
 rw[<- hH] at Zl hg0 hlo
 obtain⟨DS,MB⟩:=ex (XS.drop (i*3))
 have hDl:DS.length=(n-i)*3:=by rw[MB,List.length_drop,hlx];omega
 obtain⟨R1,sH⟩:=ex (splice R (i*3) ZS)
 have A4:R1.length=G*3:=by rw[sH,length_splice _ _ _ (by rw[E5,Mu];omega)];exact Mu
 obtain⟨R2,A3⟩:=ex (splice R1 ((i+m)*3) DS)
 have Fa:R2.length=G*3:=by rw[A3,length_splice _ _ _ (by rw[hDl,A4];omega)];exact A4
 have Mv:R2.take ((n+m)*3)=XS.take (i*3)++(ZS++DS):=by
  have:=Ib R ZS DS (i*3) ((i+m)*3) (by rw[E5];omega) (by rw[hDl,Mu];omega)
  rw[<- sH,<- A3,hDl,show(i+m)*3+(n-i)*3=(n+m)*3 by omega] at this
  rw[this,hRt]
 have Mm:∀ty dc,(Builtin.copy_ #[41,41] ty #[.slice (some (Ad H (i*3))) (n+m-i) dc,.slice (some (Ad zb 0)) m cz]).run Tryz.prog W0=.ok (goInt m) (W0.setRow H R1.toArray):=fun ty dc=>by
  have:=jY (P:=Tryz.prog) W0 41 41 ty 45 3 Tryz.underlying41 Cc H (i*3) (n+m-i) dc (some (Ad zb 0)) m cz R 45 hg0 ZS (by rw[E5];simp only[Nat.min_def];split <;> omega) (fun _=>⟨_,rfl,fun j u hu=>by
   obtain⟨ad,e,hc⟩:=QB.o (by omega)
   injection e with e
   subst e
   have:=hc j u hu
   rw[Addr.add_lit] at this ⊢
   exact(Y3.cell (p:=(Ad zb (0+j))) hzb).trans this⟩) (by rw[E5,Mu];omega) H1.o
  rw[this,<- sH]
  congr 2
  simp only[Nat.min_def];split <;> omega
 have hg1:(W0.setRow H R1.toArray).heap[H]?=some (.cells R1.toArray 45 (0,0)):=setRow_heap W0 H _ _ _ _ hg0
 obtain⟨W1,hW1⟩:=ex (W0.setRow H R1.toArray)
 rw[<- hW1] at Mm hg1
 have Sq:Below w.heap.size w W1:=by rw[hW1];exact below_setRow Y3 (by omega) _
 have SZ:∀ty dc sc,(Builtin.copy_ #[41,41] ty #[.slice (some (Ad H ((i+m)*3))) (n+m-(i+m)) dc,.slice (some (Ad pb (i*3))) (n-i) sc]).run Tryz.prog W1.drew=.ok (goInt (n-i)) (W1.drew.setRow H R2.toArray):=fun ty dc sc=>by
  have:=jY (P:=Tryz.prog) W1.drew 41 41 ty 45 3 Tryz.underlying41 Cc H ((i+m)*3) (n+m-(i+m)) dc (some (Ad pb (i*3))) (n-i) sc R1 45 hg1 DS (by rw[hDl];simp only[Nat.min_def];split <;> omega) (fun _=>⟨_,rfl,fun j u hu=>by
   obtain⟨ad,e,hc⟩:=pQ.o (by omega)
   injection e with e
   subst e
   have:=hc (i*3+j) u (by rw[MB,List.getElem?_drop] at hu;exact hu)
   rw[Addr.add_lit] at this ⊢
   rw[Nat.zero_add] at this
   exact(Sq.cell (p:=(Ad pb (i*3+j))) hpb).trans this⟩) (by rw[hDl,A4];omega) (fun u hu=>Od.o u (by rw[MB] at hu;exact List.mem_of_mem_drop hu))
  rw[this,<- A3]
  congr 2
  simp only[Nat.min_def];split <;> omega
 have hg2:(W1.drew.setRow H R2.toArray).heap[H]?=some (.cells R2.toArray 45 (0,0)):=setRow_heap W1.drew H _ _ _ _ hg1
 have kp2:Below w.heap.size w (W1.drew.setRow H R2.toArray):=below_setRow Sq.drew (by omega) _
 have bh:Hid (jV lo (.slice (some (Ad pb 0)) n cap) (ps.take i++(zs++ps.drop i)) w (.returned (.slice (some (Ad H 0)) (n+m) G)) (W1.drew.setRow H R2.toArray)):=by
  have hl:(ps.take i++(zs++ps.drop i)).length=n+m:=by rw[List.length_append,List.length_append,List.length_take,List.length_drop,<- yt,<- hme];omega
  refine⟨_,rfl,?_,Kp.aW kp2,fun b hb=>.inr (by have:some H=some b:=hb;injection this;omega)⟩
  rw[hl]
  have hx:(ps.take i++(zs++ps.drop i)).flatMap aI=R2.take ((n+m)*3):=by
   rw[Mv,J4,NR,MB,J4,sM,zJ,List.flatMap_append,List.flatMap_append]
  rw[hx]
  exact⟨by rw[List.length_take,Fa];omega,.inr ⟨H,G,R2.toArray,rfl,hlo,hg2,hGn,Tb,by simpa using Fa,by simp⟩⟩
 obtain⟨P,hP⟩:=ex (jV lo (.slice (some (Ad pb 0)) n cap) (ps.take i++(zs++ps.drop i)) w)
 rw[<- hP] at bh ⊢
 have hm0:((m:Int)==0)=false:=by rw[beq_eq_false_iff_ne];omega
 have aeP:((i:Int)==(n:Int))=false:=by rw[beq_eq_false_iff_ne];omega
 have hw1:IntKind.i64.wrap ((i:Int)+(m:Int))=(i:Int)+(m:Int):=IntWalk.i64_in _ (by omega)
 have hb1:(0:Int)<=(i:Int)+(m:Int):=by omega
 have aeN:i<=n:=by omega
 have htn:((i:Int)+(m:Int)).toNat=i+m:=by omega
 have hb2:¬(G=i+m):=by omega
 have hb3:(i:Int)<=(n:Int):=by omega
 have hb4:¬(cap=i):=by omega
 have rW:¬(G=i):=by omega
 have hr2:(cap:Int)<(n:Int)+(m:Int):=by omega
 have VK:G<=9223372036854775807:=by unfold maxLen at Tb;omega
 clear h hz yt hme J4 NR MB hDl sH A3 hW1 hW0 hR Mu hRt A4 Fa Mv hlx E5 hP hg0 hg1 hg2 Y3 Sq kp2 QB pQ H1 Od Tb hG hH hold hin hz0 hz1 hz2 hik hkk
 go_enter Tryz.func192,Tryz.ntmps192
 go_wp2_with (first
  | (at_builtin;refine Lib.wpList_append_run _ rfl _ _ _ _ rfl _ _ rfl rfl _ _ (Zl _) ?_)
  | (at_builtin;refine uR _ rfl _ _ 41 41 rfl _ _ rfl rfl (Mm _ _) ?_))
 go_region_law (refine x8 rfl _ _ 41 41 rfl _ _ (by simp[Act.eval,Act.put]) (by simp[Act.eval,Act.put]) (SZ _ _ _) ?_)
 go_wp2
 exact bh.o
theorem EU (lo:Nat) (ps zs:List KM.En) (vp vz:Value) (wz i:Nat) (w:World) (h:w.ownsRow lo 45 3 vp ps.length (ps.flatMap aI)) (hz:w.ownsRow wz 45 3 vz zs.length (zs.flatMap aI)) (hlo:lo<=w.heap.size) (hne:∀b,blk vz b->¬blk vp b) (hi:i<=ps.length) (hm:1<=zs.length) (hn:ps.length<=100000) (qK:zs.length<=100000) :
  Calls Tryz.prog 192 #[vp,I (i:Int),vz] w (jV lo vp (ps.take i++(zs++ps.drop i)) w):=by
 obtain⟨ao,cap,rfl,yw,hg⟩:=aR h
 obtain⟨az,cz,rfl,_,hgz⟩:=aR hz
 by_cases c:i=ps.length
 · subst c
   have e:ps.take ps.length++(zs++ps.drop ps.length)=ps++zs:=by rw[List.take_length,List.drop_length,List.append_nil]
   rw[e]
   exact ET lo ps zs ao az cap cz wz w h hz hlo hm hn qK
 · obtain⟨pb,rfl,_,_⟩:=hg (by omega)
   obtain⟨zb,rfl,_,_⟩:=hgz (by omega)
   by_cases d:ps.length+zs.length<=cap
   · exact AG lo ps zs pb zb cap cz wz i w h hz (fun e=>hne zb rfl (by rw[e];rfl)) (by omega) hm hn qK d
   · exact CQ lo ps zs pb zb cap cz wz i w h hz hlo (by omega) hm hn qK (by omega)
end KI
namespace KI
open Go.RowKit GK
open KW (aI)
open KS (blk gw)
open KW (aU)
open FW (ai aC)
theorem Fm (l:List KM.En) (i:Nat) (h:i<l.length):l[i]?=some (KM.aJ l i):=by
 unfold KM.aJ
 rw[List.getD_eq_getElem?_getD,List.getElem?_eq_getElem h]
 rfl
structure Gg (p:KM.En->Bool) (ps q:List KM.En) (i j:Nat):Prop where
 len:q.length=ps.length
 lt:i<j
 le:j<=ps.length
 front:q.take i=(ps.take j).filter (fun g=>!p g)
 back:q.drop j=ps.drop j
theorem mY (l:List KM.En) (j:Nat) (h:j<l.length):l.take (j+1)=l.take j++[KM.aJ l j]:=by
 rw[List.take_add_one,Fm l j h]
 rfl
theorem Gg.start {p:KM.En->Bool} {ps:List KM.En} {i:Nat} (hi:i<ps.length) (hg:p (KM.aJ ps i)=true) (hno:∀j,j<i->p (KM.aJ ps j)=false):Gg p ps ps i (i+1):=by
 refine⟨rfl,by omega,hi,?_,rfl⟩
 have:∀k,k<=i->(ps.take k).filter (fun g=>!p g)=ps.take k:=fun k=>by
  induction k with
  | zero=>intro _;simp
  | succ k ih =>
   intro hk
   rw[mY ps k (by omega),List.filter_append,ih (by omega)]
   simp[hno k (by omega)]
 rw[mY ps i hi,List.filter_append,this i (Nat.le_refl _)]
 simp[hg]
theorem Gg.at {p:KM.En->Bool} {ps q:List KM.En} {i j:Nat} (h:Gg p ps q i j) (hj:j<ps.length):KM.aJ q j=KM.aJ ps j:=by
 have e:(q.drop j)[0]?=(ps.drop j)[0]?:=by rw[h.back]
 rw[List.getElem?_drop,List.getElem?_drop,Nat.add_zero,Fm q j (by rw[h.len];exact hj),Fm ps j hj] at e
 injection e
theorem Gg.skip {p:KM.En->Bool} {ps q:List KM.En} {i j:Nat} (h:Gg p ps q i j) (hj:j<ps.length) (hg:p (KM.aJ ps j)=true):Gg p ps q i (j+1):=by
 refine⟨h.len,by have:=h.lt;omega,hj,?_,?_⟩
 · rw[mY ps j hj,List.filter_append,h.front]
   simp[hg]
 · rw[<- List.drop_drop,<- List.drop_drop,h.back]
theorem Gg.keep {p:KM.En->Bool} {ps q:List KM.En} {i j:Nat} (h:Gg p ps q i j) (hj:j<ps.length) (hg:p (KM.aJ ps j)=false):Gg p ps (q.set i (KM.aJ ps j)) (i+1) (j+1):=by
 have hlt:=h.lt
 have DV:=h.len
 refine⟨by rw[List.length_set];exact h.len,by omega,hj,?_,?_⟩
 · rw[mY ps j hj,List.filter_append,<- h.front,mY _ i (by rw[List.length_set];omega)]
   have e1:(q.set i (KM.aJ ps j)).take i=q.take i:=by
    rw[List.take_set,List.set_eq_of_length_le (by rw[List.length_take];omega)]
   have e2:KM.aJ (q.set i (KM.aJ ps j)) i=KM.aJ ps j:=by
    unfold KM.aJ
    rw[List.getD_eq_getElem?_getD,List.getElem?_set_self (by omega)]
    rfl
   rw[e1,e2]
   simp[hg]
 · rw[List.drop_set_of_lt (by omega),<- List.drop_drop,<- List.drop_drop,h.back]
theorem Gg.done {p:KM.En->Bool} {ps q:List KM.En} {i:Nat} (h:Gg p ps q i ps.length):q.take i=KM.ja ps p:=by
 rw[h.front,List.take_length]
 rfl
theorem sS (q:List KM.En) (i:Nat) (g:KM.En) (hi:i<q.length):(q.set i g).flatMap aI=(((q.flatMap aI).set (i*3) (I g.page)).set (i*3+1) (I g.kind)).set (i*3+2) (I g.loc):=by
 have h1:=gh aI 3 eQ KM.jz ⟨g.page,(KM.aJ q i).kind,(KM.aJ q i).loc⟩ 0 (I g.page) (by omega) q i hi rfl
 have h2:=gh aI 3 eQ KM.jz ⟨g.page,g.kind,(KM.aJ q i).loc⟩ 1 (I g.kind) (by omega) (q.set i ⟨g.page,(KM.aJ q i).kind,(KM.aJ q i).loc⟩) i (by rw[List.length_set];exact hi) (by
  rw[List.getD_eq_getElem?_getD,List.getElem?_set_self hi];rfl)
 rw[List.set_set,h1] at h2
 have h3:=gh aI 3 eQ KM.jz g 2 (I g.loc) (by omega) (q.set i ⟨g.page,g.kind,(KM.aJ q i).loc⟩) i (by rw[List.length_set];exact hi) (by
  rw[List.getD_eq_getElem?_getD,List.getElem?_set_self hi];rfl)
 rw[List.set_set,h2] at h3
 exact h3
theorem LU {ps:List KM.En} {p:KM.En->Bool} (h:∀j,j<ps.length->p (KM.aJ ps j)=false):KM.ja ps p=ps:=by
 unfold KM.ja
 rw[List.filter_eq_self]
 intro g hg
 obtain⟨k,hk,rfl⟩:=KM.eu KM.jz hg
 have:=h k hk
 unfold KM.aJ at this
 show(!p (ps.getD k KM.jz))=true
 rw[this];rfl
theorem O5 (F:FuncId) (E:List Value) (x:Nat) (Re:(F=202/\E=[.pointer (some (Ad x 0))])∨(F=120/\E=[.pointer (some (Ad x 0))])∨(F=88/\E=[])) (P:KM.En->Bool) (es:List KM.En) (ao:Option Addr) (cap:Nat) (w:World) (h:aU aI 3 KM.jz w ao es) (hl:es.length<=1000000)
  (hC:∀V e,Below w.heap.size w V->Calls Tryz.prog F (Value.agg #[I e.page,I e.kind,I e.loc]::E).toArray V fun r w'=>r=.returned (.bool (P e))/\Below V.heap.size V w') :
  Calls Tryz.prog 153 #[.slice ao es.length cap,.func (.func F) #[] E.toArray] w fun e w' =>
   Below w.heap.size w w'/\((e=.returned (I (-1))/\∀j,j<es.length->P (KM.aJ es j)=false)∨∃i:Nat,i<es.length/\e=.returned (I (i:Int))/\P (KM.aJ es i)=true/\∀j,j<i->P (KM.aJ es j)=false):=by
 have HH:=ai h
 have HC:=ai hC
 clear h hC
 rcases Re with⟨rfl,rfl⟩ | ⟨rfl,rfl⟩ | ⟨rfl,rfl⟩
 all_goals
  go_enter Tryz.func153,Tryz.ntmps153
  go_wp2
  go_loopw [8] (fun iv wr=>∃k:Nat,k<=es.length/\iv=I (k:Int)/\(∀j,j<k->P (KM.aJ es j)=false)/\Below w.heap.size w wr) (fun iv _=>es.length-(intOf iv).toNat)
  case atStart=>exact⟨0,by omega,rfl,fun j hj=>by omega,Below.refl _ _⟩
  case round =>
   obtain⟨k,hk,rfl,hno,hb⟩:=hrel
   have gP:=ai hno
   have HB:=ai hb
   clear hno
   by_cases hlt:k<es.length
   · have zm:(k:Int)<(es.length:Int):=by omega
     obtain⟨eb,eo,hao,hbl,bC⟩:=HH.o (by omega)
     subst hao
     have y0:=(hb.cell (p:=(Ad eb (eo+k*3+0))) hbl).trans (bC k hlt 0 (by omega))
     have y1:=(hb.cell (p:=(Ad eb (eo+k*3+1))) hbl).trans (bC k hlt 1 (by omega))
     have y2:=(hb.cell (p:=(Ad eb (eo+k*3+2))) hbl).trans (bC k hlt 2 (by omega))
     rw[Nat.add_zero] at y0
     have kv:=ai (HC.o wr (KM.aJ es k) hb)
     obtain⟨G,hG⟩:=ex (P (KM.aJ es k))
     rw[<- hG] at kv
     have HG:=ai hG
     obtain⟨E,hE⟩:=ex (KM.aJ es k)
     have x0:wr.cell? (Ad eb (eo+k*3))=some (I E.page):=by rw[hE];exact y0
     have x1:wr.cell? (Ad eb (eo+k*3+1))=some (I E.kind):=by rw[hE];exact y1
     have x2:wr.cell? (Ad eb (eo+k*3+2))=some (I E.loc):=by rw[hE];exact y2
     rw[<- hE] at kv
     clear hG hE hb y0 y1 y2 bC
     cases G with
     | true =>
      go_wp2_with ((first | go_at_call 202 | go_at_call 120 | go_at_call 88);refine kv.o.mono ?_;rintro e w1 ⟨rfl,hb1⟩;have aZ:=ai (HB.o.trans (hb1.mono HB.o.size));clear hb1)
      go_ret
      exact⟨aZ.o,.inr ⟨k,hlt,rfl,HG.o.symm,gP.o⟩⟩
     | false =>
      go_wp2_with ((first | go_at_call 202 | go_at_call 120 | go_at_call 88);refine kv.o.mono ?_;rintro e w1 ⟨rfl,hb1⟩;have aZ:=ai (HB.o.trans (hb1.mono HB.o.size));clear hb1)
      go_roundw
      case rel=>exact⟨k+1,by omega,by go_num,fun j hj=>by
       by_cases q:j=k
       · subst q;exact HG.o.symm
       · exact gP.o j (by omega),aZ.o⟩
      case measure=>simp[intOf];omega
   · obtain rfl:k=es.length:=by omega
     clear hb
     go_wp2
     go_ret
     exact⟨HB.o,.inl ⟨rfl,gP.o⟩⟩
theorem Ra {lo:Nat} {es:List KM.En} {ao:Option Addr} {cap:Nat} {w:World} (h:w.ownsRow lo 45 3 (.slice ao es.length cap) es.length (es.flatMap aI)):KW.aU aI 3 KM.jz w ao es:=by
 obtain⟨a,c,e,_,hr⟩:=KO.jm aI (fun _=>rfl) KM.jz h
 injection e with e1 _ _
 rw[e1];exact hr
theorem Fs (F:FuncId) (E:List Value) (x:Nat) (Re:(F=202/\E=[.pointer (some (Ad x 0))])∨(F=120/\E=[.pointer (some (Ad x 0))])∨(F=88/\E=[])) (lo:Nat) (ps:List KM.En) (p:KM.En->Bool) (vp:Value) (w:World) (h:w.ownsRow lo 45 3 vp ps.length (ps.flatMap aI)) (hC:∀V e,Kp (blk vp) w V->Calls Tryz.prog F (Value.agg #[I e.page,I e.kind,I e.loc]::E).toArray V fun r w'=>r=.returned (.bool (p e))/\Below V.heap.size V w') (hl:ps.length<=100000) :
  Calls Tryz.prog 131 #[vp,.func (.func F) #[] E.toArray] w (jV lo vp (KM.ja ps p) w):=by
 obtain⟨ao,cap,rfl,hcm,hgo⟩:=aR h
 have zT:=ai (O5 F E x Re p ps ao cap w (Ra h) (by omega) (fun V e hV=>hC V e (Kp.aW hV)))
 have HH:=ai h
 have HC:=ai hC
 obtain⟨P,hP⟩:=ex (jV lo (.slice ao ps.length cap) (KM.ja ps p) w)
 have HP:Hid (∀e w',jV lo (.slice ao ps.length cap) (KM.ja ps p) w e w'->P e w'):=fun e w' h=>by rw[hP];exact h
 rw[<- hP]
 have HGO:=ai hgo
 clear h hC hP hgo
 by_cases hall:∀j,j<ps.length->p (KM.aJ ps j)=false
 · have Kc:Hid (Calls Tryz.prog 153 #[.slice ao ps.length cap,.func (.func F) #[] E.toArray] w fun e w'=>e=.returned (I (-1))/\Below w.heap.size w w'):=zT.o.mono fun e w' ⟨hb,hh⟩=>by
    rcases hh with⟨rfl,_⟩ | ⟨i,hi,_,hg,_⟩
    · exact⟨rfl,hb⟩
    · rw[hall i hi] at hg;cases hg
   have RI:=ai (LU hall)
   clear hall zT
   rcases Re with⟨rfl,rfl⟩ | ⟨rfl,rfl⟩ | ⟨rfl,rfl⟩
   all_goals
    go_enter Tryz.func131,Tryz.ntmps131
    go_wp2_with (go_at_call 153;refine Kc.o.mono ?_;rintro e w1 ⟨rfl,hb1⟩;have aZ:=ai hb1;clear hb1)
    exact HP.o _ _ ⟨_,rfl,by rw[RI.o];exact Kp.row (Kp.aW (D:=fun _=>False) aZ.o) HH.o (fun _ _ g=>g),Kp.aW aZ.o,fun b hb=>.inl hb⟩
 · have Kc:Hid (Calls Tryz.prog 153 #[.slice ao ps.length cap,.func (.func F) #[] E.toArray] w fun e w'=>∃i:Nat,e=.returned (I (i:Int))/\Gg p ps ps i (i+1)/\Below w.heap.size w w'):=zT.o.mono fun e w' ⟨hb,hh⟩=>by
    rcases hh with⟨_,g⟩ | ⟨i,hi,rfl,hg,hno⟩
    · exact(hall g).elim
    · exact⟨i,rfl,Gg.start hi hg hno,hb⟩
   have hpos:0<ps.length:=by
    rcases Nat.eq_zero_or_pos ps.length with g | g
    · exact(hall (fun j hj=>by omega)).elim
    · exact g
   obtain⟨pb,rfl,hlo,hpb⟩:=HGO.o hpos
   clear hall zT HGO
   rcases Re with⟨rfl,rfl⟩ | ⟨rfl,rfl⟩ | ⟨rfl,rfl⟩
   all_goals
    go_enter Tryz.func131,Tryz.ntmps131
    go_wp2_with (go_at_call 153;refine Kc.o.mono ?_;rintro e w1 ⟨i1,rfl,SS,hb1⟩;have aZ:=ai hb1;have ky:=ai SS;have hi1:=SS.le;have hi2:((i1:Int)==-1)=false:=(by rw[beq_eq_false_iff_ne];omega);clear hb1 SS)
    go_loopw [5,6] (fun iv jv wr=>∃(i j:Nat) (q:List KM.En),iv=I (i:Int)/\jv=I (j:Int)/\Gg p ps q i j/\wr.ownsRow lo 45 3 (.slice (some (Ad pb 0)) ps.length cap) ps.length (q.flatMap aI)/\Kp (fun b=>b=pb) w wr) (fun _ jv _=>ps.length-(intOf jv).toNat)
    case atStart=>exact⟨i1,i1+1,ps,rfl,by go_num,ky.o,Kp.row (Kp.aW (D:=fun _=>False) aZ.o) HH.o (fun _ _ g=>g),Kp.aW aZ.o⟩
    case round =>
     obtain⟨i,j,q,rfl,rfl,hf,hrow,vA⟩:=hrel
     have hij:=hf.lt
     have hjl:=hf.le
     have HF:=ai hf
     have HR:=ai hrow
     have HK:=ai vA
     clear ky aZ hi1
     by_cases hlt:j<ps.length
     · have AU:(j:Int)<(ps.length:Int):=by omega
       have J0:(i:Int)<(ps.length:Int):=by omega
       have Zq:=hf.len
       have Jb:∀V:World,V.ownsRow lo 45 3 (.slice (some (Ad pb 0)) ps.length cap) ps.length (q.flatMap aI)->∀k,k<ps.length->V.cell? (Ad pb (k*3))=some (I (KM.aJ q k).page)/\V.cell? (Ad pb (k*3+1))=some (I (KM.aJ q k).kind)/\V.cell? (Ad pb (k*3+2))=some (I (KM.aJ q k).loc):=fun V hV k hk=>by
        rw[<- Zq] at hV
        exact⟨iu aI eQ KM.jz hV k 0 (by omega) (by omega),iu aI eQ KM.jz hV k 1 (by omega) (by omega),iu aI eQ KM.jz hV k 2 (by omega) (by omega)⟩
       have Qs:=ai Jb
       obtain⟨c0,c1,c2⟩:=Jb wr hrow j hlt
       rw[hf.at hlt] at c0 c1 c2
       have aes:pb<wr.heap.size:=(hrow.lt pb rfl).2
       have aet:¬pb=wr.heap.size:=by omega
       have HA:=ai ((Below.refl wr.heap.size wr).alloc (Nat.le_refl _) (.cells #[I (KM.aJ ps j).page,I (KM.aJ ps j).kind,I (KM.aJ ps j).loc] 45))
       have kv:=ai (HC.o (wr.alloc (.cells #[I (KM.aJ ps j).page,I (KM.aJ ps j).kind,I (KM.aJ ps j).loc] 45)) (KM.aJ ps j) ((vA.trans (Kp.aW (D:=fun b=>b=pb) HA.o) (fun _ _ g=>g)).mono (fun b _ e=>by subst e;rfl)))
       have BX:=ai (B.new wr #[I (KM.aJ ps j).page,I (KM.aJ ps j).kind,I (KM.aJ ps j).loc] 45)
       have Yp:=ai (hf.skip hlt)
       have Un:=ai (hf.keep hlt)
       obtain⟨G,hG⟩:=ex (p (KM.aJ ps j))
       rw[<- hG] at kv Yp Un
       obtain⟨g,hg⟩:=ex (KM.aJ ps j)
       rw[<- hg] at c0 c1 c2 kv Un HA BX
       clear hG hg hrow vA Jb hf
       cases G with
       | true =>
        go_wp2_with ((first | go_at_call 202 | go_at_call 120 | go_at_call 88);refine kv.o.mono ?_;rintro e w2 ⟨rfl,hb2⟩;have bY:=ai (HA.o.trans (hb2.mono HA.o.size));clear hb2)
        go_roundw
        case rel=>exact⟨i,j+1,q,rfl,by go_num,Yp.o (by trivial),Kp.row (Kp.aW (D:=fun _=>False) bY.o) HR.o (fun _ _ g=>g),HK.o.trans (Kp.aW (D:=fun b=>b=pb) bY.o) (fun _ _ g=>g)⟩
        case measure=>simp[intOf];omega
       | false =>
        go_wp2_with ((first | go_at_call 202 | go_at_call 120 | go_at_call 88);refine kv.o.mono ?_;rintro e w2 ⟨rfl,hb2⟩;have bY:=ai (HA.o.trans (hb2.mono HA.o.size));have xU:=ai (Kp.row (Kp.aW (D:=fun _=>False) bY.o) HR.o (fun _ _ g=>g));have hc2:=Qs.o _ xU.o i (by omega);obtain⟨d0,d1,d1b⟩:=hc2;have d2:=cV xU.o (i*3);have d3:=cV xU.o (i*3+1);have d3b:=cV xU.o (i*3+2);have hx2:=B.below BX.o hb2 (B.isLt BX.o);obtain⟨d4,d5,d6⟩:=B.c3 hx2;clear hb2 hx2)
        go_roundw
        case rel =>
         refine⟨i+1,j+1,q.set i g,by go_num,by go_num,Un.o (by trivial),?_,?_⟩
         · rw[sS q i g (by omega)]
           exact jl (jl (jl xU.o (i*3) _) (i*3+1) _) (i*3+2) _
         · exact(((HK.o.trans (Kp.aW (D:=fun b=>b=pb) bY.o) (fun _ _ g=>g)).trans (Kp.set (fun b=>b=pb) w2 (Ad pb (i*3)) _ rfl) (fun _ _ g=>g)).trans (Kp.set (fun b=>b=pb) _ (Ad pb (i*3+1)) _ rfl) (fun _ _ g=>g)).trans (Kp.set (fun b=>b=pb) _ (Ad pb (i*3+2)) _ rfl) (fun _ _ g=>g)
        case measure=>simp[intOf];omega
     · obtain rfl:j=ps.length:=by omega
       have Zq:=hf.len
       have ZM:=hf.done
       obtain⟨cur,hcz,SQ,hcs,hct⟩:∃cur:Array Value,cur.size=cap*3/\wr.heap[pb]?=some (.cells cur 45 (0,0))/\cap<=maxLen/\cur.toList.take (ps.length*3)=q.flatMap aI:=by
        rcases hrow.2 with⟨h0,_⟩ | ⟨g,cap',cur,hv,hb,hg,h1,h2,h3,h4⟩
        · omega
        · injection hv with e1 e2 e3
          injection e1 with e1
          injection e1 with e1
          subst e1 e3
          exact⟨cur,h3,hg,h2,h4⟩
       have hcl:cur.toList.length=cap*3:=hcz
       have VI:∀ty c,(Builtin.clear_ #[41] ty #[.slice (some (Ad pb (i*3))) (ps.length-i) c]).run Tryz.prog wr=.ok (.tuple #[]) (wr.setRow pb (splice cur.toList (i*3) (eD [I 0,I 0,I 0] (ps.length-i))).toArray):=fun ty c=>vZ (P:=Tryz.prog) wr 41 ty 45 (.agg #[I 0,I 0,I 0]) Tryz.underlying41 UB (by decide) (by decide) pb (i*3) (ps.length-i) c cur.toList 45 (by simpa using SQ) (by
        have e:(Value.cells (.agg #[I 0,I 0,I 0])).size=3:=rfl
        rw[e,hcl];omega)
       obtain⟨S,hS⟩:=ex (splice cur.toList (i*3) (eD [I 0,I 0,I 0] (ps.length-i)))
       rw[<- hS] at VI
       have Z2:S.length=cap*3:=by
        rw[hS,length_splice _ _ _ (by rw[eJ,hcl];simp only[List.length_cons,List.length_nil];omega),hcl]
       have hSt:S.take (i*3)=(KM.ja ps p).flatMap aI:=by
        rw[<- ZM,<- sM,<- hct,List.take_take,Nat.min_eq_left (by omega),hS]
        unfold splice
        exact take_left' _ _ _ (by rw[List.length_take,hcl];omega)
       have hol:(KM.ja ps p).length=i:=by rw[<- ZM,List.length_take];omega
       have hg2:(wr.setRow pb S.toArray).heap[pb]?=some (.cells S.toArray 45 (0,0)):=setRow_heap wr pb _ _ _ _ SQ
       have bh:Hid (P (.returned (.slice (some (Ad pb 0)) i cap)) (wr.setRow pb S.toArray)):=HP.o _ _ ⟨_,rfl,by
        rw[hol,<- hSt]
        exact⟨by rw[List.length_take,Z2];omega,.inr ⟨pb,cap,S.toArray,rfl,hlo,hg2,by omega,hcs,by simpa using Z2,by simp⟩⟩,(vA.mono (fun b _ e=>by subst e;rfl)).trans (sO wr pb S.toArray) (fun b _ e=>by subst e;rfl),fun b hb=>.inl hb⟩
       have hic:¬cap=i:=by omega
       have hin:(i:Int)<=(ps.length:Int):=by omega
       have Mh:i<=ps.length:=by omega
       have aeO:i<=cap:=by omega
       have VK:cap<=9223372036854775807:=by unfold maxLen at hcs;omega
       clear hf hrow vA HF HR HK SQ hct ZM hS Z2 hSt hol hg2 Zq hcz hcl Kc HP HH HC
       go_wp2_with (at_builtin;refine Ht _ rfl _ 41 rfl _ rfl (VI _ _) ?_)
       exact bh.o
end KI
namespace KX
open Go.RowKit GK KO
open FW (ai aC)
open KW (bE bD aI aU fe cO aH dH bQ)
open KS (Lc bO oD dm blk cT)
theorem wS (kd a:Int):∀ss:List KM.Sp,(KM.names ss kd a).length<=(KM.qV ss).length
 | []=>Nat.zero_le _
 | s::r=>by
  have ih:=wS kd a r
  have h1:(KM.eG s kd a).length<=s.au.length:=by unfold KM.eG;rw[List.length_map];exact List.length_filter_le _ _
  have h2:KM.qV (s::r)=s.au++KM.qV r:=List.flatMap_cons
  rw[KM.fC,h2,List.length_append,List.length_append]
  omega
theorem Hf {k:KM.Kn} (h:KM.aQ k):(KM.qV k.aj).length<=512:=by
 have h1:=KM.xO k.aj.length k.aj rfl (fun s hs=>KM.lO (h.each s hs))
 have h2:=h.room
 have h3:=h.c
 omega
theorem m7 {k:KM.Kn} (h:KM.aQ k):(∀i,i<k.frames.length->0<=(KM.aD k.frames i).refs/\(KM.aD k.frames i).refs<=512)/\(∀i,i<k.slots.length->0<=(KM.bk k.slots i).refs/\(KM.bk k.slots i).refs<=512):=by
 have h1:=Hf h
 refine⟨fun i hi=>?_,fun i hi=>?_⟩
 · have:=(h.mO i hi).refs
   have:=wS 1 i k.aj
   omega
 · have:=(h.slt i hi).refs
   have:=wS 2 i k.aj
   omega
theorem iI {k:KM.Kn} (h:KM.aQ k) {j:Nat} (hj:j<k.aj.length):(KM.aq k.aj j).au.length<=512:=by
 have h1:=KM.lO (h.sp hj)
 have h2:=h.room
 have h3:=h.c
 have h4:=Hf h
 have:∀(l:List KM.Sp) (j:Nat),j<l.length->(KM.aq l j).au.length<=(KM.qV l).length:=fun l=>by
  induction l with
  | nil=>intro j hj;simp at hj
  | cons s r ih =>
   intro j hj
   have h2:KM.qV (s::r)=s.au++KM.qV r:=List.flatMap_cons
   rw[h2,List.length_append]
   cases j with
   | zero=>show s.au.length<=_;omega
   | succ j=>have:=ih j (by simpa using hj);show(KM.aq r j).au.length<=_;omega
 have:=this k.aj j hj
 omega
theorem aU.kp {α:Type} {f:α->List Value} {k:Nat} {d:α} {w w':World} {ao:Option Addr} {l:List α} {D:Nat->Prop} (h:aU f k d w ao l) (hk:Kp D w w') (hn:∀b off,ao=some (Ad b off)->¬D b):aU f k d w' ao l:=fun hl=>by
 obtain⟨b,off,e,hb,hi⟩:=h hl
 refine⟨b,off,e,Nat.lt_of_lt_of_le hb hk.size,fun i hi' j hj=>?_⟩
 exact(World.cell?_of_block (hk.block b hb (hn b off e))).trans (hi i hi' j hj)
theorem Ff {lo mb:Nat} {tt:TypeId} {X:List Value} (F:FuncId) (E:List Value) (x:Nat) (Re:(F=202/\E=[.pointer (some (Ad x 0))])∨(F=120/\E=[.pointer (some (Ad x 0))])∨(F=88/\E=[]))
  (k:KM.Kn) (S:St) (w:World) (j:Nat) (p:KM.En->Bool) (h:Km lo mb tt X w S k) (hR:KM.aQ k) (hj:j<k.aj.length) (hC:∀V e,Kp (fun b=>S.lab b≠.no) w V->Calls Tryz.prog F (Value.agg #[I e.page,I e.kind,I e.loc]::E).toArray V fun r w'=>r=.returned (.bool (p e))/\Below V.heap.size V w') :
  Calls Tryz.prog 87 #[.pointer (some (Ad mb 0)),I (j:Int),.func (.func F) #[] E.toArray] w (fH lo mb tt X w S (.tuple #[]) (KM.fJ k j p)):=by
 have hlo:lo<=w.heap.size:=Nat.le_trans h.lo_le (Nat.le_of_lt h.lt)
 have hcc:=hR.c
 have hen:=iI hR hj
 obtain⟨pb,cP,A⟩:=h.toKr.sp (by omega)
 obtain⟨ae,ce,ui,hre⟩:=h.toKr.au hj
 have c3:=h.c3
 rw[A.v] at c3
 have a2:=A.x2 j hj
 rw[ui] at a2
 have AU:(j:Int)<(k.aj.length:Int):=by omega
 obtain⟨es,hes⟩:=ex ((KM.aq k.aj j).au)
 rw[<- hes] at a2 hen hre ui
 have HST:Hid (∀V n,n<es.length->Km lo mb tt X V S (KM.cN k es p n)->V.cell? (Ad pb (j*3+2))=some (.slice ae es.length ce)/\aU aI 3 KM.jz V ae es):=fun V n hn hV=>by
  have hjn:j<(KM.cN k es p n).aj.length:=by rw[KM.fW];exact hj
  obtain⟨OD,Yd,A'⟩:=hV.toKr.sp (by omega)
  have e:OD=pb:=by
   have:=A'.v
   rw[A.v] at this
   injection this with e1 _ _
   injection e1 with e1
   injection e1 with e1 _ _
   exact e1.symm
  subst e
  have x2:=A'.x2 j hjn
  rw[ui] at x2
  obtain⟨ae',ce',SC,SG⟩:=hV.toKr.au hjn
  rw[KM.fW,<- hes] at SC SG
  rw[ui] at SC
  injection SC with e1 _ _
  rw[<- e1] at SG
  exact⟨x2,SG⟩
 have N9:Hid (∀V n,n<es.length->Km lo mb tt X V S (KM.cN k es p n)->Calls Tryz.prog 85 #[.pointer (some (Ad mb 0)),.agg #[I (KM.aJ es n).page,I (KM.aJ es n).kind,I (KM.aJ es n).loc],I (-1)] V (mS lo mb tt X V S (.tuple #[]) (KM.cA (KM.cN k es p n) (KM.aJ es n)))):=fun V n hn hV=>by
  have hin:KM.aJ es n∈(KM.aq k.aj j).au:=by rw[<- hes];exact KM.dB hn
  have hb:=KM.fE hR hj hin
  have hr:=KM.xC k es p n
  have hp:=KM.oX hR hj p n (by rw[<- hes];omega)
  rw[<- hes] at hp
  have hf:=m7 hp
  have hf1:∀i,i<(KM.cN k es p n).frames.length->0<=(KM.aD (KM.cN k es p n).frames i).refs/\(KM.aD (KM.cN k es p n).frames i).refs<=512:=hf.1
  have hf2:∀i,i<(KM.cN k es p n).slots.length->0<=(KM.bk (KM.cN k es p n).slots i).refs/\(KM.bk (KM.cN k es p n).slots i).refs<=512:=hf.2
  rw[<- KM.uK]
  refine tI _ S V (KM.aJ es n) (-1) hV (fun c=>?_) (fun c=>?_) (.inr rfl) ⟨fun c=>?_,fun c=>?_⟩
  · rw[hr.2.2.1];omega
  · rw[hr.2.2.2];omega
  · have:=hf1 (KM.aJ es n).loc.toNat (by rw[hr.2.2.1];omega);omega
  · have:=hf2 (KM.aJ es n).loc.toNat (by rw[hr.2.2.2];omega);omega
 have yI:=ai hC
 have HDL:Hid (∀V,Km lo mb tt X V S (KM.cN k es p es.length)->Ch S w S V->Calls Tryz.prog 131 #[.slice ae es.length ce,.func (.func F) #[] E.toArray] V fun e w'=>∃av nv cv,e=.returned (.slice av nv cv)/\∃S',Km lo mb tt X (w'.setCell (Ad pb (j*3+2)) (.slice av nv cv)) S' (KM.fJ k j p)/\Ch S w S' (w'.setCell (Ad pb (j*3+2)) (.slice av nv cv))/\w'.frozen? (Ad pb (j*3+2))=false/\(∃u,w'.cell? (Ad pb (j*3+2))=some u)):=fun V hV hch=>by
  have hjn:j<(KM.cN k es p es.length).aj.length:=by rw[KM.fW];exact hj
  have hrow:=(hV.each j hjn).aB
  rw[KM.fW,<- hes,ui] at hrow
  have hlV:lo<=V.heap.size:=Nat.le_trans hlo hch.kp.size
  have hlab:∀b,blk (.slice ae es.length ce) b->S.lab b=.au j:=fun b hb=>hV.lE j hjn b (by rw[ui];exact hb)
  refine(KI.Fs F E x Re lo es p (.slice ae es.length ce) V hrow (fun U e hU=>yI.o U e ?_) (by omega)).mono fun e w' ⟨v',h1,h2,h3,h4⟩=>?_
  · exact((hch.kp.mono (fun b _ g=>g)).trans hU (fun b hb hx=>by rw[hlab b hx];simp))
  · obtain⟨av,cv,rfl,_,_⟩:=aR h2
    obtain⟨OD,Yd,A'⟩:=hV.toKr.sp (by omega)
    have hP:S.vP=.slice (some (Ad pb 0)) k.aj.length cP:=A.v
    have k1:Kp (fun b=>S.lab b=.au j) V w':=h3.mono (fun b _ hx=>hlab b hx)
    have sw:=hV.fK hjn hP k1 h2 (fun b hb=>by
     rcases h4 b hb with g | g
     · exact .inl (hlab b g)
     · exact .inr (hV.toKr.new g))
    have e1:({ KM.cN k es p es.length with aj:=(KM.cN k es p es.length).aj.set j (KM.dI (KM.aq (KM.cN k es p es.length).aj j) (KM.ja es p)) }:KM.Kn)=KM.fJ k j p:=by
     unfold KM.fJ KM.kz
     rw[<- hes]
    refine⟨av,_,cv,h1,_,e1 ▸ sw.1,hch.trans (sw.2 (fun b hb hx=>?_)),?_,?_⟩
    · rcases h4 b hx with g | g
      · exact hlab b g
      · omega
    · have hpl:S.lab pb=.aj:=A.lab
      have hrP:=hV.aj
      rw[hP] at hrP
      have hrl:=h.len
      have:=k1.row hrP (fun b hb e=>by
       have:S.lab b=.aj:=hV.lP b (by rw[hP];exact hb)
       rw[this] at e;simp at e)
      have hl2:S.L.length=k.aj.length:=hrl
      rw[<- hl2] at this
      exact cV this _
    · have hpl:S.lab pb=.aj:=A.lab
      have c2:=A'.x2 j hjn
      have e:OD=pb:=by
       have:=A'.v
       rw[A.v] at this
       injection this with e1 _ _
       injection e1 with e1
       injection e1 with e1 _ _
       exact e1.symm
      subst e
      exact⟨_,k1.cell c2 (fun e=>by have e:S.lab OD=.au j:=e;rw[hpl] at e;simp at e)⟩
 have bh:Hid (∀V S',Km lo mb tt X V S' (KM.fJ k j p)->Ch S w S' V->fH lo mb tt X w S (.tuple #[]) (KM.fJ k j p) (.returned (.tuple #[])) V):=fun V S' h1 h2=>⟨rfl,S',h1,h2⟩
 have vk:=ai (fun V (hV:Km lo mb tt X V S (KM.cN k es p es.length))=>(show V.cell? (Ad pb (j*3+2))=some (.slice ae es.length ce) from by
  have hjn:j<(KM.cN k es p es.length).aj.length:=by rw[KM.fW];exact hj
  obtain⟨OD,Yd,A'⟩:=hV.toKr.sp (by omega)
  have e:OD=pb:=by
   have:=A'.v
   rw[A.v] at this
   injection this with e1 _ _
   injection e1 with e1
   injection e1 with e1 _ _
   exact e1.symm
  subst e
  have x2:=A'.x2 j hjn
  rw[ui] at x2
  exact x2))
 have iz:=ai h
 have D3:Hid (∀V n,Km lo mb tt X V S (KM.cN k es p n)->∀V',Below V.heap.size V V'->Km lo mb tt X V' S (KM.cN k es p n)):=fun V n hV V' hb=>hV.below hb
 have ov:Hid (∀n,p (KM.aJ es n)=true->KM.cA (KM.cN k es p n) (KM.aJ es n)=KM.cN k es p (n+1)):=fun n hn=>by
  show _=if p (KM.aJ es n)=true then _ else _
  rw[if_pos hn]
 have gP:Hid (∀n,p (KM.aJ es n)=false->KM.cN k es p n=KM.cN k es p (n+1)):=fun n hn=>by
  show _=if p (KM.aJ es n)=true then _ else _
  rw[if_neg (by rw[hn];simp)]
 obtain⟨P,hP⟩:=ex (fH lo mb tt X w S (.tuple #[]) (KM.fJ k j p))
 rw[<- hP] at bh ⊢
 obtain⟨np,rV⟩:=ex k.aj.length
 rw[<- rV] at c3 AU
 clear h hR hcc A ui hre hes hC hP rV hj hlo
 have XV:es.length<=1000000:=by omega
 rcases Re with⟨rfl,rfl⟩ | ⟨rfl,rfl⟩ | ⟨rfl,rfl⟩
 all_goals
  go_enter Tryz.func87,Tryz.ntmps87
  go_wp2
  go_loopw [21] (fun iv wr=>∃n:Nat,n<=es.length/\iv=I (n:Int)/\Km lo mb tt X wr S (KM.cN k es p n)/\Ch S w S wr) (fun iv _=>es.length-(intOf iv).toNat)
  case atStart=>exact⟨0,by omega,rfl,iz.o,Ch.refl _ _⟩
  case round =>
   obtain⟨n,hn,rfl,fQ,hch⟩:=hrel
   have Qz:=ai fQ
   have BC:=ai hch
   by_cases hlt:n<es.length
   · have hni:(n:Int)<(es.length:Int):=by omega
     obtain⟨y2,hr2⟩:=HST.o wr n hlt fQ
     obtain⟨eb,eo,hao,hbl,bC⟩:=hr2 (by omega)
     subst hao
     have x0:=bC n hlt 0 (by omega)
     have x1:=bC n hlt 1 (by omega)
     have x2:=bC n hlt 2 (by omega)
     rw[Nat.add_zero] at x0
     have HA:=ai ((Below.refl wr.heap.size wr).alloc (Nat.le_refl _) (.cells #[I (KM.aJ es n).page,I (KM.aJ es n).kind,I (KM.aJ es n).loc] 45))
     have BX:=ai (B.new wr #[I (KM.aJ es n).page,I (KM.aJ es n).kind,I (KM.aJ es n).loc] 45)
     have kv:=ai (yI.o (wr.alloc (.cells #[I (KM.aJ es n).page,I (KM.aJ es n).kind,I (KM.aJ es n).loc] 45)) (KM.aJ es n) ((hch.trans (Ch.below (S:=S) HA.o)).kp))
     have Xi:=ai (fun V=>N9.o V n hlt)
     have HY2:=ai (ov.o n)
     have DG:=ai (gP.o n)
     obtain⟨G,hG⟩:=ex (p (KM.aJ es n))
     rw[<- hG] at kv HY2 DG
     obtain⟨e,he⟩:=ex (KM.aJ es n)
     have y0:wr.cell? (Ad eb (eo+n*3))=some (I e.page):=by rw[he];exact x0
     have y1:wr.cell? (Ad eb (eo+n*3+1))=some (I e.kind):=by rw[he];exact x1
     have y3:wr.cell? (Ad eb (eo+n*3+2))=some (I e.loc):=by rw[he];exact x2
     rw[<- he] at kv HA BX Xi HY2
     clear hG he fQ hch hr2 bC x0 x1 x2 iz
     cases G with
     | true =>
      go_wp2_with (first
       | ((first | go_at_call 202 | go_at_call 120 | go_at_call 88);refine kv.o.mono ?_;rintro r w1 ⟨rfl,hb1⟩;have aZ:=ai (HA.o.trans (hb1.mono HA.o.size));have BX1:=B.below BX.o hb1 (B.isLt BX.o);obtain⟨d0,d1,d2⟩:=B.c3 BX1;clear hb1 BX1)
       | (go_at_call 85;refine(Xi.o _ (D3.o _ n Qz.o _ aZ.o)).mono ?_;rintro r w2 ⟨rfl,hk2,hc2⟩;have jh:=ai hk2;have nB:=ai ((BC.o.trans (Ch.below (S:=S) aZ.o)).trans hc2);clear hk2 hc2))
      go_roundw
      case rel=>exact⟨n+1,by omega,by go_num,HY2.o (by trivial) ▸ jh.o,nB.o⟩
      case measure=>simp[intOf];omega
     | false =>
      go_wp2_with ((first | go_at_call 202 | go_at_call 120 | go_at_call 88);refine kv.o.mono ?_;rintro r w1 ⟨rfl,hb1⟩;have aZ:=ai (HA.o.trans (hb1.mono HA.o.size));clear hb1)
      go_roundw
      case rel=>exact⟨n+1,by omega,by go_num,DG.o (by trivial) ▸ D3.o _ n Qz.o _ aZ.o,BC.o.trans (Ch.below (S:=S) aZ.o)⟩
      case measure=>simp[intOf];omega
   · obtain rfl:n=es.length:=by omega
     have y2:=vk.o wr fQ
     have HD2:=ai (HDL.o wr fQ hch)
     clear fQ hch Qz BC HDL HST vk N9 yI iz D3 ov gP
     go_wp2_with (go_at_call 131;refine HD2.o.mono ?_;rintro r w2 ⟨av,nv,cv,rfl,S',hk2,hc2,aeX,u2,hu2⟩;have jh:=ai hk2;have nB:=ai hc2;clear hk2 hc2)
     refine bodyPost_end (v:=.tuple #[]) (by simp[results,Tryz.results87,go_sem]) rfl ?_
     exact bh.o _ S' jh.o nB.o
end KX
end Go.Proofs.YtpgifpeohlllfaaGreat
