import Derived.Test.YtpgifpeohlllfaaGreatGT19
set_option maxHeartbeats 20000000
set_option linter.unusedVariables false
set_option maxRecDepth 100000
set_option linter.unusedSimpArgs false
namespace Go.Proofs.YtpgifpeohlllfaaGreat
namespace KI
open Go.RowKit GK
open KW (aK)
open KS (blk gW)
open FW (ai aD)
theorem E0 (lo:Nat) (ps zs:List KM.En) (pb zb cap cz wz i:Nat) (w:World) (h:w.ownsRow lo 45 3 (.slice (some (Ad pb 0)) ps.length cap) ps.length (ps.flatMap aK)) (hz:w.ownsRow wz 45 3 (.slice (some (Ad zb 0)) zs.length cz) zs.length (zs.flatMap aK)) (hlo:lo<=w.heap.size) (hi:i<ps.length) (hm:1<=zs.length) (hn:ps.length<=100000) (rI:zs.length<=100000) (hroom:cap<ps.length+zs.length) :
  Calls Tryz.prog 192 #[.slice (some (Ad pb 0)) ps.length cap,I (i:Int),.slice (some (Ad zb 0)) zs.length cz] w (kX lo (.slice (some (Ad pb 0)) ps.length cap) (ps.take i++(zs++ps.drop i)) w):=by
 have MH:=ai (fF (α:=Unit) hz);have pG:=ai (fF (α:=Unit) h);have H1:=ai (gW zs);have Sn:=ai (gW ps);have hpb:pb<w.heap.size:=(h.lt pb rfl).2;have hzb:zb<w.heap.size:=(hz.lt zb rfl).2;have hcm:ps.length<=cap:=by
  obtain⟨_,_,e0,hcm,_⟩:=aN h;injection e0 with _ _ e3;omega
 have hlx:=bK aK 3 fL ps;have H0:=bK aK 3 fL zs;obtain⟨n,zg⟩:=ex ps.length;obtain⟨m,hme⟩:=ex zs.length;obtain⟨XS,MU⟩:=ex (ps.flatMap aK);obtain⟨ZS,RP⟩:=ex (zs.flatMap aK);rw[<- RP] at MH H1 H0;rw[<- MU] at pG hlx Sn;rw[<- hme] at MH H0 hm rI hroom ⊢;rw[<- zg] at pG hlx hi hn hroom hcm ⊢;obtain⟨i0,hin,hz0,hz1,hz2⟩:=info_parts y9;have hold:(Builtin.firstCells i0.size i (.slice (some (Ad pb 0)) i cap)).run Tryz.prog w.drew=.ok (XS.take (i*3)).toArray w.drew:=by
  rw[hz1];exact run_firstCells_some w.drew 3 i (Ad pb 0) i cap (XS.take (i*3)) (by rw[List.length_take,hlx];omega) (fun j u hu=>by
   rw[List.getElem?_take] at hu;split at hu
   · obtain⟨ad,e,hc⟩:=pG.o (by omega);injection e with e;subst e;exact hc j u hu
   · cases hu)
 have hik:i+(n+m-i)=n+m:=by omega
 have hkk:(n:Int)+(m:Int)-(i:Int)=((n+m-i:Nat):Int):=by omega
 obtain⟨G,hG⟩:=ex (grownCap w (n+m) cap 45);obtain⟨R,hR⟩:∃R:List Value,R=XS.take (i*3)++fA [I 0,I 0,I 0] (n+m-i)++fA [I 0,I 0,I 0] (G-(n+m)):=⟨_,rfl⟩;have hGn:n+m<=G:=by rw[hG];exact grownCap_ge w _ _ _
 have W7:G<=maxLen:=by rw[hG];exact grownCap_le_maxLen w (n+m) cap _ (by unfold maxLen;omega)
 have PI:R.length=G*3:=by
  rw[hR,List.length_append,List.length_append,fD,fD,List.length_take,hlx];simp only[List.length_cons,List.length_nil];omega
 have hRt:R.take (i*3)=XS.take (i*3):=by
  rw[hR,List.append_assoc];exact take_left' _ _ _ (by rw[List.length_take,hlx];omega)
 have hrz:∀ty,(Builtin.append_ #[41,3] ty #[.slice (some (Ad pb 0)) i cap,I ((n:Int)+(m:Int)-(i:Int))]).run Tryz.prog w=.ok (.slice (some (Ad w.heap.size 0)) (n+m) G) (w.drew.alloc (.cells R.toArray 45)):=fun ty=>by
  have h:=Lib.run_append_grow_zeros (P:=Tryz.prog) w 41 3 ty 45 i0 _ .i64 .i64 Tryz.underlying41 Tryz.underlying3 hin hz0 (some (Ad pb 0)) i cap (XS.take (i*3)) hold (n+m-i) (by omega) (by omega) (by omega) (by omega) (by rw[hz2];omega) (by rw[hz2,hik];exact growslice_fits hroom (by omega));rw[hik,<- hG] at h;rw[hkk,h];congr 3;rw[hR];have e1:=rQ (Value.cells (.agg #[I 0,I 0,I 0])) (n+m-i) (by decide);have e2:=rQ (Value.cells (.agg #[I 0,I 0,I 0])) (G-(n+m)) (by decide);apply Array.toList_inj.1;rw[Array.toList_append,Array.toList_append,e1,e2];rfl
 have hg0:(w.drew.alloc (.cells R.toArray 45)).heap[w.heap.size]?=some (.cells R.toArray 45 (0,0)):=B.new w.drew _ _;obtain⟨W0,hW0⟩:=ex (w.drew.alloc (.cells R.toArray 45));rw[<- hW0] at hrz hg0;have kp0:Below w.heap.size w W0:=by rw[hW0];exact(Below.refl _ _).drew.alloc (Nat.le_refl _) _
 obtain⟨H,hH⟩:=ex w.heap.size;rw[<- hH] at hrz hg0 hlo;obtain⟨DS,PQ⟩:=ex (XS.drop (i*3));have hDl:DS.length=(n-i)*3:=by rw[PQ,List.length_drop,hlx];omega
 obtain⟨R1,uy⟩:=ex (splice R (i*3) ZS);have Dg:R1.length=G*3:=by rw[uy,length_splice _ _ _ (by rw[H0,PI];omega)];exact PI
 obtain⟨R2,Df⟩:=ex (splice R1 ((i+m)*3) DS);have Ic:R2.length=G*3:=by rw[Df,length_splice _ _ _ (by rw[hDl,Dg];omega)];exact Dg
 have PJ:R2.take ((n+m)*3)=XS.take (i*3)++(ZS++DS):=by
  have:=KJ R ZS DS (i*3) ((i+m)*3) (by rw[H0];omega) (by rw[hDl,PI];omega);rw[<- uy,<- Df,hDl,show(i+m)*3+(n-i)*3=(n+m)*3 by omega] at this;rw[this,hRt]
 have Pw:∀ty dc,(Builtin.copy_ #[41,41] ty #[.slice (some (Ad H (i*3))) (n+m-i) dc,.slice (some (Ad zb 0)) m cz]).run Tryz.prog W0=.ok (goInt m) (W0.setRow H R1.toArray):=fun ty dc=>by
  have:=kZ (P:=Tryz.prog) W0 41 41 ty 45 3 Tryz.underlying41 Ej H (i*3) (n+m-i) dc (some (Ad zb 0)) m cz R 45 hg0 ZS (by rw[H0];simp only[Nat.min_def];split <;> omega) (fun _=>⟨_,rfl,fun j u hu=>by
   obtain⟨ad,e,hc⟩:=MH.o (by omega);injection e with e;subst e;have:=hc j u hu;rw[Addr.add_lit] at this ⊢;exact(kp0.cell (p:=(Ad zb (0+j))) hzb).trans this⟩) (by rw[H0,PI];omega) H1.o
  rw[this,<- uy];congr 2;simp only[Nat.min_def];split <;> omega
 have hg1:(W0.setRow H R1.toArray).heap[H]?=some (.cells R1.toArray 45 (0,0)):=setRow_heap W0 H _ _ _ _ hg0;obtain⟨W1,hW1⟩:=ex (W0.setRow H R1.toArray);rw[<- hW1] at Pw hg1;have Wj:Below w.heap.size w W1:=by rw[hW1];exact below_setRow kp0 (by omega) _
 have WM:∀ty dc sc,(Builtin.copy_ #[41,41] ty #[.slice (some (Ad H ((i+m)*3))) (n+m-(i+m)) dc,.slice (some (Ad pb (i*3))) (n-i) sc]).run Tryz.prog W1.drew=.ok (goInt (n-i)) (W1.drew.setRow H R2.toArray):=fun ty dc sc=>by
  have:=kZ (P:=Tryz.prog) W1.drew 41 41 ty 45 3 Tryz.underlying41 Ej H ((i+m)*3) (n+m-(i+m)) dc (some (Ad pb (i*3))) (n-i) sc R1 45 hg1 DS (by rw[hDl];simp only[Nat.min_def];split <;> omega) (fun _=>⟨_,rfl,fun j u hu=>by
   obtain⟨ad,e,hc⟩:=pG.o (by omega);injection e with e;subst e;have:=hc (i*3+j) u (by rw[PQ,List.getElem?_drop] at hu;exact hu);rw[Addr.add_lit] at this ⊢;rw[Nat.zero_add] at this;exact(Wj.cell (p:=(Ad pb (i*3+j))) hpb).trans this⟩) (by rw[hDl,Dg];omega) (fun u hu=>Sn.o u (by rw[PQ] at hu;exact List.mem_of_mem_drop hu))
  rw[this,<- Df];congr 2;simp only[Nat.min_def];split <;> omega
 have hg2:(W1.drew.setRow H R2.toArray).heap[H]?=some (.cells R2.toArray 45 (0,0)):=setRow_heap W1.drew H _ _ _ _ hg1;have kp2:Below w.heap.size w (W1.drew.setRow H R2.toArray):=below_setRow Wj.drew (by omega) _;have bB:Hid (kX lo (.slice (some (Ad pb 0)) n cap) (ps.take i++(zs++ps.drop i)) w (.returned (.slice (some (Ad H 0)) (n+m) G)) (W1.drew.setRow H R2.toArray)):=by
  have hl:(ps.take i++(zs++ps.drop i)).length=n+m:=by rw[List.length_append,List.length_append,List.length_take,List.length_drop,<- zg,<- hme];omega
  refine⟨_,rfl,?_,Kp.bc kp2,fun b hb=>.inr (by have:some H=some b:=hb;injection this;omega)⟩;rw[hl];have hx:(ps.take i++(zs++ps.drop i)).flatMap aK=R2.take ((n+m)*3):=by
   rw[PJ,MU,RP,PQ,MU,uE,Cj,List.flatMap_append,List.flatMap_append]
  rw[hx];exact⟨by rw[List.length_take,Ic];omega,.inr ⟨H,G,R2.toArray,rfl,hlo,hg2,hGn,W7,by simpa using Ic,by simp⟩⟩
 obtain⟨P,hP⟩:=ex (kX lo (.slice (some (Ad pb 0)) n cap) (ps.take i++(zs++ps.drop i)) w);rw[<- hP] at bB ⊢;have hm0:((m:Int)==0)=false:=by rw[beq_eq_false_iff_ne];omega
 have akh:((i:Int)==(n:Int))=false:=by rw[beq_eq_false_iff_ne];omega
 have hw1:IntKind.i64.wrap ((i:Int)+(m:Int))=(i:Int)+(m:Int):=IntWalk.i64_in _ (by omega);have hb1:(0:Int)<=(i:Int)+(m:Int):=by omega
 have akf:i<=n:=by omega
 have htn:((i:Int)+(m:Int)).toNat=i+m:=by omega
 have hb2:¬(G=i+m):=by omega
 have hb3:(i:Int)<=(n:Int):=by omega
 have hb4:¬(cap=i):=by omega
 have wy:¬(G=i):=by omega
 have hr2:(cap:Int)<(n:Int)+(m:Int):=by omega
 have Z6:G<=9223372036854775807:=by unfold maxLen at W7;omega
 clear h hz zg hme MU RP PQ hDl uy Df hW1 hW0 hR PI hRt Dg Ic PJ hlx H0 hP hg0 hg1 hg2 kp0 Wj kp2 MH pG H1 Sn W7 hG hH hold hin hz0 hz1 hz2 hik hkk;go_enter Tryz.func192,Tryz.ntmps192;go_wp2_with (first
  | (at_builtin;refine Lib.wpList_append_run _ rfl _ _ _ _ rfl _ _ rfl rfl _ _ (hrz _) ?_)
  | (at_builtin;refine xc _ rfl _ _ 41 41 rfl _ _ rfl rfl (Pw _ _) ?_))
 go_region_law (refine Am rfl _ _ 41 41 rfl _ _ (by simp[Act.eval,Act.put]) (by simp[Act.eval,Act.put]) (WM _ _ _) ?_)
 go_wp2;exact bB.o
theorem Hs (lo:Nat) (ps zs:List KM.En) (vp vz:Value) (wz i:Nat) (w:World) (h:w.ownsRow lo 45 3 vp ps.length (ps.flatMap aK)) (hz:w.ownsRow wz 45 3 vz zs.length (zs.flatMap aK)) (hlo:lo<=w.heap.size) (hne:∀b,blk vz b->¬blk vp b) (hi:i<=ps.length) (hm:1<=zs.length) (hn:ps.length<=100000) (rI:zs.length<=100000) :
  Calls Tryz.prog 192 #[vp,I (i:Int),vz] w (kX lo vp (ps.take i++(zs++ps.drop i)) w):=by
 obtain⟨ao,cap,rfl,uW,hg⟩:=aN h;obtain⟨az,cz,rfl,_,hgz⟩:=aN hz;by_cases c:i=ps.length
 · subst c;have e:ps.take ps.length++(zs++ps.drop ps.length)=ps++zs:=by rw[List.take_length,List.drop_length,List.append_nil]
   rw[e];exact Hr lo ps zs ao az cap cz wz w h hz hlo hm hn rI
 · obtain⟨pb,rfl,_,_⟩:=hg (by omega);obtain⟨zb,rfl,_,_⟩:=hgz (by omega);by_cases d:ps.length+zs.length<=cap
   · exact C6 lo ps zs pb zb cap cz wz i w h hz (fun e=>hne zb rfl (by rw[e];rfl)) (by omega) hm hn rI d
   · exact E0 lo ps zs pb zb cap cz wz i w h hz hlo (by omega) hm hn rI (by omega)
end KI
namespace KI
open Go.RowKit GK
open KW (aK)
open KS (blk gW)
open KW (aZ)
open FW (ai aD)
theorem Iy (l:List KM.En) (i:Nat) (h:i<l.length):l[i]?=some (KM.aM l i):=by
 unfold KM.aM;rw[List.getD_eq_getElem?_getD,List.getElem?_eq_getElem h];rfl
structure Je (p:KM.En->Bool) (ps q:List KM.En) (i j:Nat):Prop where
 len:q.length=ps.length
 lt:i<j
 le:j<=ps.length
 front:q.take i=(ps.take j).filter (fun g=>!p g)
 back:q.drop j=ps.drop j
theorem oq (l:List KM.En) (j:Nat) (h:j<l.length):l.take (j+1)=l.take j++[KM.aM l j]:=by
 rw[List.take_add_one,Iy l j h];rfl
theorem Je.start {p:KM.En->Bool} {ps:List KM.En} {i:Nat} (hi:i<ps.length) (hg:p (KM.aM ps i)=true) (hno:∀j,j<i->p (KM.aM ps j)=false):Je p ps ps i (i+1):=by
 refine⟨rfl,by omega,hi,?_,rfl⟩;have:∀k,k<=i->(ps.take k).filter (fun g=>!p g)=ps.take k:=fun k=>by
  induction k with
  | zero=>intro _;simp
  | succ k ih =>
   intro hk;rw[oq ps k (by omega),List.filter_append,ih (by omega)];simp[hno k (by omega)]
 rw[oq ps i hi,List.filter_append,this i (Nat.le_refl _)];simp[hg]
theorem Je.at {p:KM.En->Bool} {ps q:List KM.En} {i j:Nat} (h:Je p ps q i j) (hj:j<ps.length):KM.aM q j=KM.aM ps j:=by
 have e:(q.drop j)[0]?=(ps.drop j)[0]?:=by rw[h.back]
 rw[List.getElem?_drop,List.getElem?_drop,Nat.add_zero,Iy q j (by rw[h.len];exact hj),Iy ps j hj] at e;injection e
theorem Je.skip {p:KM.En->Bool} {ps q:List KM.En} {i j:Nat} (h:Je p ps q i j) (hj:j<ps.length) (hg:p (KM.aM ps j)=true):Je p ps q i (j+1):=by
 refine⟨h.len,by have:=h.lt;omega,hj,?_,?_⟩
 · rw[oq ps j hj,List.filter_append,h.front];simp[hg]
 · rw[<- List.drop_drop,<- List.drop_drop,h.back]
theorem Je.keep {p:KM.En->Bool} {ps q:List KM.En} {i j:Nat} (h:Je p ps q i j) (hj:j<ps.length) (hg:p (KM.aM ps j)=false):Je p ps (q.set i (KM.aM ps j)) (i+1) (j+1):=by
 have hlt:=h.lt;have Gj:=h.len;refine⟨by rw[List.length_set];exact h.len,by omega,hj,?_,?_⟩
 · rw[oq ps j hj,List.filter_append,<- h.front,oq _ i (by rw[List.length_set];omega)];have e1:(q.set i (KM.aM ps j)).take i=q.take i:=by
    rw[List.take_set,List.set_eq_of_length_le (by rw[List.length_take];omega)]
   have e2:KM.aM (q.set i (KM.aM ps j)) i=KM.aM ps j:=by
    unfold KM.aM;rw[List.getD_eq_getElem?_getD,List.getElem?_set_self (by omega)];rfl
   rw[e1,e2];simp[hg]
 · rw[List.drop_set_of_lt (by omega),<- List.drop_drop,<- List.drop_drop,h.back]
theorem Je.done {p:KM.En->Bool} {ps q:List KM.En} {i:Nat} (h:Je p ps q i ps.length):q.take i=KM.iH ps p:=by
 rw[h.front,List.take_length];rfl
theorem uJ (q:List KM.En) (i:Nat) (g:KM.En) (hi:i<q.length):(q.set i g).flatMap aK=(((q.flatMap aK).set (i*3) (I g.page)).set (i*3+1) (I g.kind)).set (i*3+2) (I g.loc):=by
 have h1:=fE aK 3 fL KM.js ⟨g.page,(KM.aM q i).kind,(KM.aM q i).loc⟩ 0 (I g.page) (by omega) q i hi rfl;have h2:=fE aK 3 fL KM.js ⟨g.page,g.kind,(KM.aM q i).loc⟩ 1 (I g.kind) (by omega) (q.set i ⟨g.page,(KM.aM q i).kind,(KM.aM q i).loc⟩) i (by rw[List.length_set];exact hi) (by
  rw[List.getD_eq_getElem?_getD,List.getElem?_set_self hi];rfl)
 rw[List.set_set,h1] at h2;have h3:=fE aK 3 fL KM.js g 2 (I g.loc) (by omega) (q.set i ⟨g.page,g.kind,(KM.aM q i).loc⟩) i (by rw[List.length_set];exact hi) (by
  rw[List.getD_eq_getElem?_getD,List.getElem?_set_self hi];rfl)
 rw[List.set_set,h2] at h3;exact h3
theorem OQ {ps:List KM.En} {p:KM.En->Bool} (h:∀j,j<ps.length->p (KM.aM ps j)=false):KM.iH ps p=ps:=by
 unfold KM.iH;rw[List.filter_eq_self];intro g hg;obtain⟨k,hk,rfl⟩:=KM.fu KM.js hg;have:=h k hk;unfold KM.aM at this;show(!p (ps.getD k KM.js))=true;rw[this];rfl
theorem Tm (F:FuncId) (E:List Value) (x:Nat) (Vt:(F=202/\E=[.pointer (some (Ad x 0))])∨(F=120/\E=[.pointer (some (Ad x 0))])∨(F=88/\E=[])) (P:KM.En->Bool) (es:List KM.En) (ao:Option Addr) (cap:Nat) (w:World) (h:aZ aK 3 KM.js w ao es) (hl:es.length<=1000000)
  (hC:∀V e,Below w.heap.size w V->Calls Tryz.prog F (Value.agg #[I e.page,I e.kind,I e.loc]::E).toArray V fun r w'=>r=.returned (.bool (P e))/\Below V.heap.size V w') :
  Calls Tryz.prog 153 #[.slice ao es.length cap,.func (.func F) #[] E.toArray] w fun e w' =>
   Below w.heap.size w w'/\((e=.returned (I (-1))/\∀j,j<es.length->P (KM.aM es j)=false)∨∃i:Nat,i<es.length/\e=.returned (I (i:Int))/\P (KM.aM es i)=true/\∀j,j<i->P (KM.aM es j)=false):=by
 have HH:=ai h;have HC:=ai hC;clear h hC;rcases Vt with⟨rfl,rfl⟩ | ⟨rfl,rfl⟩ | ⟨rfl,rfl⟩
 all_goals
  go_enter Tryz.func153,Tryz.ntmps153;go_wp2;go_loopw [8] (fun iv wr=>∃k:Nat,k<=es.length/\iv=I (k:Int)/\(∀j,j<k->P (KM.aM es j)=false)/\Below w.heap.size w wr) (fun iv _=>es.length-(intOf iv).toNat)
  case atStart=>exact⟨0,by omega,rfl,fun j hj=>by omega,Below.refl _ _⟩
  case round =>
   obtain⟨k,hk,rfl,hno,hb⟩:=hrel;have jc:=ai hno;have HB:=ai hb;clear hno;by_cases hlt:k<es.length
   · have wj:(k:Int)<(es.length:Int):=by omega
     obtain⟨eb,eo,hao,hbl,bN⟩:=HH.o (by omega);subst hao;have y0:=(hb.cell (p:=(Ad eb (eo+k*3+0))) hbl).trans (bN k hlt 0 (by omega));have y1:=(hb.cell (p:=(Ad eb (eo+k*3+1))) hbl).trans (bN k hlt 1 (by omega));have y2:=(hb.cell (p:=(Ad eb (eo+k*3+2))) hbl).trans (bN k hlt 2 (by omega));rw[Nat.add_zero] at y0;have lR:=ai (HC.o wr (KM.aM es k) hb);obtain⟨G,hG⟩:=ex (P (KM.aM es k));rw[<- hG] at lR;have HG:=ai hG;obtain⟨E,hE⟩:=ex (KM.aM es k);have x0:wr.cell? (Ad eb (eo+k*3))=some (I E.page):=by rw[hE];exact y0
     have x1:wr.cell? (Ad eb (eo+k*3+1))=some (I E.kind):=by rw[hE];exact y1
     have x2:wr.cell? (Ad eb (eo+k*3+2))=some (I E.loc):=by rw[hE];exact y2
     rw[<- hE] at lR;clear hG hE hb y0 y1 y2 bN;cases G with
     | true =>
      go_wp2_with ((first | go_at_call 202 | go_at_call 120 | go_at_call 88);refine lR.o.mono ?_;rintro e w1 ⟨rfl,hb1⟩;have bE:=ai (HB.o.trans (hb1.mono HB.o.size));clear hb1)
      go_ret;exact⟨bE.o,.inr ⟨k,hlt,rfl,HG.o.symm,jc.o⟩⟩
     | false =>
      go_wp2_with ((first | go_at_call 202 | go_at_call 120 | go_at_call 88);refine lR.o.mono ?_;rintro e w1 ⟨rfl,hb1⟩;have bE:=ai (HB.o.trans (hb1.mono HB.o.size));clear hb1)
      go_roundw
      case rel=>exact⟨k+1,by omega,by go_num,fun j hj=>by
       by_cases q:j=k
       · subst q;exact HG.o.symm
       · exact jc.o j (by omega),bE.o⟩
      case measure=>simp[intOf];omega
   · obtain rfl:k=es.length:=by omega
     clear hb;go_wp2;go_ret;exact⟨HB.o,.inl ⟨rfl,jc.o⟩⟩
theorem Vq {lo:Nat} {es:List KM.En} {ao:Option Addr} {cap:Nat} {w:World} (h:w.ownsRow lo 45 3 (.slice ao es.length cap) es.length (es.flatMap aK)):KW.aZ aK 3 KM.js w ao es:=by
 obtain⟨a,c,e,_,hr⟩:=KO.jy aK (fun _=>rfl) KM.js h;injection e with e1 _ _;rw[e1];exact hr
theorem IH (F:FuncId) (E:List Value) (x:Nat) (Vt:(F=202/\E=[.pointer (some (Ad x 0))])∨(F=120/\E=[.pointer (some (Ad x 0))])∨(F=88/\E=[])) (lo:Nat) (ps:List KM.En) (p:KM.En->Bool) (vp:Value) (w:World) (h:w.ownsRow lo 45 3 vp ps.length (ps.flatMap aK)) (hC:∀V e,Kp (blk vp) w V->Calls Tryz.prog F (Value.agg #[I e.page,I e.kind,I e.loc]::E).toArray V fun r w'=>r=.returned (.bool (p e))/\Below V.heap.size V w') (hl:ps.length<=100000) :
  Calls Tryz.prog 131 #[vp,.func (.func F) #[] E.toArray] w (kX lo vp (KM.iH ps p) w):=by
 obtain⟨ao,cap,rfl,hcm,hgo⟩:=aN h;have Cw:=ai (Tm F E x Vt p ps ao cap w (Vq h) (by omega) (fun V e hV=>hC V e (Kp.bc hV)));have HH:=ai h;have HC:=ai hC;obtain⟨P,hP⟩:=ex (kX lo (.slice ao ps.length cap) (KM.iH ps p) w);have HP:Hid (∀e w',kX lo (.slice ao ps.length cap) (KM.iH ps p) w e w'->P e w'):=fun e w' h=>by rw[hP];exact h
 rw[<- hP];have HGO:=ai hgo;clear h hC hP hgo;by_cases hall:∀j,j<ps.length->p (KM.aM ps j)=false
 · have Nf:Hid (Calls Tryz.prog 153 #[.slice ao ps.length cap,.func (.func F) #[] E.toArray] w fun e w'=>e=.returned (I (-1))/\Below w.heap.size w w'):=Cw.o.mono fun e w' ⟨hb,hh⟩=>by
    rcases hh with⟨rfl,_⟩ | ⟨i,hi,_,hg,_⟩
    · exact⟨rfl,hb⟩
    · rw[hall i hi] at hg;cases hg
   have VM:=ai (OQ hall);clear hall Cw;rcases Vt with⟨rfl,rfl⟩ | ⟨rfl,rfl⟩ | ⟨rfl,rfl⟩
   all_goals
    go_enter Tryz.func131,Tryz.ntmps131;go_wp2_with (go_at_call 153;refine Nf.o.mono ?_;rintro e w1 ⟨rfl,hb1⟩;have bE:=ai hb1;clear hb1)
    exact HP.o _ _ ⟨_,rfl,by rw[VM.o];exact Kp.row (Kp.bc (D:=fun _=>False) bE.o) HH.o (fun _ _ g=>g),Kp.bc bE.o,fun b hb=>.inl hb⟩
 · have Nf:Hid (Calls Tryz.prog 153 #[.slice ao ps.length cap,.func (.func F) #[] E.toArray] w fun e w'=>∃i:Nat,e=.returned (I (i:Int))/\Je p ps ps i (i+1)/\Below w.heap.size w w'):=Cw.o.mono fun e w' ⟨hb,hh⟩=>by
    rcases hh with⟨_,g⟩ | ⟨i,hi,rfl,hg,hno⟩
    · exact(hall g).elim
    · exact⟨i,rfl,Je.start hi hg hno,hb⟩
   have hpos:0<ps.length:=by
    rcases Nat.eq_zero_or_pos ps.length with g | g
    · exact(hall (fun j hj=>by omega)).elim
    · exact g
   obtain⟨pb,rfl,hlo,hpb⟩:=HGO.o hpos;clear hall Cw HGO;rcases Vt with⟨rfl,rfl⟩ | ⟨rfl,rfl⟩ | ⟨rfl,rfl⟩
   all_goals
    go_enter Tryz.func131,Tryz.ntmps131;go_wp2_with (go_at_call 153;refine Nf.o.mono ?_;rintro e w1 ⟨i1,rfl,WH,hb1⟩;have bE:=ai hb1;have kY:=ai WH;have hi1:=WH.le;have hi2:((i1:Int)==-1)=false:=(by rw[beq_eq_false_iff_ne];omega);clear hb1 WH)
    go_loopw [5,6] (fun iv jv wr=>∃(i j:Nat) (q:List KM.En),iv=I (i:Int)/\jv=I (j:Int)/\Je p ps q i j/\wr.ownsRow lo 45 3 (.slice (some (Ad pb 0)) ps.length cap) ps.length (q.flatMap aK)/\Kp (fun b=>b=pb) w wr) (fun _ jv _=>ps.length-(intOf jv).toNat)
    case atStart=>exact⟨i1,i1+1,ps,rfl,by go_num,kY.o,Kp.row (Kp.bc (D:=fun _=>False) bE.o) HH.o (fun _ _ g=>g),Kp.bc bE.o⟩
    case round =>
     obtain⟨i,j,q,rfl,rfl,hf,hrow,xL⟩:=hrel;have hij:=hf.lt;have hjl:=hf.le;have HF:=ai hf;have HR:=ai hrow;have HK:=ai xL;clear kY bE hi1;by_cases hlt:j<ps.length
     · have DJ:(j:Int)<(ps.length:Int):=by omega
       have H6:(i:Int)<(ps.length:Int):=by omega
       have hql:=hf.len;have Gf:∀V:World,V.ownsRow lo 45 3 (.slice (some (Ad pb 0)) ps.length cap) ps.length (q.flatMap aK)->∀k,k<ps.length->V.cell? (Ad pb (k*3))=some (I (KM.aM q k).page)/\V.cell? (Ad pb (k*3+1))=some (I (KM.aM q k).kind)/\V.cell? (Ad pb (k*3+2))=some (I (KM.aM q k).loc):=fun V hV k hk=>by
        rw[<- hql] at hV;exact⟨iZ aK fL KM.js hV k 0 (by omega) (by omega),iZ aK fL KM.js hV k 1 (by omega) (by omega),iZ aK fL KM.js hV k 2 (by omega) (by omega)⟩
       have Al:=ai Gf;obtain⟨c0,c1,c2⟩:=Gf wr hrow j hlt;rw[hf.at hlt] at c0 c1 c2;have ajV:pb<wr.heap.size:=(hrow.lt pb rfl).2;have ajW:¬pb=wr.heap.size:=by omega
       have HA:=ai ((Below.refl wr.heap.size wr).alloc (Nat.le_refl _) (.cells #[I (KM.aM ps j).page,I (KM.aM ps j).kind,I (KM.aM ps j).loc] 45));have lR:=ai (HC.o (wr.alloc (.cells #[I (KM.aM ps j).page,I (KM.aM ps j).kind,I (KM.aM ps j).loc] 45)) (KM.aM ps j) ((xL.trans (Kp.bc (D:=fun b=>b=pb) HA.o) (fun _ _ g=>g)).mono (fun b _ e=>by subst e;rfl)));have BX:=ai (B.new wr #[I (KM.aM ps j).page,I (KM.aM ps j).kind,I (KM.aM ps j).loc] 45);have Xu:=ai (hf.skip hlt);have YK:=ai (hf.keep hlt);obtain⟨G,hG⟩:=ex (p (KM.aM ps j));rw[<- hG] at lR Xu YK;obtain⟨g,hg⟩:=ex (KM.aM ps j);rw[<- hg] at c0 c1 c2 lR YK HA BX;clear hG hg hrow xL Gf hf;cases G with
       | true =>
        go_wp2_with ((first | go_at_call 202 | go_at_call 120 | go_at_call 88);refine lR.o.mono ?_;rintro e w2 ⟨rfl,hb2⟩;have cM:=ai (HA.o.trans (hb2.mono HA.o.size));clear hb2)
        go_roundw
        case rel=>exact⟨i,j+1,q,rfl,by go_num,Xu.o (by trivial),Kp.row (Kp.bc (D:=fun _=>False) cM.o) HR.o (fun _ _ g=>g),HK.o.trans (Kp.bc (D:=fun b=>b=pb) cM.o) (fun _ _ g=>g)⟩
        case measure=>simp[intOf];omega
       | false =>
        go_wp2_with ((first | go_at_call 202 | go_at_call 120 | go_at_call 88);refine lR.o.mono ?_;rintro e w2 ⟨rfl,hb2⟩;have cM:=ai (HA.o.trans (hb2.mono HA.o.size));have Aa:=ai (Kp.row (Kp.bc (D:=fun _=>False) cM.o) HR.o (fun _ _ g=>g));have hc2:=Al.o _ Aa.o i (by omega);obtain⟨d0,d1,d1b⟩:=hc2;have d2:=dx Aa.o (i*3);have d3:=dx Aa.o (i*3+1);have d3b:=dx Aa.o (i*3+2);have hx2:=B.below BX.o hb2 (B.isLt BX.o);obtain⟨d4,d5,d6⟩:=B.c3 hx2;clear hb2 hx2)
        go_roundw
        case rel =>
         refine⟨i+1,j+1,q.set i g,by go_num,by go_num,YK.o (by trivial),?_,?_⟩
         · rw[uJ q i g (by omega)];exact ig (ig (ig Aa.o (i*3) _) (i*3+1) _) (i*3+2) _
         · exact(((HK.o.trans (Kp.bc (D:=fun b=>b=pb) cM.o) (fun _ _ g=>g)).trans (Kp.set (fun b=>b=pb) w2 (Ad pb (i*3)) _ rfl) (fun _ _ g=>g)).trans (Kp.set (fun b=>b=pb) _ (Ad pb (i*3+1)) _ rfl) (fun _ _ g=>g)).trans (Kp.set (fun b=>b=pb) _ (Ad pb (i*3+2)) _ rfl) (fun _ _ g=>g)
        case measure=>simp[intOf];omega
     · obtain rfl:j=ps.length:=by omega
       have hql:=hf.len;have hdn:=hf.done;obtain⟨cur,hcz,WE,hcs,hct⟩:∃cur:Array Value,cur.size=cap*3/\wr.heap[pb]?=some (.cells cur 45 (0,0))/\cap<=maxLen/\cur.toList.take (ps.length*3)=q.flatMap aK:=by
        rcases hrow.2 with⟨h0,_⟩ | ⟨g,cap',cur,hv,hb,hg,h1,h2,h3,h4⟩
        · omega
        · injection hv with e1 e2 e3;injection e1 with e1;injection e1 with e1;subst e1 e3;exact⟨cur,h3,hg,h2,h4⟩
       have hcl:cur.toList.length=cap*3:=hcz;have Z2:∀ty c,(Builtin.clear_ #[41] ty #[.slice (some (Ad pb (i*3))) (ps.length-i) c]).run Tryz.prog wr=.ok (.tuple #[]) (wr.setRow pb (splice cur.toList (i*3) (fA [I 0,I 0,I 0] (ps.length-i))).toArray):=fun ty c=>ym (P:=Tryz.prog) wr 41 ty 45 (.agg #[I 0,I 0,I 0]) Tryz.underlying41 YV (by decide) (by decide) pb (i*3) (ps.length-i) c cur.toList 45 (by simpa using WE) (by
        have e:(Value.cells (.agg #[I 0,I 0,I 0])).size=3:=rfl;rw[e,hcl];omega)
       obtain⟨S,hS⟩:=ex (splice cur.toList (i*3) (fA [I 0,I 0,I 0] (ps.length-i)));rw[<- hS] at Z2;have hSl:S.length=cap*3:=by
        rw[hS,length_splice _ _ _ (by rw[fD,hcl];simp only[List.length_cons,List.length_nil];omega),hcl]
       have hSt:S.take (i*3)=(KM.iH ps p).flatMap aK:=by
        rw[<- hdn,<- uE,<- hct,List.take_take,Nat.min_eq_left (by omega),hS];unfold splice;exact take_left' _ _ _ (by rw[List.length_take,hcl];omega)
       have hol:(KM.iH ps p).length=i:=by rw[<- hdn,List.length_take];omega
       have hg2:(wr.setRow pb S.toArray).heap[pb]?=some (.cells S.toArray 45 (0,0)):=setRow_heap wr pb _ _ _ _ WE;have bB:Hid (P (.returned (.slice (some (Ad pb 0)) i cap)) (wr.setRow pb S.toArray)):=HP.o _ _ ⟨_,rfl,by
        rw[hol,<- hSt];exact⟨by rw[List.length_take,hSl];omega,.inr ⟨pb,cap,S.toArray,rfl,hlo,hg2,by omega,hcs,by simpa using hSl,by simp⟩⟩,(xL.mono (fun b _ e=>by subst e;rfl)).trans (uH wr pb S.toArray) (fun b _ e=>by subst e;rfl),fun b hb=>.inl hb⟩
       have hic:¬cap=i:=by omega
       have hin:(i:Int)<=(ps.length:Int):=by omega
       have Pn:i<=ps.length:=by omega
       have akg:i<=cap:=by omega
       have Z6:cap<=9223372036854775807:=by unfold maxLen at hcs;omega
       clear hf hrow xL HF HR HK WE hct hdn hS hSl hSt hol hg2 hql hcz hcl Nf HP HH HC;go_wp2_with (at_builtin;refine Kq _ rfl _ 41 rfl _ rfl (Z2 _ _) ?_)
       exact bB.o
end KI
namespace KX
open Go.RowKit GK KO
open FW (ai aD)
open KW (bJ bI aK aZ fh cK aI dA bU)
open KS (Lc bw kM cD blk cJ)
theorem yQ (kd a:Int):∀ss:List KM.Sp,(KM.names ss kd a).length<=(KM.sX ss).length
 | []=>Nat.zero_le _
 | s::r=>by
  have ih:=yQ kd a r;have h1:(KM.dH s kd a).length<=s.aA.length:=by unfold KM.dH;rw[List.length_map];exact List.length_filter_le _ _
  have h2:KM.sX (s::r)=s.aA++KM.sX r:=List.flatMap_cons;rw[KM.fG,h2,List.length_append,List.length_append];omega
theorem J7 {k:KM.Kn} (h:KM.aQ k):(KM.sX k.aj).length<=512:=by
 have h1:=KM.zW k.aj.length k.aj rfl (fun s hs=>KM.kP (h.each s hs));have h2:=h.room;have h3:=h.c;omega
theorem lJ {k:KM.Kn} (h:KM.aQ k):(∀i,i<k.frames.length->0<=(KM.aH k.frames i).refs/\(KM.aH k.frames i).refs<=512)/\(∀i,i<k.slots.length->0<=(KM.bj k.slots i).refs/\(KM.bj k.slots i).refs<=512):=by
 have h1:=J7 h;refine⟨fun i hi=>?_,fun i hi=>?_⟩
 · have:=(h.m7 i hi).refs;have:=yQ 1 i k.aj;omega
 · have:=(h.slt i hi).refs;have:=yQ 2 i k.aj;omega
theorem jq {k:KM.Kn} (h:KM.aQ k) {j:Nat} (hj:j<k.aj.length):(KM.au k.aj j).aA.length<=512:=by
 have h1:=KM.kP (h.sp hj);have h2:=h.room;have h3:=h.c;have h4:=J7 h;have:∀(l:List KM.Sp) (j:Nat),j<l.length->(KM.au l j).aA.length<=(KM.sX l).length:=fun l=>by
  induction l with
  | nil=>intro j hj;simp at hj
  | cons s r ih =>
   intro j hj;have h2:KM.sX (s::r)=s.aA++KM.sX r:=List.flatMap_cons;rw[h2,List.length_append];cases j with
   | zero=>show s.aA.length<=_;omega
   | succ j=>have:=ih j (by simpa using hj);show(KM.au r j).aA.length<=_;omega
 have:=this k.aj j hj;omega
theorem aZ.kp {α:Type} {f:α->List Value} {k:Nat} {d:α} {w w':World} {ao:Option Addr} {l:List α} {D:Nat->Prop} (h:aZ f k d w ao l) (hk:Kp D w w') (hn:∀b off,ao=some (Ad b off)->¬D b):aZ f k d w' ao l:=fun hl=>by
 obtain⟨b,off,e,hb,hi⟩:=h hl;refine⟨b,off,e,Nat.lt_of_lt_of_le hb hk.size,fun i hi' j hj=>?_⟩;exact(World.cell?_of_block (hk.block b hb (hn b off e))).trans (hi i hi' j hj)
theorem zo {lo mb:Nat} {tt:TypeId} {X:List Value} (F:FuncId) (E:List Value) (x:Nat) (Vt:(F=202/\E=[.pointer (some (Ad x 0))])∨(F=120/\E=[.pointer (some (Ad x 0))])∨(F=88/\E=[]))
  (k:KM.Kn) (S:St) (w:World) (j:Nat) (p:KM.En->Bool) (h:Km lo mb tt X w S k) (hR:KM.aQ k) (hj:j<k.aj.length) (hC:∀V e,Kp (fun b=>S.lab b≠.no) w V->Calls Tryz.prog F (Value.agg #[I e.page,I e.kind,I e.loc]::E).toArray V fun r w'=>r=.returned (.bool (p e))/\Below V.heap.size V w') :
  Calls Tryz.prog 87 #[.pointer (some (Ad mb 0)),I (j:Int),.func (.func F) #[] E.toArray] w (gq lo mb tt X w S (.tuple #[]) (KM.dK k j p)):=by
 have hlo:lo<=w.heap.size:=Nat.le_trans h.lo_le (Nat.le_of_lt h.lt);have hcc:=hR.c;have hen:=jq hR hj;obtain⟨pb,cP,A⟩:=h.toKr.sp (by omega);obtain⟨ae,ce,wa,hre⟩:=h.toKr.aA hj;have c3:=h.c3;rw[A.v] at c3;have a2:=A.x2 j hj;rw[wa] at a2;have DJ:(j:Int)<(k.aj.length:Int):=by omega
 obtain⟨es,hes⟩:=ex ((KM.au k.aj j).aA);rw[<- hes] at a2 hen hre wa;have HST:Hid (∀V n,n<es.length->Km lo mb tt X V S (KM.bZ k es p n)->V.cell? (Ad pb (j*3+2))=some (.slice ae es.length ce)/\aZ aK 3 KM.js V ae es):=fun V n hn hV=>by
  have hjn:j<(KM.bZ k es p n).aj.length:=by rw[KM.gm];exact hj
  obtain⟨SL,cP',A'⟩:=hV.toKr.sp (by omega);have e:SL=pb:=by
   have:=A'.v;rw[A.v] at this;injection this with e1 _ _;injection e1 with e1;injection e1 with e1 _ _;exact e1.symm
  subst e;have x2:=A'.x2 j hjn;rw[wa] at x2;obtain⟨ae',ce',Wn,Wp⟩:=hV.toKr.aA hjn;rw[KM.gm,<- hes] at Wn Wp;rw[wa] at Wn;injection Wn with e1 _ _;rw[<- e1] at Wp;exact⟨x2,Wp⟩
 have Sd:Hid (∀V n,n<es.length->Km lo mb tt X V S (KM.bZ k es p n)->Calls Tryz.prog 85 #[.pointer (some (Ad mb 0)),.agg #[I (KM.aM es n).page,I (KM.aM es n).kind,I (KM.aM es n).loc],I (-1)] V (mn lo mb tt X V S (.tuple #[]) (KM.b9 (KM.bZ k es p n) (KM.aM es n)))):=fun V n hn hV=>by
  have hin:KM.aM es n∈(KM.au k.aj j).aA:=by rw[<- hes];exact KM.dO hn
  have hb:=KM.fN hR hj hin;have hr:=KM.qw k es p n;have hp:=KM.nM hR hj p n (by rw[<- hes];omega);rw[<- hes] at hp;have hf:=lJ hp;have hf1:∀i,i<(KM.bZ k es p n).frames.length->0<=(KM.aH (KM.bZ k es p n).frames i).refs/\(KM.aH (KM.bZ k es p n).frames i).refs<=512:=hf.1;have hf2:∀i,i<(KM.bZ k es p n).slots.length->0<=(KM.bj (KM.bZ k es p n).slots i).refs/\(KM.bj (KM.bZ k es p n).slots i).refs<=512:=hf.2;rw[<- KM.wS];refine vd _ S V (KM.aM es n) (-1) hV (fun c=>?_) (fun c=>?_) (.inr rfl) ⟨fun c=>?_,fun c=>?_⟩
  · rw[hr.2.2.1];omega
  · rw[hr.2.2.2];omega
  · have:=hf1 (KM.aM es n).loc.toNat (by rw[hr.2.2.1];omega);omega
  · have:=hf2 (KM.aM es n).loc.toNat (by rw[hr.2.2.2];omega);omega
 have A5:=ai hC;have HDL:Hid (∀V,Km lo mb tt X V S (KM.bZ k es p es.length)->Ch S w S V->Calls Tryz.prog 131 #[.slice ae es.length ce,.func (.func F) #[] E.toArray] V fun e w'=>∃av nv cv,e=.returned (.slice av nv cv)/\∃S',Km lo mb tt X (w'.setCell (Ad pb (j*3+2)) (.slice av nv cv)) S' (KM.dK k j p)/\Ch S w S' (w'.setCell (Ad pb (j*3+2)) (.slice av nv cv))/\w'.frozen? (Ad pb (j*3+2))=false/\(∃u,w'.cell? (Ad pb (j*3+2))=some u)):=fun V hV hch=>by
  have hjn:j<(KM.bZ k es p es.length).aj.length:=by rw[KM.gm];exact hj
  have hrow:=(hV.each j hjn).aJ;rw[KM.gm,<- hes,wa] at hrow;have hlV:lo<=V.heap.size:=Nat.le_trans hlo hch.kp.size;have hlab:∀b,blk (.slice ae es.length ce) b->S.lab b=.aA j:=fun b hb=>hV.lE j hjn b (by rw[wa];exact hb)
  refine(KI.IH F E x Vt lo es p (.slice ae es.length ce) V hrow (fun U e hU=>A5.o U e ?_) (by omega)).mono fun e w' ⟨v',h1,h2,h3,h4⟩=>?_
  · exact((hch.kp.mono (fun b _ g=>g)).trans hU (fun b hb hx=>by rw[hlab b hx];simp))
  · obtain⟨av,cv,rfl,_,_⟩:=aN h2;obtain⟨SL,cP',A'⟩:=hV.toKr.sp (by omega);have hP:S.vP=.slice (some (Ad pb 0)) k.aj.length cP:=A.v;have k1:Kp (fun b=>S.lab b=.aA j) V w':=h3.mono (fun b _ hx=>hlab b hx);have sw:=hV.gy hjn hP k1 h2 (fun b hb=>by
     rcases h4 b hb with g | g
     · exact .inl (hlab b g)
     · exact .inr (hV.toKr.new g))
    have e1:({ KM.bZ k es p es.length with aj:=(KM.bZ k es p es.length).aj.set j (KM.dU (KM.au (KM.bZ k es p es.length).aj j) (KM.iH es p)) }:KM.Kn)=KM.dK k j p:=by
     unfold KM.dK KM.kG;rw[<- hes]
    refine⟨av,_,cv,h1,_,e1 ▸ sw.1,hch.trans (sw.2 (fun b hb hx=>?_)),?_,?_⟩
    · rcases h4 b hx with g | g
      · exact hlab b g
      · omega
    · have hpl:S.lab pb=.aj:=A.lab;have hrP:=hV.aj;rw[hP] at hrP;have hrl:=h.len;have:=k1.row hrP (fun b hb e=>by
       have:S.lab b=.aj:=hV.lP b (by rw[hP];exact hb);rw[this] at e;simp at e)
      have hl2:S.L.length=k.aj.length:=hrl;rw[<- hl2] at this;exact dx this _
    · have hpl:S.lab pb=.aj:=A.lab;have c2:=A'.x2 j hjn;have e:SL=pb:=by
       have:=A'.v;rw[A.v] at this;injection this with e1 _ _;injection e1 with e1;injection e1 with e1 _ _;exact e1.symm
      subst e;exact⟨_,k1.cell c2 (fun e=>by have e:S.lab SL=.aA j:=e;rw[hpl] at e;simp at e)⟩
 have bB:Hid (∀V S',Km lo mb tt X V S' (KM.dK k j p)->Ch S w S' V->gq lo mb tt X w S (.tuple #[]) (KM.dK k j p) (.returned (.tuple #[])) V):=fun V S' h1 h2=>⟨rfl,S',h1,h2⟩
 have xD:=ai (fun V (hV:Km lo mb tt X V S (KM.bZ k es p es.length))=>(show V.cell? (Ad pb (j*3+2))=some (.slice ae es.length ce) from by
  have hjn:j<(KM.bZ k es p es.length).aj.length:=by rw[KM.gm];exact hj
  obtain⟨SL,cP',A'⟩:=hV.toKr.sp (by omega);have e:SL=pb:=by
   have:=A'.v;rw[A.v] at this;injection this with e1 _ _;injection e1 with e1;injection e1 with e1 _ _;exact e1.symm
  subst e;have x2:=A'.x2 j hjn;rw[wa] at x2;exact x2))
 have je:=ai h;have Cv:Hid (∀V n,Km lo mb tt X V S (KM.bZ k es p n)->∀V',Below V.heap.size V V'->Km lo mb tt X V' S (KM.bZ k es p n)):=fun V n hV V' hb=>hV.below hb
 have pJ:Hid (∀n,p (KM.aM es n)=true->KM.b9 (KM.bZ k es p n) (KM.aM es n)=KM.bZ k es p (n+1)):=fun n hn=>by
  show _=if p (KM.aM es n)=true then _ else _
  rw[if_pos hn]
 have jc:Hid (∀n,p (KM.aM es n)=false->KM.bZ k es p n=KM.bZ k es p (n+1)):=fun n hn=>by
  show _=if p (KM.aM es n)=true then _ else _
  rw[if_neg (by rw[hn];simp)]
 obtain⟨P,hP⟩:=ex (gq lo mb tt X w S (.tuple #[]) (KM.dK k j p));rw[<- hP] at bB ⊢;obtain⟨np,rH⟩:=ex k.aj.length;rw[<- rH] at c3 DJ;clear h hR hcc A wa hre hes hC hP rH hj hlo;have hee:es.length<=1000000:=by omega
 rcases Vt with⟨rfl,rfl⟩ | ⟨rfl,rfl⟩ | ⟨rfl,rfl⟩
 all_goals
  go_enter Tryz.func87,Tryz.ntmps87;go_wp2;go_loopw [21] (fun iv wr=>∃n:Nat,n<=es.length/\iv=I (n:Int)/\Km lo mb tt X wr S (KM.bZ k es p n)/\Ch S w S wr) (fun iv _=>es.length-(intOf iv).toNat)
  case atStart=>exact⟨0,by omega,rfl,je.o,Ch.refl _ _⟩
  case round =>
   obtain⟨n,hn,rfl,dG,hch⟩:=hrel;have wZ:=ai dG;have D4:=ai hch;by_cases hlt:n<es.length
   · have hni:(n:Int)<(es.length:Int):=by omega
     obtain⟨y2,hr2⟩:=HST.o wr n hlt dG;obtain⟨eb,eo,hao,hbl,bN⟩:=hr2 (by omega);subst hao;have x0:=bN n hlt 0 (by omega);have x1:=bN n hlt 1 (by omega);have x2:=bN n hlt 2 (by omega);rw[Nat.add_zero] at x0;have HA:=ai ((Below.refl wr.heap.size wr).alloc (Nat.le_refl _) (.cells #[I (KM.aM es n).page,I (KM.aM es n).kind,I (KM.aM es n).loc] 45));have BX:=ai (B.new wr #[I (KM.aM es n).page,I (KM.aM es n).kind,I (KM.aM es n).loc] 45);have lR:=ai (A5.o (wr.alloc (.cells #[I (KM.aM es n).page,I (KM.aM es n).kind,I (KM.aM es n).loc] 45)) (KM.aM es n) ((hch.trans (Ch.below (S:=S) HA.o)).kp));have abx:=ai (fun V=>Sd.o V n hlt);have Xk:=ai (pJ.o n);have Dy:=ai (jc.o n);obtain⟨G,hG⟩:=ex (p (KM.aM es n));rw[<- hG] at lR Xk Dy;obtain⟨e,he⟩:=ex (KM.aM es n);have y0:wr.cell? (Ad eb (eo+n*3))=some (I e.page):=by rw[he];exact x0
     have y1:wr.cell? (Ad eb (eo+n*3+1))=some (I e.kind):=by rw[he];exact x1
     have y3:wr.cell? (Ad eb (eo+n*3+2))=some (I e.loc):=by rw[he];exact x2
     rw[<- he] at lR HA BX abx Xk;clear hG he dG hch hr2 bN x0 x1 x2 je;cases G with
     | true =>
      go_wp2_with (first
       | ((first | go_at_call 202 | go_at_call 120 | go_at_call 88);refine lR.o.mono ?_;rintro r w1 ⟨rfl,hb1⟩;have bE:=ai (HA.o.trans (hb1.mono HA.o.size));have BX1:=B.below BX.o hb1 (B.isLt BX.o);obtain⟨d0,d1,d2⟩:=B.c3 BX1;clear hb1 BX1)
       | (go_at_call 85;refine(abx.o _ (Cv.o _ n wZ.o _ bE.o)).mono ?_;rintro r w2 ⟨rfl,hk2,hc2⟩;have jd:=ai hk2;have oN:=ai ((D4.o.trans (Ch.below (S:=S) bE.o)).trans hc2);clear hk2 hc2))
      go_roundw
      case rel=>exact⟨n+1,by omega,by go_num,Xk.o (by trivial) ▸ jd.o,oN.o⟩
      case measure=>simp[intOf];omega
     | false =>
      go_wp2_with ((first | go_at_call 202 | go_at_call 120 | go_at_call 88);refine lR.o.mono ?_;rintro r w1 ⟨rfl,hb1⟩;have bE:=ai (HA.o.trans (hb1.mono HA.o.size));clear hb1)
      go_roundw
      case rel=>exact⟨n+1,by omega,by go_num,Dy.o (by trivial) ▸ Cv.o _ n wZ.o _ bE.o,D4.o.trans (Ch.below (S:=S) bE.o)⟩
      case measure=>simp[intOf];omega
   · obtain rfl:n=es.length:=by omega
     have y2:=xD.o wr dG;have HD2:=ai (HDL.o wr dG hch);clear dG hch wZ D4 HDL HST xD Sd A5 je Cv pJ jc;go_wp2_with (go_at_call 131;refine HD2.o.mono ?_;rintro r w2 ⟨av,nv,cv,rfl,S',hk2,hc2,akp,u2,hu2⟩;have jd:=ai hk2;have oN:=ai hc2;clear hk2 hc2)
     refine bodyPost_end (v:=.tuple #[]) (by simp[results,Tryz.results87,go_sem]) rfl ?_;exact bB.o _ S' jd.o oN.o
end KX
end Go.Proofs.YtpgifpeohlllfaaGreat
