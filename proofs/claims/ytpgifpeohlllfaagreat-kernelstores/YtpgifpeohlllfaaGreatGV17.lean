import Derived.Test.YtpgifpeohlllfaaGreatGV16
set_option maxHeartbeats 20000000
set_option linter.unusedVariables false
set_option maxRecDepth 100000
set_option linter.unusedSimpArgs false
namespace Go.Proofs.YtpgifpeohlllfaaGreat
namespace Go.Proofs.YtpgifpeohlllfaaGreat
open Go.RowKit
theorem Qc (lo:Nat) (ps zs:List bC) (pb zb cap cz wz i:Nat) (w:World) (h:w.ownsRow lo 45 3 (.slice (some (Ad pb 0)) ps.length cap) ps.length (ps.flatMap bk)) (hz:w.ownsRow wz 45 3 (.slice (some (Ad zb 0)) zs.length cz) zs.length (zs.flatMap bk)) (hlo:lo<=w.heap.size) (hi:i<ps.length) (hm:1<=zs.length) (hn:ps.length<=100000) (zR:zs.length<=100000) (hroom:cap<ps.length+zs.length) :
  Calls Tryz.prog 192 #[.slice (some (Ad pb 0)) ps.length cap,I (i:Int),.slice (some (Ad zb 0)) zs.length cz] w (od lo (.slice (some (Ad pb 0)) ps.length cap) (ps.take i++(zs++ps.drop i)) w):=by
 have HFZ:=ai (xo (α:=Unit) hz);have xJ:=ai (xo (α:=Unit) h);have H1:=ai (se zs);have H1P:=ai (se ps);have hpb:pb<w.heap.size:=(h.lt pb rfl).2;have hzb:zb<w.heap.size:=(hz.lt zb rfl).2;have hcm:ps.length<=cap:=by
  grind [aY]
 have hlx:=fF bk 3 kT ps;have hlz:=fF bk 3 kT zs;obtain⟨n,Xd⟩:=ex ps.length;obtain⟨m,hme⟩:=ex zs.length;obtain⟨XS,ZB⟩:=ex (ps.flatMap bk);obtain⟨ZS,hZS⟩:=ex (zs.flatMap bk);rw[<- hZS] at HFZ H1 hlz;rw[<- ZB] at xJ hlx H1P;rw[<- hme] at HFZ hlz hm zR hroom ⊢;rw[<- Xd] at xJ hlx hi hn hroom hcm ⊢;obtain⟨i0,hin,hz0,hz1,hz2⟩:=iq uk;have hold:(Builtin.firstCells i0.size i (.slice (some (Ad pb 0)) i cap)).run Tryz.prog w.drew=.ok (XS.take (i*3)).toArray w.drew:=by
  rw[hz1];exact ago w.drew 3 i (Ad pb 0) i cap (XS.take (i*3)) (by grind) (fun j u hu=>by
   rw[List.getElem?_take] at hu;split at hu
   · obtain⟨ad,e,hc⟩:=xJ.o (by omega);injection e with e;subst e;exact hc j u hu
   grind)
 have hik:i+(n+m-i)=n+m:=by omega
 have hkk:(n:Int)+(m:Int)-(i:Int)=((n+m-i:Nat):Int):=by omega
 obtain⟨G,hG⟩:=ex (grownCap w (n+m) cap 45);obtain⟨R,hR⟩:∃R:List Value,R=XS.take (i*3)++jE [I 0,I 0,I 0] (n+m-i)++jE [I 0,I 0,I 0] (G-(n+m)):=⟨_,rfl⟩;have hGn:n+m<=G:=by rw[hG];exact grownCap_ge w _ _ _
 have ajh:G<=maxLen:=by rw[hG];exact grownCap_le_maxLen w (n+m) cap _ (by unfold maxLen;omega)
 have hRl:R.length=G*3:=by
  rw[hR,gh,gh,mh,mh,zL,hlx]
  grind
 have hRt:R.take (i*3)=XS.take (i*3):=by
  grind
 have hrz:∀ty,(Builtin.append_ #[41,3] ty #[.slice (some (Ad pb 0)) i cap,I ((n:Int)+(m:Int)-(i:Int))]).run Tryz.prog w=.ok (.slice (some (Ad w.heap.size 0)) (n+m) G) (w.drew.alloc (.cells R.toArray 45)):=fun ty=>by
  have h:=Lib.run_append_grow_zeros (P:=Tryz.prog) w 41 3 ty 45 i0 _ .i64 .i64 Tryz.underlying41 Tryz.underlying3 hin hz0 (some (Ad pb 0)) i cap (XS.take (i*3)) hold (n+m-i) (by omega) (by omega) (by omega) (by omega) (by grind) (by rw[hz2,hik];exact growslice_fits hroom (by omega));rw[hik,<- hG] at h;rw[hkk,h];congr 3;rw[hR];have e1:=A8 (Value.cells (.agg #[I 0,I 0,I 0])) (n+m-i) (by decide);have e2:=A8 (Value.cells (.agg #[I 0,I 0,I 0])) (G-(n+m)) (by decide);apply Im.1;rw[T4,T4,e1,e2];rfl
 have hg0:(w.drew.alloc (.cells R.toArray 45)).heap[w.heap.size]?=some (.cells R.toArray 45 (0,0)):=bG w.drew _ _;obtain⟨W0,hW0⟩:=ex (w.drew.alloc (.cells R.toArray 45));rw[<- hW0] at hrz hg0;have kp0:Below w.heap.size w W0:=by rw[hW0];exact(aK _ _).drew.alloc (aM _) _
 obtain⟨H,hH⟩:=ex w.heap.size;rw[<- hH] at hrz hg0 hlo;obtain⟨DS,hDS⟩:=ex (XS.drop (i*3));have hDl:DS.length=(n-i)*3:=by rw[hDS,TX,hlx];omega
 obtain⟨R1,DR⟩:=ex (splice R (i*3) ZS);have ajd:R1.length=G*3:=by rw[DR,length_splice _ _ _ (by omega)];exact hRl
 obtain⟨R2,OC⟩:=ex (splice R1 ((i+m)*3) DS);have aey:R2.length=G*3:=by rw[OC,length_splice _ _ _ (by omega)];omega
 have aex:R2.take ((n+m)*3)=XS.take (i*3)++(ZS++DS):=by
  have:=VM R ZS DS (i*3) ((i+m)*3) (by omega) (by omega);rw[<- DR,<- OC,hDl,show(i+m)*3+(n-i)*3=(n+m)*3 by omega] at this;rw[this,hRt]
 have aep:∀ty dc,(Builtin.copy_ #[41,41] ty #[.slice (some (Ad H (i*3))) (n+m-i) dc,.slice (some (Ad zb 0)) m cz]).run Tryz.prog W0=.ok (goInt m) (W0.setRow H R1.toArray):=fun ty dc=>by
  have:=sH (P:=Tryz.prog) W0 41 41 ty 45 3 Tryz.underlying41 E1 H (i*3) (n+m-i) dc (some (Ad zb 0)) m cz R 45 hg0 ZS (by rw[hlz];simp only[Ci];split <;> omega) (fun _=>⟨_,rfl,fun j u hu=>by
   obtain⟨ad,e,hc⟩:=HFZ.o (by omega);injection e with e;subst e;have:=hc j u hu;rw[ux] at this ⊢;exact(kp0.cell (p:=(Ad zb (0+j))) hzb).trans this⟩) (by omega) H1.o
  rw[this,<- DR];congr 2;simp only[Ci];split <;> omega
 have hg1:(W0.setRow H R1.toArray).heap[H]?=some (.cells R1.toArray 45 (0,0)):=ng W0 H _ _ _ _ hg0;obtain⟨W1,hW1⟩:=ex (W0.setRow H R1.toArray);rw[<- hW1] at aep hg1;have kp1:Below w.heap.size w W1:=by rw[hW1];exact below_setRow kp0 (by omega) _
 have ai1:∀ty dc sc,(Builtin.copy_ #[41,41] ty #[.slice (some (Ad H ((i+m)*3))) (n+m-(i+m)) dc,.slice (some (Ad pb (i*3))) (n-i) sc]).run Tryz.prog W1.drew=.ok (goInt (n-i)) (W1.drew.setRow H R2.toArray):=fun ty dc sc=>by
  have:=sH (P:=Tryz.prog) W1.drew 41 41 ty 45 3 Tryz.underlying41 E1 H ((i+m)*3) (n+m-(i+m)) dc (some (Ad pb (i*3))) (n-i) sc R1 45 hg1 DS (by rw[hDl];simp only[Ci];split <;> omega) (fun _=>⟨_,rfl,fun j u hu=>by
   obtain⟨ad,e,hc⟩:=xJ.o (by omega);injection e with e;subst e;have:=hc (i*3+j) u (by rw[hDS,List.getElem?_drop] at hu;exact hu);rw[ux] at this ⊢;rw[iI] at this;exact(kp1.cell (p:=(Ad pb (i*3+j))) hpb).trans this⟩) (by omega) (fun u hu=>H1P.o u (by rw[hDS] at hu;exact List.mem_of_mem_drop hu))
  rw[this,<- OC];congr 2;simp only[Ci];split <;> omega
 have hg2:(W1.drew.setRow H R2.toArray).heap[H]?=some (.cells R2.toArray 45 (0,0)):=ng W1.drew H _ _ _ _ hg1;have kp2:Below w.heap.size w (W1.drew.setRow H R2.toArray):=below_setRow kp1.drew (by omega) _;have cZ:Hid (od lo (.slice (some (Ad pb 0)) n cap) (ps.take i++(zs++ps.drop i)) w (.returned (.slice (some (Ad H 0)) (n+m) G)) (W1.drew.setRow H R2.toArray)):=by
  have hl:(ps.take i++(zs++ps.drop i)).length=n+m:=by rw[gh,gh,zL,TX,<- Xd,<- hme];omega
  refine⟨_,rfl,?_,aH.b7 kp2,fun b hb=>.inr (by have:some H=some b:=hb;injection this;omega)⟩;rw[hl];have hx:(ps.take i++(zs++ps.drop i)).flatMap bk=R2.take ((n+m)*3):=by
   rw[aex,ZB,hZS,hDS,ZB,Db,JV,tG,tG]
  rw[hx];exact⟨by rw[zL,aey];omega,.inr ⟨H,G,R2.toArray,rfl,hlo,hg2,hGn,ajh,by omega,by simp⟩⟩
 obtain⟨P,hP⟩:=ex (od lo (.slice (some (Ad pb 0)) n cap) (ps.take i++(zs++ps.drop i)) w);rw[<- hP] at cZ ⊢;have hm0:((m:Int)==0)=false:=by rw[Cn];omega
 have avN:((i:Int)==(n:Int))=false:=by rw[Cn];omega
 have hw1:IntKind.i64.wrap ((i:Int)+(m:Int))=(i:Int)+(m:Int):=mP _ (by omega);have hb1:(0:Int)<=(i:Int)+(m:Int):=by omega
 have htn:((i:Int)+(m:Int)).toNat=i+m:=by omega
 have hb2:¬(G=i+m):=by omega
 have hb3:(i:Int)<=(n:Int):=by omega
 have hb4:¬(cap=i):=by omega
 have Cf:¬(G=i):=by omega
 have hr2:(cap:Int)<(n:Int)+(m:Int):=by omega
 have apP:G<=9223372036854775807:=by unfold maxLen at ajh;omega
 clear h hz Xd hme ZB hZS hDS hDl DR OC hW1 hW0 hR hRl hRt ajd aey aex hlx hlz hP hg0 hg1 hg2 kp0 kp1 kp2 HFZ xJ H1 H1P ajh hG hH hold hin hz0 hz1 hz2 hik hkk;go_enter Tryz.func192,Tryz.ntmps192;go_wp2_with (first
  | (at_builtin;refine Lib.wpList_append_run _ rfl _ _ _ _ rfl _ _ rfl rfl _ _ (hrz _) ?_)
  | (at_builtin;refine MR _ rfl _ _ 41 41 rfl _ _ rfl rfl (aep _ _) ?_))
 go_region_law (refine QO rfl _ _ 41 41 rfl _ _ (by simp[Act.eval,Act.put]) (by simp[Act.eval,Act.put]) (ai1 _ _ _) ?_)
 go_wp2;exact cZ.o
theorem Sc (lo:Nat) (ps zs:List bC) (vp vz:Value) (wz i:Nat) (w:World) (h:w.ownsRow lo 45 3 vp ps.length (ps.flatMap bk)) (hz:w.ownsRow wz 45 3 vz zs.length (zs.flatMap bk)) (hlo:lo<=w.heap.size) (hne:∀b,bI vz b->¬bI vp b) (hi:i<=ps.length) (hm:1<=zs.length) (hn:ps.length<=100000) (zR:zs.length<=100000) :
  Calls Tryz.prog 192 #[vp,I (i:Int),vz] w (od lo vp (ps.take i++(zs++ps.drop i)) w):=by
 obtain⟨ao,cap,rfl,zw,hg⟩:=aY h;obtain⟨az,cz,rfl,_,hgz⟩:=aY hz;by_cases c:i=ps.length
 · subst c;have e:ps.take ps.length++(zs++ps.drop ps.length)=ps++zs:=by grind
   rw[e];exact Sb lo ps zs ao az cap cz wz w h hz hlo hm hn zR
 · obtain⟨pb,rfl,_,_⟩:=hg (by omega);obtain⟨zb,rfl,_,_⟩:=hgz (by omega);by_cases d:ps.length+zs.length<=cap
   · exact Np lo ps zs pb zb cap cz wz i w h hz (fun e=>hne zb rfl (by rw[e];rfl)) (by omega) hm hn zR d
   · exact Qc lo ps zs pb zb cap cz wz i w h hz hlo (by omega) hm hn zR (by omega)
theorem Tw (l:List bC) (i:Nat) (h:i<l.length):l[i]?=some (aI l i):=by
 grind [aI]
structure tW (p:bC->Bool) (ps q:List bC) (i j:Nat):Prop where
 len:q.length=ps.length
 lt:i<j
 le:j<=ps.length
 front:q.take i=(ps.take j).filter (fun g=>!p g)
 back:q.drop j=ps.drop j
theorem yh (l:List bC) (j:Nat) (h:j<l.length):l.take (j+1)=l.take j++[aI l j]:=by
 grind [List.take_add_one,Tw]
theorem tW.start {p:bC->Bool} {ps:List bC} {i:Nat} (hi:i<ps.length) (hg:p (aI ps i)=true) (hno:∀j,j<i->p (aI ps j)=false):tW p ps ps i (i+1):=by
 refine⟨rfl,by omega,hi,?_,rfl⟩;have:∀k,k<=i->(ps.take k).filter (fun g=>!p g)=ps.take k:=fun k=>by
  induction k with
  | zero=>grind
  | succ k ih =>
   grind [yh]
 grind [yh]
theorem tW.at {p:bC->Bool} {ps q:List bC} {i j:Nat} (h:tW p ps q i j) (hj:j<ps.length):aI q j=aI ps j:=by
 have e:(q.drop j)[0]?=(ps.drop j)[0]?:=by rw[h.back]
 grind [Tw]
theorem tW.skip {p:bC->Bool} {ps q:List bC} {i j:Nat} (h:tW p ps q i j) (hj:j<ps.length) (hg:p (aI ps j)=true):tW p ps q i (j+1):=by
 refine⟨h.len,by have:=h.lt;omega,hj,?_,?_⟩
 · grind [yh,front]
 · rw[<- ND,<- ND,h.back]
theorem tW.keep {p:bC->Bool} {ps q:List bC} {i j:Nat} (h:tW p ps q i j) (hj:j<ps.length) (hg:p (aI ps j)=false):tW p ps (q.set i (aI ps j)) (i+1) (j+1):=by
 have hlt:=h.lt;have hln:=h.len;refine⟨by grind,by omega,hj,?_,?_⟩
 · grind [yh,List.take_set,List.set_eq_of_length_le,List.length_take,front]
 · rw[List.drop_set_of_lt (by omega),<- ND,<- ND,h.back]
theorem tW.done {p:bC->Bool} {ps q:List bC} {i:Nat} (h:tW p ps q i ps.length):q.take i=gA ps p:=by
 rw[h.front,tF];rfl
theorem VN (q:List bC) (i:Nat) (g:bC) (hi:i<q.length):(q.set i g).flatMap bk=(((q.flatMap bk).set (i*3) (I g.page)).set (i*3+1) (I g.kind)).set (i*3+2) (I g.loc):=by
 have h1:=n9 bk 3 kT eD ⟨g.page,(aI q i).kind,(aI q i).loc⟩ 0 (I g.page) (by omega) q i hi rfl;have h2:=n9 bk 3 kT eD ⟨g.page,g.kind,(aI q i).loc⟩ 1 (I g.kind) (by omega) (q.set i ⟨g.page,(aI q i).kind,(aI q i).loc⟩) i (by grind) (by
  rw[zQ,List.getElem?_set_self hi];rfl)
 rw[rh,h1] at h2;have h3:=n9 bk 3 kT eD g 2 (I g.loc) (by omega) (q.set i ⟨g.page,g.kind,(aI q i).loc⟩) i (by grind) (by
  rw[zQ,List.getElem?_set_self hi];rfl)
 simp_all
theorem YO {ps:List bC} {p:bC->Bool} (h:∀j,j<ps.length->p (aI ps j)=false):gA ps p=ps:=by
 unfold gA;rw[List.filter_eq_self];intro g hg;obtain⟨k,hk,rfl⟩:=jb eD hg
 grind [aI]
theorem aa0 (F:FuncId) (E:List Value) (x:Nat) (hFE:(F=202/\E=[.pointer (some (Ad x 0))])∨(F=120/\E=[.pointer (some (Ad x 0))])∨(F=88/\E=[])) (P:bC->Bool) (es:List bC) (ao:Option Addr) (cap:Nat) (w:World) (h:dz bk 3 eD w ao es) (hl:es.length<=1000000)
  (hC:∀V e,Below w.heap.size w V->Calls Tryz.prog F (Value.agg #[I e.page,I e.kind,I e.loc]::E).toArray V fun r w'=>r=.returned (.bool (P e))/\Below V.heap.size V w') :
  Calls Tryz.prog 153 #[.slice ao es.length cap,.func (.func F) #[] E.toArray] w fun e w' =>
   Below w.heap.size w w'/\((e=.returned (I (-1))/\∀j,j<es.length->P (aI es j)=false)∨∃i:Nat,i<es.length/\e=.returned (I (i:Int))/\P (aI es i)=true/\∀j,j<i->P (aI es j)=false):=by
 have HH:=ai h;have HC:=ai hC;clear h hC;rcases hFE with⟨rfl,rfl⟩ | ⟨rfl,rfl⟩ | ⟨rfl,rfl⟩
 all_goals
  go_enter Tryz.func153,Tryz.ntmps153;go_wp2;go_loopw [8] (fun iv wr=>∃k:Nat,k<=es.length/\iv=I (k:Int)/\(∀j,j<k->P (aI es j)=false)/\Below w.heap.size w wr) (fun iv _=>es.length-(intOf iv).toNat)
  case atStart=>grind [Below.refl]
  case round =>
   obtain⟨k,hk,rfl,hno,hb⟩:=hrel;have pq:=ai hno;have HB:=ai hb;clear hno;by_cases hlt:k<es.length
   · have MU:(k:Int)<(es.length:Int):=by omega
     obtain⟨eb,eo,hao,hbl,fG⟩:=HH.o (by omega);subst hao;have y0:=(hb.cell (p:=(Ad eb (eo+k*3+0))) hbl).trans (fG k hlt 0 (by omega));have y1:=(hb.cell (p:=(Ad eb (eo+k*3+1))) hbl).trans (fG k hlt 1 (by omega));have y2:=(hb.cell (p:=(Ad eb (eo+k*3+2))) hbl).trans (fG k hlt 2 (by omega));rw[gV] at y0;have vv:=ai (HC.o wr (aI es k) hb);obtain⟨G,hG⟩:=ex (P (aI es k));rw[<- hG] at vv;have HG:=ai hG;obtain⟨E,hE⟩:=ex (aI es k);have x0:wr.cell? (Ad eb (eo+k*3))=some (I E.page):=by rw[hE];exact y0
     have x1:wr.cell? (Ad eb (eo+k*3+1))=some (I E.kind):=by rw[hE];exact y1
     have x2:wr.cell? (Ad eb (eo+k*3+2))=some (I E.loc):=by rw[hE];exact y2
     rw[<- hE] at vv;clear hG hE hb y0 y1 y2 fG;cases G with
     | true =>
      go_wp2_with ((first | go_at_call 202 | go_at_call 120 | go_at_call 88);refine vv.o.mono ?_;rintro e w1 ⟨rfl,hb1⟩;have cT:=ai (HB.o.trans (hb1.mono HB.o.size));clear hb1)
      go_ret;exact⟨cT.o,.inr ⟨k,hlt,rfl,HG.o.symm,pq.o⟩⟩
     | false =>
      go_wp2_with ((first | go_at_call 202 | go_at_call 120 | go_at_call 88);refine vv.o.mono ?_;rintro e w1 ⟨rfl,hb1⟩;have cT:=ai (HB.o.trans (hb1.mono HB.o.size));clear hb1)
      grind [intOf,Hid.o]
   · obtain rfl:k=es.length:=by omega
     clear hb;go_wp2;go_ret;exact⟨HB.o,.inl ⟨rfl,pq.o⟩⟩
theorem YP {lo:Nat} {es:List bC} {ao:Option Addr} {cap:Nat} {w:World} (h:w.ownsRow lo 45 3 (.slice ao es.length cap) es.length (es.flatMap bk)):dz bk 3 eD w ao es:=by
 obtain⟨a,c,e,_,hr⟩:=nD bk (fun _=>rfl) eD h
 grind
theorem Sd (F:FuncId) (E:List Value) (x:Nat) (hFE:(F=202/\E=[.pointer (some (Ad x 0))])∨(F=120/\E=[.pointer (some (Ad x 0))])∨(F=88/\E=[])) (lo:Nat) (ps:List bC) (p:bC->Bool) (vp:Value) (w:World) (h:w.ownsRow lo 45 3 vp ps.length (ps.flatMap bk)) (hC:∀V e,aH (bI vp) w V->Calls Tryz.prog F (Value.agg #[I e.page,I e.kind,I e.loc]::E).toArray V fun r w'=>r=.returned (.bool (p e))/\Below V.heap.size V w') (hl:ps.length<=100000) :
  Calls Tryz.prog 131 #[vp,.func (.func F) #[] E.toArray] w (od lo vp (gA ps p) w):=by
 obtain⟨ao,cap,rfl,hcm,hgo⟩:=aY h;have TD:=ai (aa0 F E x hFE p ps ao cap w (YP h) (by omega) (fun V e hV=>hC V e (aH.b7 hV)));have HH:=ai h;have HC:=ai hC;obtain⟨P,hP⟩:=ex (od lo (.slice ao ps.length cap) (gA ps p) w);have HP:Hid (∀e w',od lo (.slice ao ps.length cap) (gA ps p) w e w'->P e w'):=fun e w' h=>by simp_all
 rw[<- hP];have HGO:=ai hgo;clear h hC hP hgo;by_cases hall:∀j,j<ps.length->p (aI ps j)=false
 · have HI2:Hid (Calls Tryz.prog 153 #[.slice ao ps.length cap,.func (.func F) #[] E.toArray] w fun e w'=>e=.returned (I (-1))/\Below w.heap.size w w'):=TD.o.mono fun e w' ⟨hb,hh⟩=>by
    grind
   have HAL:=ai (YO hall);clear hall TD;rcases hFE with⟨rfl,rfl⟩ | ⟨rfl,rfl⟩ | ⟨rfl,rfl⟩
   all_goals
    go_enter Tryz.func131,Tryz.ntmps131;go_wp2_with (go_at_call 153;refine HI2.o.mono ?_;rintro e w1 ⟨rfl,hb1⟩;have cT:=ai hb1;clear hb1)
    exact HP.o _ _ ⟨_,rfl,by rw[HAL.o];exact aH.row (aH.b7 (D:=fun _=>False) cT.o) HH.o (fun _ _ g=>g),aH.b7 cT.o,fun b hb=>.inl hb⟩
 · have HI2:Hid (Calls Tryz.prog 153 #[.slice ao ps.length cap,.func (.func F) #[] E.toArray] w fun e w'=>∃i:Nat,e=.returned (I (i:Int))/\tW p ps ps i (i+1)/\Below w.heap.size w w'):=TD.o.mono fun e w' ⟨hb,hh⟩=>by
    grind [tW.start]
   have hpos:0<ps.length:=by
    grind
   obtain⟨pb,rfl,hlo,hpb⟩:=HGO.o hpos;clear hall TD HGO;rcases hFE with⟨rfl,rfl⟩ | ⟨rfl,rfl⟩ | ⟨rfl,rfl⟩
   all_goals
    go_enter Tryz.func131,Tryz.ntmps131;go_wp2_with (go_at_call 153;refine HI2.o.mono ?_;rintro e w1 ⟨i1,rfl,aiY,hb1⟩;have cT:=ai hb1;have qN:=ai aiY;have hi1:=aiY.le;have hi2:((i1:Int)==-1)=false:=(by rfl);clear hb1 aiY)
    go_loopw [5,6] (fun iv jv wr=>∃(i j:Nat) (q:List bC),iv=I (i:Int)/\jv=I (j:Int)/\tW p ps q i j/\wr.ownsRow lo 45 3 (.slice (some (Ad pb 0)) ps.length cap) ps.length (q.flatMap bk)/\aH (fun b=>b=pb) w wr) (fun _ jv _=>ps.length-(intOf jv).toNat)
    case atStart=>exact⟨i1,i1+1,ps,rfl,by go_num,qN.o,aH.row (aH.b7 (D:=fun _=>False) cT.o) HH.o (fun _ _ g=>g),aH.b7 cT.o⟩
    case round =>
     obtain⟨i,j,q,rfl,rfl,hf,hrow,yu⟩:=hrel;have hij:=hf.lt;have hjl:=hf.le;have HF:=ai hf;have HR:=ai hrow;have HK:=ai yu;clear qN cT hi1;by_cases hlt:j<ps.length
     · have KT:(j:Int)<(ps.length:Int):=by omega
       have Gd:(i:Int)<(ps.length:Int):=by omega
       have hql:=hf.len;have hrw:∀V:World,V.ownsRow lo 45 3 (.slice (some (Ad pb 0)) ps.length cap) ps.length (q.flatMap bk)->∀k,k<ps.length->V.cell? (Ad pb (k*3))=some (I (aI q k).page)/\V.cell? (Ad pb (k*3+1))=some (I (aI q k).kind)/\V.cell? (Ad pb (k*3+2))=some (I (aI q k).loc):=fun V hV k hk=>by
        rw[<- hql] at hV;exact⟨lB bk kT eD hV k 0 (by omega) (by omega),lB bk kT eD hV k 1 (by omega) (by omega),lB bk kT eD hV k 2 (by omega) (by omega)⟩
       have Sh:=ai hrw;obtain⟨c0,c1,c2⟩:=hrw wr hrow j hlt;rw[hf.at hlt] at c0 c1 c2;have avl:pb<wr.heap.size:=(hrow.lt pb rfl).2;have avm:¬pb=wr.heap.size:=by omega
       have HA:=ai ((aK wr.heap.size wr).alloc (aM _) (.cells #[I (aI ps j).page,I (aI ps j).kind,I (aI ps j).loc] 45));have vv:=ai (HC.o (wr.alloc (.cells #[I (aI ps j).page,I (aI ps j).kind,I (aI ps j).loc] 45)) (aI ps j) ((yu.trans (aH.b7 (D:=fun b=>b=pb) HA.o) (fun _ _ g=>g)).mono (fun b _ e=>by subst e;rfl)));have BX:=ai (bG wr #[I (aI ps j).page,I (aI ps j).kind,I (aI ps j).loc] 45);have HSK:=ai (hf.skip hlt);have ZK:=ai (hf.keep hlt);obtain⟨G,hG⟩:=ex (p (aI ps j));rw[<- hG] at vv HSK ZK;obtain⟨g,hg⟩:=ex (aI ps j);rw[<- hg] at c0 c1 c2 vv ZK HA BX;clear hG hg hrow yu hrw hf;cases G with
       | true =>
        go_wp2_with ((first | go_at_call 202 | go_at_call 120 | go_at_call 88);refine vv.o.mono ?_;rintro e w2 ⟨rfl,hb2⟩;have fq:=ai (HA.o.trans (hb2.mono HA.o.size));clear hb2)
        go_roundw
        case rel=>exact⟨i,j+1,q,rfl,by go_num,HSK.o (by trivial),aH.row (aH.b7 (D:=fun _=>False) fq.o) HR.o (fun _ _ g=>g),HK.o.trans (aH.b7 (D:=fun b=>b=pb) fq.o) (fun _ _ g=>g)⟩
        grind [intOf]
       | false =>
        go_wp2_with ((first | go_at_call 202 | go_at_call 120 | go_at_call 88);refine vv.o.mono ?_;rintro e w2 ⟨rfl,hb2⟩;have fq:=ai (HA.o.trans (hb2.mono HA.o.size));have zC:=ai (aH.row (aH.b7 (D:=fun _=>False) fq.o) HR.o (fun _ _ g=>g));have hc2:=Sh.o _ zC.o i (by omega);obtain⟨d0,d1,d1b⟩:=hc2;have d2:=ig zC.o (i*3);have d3:=ig zC.o (i*3+1);have d3b:=ig zC.o (i*3+2);have hx2:=aQ BX.o hb2 (aO BX.o);obtain⟨d4,d5,d6⟩:=og hx2;clear hb2 hx2)
        go_roundw
        case rel =>
         refine⟨i+1,j+1,q.set i g,by go_num,by go_num,ZK.o (by trivial),?_,?_⟩
         · grind [VN,pD,Hid.o]
         · exact(((HK.o.trans (aH.b7 (D:=fun b=>b=pb) fq.o) (fun _ _ g=>g)).trans (aH.set (fun b=>b=pb) w2 (Ad pb (i*3)) _ rfl) (fun _ _ g=>g)).trans (aH.set (fun b=>b=pb) _ (Ad pb (i*3+1)) _ rfl) (fun _ _ g=>g)).trans (aH.set (fun b=>b=pb) _ (Ad pb (i*3+2)) _ rfl) (fun _ _ g=>g)
        grind [intOf]
     · obtain rfl:j=ps.length:=by omega
       have hql:=hf.len;have hdn:=hf.done;obtain⟨cur,hcz,hgc,hcs,hct⟩:∃cur:Array Value,cur.size=cap*3/\wr.heap[pb]?=some (.cells cur 45 (0,0))/\cap<=maxLen/\cur.toList.take (ps.length*3)=q.flatMap bk:=by
        rcases hrow.2 with⟨h0,_⟩ | ⟨g,cap',cur,hv,hb,hg,h1,h2,h3,h4⟩
        · omega
        grind
       have hcl:cur.toList.length=cap*3:=hcz;have alS:∀ty c,(Builtin.clear_ #[41] ty #[.slice (some (Ad pb (i*3))) (ps.length-i) c]).run Tryz.prog wr=.ok (.tuple #[]) (wr.setRow pb (splice cur.toList (i*3) (jE [I 0,I 0,I 0] (ps.length-i))).toArray):=fun ty c=>J1 (P:=Tryz.prog) wr 41 ty 45 (.agg #[I 0,I 0,I 0]) Tryz.underlying41 aeY (by decide) (by decide) pb (i*3) (ps.length-i) c cur.toList 45 (by omega) (by
        grind [Value.cells])
       obtain⟨S,hS⟩:=ex (splice cur.toList (i*3) (jE [I 0,I 0,I 0] (ps.length-i)));rw[<- hS] at alS;have hSl:S.length=cap*3:=by
        grind [length_splice,mh]
       have hSt:S.take (i*3)=(gA ps p).flatMap bk:=by
        rw[<- hdn,<- Db,<- hct,List.take_take,Nat.min_eq_left (by omega),hS]
        grind [splice]
       have hol:(gA ps p).length=i:=by grind
       have hg2:(wr.setRow pb S.toArray).heap[pb]?=some (.cells S.toArray 45 (0,0)):=ng wr pb _ _ _ _ hgc;have cZ:Hid (P (.returned (.slice (some (Ad pb 0)) i cap)) (wr.setRow pb S.toArray)):=HP.o _ _ ⟨_,rfl,by
        rw[hol,<- hSt];exact⟨by grind,.inr ⟨pb,cap,S.toArray,rfl,hlo,hg2,by omega,hcs,by omega,by simp⟩⟩,(yu.mono (fun b _ e=>by subst e;rfl)).trans (Dc wr pb S.toArray) (fun b _ e=>by subst e;rfl),fun b hb=>.inl hb⟩
       have hic:¬cap=i:=by omega
       have hin:(i:Int)<=(ps.length:Int):=by omega
       have avG:i<=cap:=by omega
       clear hf hrow yu HF HR HK hgc hct hdn hS hSl hSt hol hg2 hql hcz hcl HI2 HP HH HC;go_wp2_with (at_builtin;refine acC _ rfl _ 41 rfl _ rfl (alS _ _) ?_)
       exact cZ.o
theorem Ek (kd a:Int):∀ss:List dm,(cO ss kd a).length<=(wL ss).length
 | []=>ql _
 | s::r=>by
  have ih:=Ek kd a r
  grind [ie,wL,lN]
theorem Pm {k:aN} (h:bg k):(wL k.aj).length<=512:=by
 have h1:=EZ k.aj.length k.aj rfl (fun s hs=>wJ (h.each s hs));have h2:=h.room;have h3:=h.c;omega
theorem o7 {k:aN} (h:bg k):(∀i,i<k.frames.length->0<=(au k.frames i).refs/\(au k.frames i).refs<=512)/\(∀i,i<k.slots.length->0<=(bw k.slots i).refs/\(bw k.slots i).refs<=512):=by
 have h1:=Pm h;refine⟨fun i hi=>?_,fun i hi=>?_⟩
 · have:=(h.zS i hi).refs
   grind [Ek]
 · have:=(h.slt i hi).refs
   grind [Ek]
theorem jC {k:aN} (h:bg k) {j:Nat} (hj:j<k.aj.length):(ak k.aj j).aW.length<=512:=by
 have h4:=Pm h;have:∀(l:List dm) (j:Nat),j<l.length->(ak l j).aW.length<=(wL l).length:=fun l=>by
  induction l with
  | nil=>grind
  | cons s r ih =>
   grind [wL,ak]
 grind
theorem qR.kp {α:Type} {f:α->List Value} {k:Nat} {d:α} {w w':World} {ao:Option Addr} {l:List α} {D:Nat->Prop} (h:dz f k d w ao l) (hk:aH D w w') (hn:∀b off,ao=some (Ad b off)->¬D b):dz f k d w' ao l:=fun hl=>by
 obtain⟨b,off,e,hb,hi⟩:=h hl;refine⟨b,off,e,jt hb hk.size,fun i hi' j hj=>?_⟩;exact(Fw (hk.block b hb (hn b off e))).trans (hi i hi' j hj)
theorem Gt {lo mb:Nat} {tt:TypeId} {X:List Value} (F:FuncId) (E:List Value) (x:Nat) (hFE:(F=202/\E=[.pointer (some (Ad x 0))])∨(F=120/\E=[.pointer (some (Ad x 0))])∨(F=88/\E=[]))
  (k:aN) (S:dN) (w:World) (j:Nat) (p:bC->Bool) (h:bQ lo mb tt X w S k) (hR:bg k) (hj:j<k.aj.length) (hC:∀V e,aH (fun b=>S.lab b≠.no) w V->Calls Tryz.prog F (Value.agg #[I e.page,I e.kind,I e.loc]::E).toArray V fun r w'=>r=.returned (.bool (p e))/\Below V.heap.size V w') :
  Calls Tryz.prog 87 #[.pointer (some (Ad mb 0)),I (j:Int),.func (.func F) #[] E.toArray] w (dK lo mb tt X w S (.tuple #[]) (fI k j p)):=by
 have hlo:lo<=w.heap.size:=gJ h.lo_le (rV h.lt);have hcc:=hR.c;have hen:=jC hR hj;obtain⟨pb,cP,A⟩:=h.toiZ.sp (by omega);obtain⟨ae,ce,Cv,hre⟩:=h.toiZ.aW hj;have c3:=h.c3;rw[A.v] at c3;have a2:=A.x2 j hj;rw[Cv] at a2;have KT:(j:Int)<(k.aj.length:Int):=by omega
 obtain⟨es,hes⟩:=ex ((ak k.aj j).aW);rw[<- hes] at a2 hen hre Cv;have HST:Hid (∀V n,n<es.length->bQ lo mb tt X V S (cU k es p n)->V.cell? (Ad pb (j*3+2))=some (.slice ae es.length ce)/\dz bk 3 eD V ae es):=fun V n hn hV=>by
  have hjn:j<(cU k es p n).aj.length:=by rw[lO];exact hj
  obtain⟨GV,ZX,A'⟩:=hV.toiZ.sp (by omega);have e:GV=pb:=by
   have:=A'.v;rw[A.v] at this
   grind
  subst e;have x2:=A'.x2 j hjn;rw[Cv] at x2;obtain⟨ae',ce',ao7,apj⟩:=hV.toiZ.aW hjn;rw[lO,<- hes] at ao7 apj
  grind
 have HCN:Hid (∀V n,n<es.length->bQ lo mb tt X V S (cU k es p n)->Calls Tryz.prog 85 #[.pointer (some (Ad mb 0)),.agg #[I (aI es n).page,I (aI es n).kind,I (aI es n).loc],I (-1)] V (kW lo mb tt X V S (.tuple #[]) (df (cU k es p n) (aI es n)))):=fun V n hn hV=>by
  have hin:aI es n∈(ak k.aj j).aW:=by rw[<- hes];exact jD hn
  have hb:=iQ hR hj hin;have hr:=uj k es p n;have hp:=uS hR hj p n (by grind);rw[<- hes] at hp;have hf:=o7 hp;have hf1:∀i,i<(cU k es p n).frames.length->0<=(au (cU k es p n).frames i).refs/\(au (cU k es p n).frames i).refs<=512:=hf.1;have hf2:∀i,i<(cU k es p n).slots.length->0<=(bw (cU k es p n).slots i).refs/\(bw (cU k es p n).slots i).refs<=512:=hf.2;rw[<- EW];refine CO _ S V (aI es n) (-1) hV (fun c=>?_) (fun c=>?_) (.inr rfl) ⟨fun c=>?_,fun c=>?_⟩
  · omega
  · omega
  · grind
  grind
 have Oj:=ai hC;have HDL:Hid (∀V,bQ lo mb tt X V S (cU k es p es.length)->dI S w S V->Calls Tryz.prog 131 #[.slice ae es.length ce,.func (.func F) #[] E.toArray] V fun e w'=>∃av nv cv,e=.returned (.slice av nv cv)/\∃S',bQ lo mb tt X (w'.setCell (Ad pb (j*3+2)) (.slice av nv cv)) S' (fI k j p)/\dI S w S' (w'.setCell (Ad pb (j*3+2)) (.slice av nv cv))/\w'.frozen? (Ad pb (j*3+2))=false/\(∃u,w'.cell? (Ad pb (j*3+2))=some u)):=fun V hV hch=>by
  have hjn:j<(cU k es p es.length).aj.length:=by rw[lO];exact hj
  have hrow:=(hV.each j hjn).aR;rw[lO,<- hes,Cv] at hrow;have hlab:∀b,bI (.slice ae es.length ce) b->S.lab b=.aW j:=fun b hb=>hV.lE j hjn b (by grind)
  refine(Sd F E x hFE lo es p (.slice ae es.length ce) V hrow (fun U e hU=>Oj.o U e ?_) (by omega)).mono fun e w' ⟨v',h1,h2,h3,h4⟩=>?_
  · exact((hch.kp.mono (fun b _ g=>g)).trans hU (fun b hb hx=>by grind))
  · obtain⟨av,cv,rfl,_,_⟩:=aY h2;obtain⟨GV,ZX,A'⟩:=hV.toiZ.sp (by omega);have hP:S.vP=.slice (some (Ad pb 0)) k.aj.length cP:=A.v;have k1:aH (fun b=>S.lab b=.aW j) V w':=h3.mono (fun b _ hx=>hlab b hx);have sw:=hV.SG hjn hP k1 h2 (fun b hb=>by
     rcases h4 b hb with g | g
     · exact .inl (hlab b g)
     · exact .inr (hV.toiZ.new g))
    have e1:({ cU k es p es.length with aj:=(cU k es p es.length).aj.set j (dX (ak (cU k es p es.length).aj j) (gA es p)) }:aN)=fI k j p:=by
     unfold fI mC
     grind
    refine⟨av,_,cv,h1,_,e1 ▸ sw.1,hch.trans (sw.2 (fun b hb hx=>?_)),?_,?_⟩
    · rcases h4 b hx with g | g
      · exact hlab b g
      · omega
    · have hrP:=hV.aj;rw[hP] at hrP;have hrl:=h.len;have:=k1.row hrP (fun b hb e=>by
       have:S.lab b=.aj:=hV.lP b (by rw[hP];exact hb);rw[this] at e;simp at e)
      have hl2:S.L.length=k.aj.length:=hrl;rw[<- hl2] at this;exact ig this _
    · have hpl:S.lab pb=.aj:=A.lab;have c2:=A'.x2 j hjn;have e:GV=pb:=by
       have:=A'.v;rw[A.v] at this;injection this with e1 _ _;injection e1 with e1;injection e1 with e1 _ _;omega
      subst e;exact⟨_,k1.cell c2 (fun e=>by have e:S.lab GV=.aW j:=e;rw[hpl] at e;simp at e)⟩
 have cZ:Hid (∀V S',bQ lo mb tt X V S' (fI k j p)->dI S w S' V->dK lo mb tt X w S (.tuple #[]) (fI k j p) (.returned (.tuple #[])) V):=fun V S' h1 h2=>⟨rfl,S',h1,h2⟩
 have Nq:=ai (fun V (hV:bQ lo mb tt X V S (cU k es p es.length))=>(show V.cell? (Ad pb (j*3+2))=some (.slice ae es.length ce) from by
  have hjn:j<(cU k es p es.length).aj.length:=by rw[lO];exact hj
  obtain⟨GV,ZX,A'⟩:=hV.toiZ.sp (by omega);have e:GV=pb:=by
   have:=A'.v;rw[A.v] at this
   grind
  subst e;have x2:=A'.x2 j hjn
  grind))
 have rz:=ai h;have TC:Hid (∀V n,bQ lo mb tt X V S (cU k es p n)->∀V',Below V.heap.size V V'->bQ lo mb tt X V' S (cU k es p n)):=fun V n hV V' hb=>hV.below hb
 have vh:Hid (∀n,p (aI es n)=true->df (cU k es p n) (aI es n)=cU k es p (n+1)):=fun n hn=>by
  show _=if p (aI es n)=true then _ else _
  grind
 have pq:Hid (∀n,p (aI es n)=false->cU k es p n=cU k es p (n+1)):=fun n hn=>by
  show _=if p (aI es n)=true then _ else _
  grind
 obtain⟨P,hP⟩:=ex (dK lo mb tt X w S (.tuple #[]) (fI k j p));rw[<- hP] at cZ ⊢;obtain⟨np,G0⟩:=ex k.aj.length;rw[<- G0] at c3 KT;clear h hR hcc A Cv hre hes hC hP G0 hj hlo;rcases hFE with⟨rfl,rfl⟩ | ⟨rfl,rfl⟩ | ⟨rfl,rfl⟩
 all_goals
  go_enter Tryz.func87,Tryz.ntmps87;go_wp2;go_loopw [21] (fun iv wr=>∃n:Nat,n<=es.length/\iv=I (n:Int)/\bQ lo mb tt X wr S (cU k es p n)/\dI S w S wr) (fun iv _=>es.length-(intOf iv).toNat)
  case atStart=>exact⟨0,by omega,rfl,rz.o,dI.refl _ _⟩
  case round =>
   obtain⟨n,hn,rfl,jn,hch⟩:=hrel;have E6:=ai jn;have TE:=ai hch;by_cases hlt:n<es.length
   · have hni:(n:Int)<(es.length:Int):=by omega
     obtain⟨y2,hr2⟩:=HST.o wr n hlt jn;obtain⟨eb,eo,hao,hbl,fG⟩:=hr2 (by omega);subst hao;have x0:=fG n hlt 0 (by omega);have x1:=fG n hlt 1 (by omega);have x2:=fG n hlt 2 (by omega);rw[gV] at x0;have HA:=ai ((aK wr.heap.size wr).alloc (aM _) (.cells #[I (aI es n).page,I (aI es n).kind,I (aI es n).loc] 45));have BX:=ai (bG wr #[I (aI es n).page,I (aI es n).kind,I (aI es n).loc] 45);have vv:=ai (Oj.o (wr.alloc (.cells #[I (aI es n).page,I (aI es n).kind,I (aI es n).loc] 45)) (aI es n) ((hch.trans (dI.below (S:=S) HA.o)).kp));have anx:=ai (fun V=>HCN.o V n hlt);have HY2:=ai (vh.o n);have QM:=ai (pq.o n);obtain⟨G,hG⟩:=ex (p (aI es n));rw[<- hG] at vv HY2 QM;obtain⟨e,he⟩:=ex (aI es n);have y0:wr.cell? (Ad eb (eo+n*3))=some (I e.page):=by rw[he];exact x0
     have y1:wr.cell? (Ad eb (eo+n*3+1))=some (I e.kind):=by rw[he];exact x1
     have y3:wr.cell? (Ad eb (eo+n*3+2))=some (I e.loc):=by rw[he];exact x2
     rw[<- he] at vv HA BX anx HY2;clear hG he jn hch hr2 fG x0 x1 x2 rz;cases G with
     | true =>
      go_wp2_with (first
       | ((first | go_at_call 202 | go_at_call 120 | go_at_call 88);refine vv.o.mono ?_;rintro r w1 ⟨rfl,hb1⟩;have cT:=ai (HA.o.trans (hb1.mono HA.o.size));have BX1:=aQ BX.o hb1 (aO BX.o);obtain⟨d0,d1,d2⟩:=og BX1;clear hb1 BX1)
       | (go_at_call 85;refine(anx.o _ (TC.o _ n E6.o _ cT.o)).mono ?_;rintro r w2 ⟨rfl,hk2,hc2⟩;have pH:=ai hk2;have vO:=ai ((TE.o.trans (dI.below (S:=S) cT.o)).trans hc2);clear hk2 hc2))
      go_roundw
      case rel=>exact⟨n+1,by omega,by go_num,HY2.o (by trivial) ▸ pH.o,vO.o⟩
      case measure=>simp[intOf];omega
     | false =>
      go_wp2_with ((first | go_at_call 202 | go_at_call 120 | go_at_call 88);refine vv.o.mono ?_;rintro r w1 ⟨rfl,hb1⟩;have cT:=ai (HA.o.trans (hb1.mono HA.o.size));clear hb1)
      go_roundw
      case rel=>exact⟨n+1,by omega,by go_num,QM.o (by trivial) ▸ TC.o _ n E6.o _ cT.o,TE.o.trans (dI.below (S:=S) cT.o)⟩
      case measure=>simp[intOf];omega
   · obtain rfl:n=es.length:=by omega
     have y2:=Nq.o wr jn;have HD2:=ai (HDL.o wr jn hch);clear jn hch E6 TE HDL HST Nq HCN Oj rz TC vh pq;go_wp2_with (go_at_call 131;refine HD2.o.mono ?_;rintro r w2 ⟨av,nv,cv,rfl,S',hk2,hc2,avV,u2,hu2⟩;have pH:=ai hk2;have vO:=ai hc2;clear hk2 hc2)
     refine q9 (v:=.tuple #[]) (by simp[results,Tryz.results87,go_sem]) rfl ?_;exact cZ.o _ S' pH.o vO.o
theorem Mg (i:Int) (e:bC) (x:Nat) (w:World) (hx:w.cell? (Ad x 0)=some (I i)) :
  Calls Tryz.prog 202 #[.agg #[I e.page,I e.kind,I e.loc],.pointer (some (Ad x 0))] w fun r w'=>r=.returned (.bool (kr i e))/\Below w.heap.size w w':=by
 obtain⟨pg,kd,lc⟩:=e;unfold kr;simp only;have hxl:x<w.heap.size:=nQ w _ hx;have xA:(w.alloc (.cells #[I pg,I kd,I lc] 45)).cell? (Ad x 0)=some (I i):=(NN ((aK w.heap.size w).alloc (aM _) _) (p:=(Ad x 0)) hxl).trans hx;obtain⟨A,hA⟩:=ex (decide (kd=1/\lc=i));rw[<- hA];have HA:=ai hA;clear hA;by_cases c:kd=1
 · have kb:(kd==1)=true:=by grind
   obtain⟨C,hC⟩:=ex ((lc==i));have HC:=ai hC;have hC2:=hC.symm;have ij:=ai c;clear hC c;go_enter Tryz.func202,Tryz.ntmps202;go_wp2;go_ret;refine⟨?_,(aK _ _).alloc (aM _) _⟩;congr 2;rw[HA.o,ij.o]
   try rw[HC.o]
   by_cases d:lc=i <;> simp[d]
 · have kb:(kd==1)=false:=by grind
   have ij:=ai c;clear c;go_enter Tryz.func202,Tryz.ntmps202;go_wp2;go_ret
   simp_all [aK,mq,Hid.o]
theorem Ri (f:mO) (w:World):Calls Tryz.prog 204 #[.agg #[.string f.data,I f.refs]] w fun e w'=>e=.returned (.bool (nz f))/\Below w.heap.size w w':=by
 obtain⟨d,r⟩:=f;unfold nz;simp only;have hd:d.toList.isEmpty=decide (d.size=0):=Yf d;by_cases c1:d.size=0
 · by_cases c2:r=0
   · rw[dh (show d.size=0/\r=0 from⟨c1,c2⟩)];rw[dh c1] at hd;have h2:(r==0)=true:=by grind
     clear c1 c2;go_enter Tryz.func204,Tryz.ntmps204;go_wp2;go_ret;simp[aK,mq]
   · rw[dE (show ¬(d.size=0/\r=0) from fun x=>c2 x.2)];rw[dh c1] at hd;have h2:(r==0)=false:=by grind
     clear c1 c2;go_enter Tryz.func204,Tryz.ntmps204;go_wp2;go_ret;simp[aK,mq]
 · rw[dE (show ¬(d.size=0/\r=0) from fun x=>c1 x.1)];rw[dE c1] at hd;clear c1;go_enter Tryz.func204,Tryz.ntmps204;go_wp2;go_ret;simp[aK,mq]
theorem XU (l:List mO) (ao:Option Addr) (cap:Nat) (w:World) (h:dz gp 2 nU w ao l) (hl:l.length<=1000000) :
  Calls Tryz.prog 203 #[.slice ao l.length cap,.func (.func 204) #[] #[]] w fun e w' =>
   Below w.heap.size w w'/\((e=.returned (I (-1))/\∀j,j<l.length->nz (bw l j)=false)∨∃i:Nat,i<l.length/\e=.returned (I (i:Int))/\nz (bw l i)=true/\∀j,j<i->nz (bw l j)=false):=by
 have HH:=ai h;clear h;go_enter Tryz.func203,Tryz.ntmps203;go_wp2;go_loopw [8] (fun iv wr=>∃k:Nat,k<=l.length/\iv=I (k:Int)/\(∀j,j<k->nz (bw l j)=false)/\Below w.heap.size w wr) (fun iv _=>l.length-(intOf iv).toNat)
 case atStart=>grind [Below.refl]
 case round =>
  obtain⟨k,hk,rfl,hno,hb⟩:=hrel;have pq:=ai hno;have HB:=ai hb;clear hno;by_cases hlt:k<l.length
  · have MU:(k:Int)<(l.length:Int):=by omega
    obtain⟨eb,eo,hao,hbl,fG⟩:=HH.o (by omega);subst hao;have y0:=(hb.cell (p:=(Ad eb (eo+k*2+0))) hbl).trans (fG k hlt 0 (by omega));have y1:=(hb.cell (p:=(Ad eb (eo+k*2+1))) hbl).trans (fG k hlt 1 (by omega));rw[gV] at y0;have vv:=ai (Ri (bw l k) wr);obtain⟨G,hG⟩:=ex (nz (bw l k));rw[<- hG] at vv;have HG:=ai hG;obtain⟨E,hE⟩:=ex (bw l k);have x0:wr.cell? (Ad eb (eo+k*2))=some (.string E.data):=by rw[hE];exact y0
    have x1:wr.cell? (Ad eb (eo+k*2+1))=some (I E.refs):=by rw[hE];exact y1
    rw[<- hE] at vv;clear hG hE hb y0 y1 fG;cases G with
    | true =>
     go_wp2_with (go_at_call 204;refine vv.o.mono ?_;rintro e w1 ⟨rfl,hb1⟩;have cT:=ai (HB.o.trans (hb1.mono HB.o.size));clear hb1)
     go_ret;exact⟨cT.o,.inr ⟨k,hlt,rfl,HG.o.symm,pq.o⟩⟩
    | false =>
     go_wp2_with (go_at_call 204;refine vv.o.mono ?_;rintro e w1 ⟨rfl,hb1⟩;have cT:=ai (HB.o.trans (hb1.mono HB.o.size));clear hb1)
     go_roundw
     case rel=>exact⟨k+1,by omega,by go_num,fun j hj=>by
      by_cases q:j=k
      · subst q;exact HG.o.symm
      · exact pq.o j (by omega),cT.o⟩
     case measure=>simp[intOf];omega
  · obtain rfl:k=l.length:=by omega
    clear hb;go_wp2;go_ret;exact⟨HB.o,.inl ⟨rfl,pq.o⟩⟩
theorem XV (l:List kj) (ao:Option Addr) (cap:Nat) (w:World) (h:dz gq 4 gD w ao l) (hl:l.length<=1000000) :
  Calls Tryz.prog 187 #[.slice ao l.length cap,.func (.func 168) #[] #[]] w fun e w' =>
   Below w.heap.size w w'/\((e=.returned (I (-1))/\∀j,j<l.length->mJ (au l j)=false)∨∃i:Nat,i<l.length/\e=.returned (I (i:Int))/\mJ (au l i)=true/\∀j,j<i->mJ (au l j)=false):=by
 have HH:=ai h;clear h;go_enter Tryz.func187,Tryz.ntmps187;go_wp2;go_loopw [8] (fun iv wr=>∃k:Nat,k<=l.length/\iv=I (k:Int)/\(∀j,j<k->mJ (au l j)=false)/\Below w.heap.size w wr) (fun iv _=>l.length-(intOf iv).toNat)
 case atStart=>grind [Below.refl]
 case round =>
  obtain⟨k,hk,rfl,hno,hb⟩:=hrel;have pq:=ai hno;have HB:=ai hb;clear hno;by_cases hlt:k<l.length
  · have MU:(k:Int)<(l.length:Int):=by omega
    obtain⟨eb,eo,hao,hbl,fG⟩:=HH.o (by omega);subst hao;have y0:=(hb.cell (p:=(Ad eb (eo+k*4+0))) hbl).trans (fG k hlt 0 (by omega));have y1:=(hb.cell (p:=(Ad eb (eo+k*4+1))) hbl).trans (fG k hlt 1 (by omega));have y2:=(hb.cell (p:=(Ad eb (eo+k*4+2))) hbl).trans (fG k hlt 2 (by omega));have y3:=(hb.cell (p:=(Ad eb (eo+k*4+3))) hbl).trans (fG k hlt 3 (by omega));rw[gV] at y0;have vv:=ai (Gv (au l k) wr);obtain⟨G,hG⟩:=ex (mJ (au l k));rw[<- hG] at vv;have HG:=ai hG;obtain⟨E,hE⟩:=ex (au l k);have x0:wr.cell? (Ad eb (eo+k*4))=some (.string E.data):=by rw[hE];exact y0
    have x1:wr.cell? (Ad eb (eo+k*4+1))=some (I E.refs):=by rw[hE];exact y1
    have x2:wr.cell? (Ad eb (eo+k*4+2))=some (.bool E.fN):=by rw[hE];exact y2
    have x3:wr.cell? (Ad eb (eo+k*4+3))=some (.bool E.seen):=by rw[hE];exact y3
    rw[<- hE] at vv;clear hG hE hb y0 y1 y2 y3 fG;cases G with
    | true =>
     go_wp2_with (go_at_call 168;refine vv.o.mono ?_;rintro e w1 ⟨rfl,hb1⟩;have cT:=ai (HB.o.trans (hb1.mono HB.o.size));clear hb1)
     go_ret;exact⟨cT.o,.inr ⟨k,hlt,rfl,HG.o.symm,pq.o⟩⟩
    | false =>
     go_wp2_with (go_at_call 168;refine vv.o.mono ?_;rintro e w1 ⟨rfl,hb1⟩;have cT:=ai (HB.o.trans (hb1.mono HB.o.size));clear hb1)
     go_roundw
     case rel=>exact⟨k+1,by omega,by go_num,fun j hj=>by
      by_cases q:j=k
      · subst q;exact HG.o.symm
      · exact pq.o j (by omega),cT.o⟩
     case measure=>simp[intOf];omega
  · obtain rfl:k=l.length:=by omega
    clear hb;go_wp2;go_ret;exact⟨HB.o,.inl ⟨rfl,pq.o⟩⟩
theorem aat {k:aN} (hR:bg k) {i:Nat} (hi:i<k.slots.length) (h1:nz (bw k.slots i)=true) (h2:∀j,j<i->nz (bw k.slots j)=false):tq k.slots=some i:=by
 unfold tq;refine Fy.2 ⟨hi,?_,fun j hj=>?_⟩
 · grind [Ak,bw,nU]
 · have hj':j<k.slots.length:=by omega
   have:=h2 j hj;have hz:¬(bw k.slots j).refs=0:=fun z=>by
    have h3:=(hR.slt j hj').zero ((hR.slt j hj').nil z)
    grind [Ak]
   grind [bw]
theorem aau {k:aN} (hR:bg k) {i:Nat} (hi:i<k.frames.length) (h1:mJ (au k.frames i)=true) (h2:∀j,j<i->mJ (au k.frames j)=false):qK k.frames=some i:=by
 unfold qK;refine Fy.2 ⟨hi,?_,fun j hj=>?_⟩
 · grind [yV,au,gD]
 · have hj':j<k.frames.length:=by omega
   have:=h2 j hj;have hz:¬(au k.frames j).refs=0:=fun z=>by
    have h3:=(hR.zS j hj').zero ((hR.zS j hj').nil z)
    grind [yV]
   grind [au]
theorem aas {k:aN} (hR:bg k) (h:∀j,j<k.frames.length->mJ (au k.frames j)=false):qK k.frames=none/\yg k:=by
 have hF:yg k:=fun j hj z=>by
  have h3:=(hR.zS j hj).zero ((hR.zS j hj).nil z)
  grind [yV]
 refine⟨?_,hF⟩;unfold qK;refine N7.2 fun x hx=>?_
 obtain⟨j,hj,rfl⟩:=jb gD hx;have:=hF j hj
 grind [au]
end Go.Proofs.YtpgifpeohlllfaaGreat
end Go.Proofs.YtpgifpeohlllfaaGreat
