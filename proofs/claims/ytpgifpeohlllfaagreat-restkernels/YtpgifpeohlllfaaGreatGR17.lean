import Derived.Test.YtpgifpeohlllfaaGreatGR16
set_option maxHeartbeats 20000000
set_option linter.unusedVariables false
set_option maxRecDepth 100000
set_option linter.unusedSimpArgs false
namespace Go.Proofs.YtpgifpeohlllfaaGreat
open Go.RowKit
theorem Pm (l:List bG) (i:Nat) (h:i<l.length):l[i]?=some (aH l i):=by
 grind [aH]
structure rJ (p:bG->Bool) (ps q:List bG) (i j:Nat):Prop where
 len:q.length=ps.length
 lt:i<j
 le:j<=ps.length
 front:q.take i=(ps.take j).filter (fun g=>!p g)
 back:q.drop j=ps.drop j
theorem vV (l:List bG) (j:Nat) (h:j<l.length):l.take (j+1)=l.take j++[aH l j]:=by
 grind [List.take_add_one,Pm]
theorem rJ.start {p:bG->Bool} {ps:List bG} {i:Nat} (hi:i<ps.length) (hg:p (aH ps i)=true) (hno:∀j,j<i->p (aH ps j)=false):rJ p ps ps i (i+1):=by
 refine⟨rfl,by omega,hi,?_,rfl⟩;have:∀k,k<=i->(ps.take k).filter (fun g=>!p g)=ps.take k:=fun k=>by
  induction k with
  | zero=>grind
  | succ k ih =>
   grind [vV]
 grind [vV]
theorem rJ.at {p:bG->Bool} {ps q:List bG} {i j:Nat} (h:rJ p ps q i j) (hj:j<ps.length):aH q j=aH ps j:=by
 have e:(q.drop j)[0]?=(ps.drop j)[0]?:=by rw[h.back]
 grind [Pm]
theorem rJ.skip {p:bG->Bool} {ps q:List bG} {i j:Nat} (h:rJ p ps q i j) (hj:j<ps.length) (hg:p (aH ps j)=true):rJ p ps q i (j+1):=by
 refine⟨h.len,by have:=h.lt;omega,hj,?_,?_⟩
 · grind [vV,front]
 · rw[<- Kc,<- Kc,h.back]
theorem rJ.keep {p:bG->Bool} {ps q:List bG} {i j:Nat} (h:rJ p ps q i j) (hj:j<ps.length) (hg:p (aH ps j)=false):rJ p ps (q.set i (aH ps j)) (i+1) (j+1):=by
 have hlt:=h.lt;have hln:=h.len;refine⟨by grind,by omega,hj,?_,?_⟩
 · grind [vV,List.take_set,List.set_eq_of_length_le,List.length_take,front]
 · rw[List.drop_set_of_lt (by omega),<- Kc,<- Kc,h.back]
theorem rJ.done {p:bG->Bool} {ps q:List bG} {i:Nat} (h:rJ p ps q i ps.length):q.take i=j4 ps p:=by
 rw[h.front,qd];rfl
theorem Rt (q:List bG) (i:Nat) (g:bG) (hi:i<q.length):(q.set i g).flatMap bj=(((q.flatMap bj).set (i*3) (I g.page)).set (i*3+1) (I g.kind)).set (i*3+2) (I g.loc):=by
 have h1:=nK bj 3 jK dW ⟨g.page,(aH q i).kind,(aH q i).loc⟩ 0 (I g.page) (by omega) q i hi rfl;have h2:=nK bj 3 jK dW ⟨g.page,g.kind,(aH q i).loc⟩ 1 (I g.kind) (by omega) (q.set i ⟨g.page,(aH q i).kind,(aH q i).loc⟩) i (by grind) (by
  rw[lU,List.getElem?_set_self hi];rfl)
 rw[pF,h1] at h2;have h3:=nK bj 3 jK dW g 2 (I g.loc) (by omega) (q.set i ⟨g.page,g.kind,(aH q i).loc⟩) i (by grind) (by
  rw[lU,List.getElem?_set_self hi];rfl)
 simp_all
theorem Ut {ps:List bG} {p:bG->Bool} (h:∀j,j<ps.length->p (aH ps j)=false):j4 ps p=ps:=by
 unfold j4;rw[List.filter_eq_self];intro g hg;obtain⟨k,hk,rfl⟩:=gU dW hg
 grind [aH]
theorem WK (F:FuncId) (E:List Value) (x:Nat) (hFE:(F=202/\E=[.pointer (some (Ad x 0))])∨(F=120/\E=[.pointer (some (Ad x 0))])∨(F=88/\E=[])) (P:bG->Bool) (es:List bG) (ao:Option Addr) (cap:Nat) (w:World) (h:cJ bj 3 dW w ao es) (hl:es.length<=1000000)
  (hC:∀V e,Below w.heap.size w V->Calls Tryz.prog F (Value.agg #[I e.page,I e.kind,I e.loc]::E).toArray V fun r w'=>r=.returned (.bool (P e))/\Below V.heap.size V w') :
  Calls Tryz.prog 153 #[.slice ao es.length cap,.func (.func F) #[] E.toArray] w fun e w' =>
   Below w.heap.size w w'/\((e=.returned (I (-1))/\∀j,j<es.length->P (aH es j)=false)∨∃i:Nat,i<es.length/\e=.returned (I (i:Int))/\P (aH es i)=true/\∀j,j<i->P (aH es j)=false):=by
 have HH:=ai h;have HC:=ai hC;clear h hC;rcases hFE with⟨rfl,rfl⟩ | ⟨rfl,rfl⟩ | ⟨rfl,rfl⟩
 all_goals
  go_enter Tryz.func153,Tryz.ntmps153;go_wp2;go_loopw [8] (fun iv wr=>∃k:Nat,k<=es.length/\iv=I (k:Int)/\(∀j,j<k->P (aH es j)=false)/\Below w.heap.size w wr) (fun iv _=>es.length-(intOf iv).toNat)
  case atStart=>grind [Below.refl]
  case round =>
   obtain⟨k,hk,rfl,hno,hb⟩:=hrel;have pK:=ai hno;have HB:=ai hb;clear hno;by_cases hlt:k<es.length
   · have JC:(k:Int)<(es.length:Int):=by omega
     obtain⟨eb,eo,hao,hbl,eI⟩:=HH.o (by omega);subst hao;have y0:=(hb.cell (p:=(Ad eb (eo+k*3+0))) hbl).trans (eI k hlt 0 (by omega));have y1:=(hb.cell (p:=(Ad eb (eo+k*3+1))) hbl).trans (eI k hlt 1 (by omega));have y2:=(hb.cell (p:=(Ad eb (eo+k*3+2))) hbl).trans (eI k hlt 2 (by omega));rw[fW] at y0;have tD:=ai (HC.o wr (aH es k) hb);obtain⟨G,hG⟩:=ex (P (aH es k));rw[<- hG] at tD;have HG:=ai hG;obtain⟨E,hE⟩:=ex (aH es k);have x0:wr.cell? (Ad eb (eo+k*3))=some (I E.page):=by rw[hE];exact y0
     have x1:wr.cell? (Ad eb (eo+k*3+1))=some (I E.kind):=by rw[hE];exact y1
     have x2:wr.cell? (Ad eb (eo+k*3+2))=some (I E.loc):=by rw[hE];exact y2
     rw[<- hE] at tD;clear hG hE hb y0 y1 y2 eI;cases G with
     | true =>
      go_wp2_with ((first | go_at_call 202 | go_at_call 120 | go_at_call 88);refine tD.o.mono ?_;rintro e w1 ⟨rfl,hb1⟩;have dz:=ai (HB.o.trans (hb1.mono HB.o.size));clear hb1)
      go_ret;exact⟨dz.o,.inr ⟨k,hlt,rfl,HG.o.symm,pK.o⟩⟩
     | false =>
      go_wp2_with ((first | go_at_call 202 | go_at_call 120 | go_at_call 88);refine tD.o.mono ?_;rintro e w1 ⟨rfl,hb1⟩;have dz:=ai (HB.o.trans (hb1.mono HB.o.size));clear hb1)
      grind [intOf,Hid.o]
   · obtain rfl:k=es.length:=by omega
     clear hb;go_wp2;go_ret;exact⟨HB.o,.inl ⟨rfl,pK.o⟩⟩
theorem Uu {lo:Nat} {es:List bG} {ao:Option Addr} {cap:Nat} {w:World} (h:w.ownsRow lo 45 3 (.slice ao es.length cap) es.length (es.flatMap bj)):cJ bj 3 dW w ao es:=by
 obtain⟨a,c,e,_,hr⟩:=mL bj (fun _=>rfl) dW h
 grind
theorem Og (F:FuncId) (E:List Value) (x:Nat) (hFE:(F=202/\E=[.pointer (some (Ad x 0))])∨(F=120/\E=[.pointer (some (Ad x 0))])∨(F=88/\E=[])) (lo:Nat) (ps:List bG) (p:bG->Bool) (vp:Value) (w:World) (h:w.ownsRow lo 45 3 vp ps.length (ps.flatMap bj)) (hC:∀V e,aM (bQ vp) w V->Calls Tryz.prog F (Value.agg #[I e.page,I e.kind,I e.loc]::E).toArray V fun r w'=>r=.returned (.bool (p e))/\Below V.heap.size V w') (hl:ps.length<=100000) :
  Calls Tryz.prog 131 #[vp,.func (.func F) #[] E.toArray] w (mC lo vp (j4 ps p) w):=by
 obtain⟨ao,cap,rfl,hcm,hgo⟩:=aY h;have Pt:=ai (WK F E x hFE p ps ao cap w (Uu h) (by omega) (fun V e hV=>hC V e (aM.cH hV)));have HH:=ai h;have HC:=ai hC;obtain⟨P,hP⟩:=ex (mC lo (.slice ao ps.length cap) (j4 ps p) w);have HP:Hid (∀e w',mC lo (.slice ao ps.length cap) (j4 ps p) w e w'->P e w'):=fun e w' h=>by simp_all
 rw[<- hP];have HGO:=ai hgo;clear h hC hP hgo;by_cases hall:∀j,j<ps.length->p (aH ps j)=false
 · have Z1:Hid (Calls Tryz.prog 153 #[.slice ao ps.length cap,.func (.func F) #[] E.toArray] w fun e w'=>e=.returned (I (-1))/\Below w.heap.size w w'):=Pt.o.mono fun e w' ⟨hb,hh⟩=>by
    grind
   have HAL:=ai (Ut hall);clear hall Pt;rcases hFE with⟨rfl,rfl⟩ | ⟨rfl,rfl⟩ | ⟨rfl,rfl⟩
   all_goals
    go_enter Tryz.func131,Tryz.ntmps131;go_wp2_with (go_at_call 153;refine Z1.o.mono ?_;rintro e w1 ⟨rfl,hb1⟩;have dz:=ai hb1;clear hb1)
    exact HP.o _ _ ⟨_,rfl,by rw[HAL.o];exact aM.row (aM.cH (D:=fun _=>False) dz.o) HH.o (fun _ _ g=>g),aM.cH dz.o,fun b hb=>.inl hb⟩
 · have Z1:Hid (Calls Tryz.prog 153 #[.slice ao ps.length cap,.func (.func F) #[] E.toArray] w fun e w'=>∃i:Nat,e=.returned (I (i:Int))/\rJ p ps ps i (i+1)/\Below w.heap.size w w'):=Pt.o.mono fun e w' ⟨hb,hh⟩=>by
    grind [rJ.start]
   have hpos:0<ps.length:=by
    grind
   obtain⟨pb,rfl,hlo,hpb⟩:=HGO.o hpos;clear hall Pt HGO;rcases hFE with⟨rfl,rfl⟩ | ⟨rfl,rfl⟩ | ⟨rfl,rfl⟩
   all_goals
    go_enter Tryz.func131,Tryz.ntmps131;go_wp2_with (go_at_call 153;refine Z1.o.mono ?_;rintro e w1 ⟨i1,rfl,aeQ,hb1⟩;have dz:=ai hb1;have qK:=ai aeQ;have hi1:=aeQ.le;have hi2:((i1:Int)==-1)=false:=(by rfl);clear hb1 aeQ)
    go_loopw [5,6] (fun iv jv wr=>∃(i j:Nat) (q:List bG),iv=I (i:Int)/\jv=I (j:Int)/\rJ p ps q i j/\wr.ownsRow lo 45 3 (.slice (some (Ad pb 0)) ps.length cap) ps.length (q.flatMap bj)/\aM (fun b=>b=pb) w wr) (fun _ jv _=>ps.length-(intOf jv).toNat)
    case atStart=>exact⟨i1,i1+1,ps,rfl,by go_num,qK.o,aM.row (aM.cH (D:=fun _=>False) dz.o) HH.o (fun _ _ g=>g),aM.cH dz.o⟩
    case round =>
     obtain⟨i,j,q,rfl,rfl,hf,hrow,KE⟩:=hrel;have hij:=hf.lt;have hjl:=hf.le;have HF:=ai hf;have HR:=ai hrow;have HK:=ai KE;clear qK dz hi1;by_cases hlt:j<ps.length
     · have Sw:(j:Int)<(ps.length:Int):=by omega
       have Dw:(i:Int)<(ps.length:Int):=by omega
       have hql:=hf.len;have YM:∀V:World,V.ownsRow lo 45 3 (.slice (some (Ad pb 0)) ps.length cap) ps.length (q.flatMap bj)->∀k,k<ps.length->V.cell? (Ad pb (k*3))=some (I (aH q k).page)/\V.cell? (Ad pb (k*3+1))=some (I (aH q k).kind)/\V.cell? (Ad pb (k*3+2))=some (I (aH q k).loc):=fun V hV k hk=>by
        rw[<- hql] at hV;exact⟨jJ bj jK dW hV k 0 (by omega) (by omega),jJ bj jK dW hV k 1 (by omega) (by omega),jJ bj jK dW hV k 2 (by omega) (by omega)⟩
       have SG:=ai YM;obtain⟨c0,c1,c2⟩:=YM wr hrow j hlt;rw[hf.at hlt] at c0 c1 c2;have arS:pb<wr.heap.size:=(hrow.lt pb rfl).2;have arT:¬pb=wr.heap.size:=by omega
       have HA:=ai ((aK wr.heap.size wr).alloc (aI _) (.cells #[I (aH ps j).page,I (aH ps j).kind,I (aH ps j).loc] 45));have tD:=ai (HC.o (wr.alloc (.cells #[I (aH ps j).page,I (aH ps j).kind,I (aH ps j).loc] 45)) (aH ps j) ((KE.trans (aM.cH (D:=fun b=>b=pb) HA.o) (fun _ _ g=>g)).mono (fun b _ e=>by subst e;rfl)));have BX:=ai (bO wr #[I (aH ps j).page,I (aH ps j).kind,I (aH ps j).loc] 45);have HSK:=ai (hf.skip hlt);have Z0:=ai (hf.keep hlt);obtain⟨G,hG⟩:=ex (p (aH ps j));rw[<- hG] at tD HSK Z0;obtain⟨g,hg⟩:=ex (aH ps j);rw[<- hg] at c0 c1 c2 tD Z0 HA BX;clear hG hg hrow KE YM hf;cases G with
       | true =>
        go_wp2_with ((first | go_at_call 202 | go_at_call 120 | go_at_call 88);refine tD.o.mono ?_;rintro e w2 ⟨rfl,hb2⟩;have gj:=ai (HA.o.trans (hb2.mono HA.o.size));clear hb2)
        go_roundw
        case rel=>exact⟨i,j+1,q,rfl,by go_num,HSK.o (by trivial),aM.row (aM.cH (D:=fun _=>False) gj.o) HR.o (fun _ _ g=>g),HK.o.trans (aM.cH (D:=fun b=>b=pb) gj.o) (fun _ _ g=>g)⟩
        grind [intOf]
       | false =>
        go_wp2_with ((first | go_at_call 202 | go_at_call 120 | go_at_call 88);refine tD.o.mono ?_;rintro e w2 ⟨rfl,hb2⟩;have gj:=ai (HA.o.trans (hb2.mono HA.o.size));have Hh:=ai (aM.row (aM.cH (D:=fun _=>False) gj.o) HR.o (fun _ _ g=>g));have hc2:=SG.o _ Hh.o i (by omega);obtain⟨d0,d1,d1b⟩:=hc2;have d2:=gp Hh.o (i*3);have d3:=gp Hh.o (i*3+1);have d3b:=gp Hh.o (i*3+2);have hx2:=aQ BX.o hb2 (aT BX.o);obtain⟨d4,d5,d6⟩:=nV hx2;clear hb2 hx2)
        go_roundw
        case rel =>
         refine⟨i+1,j+1,q.set i g,by go_num,by go_num,Z0.o (by trivial),?_,?_⟩
         · grind [Rt,o6,Hid.o]
         · exact(((HK.o.trans (aM.cH (D:=fun b=>b=pb) gj.o) (fun _ _ g=>g)).trans (aM.set (fun b=>b=pb) w2 (Ad pb (i*3)) _ rfl) (fun _ _ g=>g)).trans (aM.set (fun b=>b=pb) _ (Ad pb (i*3+1)) _ rfl) (fun _ _ g=>g)).trans (aM.set (fun b=>b=pb) _ (Ad pb (i*3+2)) _ rfl) (fun _ _ g=>g)
        grind [intOf]
     · obtain rfl:j=ps.length:=by omega
       have hql:=hf.len;have hdn:=hf.done;obtain⟨cur,hcz,hgc,hcs,hct⟩:∃cur:Array Value,cur.size=cap*3/\wr.heap[pb]?=some (.cells cur 45 (0,0))/\cap<=maxLen/\cur.toList.take (ps.length*3)=q.flatMap bj:=by
        rcases hrow.2 with⟨h0,_⟩ | ⟨g,cap',cur,hv,hb,hg,h1,h2,h3,h4⟩
        · omega
        grind
       have hcl:cur.toList.length=cap*3:=hcz;have ahG:∀ty c,(Builtin.clear_ #[41] ty #[.slice (some (Ad pb (i*3))) (ps.length-i) c]).run Tryz.prog wr=.ok (.tuple #[]) (wr.setRow pb (splice cur.toList (i*3) (iE [I 0,I 0,I 0] (ps.length-i))).toArray):=fun ty c=>GX (P:=Tryz.prog) wr 41 ty 45 (.agg #[I 0,I 0,I 0]) Tryz.underlying41 abc (by decide) (by decide) pb (i*3) (ps.length-i) c cur.toList 45 (by omega) (by
        grind [Value.cells])
       obtain⟨S,hS⟩:=ex (splice cur.toList (i*3) (iE [I 0,I 0,I 0] (ps.length-i)));rw[<- hS] at ahG;have hSl:S.length=cap*3:=by
        grind [length_splice,kK]
       have hSt:S.take (i*3)=(j4 ps p).flatMap bj:=by
        rw[<- hdn,<- Ag,<- hct,List.take_take,Nat.min_eq_left (by omega),hS]
        grind [splice]
       have hol:(j4 ps p).length=i:=by grind
       have hg2:(wr.setRow pb S.toArray).heap[pb]?=some (.cells S.toArray 45 (0,0)):=oP wr pb _ _ _ _ hgc;have cV:Hid (P (.returned (.slice (some (Ad pb 0)) i cap)) (wr.setRow pb S.toArray)):=HP.o _ _ ⟨_,rfl,by
        rw[hol,<- hSt];exact⟨by grind,.inr ⟨pb,cap,S.toArray,rfl,hlo,hg2,by omega,hcs,by omega,by simp⟩⟩,(KE.mono (fun b _ e=>by subst e;rfl)).trans (Ah wr pb S.toArray) (fun b _ e=>by subst e;rfl),fun b hb=>.inl hb⟩
       have hic:¬cap=i:=by omega
       have hin:(i:Int)<=(ps.length:Int):=by omega
       have asc:i<=cap:=by omega
       clear hf hrow KE HF HR HK hgc hct hdn hS hSl hSt hol hg2 hql hcz hcl Z1 HP HH HC;go_wp2_with (at_builtin;refine YJ _ rfl _ 41 rfl _ rfl (ahG _ _) ?_)
       exact cV.o
open Go.RowKit
theorem BH (kd a:Int):∀ss:List cO,(ck ss kd a).length<=(ux ss).length
 | []=>oO _
 | s::r=>by
  have ih:=BH kd a r
  grind [iz,ux,km]
theorem LJ {k:aN} (h:bc k):(ux k.aj).length<=512:=by
 have h1:=Cz k.aj.length k.aj rfl (fun s hs=>uv (h.each s hs));have h2:=h.room;have h3:=h.c;omega
theorem oL {k:aN} (h:bc k):(∀i,i<k.frames.length->0<=(au k.frames i).refs/\(au k.frames i).refs<=512)/\(∀i,i<k.slots.length->0<=(br k.slots i).refs/\(br k.slots i).refs<=512):=by
 have h1:=LJ h;refine⟨fun i hi=>?_,fun i hi=>?_⟩
 · have:=(h.yS i hi).refs
   grind [BH]
 · have:=(h.slt i hi).refs
   grind [BH]
theorem iZ {k:aN} (h:bc k) {j:Nat} (hj:j<k.aj.length):(ak k.aj j).aU.length<=512:=by
 have h4:=LJ h;have:∀(l:List cO) (j:Nat),j<l.length->(ak l j).aU.length<=(ux l).length:=fun l=>by
  induction l with
  | nil=>grind
  | cons s r ih =>
   grind [ux,ak]
 grind
theorem O5.kp {α:Type} {f:α->List Value} {k:Nat} {d:α} {w w':World} {ao:Option Addr} {l:List α} {D:Nat->Prop} (h:cJ f k d w ao l) (hk:aM D w w') (hn:∀b off,ao=some (Ad b off)->¬D b):cJ f k d w' ao l:=fun hl=>by
 obtain⟨b,off,e,hb,hi⟩:=h hl;refine⟨b,off,e,iH hb hk.size,fun i hi' j hj=>?_⟩;exact(C2 (hk.block b hb (hn b off e))).trans (hi i hi' j hj)
theorem NC {lo mb:Nat} {tt:TypeId} {X:List Value} (F:FuncId) (E:List Value) (x:Nat) (hFE:(F=202/\E=[.pointer (some (Ad x 0))])∨(F=120/\E=[.pointer (some (Ad x 0))])∨(F=88/\E=[]))
  (k:aN) (S:dE) (w:World) (j:Nat) (p:bG->Bool) (h:bu lo mb tt X w S k) (hR:bc k) (hj:j<k.aj.length) (hC:∀V e,aM (fun b=>S.lab b≠.no) w V->Calls Tryz.prog F (Value.agg #[I e.page,I e.kind,I e.loc]::E).toArray V fun r w'=>r=.returned (.bool (p e))/\Below V.heap.size V w') :
  Calls Tryz.prog 87 #[.pointer (some (Ad mb 0)),I (j:Int),.func (.func F) #[] E.toArray] w (cT lo mb tt X w S (.tuple #[]) (jy k j p)):=by
 have hlo:lo<=w.heap.size:=gy h.lo_le (qc h.lt);have hcc:=hR.c;have hen:=iZ hR hj;obtain⟨pb,cP,A⟩:=h.toKr.sp (by omega);obtain⟨ae,ce,zE,hre⟩:=h.toKr.aU hj;have c3:=h.c3;rw[A.v] at c3;have a2:=A.x2 j hj;rw[zE] at a2;have Sw:(j:Int)<(k.aj.length:Int):=by omega
 obtain⟨es,hes⟩:=ex ((ak k.aj j).aU);rw[<- hes] at a2 hen hre zE;have HST:Hid (∀V n,n<es.length->bu lo mb tt X V S (dH k es p n)->V.cell? (Ad pb (j*3+2))=some (.slice ae es.length ce)/\cJ bj 3 dW V ae es):=fun V n hn hV=>by
  have hjn:j<(dH k es p n).aj.length:=by rw[lG];exact hj
  obtain⟨KO,cP',A'⟩:=hV.toKr.sp (by omega);have e:KO=pb:=by
   have:=A'.v;rw[A.v] at this
   grind
  subst e;have x2:=A'.x2 j hjn;rw[zE] at x2;obtain⟨ae',ce',alg,aly⟩:=hV.toKr.aU hjn;rw[lG,<- hes] at alg aly
  grind
 have HCN:Hid (∀V n,n<es.length->bu lo mb tt X V S (dH k es p n)->Calls Tryz.prog 85 #[.pointer (some (Ad mb 0)),.agg #[I (aH es n).page,I (aH es n).kind,I (aH es n).loc],I (-1)] V (jN lo mb tt X V S (.tuple #[]) (cK (dH k es p n) (aH es n)))):=fun V n hn hV=>by
  have hin:aH es n∈(ak k.aj j).aU:=by rw[<- hes];exact jc hn
  have hb:=ic hR hj hin;have hr:=Cw k es p n;have hp:=xe hR hj p n (by grind);rw[<- hes] at hp;have hf:=oL hp;have hf1:∀i,i<(dH k es p n).frames.length->0<=(au (dH k es p n).frames i).refs/\(au (dH k es p n).frames i).refs<=512:=hf.1;have hf2:∀i,i<(dH k es p n).slots.length->0<=(br (dH k es p n).slots i).refs/\(br (dH k es p n).slots i).refs<=512:=hf.2;rw[<- Cx];refine zU _ S V (aH es n) (-1) hV (fun c=>?_) (fun c=>?_) (.inr rfl) ⟨fun c=>?_,fun c=>?_⟩
  · omega
  · omega
  · grind
  grind
 have Jj:=ai hC;have HDL:Hid (∀V,bu lo mb tt X V S (dH k es p es.length)->bU S w S V->Calls Tryz.prog 131 #[.slice ae es.length ce,.func (.func F) #[] E.toArray] V fun e w'=>∃av nv cv,e=.returned (.slice av nv cv)/\∃S',bu lo mb tt X (w'.setCell (Ad pb (j*3+2)) (.slice av nv cv)) S' (jy k j p)/\bU S w S' (w'.setCell (Ad pb (j*3+2)) (.slice av nv cv))/\w'.frozen? (Ad pb (j*3+2))=false/\(∃u,w'.cell? (Ad pb (j*3+2))=some u)):=fun V hV hch=>by
  have hjn:j<(dH k es p es.length).aj.length:=by rw[lG];exact hj
  have hrow:=(hV.each j hjn).bC;rw[lG,<- hes,zE] at hrow;have hlab:∀b,bQ (.slice ae es.length ce) b->S.lab b=.aU j:=fun b hb=>hV.lE j hjn b (by grind)
  refine(Og F E x hFE lo es p (.slice ae es.length ce) V hrow (fun U e hU=>Jj.o U e ?_) (by omega)).mono fun e w' ⟨v',h1,h2,h3,h4⟩=>?_
  · exact((hch.kp.mono (fun b _ g=>g)).trans hU (fun b hb hx=>by grind))
  · obtain⟨av,cv,rfl,_,_⟩:=aY h2;obtain⟨KO,cP',A'⟩:=hV.toKr.sp (by omega);have hP:S.vP=.slice (some (Ad pb 0)) k.aj.length cP:=A.v;have k1:aM (fun b=>S.lab b=.aU j) V w':=h3.mono (fun b _ hx=>hlab b hx);have sw:=hV.XR hjn hP k1 h2 (fun b hb=>by
     rcases h4 b hb with g | g
     · exact .inl (hlab b g)
     · exact .inr (hV.toKr.new g))
    have e1:({ dH k es p es.length with aj:=(dH k es p es.length).aj.set j (dG (ak (dH k es p es.length).aj j) (j4 es p)) }:aN)=jy k j p:=by
     unfold jy mi
     grind
    refine⟨av,_,cv,h1,_,e1 ▸ sw.1,hch.trans (sw.2 (fun b hb hx=>?_)),?_,?_⟩
    · rcases h4 b hx with g | g
      · exact hlab b g
      · omega
    · have hrP:=hV.aj;rw[hP] at hrP;have hrl:=h.len;have:=k1.row hrP (fun b hb e=>by
       have:S.lab b=.aj:=hV.lP b (by rw[hP];exact hb);rw[this] at e;simp at e)
      have hl2:S.L.length=k.aj.length:=hrl;rw[<- hl2] at this;exact gp this _
    · have hpl:S.lab pb=.aj:=A.lab;have c2:=A'.x2 j hjn;have e:KO=pb:=by
       have:=A'.v;rw[A.v] at this;injection this with e1 _ _;injection e1 with e1;injection e1 with e1 _ _;omega
      subst e;exact⟨_,k1.cell c2 (fun e=>by have e:S.lab KO=.aU j:=e;rw[hpl] at e;simp at e)⟩
 have cV:Hid (∀V S',bu lo mb tt X V S' (jy k j p)->bU S w S' V->cT lo mb tt X w S (.tuple #[]) (jy k j p) (.returned (.tuple #[])) V):=fun V S' h1 h2=>⟨rfl,S',h1,h2⟩
 have JV:=ai (fun V (hV:bu lo mb tt X V S (dH k es p es.length))=>(show V.cell? (Ad pb (j*3+2))=some (.slice ae es.length ce) from by
  have hjn:j<(dH k es p es.length).aj.length:=by rw[lG];exact hj
  obtain⟨KO,cP',A'⟩:=hV.toKr.sp (by omega);have e:KO=pb:=by
   have:=A'.v;rw[A.v] at this
   grind
  subst e;have x2:=A'.x2 j hjn
  grind))
 have pL:=ai h;have Ps:Hid (∀V n,bu lo mb tt X V S (dH k es p n)->∀V',Below V.heap.size V V'->bu lo mb tt X V' S (dH k es p n)):=fun V n hV V' hb=>hV.below hb
 have xj:Hid (∀n,p (aH es n)=true->cK (dH k es p n) (aH es n)=dH k es p (n+1)):=fun n hn=>by
  show _=if p (aH es n)=true then _ else _
  grind
 have pK:Hid (∀n,p (aH es n)=false->dH k es p n=dH k es p (n+1)):=fun n hn=>by
  show _=if p (aH es n)=true then _ else _
  grind
 obtain⟨P,hP⟩:=ex (cT lo mb tt X w S (.tuple #[]) (jy k j p));rw[<- hP] at cV ⊢;obtain⟨np,Ee⟩:=ex k.aj.length;rw[<- Ee] at c3 Sw;clear h hR hcc A zE hre hes hC hP Ee hj hlo;rcases hFE with⟨rfl,rfl⟩ | ⟨rfl,rfl⟩ | ⟨rfl,rfl⟩
 all_goals
  go_enter Tryz.func87,Tryz.ntmps87;go_wp2;go_loopw [21] (fun iv wr=>∃n:Nat,n<=es.length/\iv=I (n:Int)/\bu lo mb tt X wr S (dH k es p n)/\bU S w S wr) (fun iv _=>es.length-(intOf iv).toNat)
  case atStart=>exact⟨0,by omega,rfl,pL.o,bU.refl _ _⟩
  case round =>
   obtain⟨n,hn,rfl,iU,hch⟩:=hrel;have HKM:=ai iU;have Pv:=ai hch;by_cases hlt:n<es.length
   · have hni:(n:Int)<(es.length:Int):=by omega
     obtain⟨y2,hr2⟩:=HST.o wr n hlt iU;obtain⟨eb,eo,hao,hbl,eI⟩:=hr2 (by omega);subst hao;have x0:=eI n hlt 0 (by omega);have x1:=eI n hlt 1 (by omega);have x2:=eI n hlt 2 (by omega);rw[fW] at x0;have HA:=ai ((aK wr.heap.size wr).alloc (aI _) (.cells #[I (aH es n).page,I (aH es n).kind,I (aH es n).loc] 45));have BX:=ai (bO wr #[I (aH es n).page,I (aH es n).kind,I (aH es n).loc] 45);have tD:=ai (Jj.o (wr.alloc (.cells #[I (aH es n).page,I (aH es n).kind,I (aH es n).loc] 45)) (aH es n) ((hch.trans (bU.below (S:=S) HA.o)).kp));have ajc:=ai (fun V=>HCN.o V n hlt);have HY2:=ai (xj.o n);have Xp:=ai (pK.o n);obtain⟨G,hG⟩:=ex (p (aH es n));rw[<- hG] at tD HY2 Xp;obtain⟨e,he⟩:=ex (aH es n);have y0:wr.cell? (Ad eb (eo+n*3))=some (I e.page):=by rw[he];exact x0
     have y1:wr.cell? (Ad eb (eo+n*3+1))=some (I e.kind):=by rw[he];exact x1
     have y3:wr.cell? (Ad eb (eo+n*3+2))=some (I e.loc):=by rw[he];exact x2
     rw[<- he] at tD HA BX ajc HY2;clear hG he iU hch hr2 eI x0 x1 x2 pL;cases G with
     | true =>
      go_wp2_with (first
       | ((first | go_at_call 202 | go_at_call 120 | go_at_call 88);refine tD.o.mono ?_;rintro r w1 ⟨rfl,hb1⟩;have dz:=ai (HA.o.trans (hb1.mono HA.o.size));have BX1:=aQ BX.o hb1 (aT BX.o);obtain⟨d0,d1,d2⟩:=nV BX1;clear hb1 BX1)
       | (go_at_call 85;refine(ajc.o _ (Ps.o _ n HKM.o _ dz.o)).mono ?_;rintro r w2 ⟨rfl,hk2,hc2⟩;have qa:=ai hk2;have tP:=ai ((Pv.o.trans (bU.below (S:=S) dz.o)).trans hc2);clear hk2 hc2))
      go_roundw
      case rel=>exact⟨n+1,by omega,by go_num,HY2.o (by trivial) ▸ qa.o,tP.o⟩
      case measure=>simp[intOf];omega
     | false =>
      go_wp2_with ((first | go_at_call 202 | go_at_call 120 | go_at_call 88);refine tD.o.mono ?_;rintro r w1 ⟨rfl,hb1⟩;have dz:=ai (HA.o.trans (hb1.mono HA.o.size));clear hb1)
      go_roundw
      case rel=>exact⟨n+1,by omega,by go_num,Xp.o (by trivial) ▸ Ps.o _ n HKM.o _ dz.o,Pv.o.trans (bU.below (S:=S) dz.o)⟩
      case measure=>simp[intOf];omega
   · obtain rfl:n=es.length:=by omega
     have y2:=JV.o wr iU;have HD2:=ai (HDL.o wr iU hch);clear iU hch HKM Pv HDL HST JV HCN Jj pL Ps xj pK;go_wp2_with (go_at_call 131;refine HD2.o.mono ?_;rintro r w2 ⟨av,nv,cv,rfl,S',hk2,hc2,ast,u2,hu2⟩;have qa:=ai hk2;have tP:=ai hc2;clear hk2 hc2)
     refine pE (v:=.tuple #[]) (by simp[results,Tryz.results87,go_sem]) rfl ?_;exact cV.o _ S' qa.o tP.o
open Go.RowKit
theorem I0 (i:Int) (e:bG) (x:Nat) (w:World) (hx:w.cell? (Ad x 0)=some (I i)) :
  Calls Tryz.prog 202 #[.agg #[I e.page,I e.kind,I e.loc],.pointer (some (Ad x 0))] w fun r w'=>r=.returned (.bool (iu i e))/\Below w.heap.size w w':=by
 obtain⟨pg,kd,lc⟩:=e;unfold iu;simp only;have hxl:x<w.heap.size:=oc w _ hx;have xA:(w.alloc (.cells #[I pg,I kd,I lc] 45)).cell? (Ad x 0)=some (I i):=(Kl ((aK w.heap.size w).alloc (aI _) _) (p:=(Ad x 0)) hxl).trans hx;obtain⟨A,hA⟩:=ex (decide (kd=1/\lc=i));rw[<- hA];have HA:=ai hA;clear hA;by_cases c:kd=1
 · have kb:(kd==1)=true:=by grind
   obtain⟨C,hC⟩:=ex ((lc==i));have HC:=ai hC;have hC2:=hC.symm;have gq:=ai c;clear hC c;go_enter Tryz.func202,Tryz.ntmps202;go_wp2;go_ret;refine⟨?_,(aK _ _).alloc (aI _) _⟩;congr 2;rw[HA.o,gq.o]
   try rw[HC.o]
   by_cases d:lc=i <;> simp[d]
 · have kb:(kd==1)=false:=by grind
   have gq:=ai c;clear c;go_enter Tryz.func202,Tryz.ntmps202;go_wp2;go_ret
   simp_all [aK,m9,Hid.o]
theorem NB (f:lD) (w:World):Calls Tryz.prog 204 #[.agg #[.string f.data,I f.refs]] w fun e w'=>e=.returned (.bool (lW f))/\Below w.heap.size w w':=by
 obtain⟨d,r⟩:=f;unfold lW;simp only;have hd:d.toList.isEmpty=decide (d.size=0):=TS d;by_cases c1:d.size=0
 · by_cases c2:r=0
   · rw[dI (show d.size=0/\r=0 from⟨c1,c2⟩)];rw[dI c1] at hd;have h2:(r==0)=true:=by grind
     clear c1 c2;go_enter Tryz.func204,Tryz.ntmps204;go_wp2;go_ret;simp[aK,m9]
   · rw[dJ (show ¬(d.size=0/\r=0) from fun x=>c2 x.2)];rw[dI c1] at hd;have h2:(r==0)=false:=by grind
     clear c1 c2;go_enter Tryz.func204,Tryz.ntmps204;go_wp2;go_ret;simp[aK,m9]
 · rw[dJ (show ¬(d.size=0/\r=0) from fun x=>c1 x.1)];rw[dJ c1] at hd;clear c1;go_enter Tryz.func204,Tryz.ntmps204;go_wp2;go_ret;simp[aK,m9]
theorem TG (l:List lD) (ao:Option Addr) (cap:Nat) (w:World) (h:cJ fA 2 jS w ao l) (hl:l.length<=1000000) :
  Calls Tryz.prog 203 #[.slice ao l.length cap,.func (.func 204) #[] #[]] w fun e w' =>
   Below w.heap.size w w'/\((e=.returned (I (-1))/\∀j,j<l.length->lW (br l j)=false)∨∃i:Nat,i<l.length/\e=.returned (I (i:Int))/\lW (br l i)=true/\∀j,j<i->lW (br l j)=false):=by
 have HH:=ai h;clear h;go_enter Tryz.func203,Tryz.ntmps203;go_wp2;go_loopw [8] (fun iv wr=>∃k:Nat,k<=l.length/\iv=I (k:Int)/\(∀j,j<k->lW (br l j)=false)/\Below w.heap.size w wr) (fun iv _=>l.length-(intOf iv).toNat)
 case atStart=>grind [Below.refl]
 case round =>
  obtain⟨k,hk,rfl,hno,hb⟩:=hrel;have pK:=ai hno;have HB:=ai hb;clear hno;by_cases hlt:k<l.length
  · have JC:(k:Int)<(l.length:Int):=by omega
    obtain⟨eb,eo,hao,hbl,eI⟩:=HH.o (by omega);subst hao;have y0:=(hb.cell (p:=(Ad eb (eo+k*2+0))) hbl).trans (eI k hlt 0 (by omega));have y1:=(hb.cell (p:=(Ad eb (eo+k*2+1))) hbl).trans (eI k hlt 1 (by omega));rw[fW] at y0;have tD:=ai (NB (br l k) wr);obtain⟨G,hG⟩:=ex (lW (br l k));rw[<- hG] at tD;have HG:=ai hG;obtain⟨E,hE⟩:=ex (br l k);have x0:wr.cell? (Ad eb (eo+k*2))=some (.string E.data):=by rw[hE];exact y0
    have x1:wr.cell? (Ad eb (eo+k*2+1))=some (I E.refs):=by rw[hE];exact y1
    rw[<- hE] at tD;clear hG hE hb y0 y1 eI;cases G with
    | true =>
     go_wp2_with (go_at_call 204;refine tD.o.mono ?_;rintro e w1 ⟨rfl,hb1⟩;have dz:=ai (HB.o.trans (hb1.mono HB.o.size));clear hb1)
     go_ret;exact⟨dz.o,.inr ⟨k,hlt,rfl,HG.o.symm,pK.o⟩⟩
    | false =>
     go_wp2_with (go_at_call 204;refine tD.o.mono ?_;rintro e w1 ⟨rfl,hb1⟩;have dz:=ai (HB.o.trans (hb1.mono HB.o.size));clear hb1)
     go_roundw
     case rel=>exact⟨k+1,by omega,by go_num,fun j hj=>by
      by_cases q:j=k
      · subst q;exact HG.o.symm
      · exact pK.o j (by omega),dz.o⟩
     case measure=>simp[intOf];omega
  · obtain rfl:k=l.length:=by omega
    clear hb;go_wp2;go_ret;exact⟨HB.o,.inl ⟨rfl,pK.o⟩⟩
theorem TH (l:List jm) (ao:Option Addr) (cap:Nat) (w:World) (h:cJ fB 4 eW w ao l) (hl:l.length<=1000000) :
  Calls Tryz.prog 187 #[.slice ao l.length cap,.func (.func 168) #[] #[]] w fun e w' =>
   Below w.heap.size w w'/\((e=.returned (I (-1))/\∀j,j<l.length->lj (au l j)=false)∨∃i:Nat,i<l.length/\e=.returned (I (i:Int))/\lj (au l i)=true/\∀j,j<i->lj (au l j)=false):=by
 have HH:=ai h;clear h;go_enter Tryz.func187,Tryz.ntmps187;go_wp2;go_loopw [8] (fun iv wr=>∃k:Nat,k<=l.length/\iv=I (k:Int)/\(∀j,j<k->lj (au l j)=false)/\Below w.heap.size w wr) (fun iv _=>l.length-(intOf iv).toNat)
 case atStart=>grind [Below.refl]
 case round =>
  obtain⟨k,hk,rfl,hno,hb⟩:=hrel;have pK:=ai hno;have HB:=ai hb;clear hno;by_cases hlt:k<l.length
  · have JC:(k:Int)<(l.length:Int):=by omega
    obtain⟨eb,eo,hao,hbl,eI⟩:=HH.o (by omega);subst hao;have y0:=(hb.cell (p:=(Ad eb (eo+k*4+0))) hbl).trans (eI k hlt 0 (by omega));have y1:=(hb.cell (p:=(Ad eb (eo+k*4+1))) hbl).trans (eI k hlt 1 (by omega));have y2:=(hb.cell (p:=(Ad eb (eo+k*4+2))) hbl).trans (eI k hlt 2 (by omega));have y3:=(hb.cell (p:=(Ad eb (eo+k*4+3))) hbl).trans (eI k hlt 3 (by omega));rw[fW] at y0;have tD:=ai (DI (au l k) wr);obtain⟨G,hG⟩:=ex (lj (au l k));rw[<- hG] at tD;have HG:=ai hG;obtain⟨E,hE⟩:=ex (au l k);have x0:wr.cell? (Ad eb (eo+k*4))=some (.string E.data):=by rw[hE];exact y0
    have x1:wr.cell? (Ad eb (eo+k*4+1))=some (I E.refs):=by rw[hE];exact y1
    have x2:wr.cell? (Ad eb (eo+k*4+2))=some (.bool E.eX):=by rw[hE];exact y2
    have x3:wr.cell? (Ad eb (eo+k*4+3))=some (.bool E.seen):=by rw[hE];exact y3
    rw[<- hE] at tD;clear hG hE hb y0 y1 y2 y3 eI;cases G with
    | true =>
     go_wp2_with (go_at_call 168;refine tD.o.mono ?_;rintro e w1 ⟨rfl,hb1⟩;have dz:=ai (HB.o.trans (hb1.mono HB.o.size));clear hb1)
     go_ret;exact⟨dz.o,.inr ⟨k,hlt,rfl,HG.o.symm,pK.o⟩⟩
    | false =>
     go_wp2_with (go_at_call 168;refine tD.o.mono ?_;rintro e w1 ⟨rfl,hb1⟩;have dz:=ai (HB.o.trans (hb1.mono HB.o.size));clear hb1)
     go_roundw
     case rel=>exact⟨k+1,by omega,by go_num,fun j hj=>by
      by_cases q:j=k
      · subst q;exact HG.o.symm
      · exact pK.o j (by omega),dz.o⟩
     case measure=>simp[intOf];omega
  · obtain rfl:k=l.length:=by omega
    clear hb;go_wp2;go_ret;exact⟨HB.o,.inl ⟨rfl,pK.o⟩⟩
theorem V9 {k:aN} (hR:bc k) {i:Nat} (hi:i<k.slots.length) (h1:lW (br k.slots i)=true) (h2:∀j,j<i->lW (br k.slots j)=false):qU k.slots=some i:=by
 unfold qU;refine C5.2 ⟨hi,?_,fun j hj=>?_⟩
 · grind [xY,br,jS]
 · have hj':j<k.slots.length:=by omega
   have:=h2 j hj;have hz:¬(br k.slots j).refs=0:=fun z=>by
    have h3:=(hR.slt j hj').zero ((hR.slt j hj').nil z)
    grind [xY]
   grind [br]
theorem Wa {k:aN} (hR:bc k) {i:Nat} (hi:i<k.frames.length) (h1:lj (au k.frames i)=true) (h2:∀j,j<i->lj (au k.frames j)=false):pk k.frames=some i:=by
 unfold pk;refine C5.2 ⟨hi,?_,fun j hj=>?_⟩
 · grind [xc,au,eW]
 · have hj':j<k.frames.length:=by omega
   have:=h2 j hj;have hz:¬(au k.frames j).refs=0:=fun z=>by
    have h3:=(hR.yS j hj').zero ((hR.yS j hj').nil z)
    grind [xc]
   grind [au]
theorem V8 {k:aN} (hR:bc k) (h:∀j,j<k.frames.length->lj (au k.frames j)=false):pk k.frames=none/\vU k:=by
 have hF:vU k:=fun j hj z=>by
  have h3:=(hR.yS j hj).zero ((hR.yS j hj).nil z)
  grind [xc]
 refine⟨?_,hF⟩;unfold pk;refine KC.2 fun x hx=>?_
 obtain⟨j,hj,rfl⟩:=gU eW hx;have:=hF j hj
 grind [au]
end Go.Proofs.YtpgifpeohlllfaaGreat
