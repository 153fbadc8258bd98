import Derived.Test.YtpgifpeohlllfaaGreatGS00
import Derived.Test.YtpgifpeohlllfaaGreatGS19
import Derived.Test.YtpgifpeohlllfaaGreatGS16
set_option maxHeartbeats 20000000
set_option linter.unusedVariables false
set_option maxRecDepth 100000
set_option linter.unusedSimpArgs false
namespace Go.Proofs.YtpgifpeohlllfaaGreat
namespace KI
open Go.RowKit GK
open KW (aK)
open KS (blk gV)
open KW (aZ)
open FW (ai aB)
theorem Hq (l:List KM.En) (i:Nat) (h:i<l.length):l[i]?=some (KM.aN l i):=by
 unfold KM.aN
 rw[List.getD_eq_getElem?_getD,List.getElem?_eq_getElem h]
 rfl
structure Iu (p:KM.En->Bool) (ps q:List KM.En) (i j:Nat):Prop where
 len:q.length=ps.length
 lt:i<j
 le:j<=ps.length
 front:q.take i=(ps.take j).filter (fun g=>!p g)
 back:q.drop j=ps.drop j
theorem nN (l:List KM.En) (j:Nat) (h:j<l.length):l.take (j+1)=l.take j++[KM.aN l j]:=by
 rw[List.take_add_one,Hq l j h]
 rfl
theorem Iu.start {p:KM.En->Bool} {ps:List KM.En} {i:Nat} (hi:i<ps.length) (hg:p (KM.aN ps i)=true) (hno:∀j,j<i->p (KM.aN ps j)=false):Iu p ps ps i (i+1):=by
 refine⟨rfl,by omega,hi,?_,rfl⟩
 have:∀k,k<=i->(ps.take k).filter (fun g=>!p g)=ps.take k:=fun k=>by
  induction k with
  | zero=>intro _;simp
  | succ k ih =>
   intro hk
   rw[nN ps k (by omega),List.filter_append,ih (by omega)]
   simp[hno k (by omega)]
 rw[nN ps i hi,List.filter_append,this i (Nat.le_refl _)]
 simp[hg]
theorem Iu.at {p:KM.En->Bool} {ps q:List KM.En} {i j:Nat} (h:Iu p ps q i j) (hj:j<ps.length):KM.aN q j=KM.aN ps j:=by
 have e:(q.drop j)[0]?=(ps.drop j)[0]?:=by rw[h.back]
 rw[List.getElem?_drop,List.getElem?_drop,Nat.add_zero,Hq q j (by rw[h.len];exact hj),Hq ps j hj] at e
 injection e
theorem Iu.skip {p:KM.En->Bool} {ps q:List KM.En} {i j:Nat} (h:Iu p ps q i j) (hj:j<ps.length) (hg:p (KM.aN ps j)=true):Iu p ps q i (j+1):=by
 refine⟨h.len,by have:=h.lt;omega,hj,?_,?_⟩
 · rw[nN ps j hj,List.filter_append,h.front]
   simp[hg]
 · rw[<- List.drop_drop,<- List.drop_drop,h.back]
theorem Iu.keep {p:KM.En->Bool} {ps q:List KM.En} {i j:Nat} (h:Iu p ps q i j) (hj:j<ps.length) (hg:p (KM.aN ps j)=false):Iu p ps (q.set i (KM.aN ps j)) (i+1) (j+1):=by
 have hlt:=h.lt
 have FC:=h.len
 refine⟨by rw[List.length_set];exact h.len,by omega,hj,?_,?_⟩
 · rw[nN ps j hj,List.filter_append,<- h.front,nN _ i (by rw[List.length_set];omega)]
   have e1:(q.set i (KM.aN ps j)).take i=q.take i:=by
    rw[List.take_set,List.set_eq_of_length_le (by rw[List.length_take];omega)]
   have e2:KM.aN (q.set i (KM.aN ps j)) i=KM.aN ps j:=by
    unfold KM.aN
    rw[List.getD_eq_getElem?_getD,List.getElem?_set_self (by omega)]
    rfl
   rw[e1,e2]
   simp[hg]
 · rw[List.drop_set_of_lt (by omega),<- List.drop_drop,<- List.drop_drop,h.back]
theorem Iu.done {p:KM.En->Bool} {ps q:List KM.En} {i:Nat} (h:Iu p ps q i ps.length):q.take i=KM.jC ps p:=by
 rw[h.front,List.take_length]
 rfl
theorem uj (q:List KM.En) (i:Nat) (g:KM.En) (hi:i<q.length):(q.set i g).flatMap aK=(((q.flatMap aK).set (i*3) (I g.page)).set (i*3+1) (I g.kind)).set (i*3+2) (I g.loc):=by
 have h1:=gN aK 3 fE KM.jI ⟨g.page,(KM.aN q i).kind,(KM.aN q i).loc⟩ 0 (I g.page) (by omega) q i hi rfl
 have h2:=gN aK 3 fE KM.jI ⟨g.page,g.kind,(KM.aN q i).loc⟩ 1 (I g.kind) (by omega) (q.set i ⟨g.page,(KM.aN q i).kind,(KM.aN q i).loc⟩) i (by rw[List.length_set];exact hi) (by
  rw[List.getD_eq_getElem?_getD,List.getElem?_set_self hi];rfl)
 rw[List.set_set,h1] at h2
 have h3:=gN aK 3 fE KM.jI g 2 (I g.loc) (by omega) (q.set i ⟨g.page,g.kind,(KM.aN q i).loc⟩) i (by rw[List.length_set];exact hi) (by
  rw[List.getD_eq_getElem?_getD,List.getElem?_set_self hi];rfl)
 rw[List.set_set,h2] at h3
 exact h3
theorem NR {ps:List KM.En} {p:KM.En->Bool} (h:∀j,j<ps.length->p (KM.aN ps j)=false):KM.jC ps p=ps:=by
 unfold KM.jC
 rw[List.filter_eq_self]
 intro g hg
 obtain⟨k,hk,rfl⟩:=KM.eZ KM.jI hg
 have:=h k hk
 unfold KM.aN at this
 show(!p (ps.getD k KM.jI))=true
 rw[this];rfl
theorem Q4 (F:FuncId) (E:List Value) (x:Nat) (TT:(F=202/\E=[.pointer (some (Ad x 0))])∨(F=120/\E=[.pointer (some (Ad x 0))])∨(F=88/\E=[])) (P:KM.En->Bool) (es:List KM.En) (ao:Option Addr) (cap:Nat) (w:World) (h:aZ aK 3 KM.jI w ao es) (hl:es.length<=1000000)
  (hC:∀V e,Below w.heap.size w V->Calls Tryz.prog F (Value.agg #[I e.page,I e.kind,I e.loc]::E).toArray V fun r w'=>r=.returned (.bool (P e))/\Below V.heap.size V w') :
  Calls Tryz.prog 153 #[.slice ao es.length cap,.func (.func F) #[] E.toArray] w fun e w' =>
   Below w.heap.size w w'/\((e=.returned (I (-1))/\∀j,j<es.length->P (KM.aN es j)=false)∨∃i:Nat,i<es.length/\e=.returned (I (i:Int))/\P (KM.aN es i)=true/\∀j,j<i->P (KM.aN es j)=false):=by
 have HH:=ai h
 have HC:=ai hC
 clear h hC
 rcases TT with⟨rfl,rfl⟩ | ⟨rfl,rfl⟩ | ⟨rfl,rfl⟩
 all_goals
  go_enter Tryz.func153,Tryz.ntmps153
  go_wp2
  go_loopw [8] (fun iv wr=>∃k:Nat,k<=es.length/\iv=I (k:Int)/\(∀j,j<k->P (KM.aN es j)=false)/\Below w.heap.size w wr) (fun iv _=>es.length-(intOf iv).toNat)
  case atStart=>exact⟨0,by omega,rfl,fun j hj=>by omega,Below.refl _ _⟩
  case round =>
   obtain⟨k,hk,rfl,hno,hb⟩:=hrel
   have iV:=ai hno
   have HB:=ai hb
   clear hno
   by_cases hlt:k<es.length
   · have Ba:(k:Int)<(es.length:Int):=by omega
     obtain⟨eb,eo,hao,hbl,bM⟩:=HH.o (by omega)
     subst hao
     have y0:=(hb.cell (p:=(Ad eb (eo+k*3+0))) hbl).trans (bM k hlt 0 (by omega))
     have y1:=(hb.cell (p:=(Ad eb (eo+k*3+1))) hbl).trans (bM k hlt 1 (by omega))
     have y2:=(hb.cell (p:=(Ad eb (eo+k*3+2))) hbl).trans (bM k hlt 2 (by omega))
     rw[Nat.add_zero] at y0
     have j6:=ai (HC.o wr (KM.aN es k) hb)
     obtain⟨G,hG⟩:=ex (P (KM.aN es k))
     rw[<- hG] at j6
     have HG:=ai hG
     obtain⟨E,hE⟩:=ex (KM.aN es k)
     have x0:wr.cell? (Ad eb (eo+k*3))=some (I E.page):=by rw[hE];exact y0
     have x1:wr.cell? (Ad eb (eo+k*3+1))=some (I E.kind):=by rw[hE];exact y1
     have x2:wr.cell? (Ad eb (eo+k*3+2))=some (I E.loc):=by rw[hE];exact y2
     rw[<- hE] at j6
     clear hG hE hb y0 y1 y2 bM
     cases G with
     | true =>
      go_wp2_with ((first | go_at_call 202 | go_at_call 120 | go_at_call 88);refine j6.o.mono ?_;rintro e w1 ⟨rfl,hb1⟩;have bI:=ai (HB.o.trans (hb1.mono HB.o.size));clear hb1)
      go_ret
      exact⟨bI.o,.inr ⟨k,hlt,rfl,HG.o.symm,iV.o⟩⟩
     | false =>
      go_wp2_with ((first | go_at_call 202 | go_at_call 120 | go_at_call 88);refine j6.o.mono ?_;rintro e w1 ⟨rfl,hb1⟩;have bI:=ai (HB.o.trans (hb1.mono HB.o.size));clear hb1)
      go_roundw
      case rel=>exact⟨k+1,by omega,by go_num,fun j hj=>by
       by_cases q:j=k
       · subst q;exact HG.o.symm
       · exact iV.o j (by omega),bI.o⟩
      case measure=>simp[intOf];omega
   · obtain rfl:k=es.length:=by omega
     clear hb
     go_wp2
     go_ret
     exact⟨HB.o,.inl ⟨rfl,iV.o⟩⟩
theorem TP {lo:Nat} {es:List KM.En} {ao:Option Addr} {cap:Nat} {w:World} (h:w.ownsRow lo 45 3 (.slice ao es.length cap) es.length (es.flatMap aK)):KW.aZ aK 3 KM.jI w ao es:=by
 obtain⟨a,c,e,_,hr⟩:=KO.jN aK (fun _=>rfl) KM.jI h
 injection e with e1 _ _
 rw[e1];exact hr
theorem Ht (F:FuncId) (E:List Value) (x:Nat) (TT:(F=202/\E=[.pointer (some (Ad x 0))])∨(F=120/\E=[.pointer (some (Ad x 0))])∨(F=88/\E=[])) (lo:Nat) (ps:List KM.En) (p:KM.En->Bool) (vp:Value) (w:World) (h:w.ownsRow lo 45 3 vp ps.length (ps.flatMap aK)) (hC:∀V e,Kp (blk vp) w V->Calls Tryz.prog F (Value.agg #[I e.page,I e.kind,I e.loc]::E).toArray V fun r w'=>r=.returned (.bool (p e))/\Below V.heap.size V w') (hl:ps.length<=100000) :
  Calls Tryz.prog 131 #[vp,.func (.func F) #[] E.toArray] w (kJ lo vp (KM.jC ps p) w):=by
 obtain⟨ao,cap,rfl,hcm,hgo⟩:=aQ h
 have BH:=ai (Q4 F E x TT p ps ao cap w (TP h) (by omega) (fun V e hV=>hC V e (Kp.aY hV)))
 have HH:=ai h
 have HC:=ai hC
 obtain⟨P,hP⟩:=ex (kJ lo (.slice ao ps.length cap) (KM.jC ps p) w)
 have HP:Hid (∀e w',kJ lo (.slice ao ps.length cap) (KM.jC ps p) w e w'->P e w'):=fun e w' h=>by rw[hP];exact h
 rw[<- hP]
 have HGO:=ai hgo
 clear h hC hP hgo
 by_cases hall:∀j,j<ps.length->p (KM.aN ps j)=false
 · have C7:Hid (Calls Tryz.prog 153 #[.slice ao ps.length cap,.func (.func F) #[] E.toArray] w fun e w'=>e=.returned (I (-1))/\Below w.heap.size w w'):=BH.o.mono fun e w' ⟨hb,hh⟩=>by
    rcases hh with⟨rfl,_⟩ | ⟨i,hi,_,hg,_⟩
    · exact⟨rfl,hb⟩
    · rw[hall i hi] at hg;cases hg
   have Ui:=ai (NR hall)
   clear hall BH
   rcases TT with⟨rfl,rfl⟩ | ⟨rfl,rfl⟩ | ⟨rfl,rfl⟩
   all_goals
    go_enter Tryz.func131,Tryz.ntmps131
    go_wp2_with (go_at_call 153;refine C7.o.mono ?_;rintro e w1 ⟨rfl,hb1⟩;have bI:=ai hb1;clear hb1)
    exact HP.o _ _ ⟨_,rfl,by rw[Ui.o];exact Kp.row (Kp.aY (D:=fun _=>False) bI.o) HH.o (fun _ _ g=>g),Kp.aY bI.o,fun b hb=>.inl hb⟩
 · have C7:Hid (Calls Tryz.prog 153 #[.slice ao ps.length cap,.func (.func F) #[] E.toArray] w fun e w'=>∃i:Nat,e=.returned (I (i:Int))/\Iu p ps ps i (i+1)/\Below w.heap.size w w'):=BH.o.mono fun e w' ⟨hb,hh⟩=>by
    rcases hh with⟨_,g⟩ | ⟨i,hi,rfl,hg,hno⟩
    · exact(hall g).elim
    · exact⟨i,rfl,Iu.start hi hg hno,hb⟩
   have hpos:0<ps.length:=by
    rcases Nat.eq_zero_or_pos ps.length with g | g
    · exact(hall (fun j hj=>by omega)).elim
    · exact g
   obtain⟨pb,rfl,hlo,hpb⟩:=HGO.o hpos
   clear hall BH HGO
   rcases TT with⟨rfl,rfl⟩ | ⟨rfl,rfl⟩ | ⟨rfl,rfl⟩
   all_goals
    go_enter Tryz.func131,Tryz.ntmps131
    go_wp2_with (go_at_call 153;refine C7.o.mono ?_;rintro e w1 ⟨i1,rfl,Va,hb1⟩;have bI:=ai hb1;have jZ:=ai Va;have hi1:=Va.le;have hi2:((i1:Int)==-1)=false:=(by rw[beq_eq_false_iff_ne];omega);clear hb1 Va)
    go_loopw [5,6] (fun iv jv wr=>∃(i j:Nat) (q:List KM.En),iv=I (i:Int)/\jv=I (j:Int)/\Iu p ps q i j/\wr.ownsRow lo 45 3 (.slice (some (Ad pb 0)) ps.length cap) ps.length (q.flatMap aK)/\Kp (fun b=>b=pb) w wr) (fun _ jv _=>ps.length-(intOf jv).toNat)
    case atStart=>exact⟨i1,i1+1,ps,rfl,by go_num,jZ.o,Kp.row (Kp.aY (D:=fun _=>False) bI.o) HH.o (fun _ _ g=>g),Kp.aY bI.o⟩
    case round =>
     obtain⟨i,j,q,rfl,rfl,hf,hrow,xg⟩:=hrel
     have hij:=hf.lt
     have hjl:=hf.le
     have HF:=ai hf
     have HR:=ai hrow
     have HK:=ai xg
     clear jZ bI hi1
     by_cases hlt:j<ps.length
     · have La:(j:Int)<(ps.length:Int):=by omega
       have G9:(i:Int)<(ps.length:Int):=by omega
       have hql:=hf.len
       have KU:∀V:World,V.ownsRow lo 45 3 (.slice (some (Ad pb 0)) ps.length cap) ps.length (q.flatMap aK)->∀k,k<ps.length->V.cell? (Ad pb (k*3))=some (I (KM.aN q k).page)/\V.cell? (Ad pb (k*3+1))=some (I (KM.aN q k).kind)/\V.cell? (Ad pb (k*3+2))=some (I (KM.aN q k).loc):=fun V hV k hk=>by
        rw[<- hql] at hV
        exact⟨iQ aK fE KM.jI hV k 0 (by omega) (by omega),iQ aK fE KM.jI hV k 1 (by omega) (by omega),iQ aK fE KM.jI hV k 2 (by omega) (by omega)⟩
       have Ii:=ai KU
       obtain⟨c0,c1,c2⟩:=KU wr hrow j hlt
       rw[hf.at hlt] at c0 c1 c2
       have ah7:pb<wr.heap.size:=(hrow.lt pb rfl).2
       have ah8:¬pb=wr.heap.size:=by omega
       have HA:=ai ((Below.refl wr.heap.size wr).alloc (Nat.le_refl _) (.cells #[I (KM.aN ps j).page,I (KM.aN ps j).kind,I (KM.aN ps j).loc] 45))
       have j6:=ai (HC.o (wr.alloc (.cells #[I (KM.aN ps j).page,I (KM.aN ps j).kind,I (KM.aN ps j).loc] 45)) (KM.aN ps j) ((xg.trans (Kp.aY (D:=fun b=>b=pb) HA.o) (fun _ _ g=>g)).mono (fun b _ e=>by subst e;rfl)))
       have BX:=ai (B.new wr #[I (KM.aN ps j).page,I (KM.aN ps j).kind,I (KM.aN ps j).loc] 45)
       have HSK:=ai (hf.skip hlt)
       have Xh:=ai (hf.keep hlt)
       obtain⟨G,hG⟩:=ex (p (KM.aN ps j))
       rw[<- hG] at j6 HSK Xh
       obtain⟨g,hg⟩:=ex (KM.aN ps j)
       rw[<- hg] at c0 c1 c2 j6 Xh HA BX
       clear hG hg hrow xg KU hf
       cases G with
       | true =>
        go_wp2_with ((first | go_at_call 202 | go_at_call 120 | go_at_call 88);refine j6.o.mono ?_;rintro e w2 ⟨rfl,hb2⟩;have ck:=ai (HA.o.trans (hb2.mono HA.o.size));clear hb2)
        go_roundw
        case rel=>exact⟨i,j+1,q,rfl,by go_num,HSK.o (by trivial),Kp.row (Kp.aY (D:=fun _=>False) ck.o) HR.o (fun _ _ g=>g),HK.o.trans (Kp.aY (D:=fun b=>b=pb) ck.o) (fun _ _ g=>g)⟩
        case measure=>simp[intOf];omega
       | false =>
        go_wp2_with ((first | go_at_call 202 | go_at_call 120 | go_at_call 88);refine j6.o.mono ?_;rintro e w2 ⟨rfl,hb2⟩;have ck:=ai (HA.o.trans (hb2.mono HA.o.size));have zC:=ai (Kp.row (Kp.aY (D:=fun _=>False) ck.o) HR.o (fun _ _ g=>g));have hc2:=Ii.o _ zC.o i (by omega);obtain⟨d0,d1,d1b⟩:=hc2;have d2:=dn zC.o (i*3);have d3:=dn zC.o (i*3+1);have d3b:=dn zC.o (i*3+2);have hx2:=B.below BX.o hb2 (B.isLt BX.o);obtain⟨d4,d5,d6⟩:=B.c3 hx2;clear hb2 hx2)
        go_roundw
        case rel =>
         refine⟨i+1,j+1,q.set i g,by go_num,by go_num,Xh.o (by trivial),?_,?_⟩
         · rw[uj q i g (by omega)]
           exact jM (jM (jM zC.o (i*3) _) (i*3+1) _) (i*3+2) _
         · exact(((HK.o.trans (Kp.aY (D:=fun b=>b=pb) ck.o) (fun _ _ g=>g)).trans (Kp.set (fun b=>b=pb) w2 (Ad pb (i*3)) _ rfl) (fun _ _ g=>g)).trans (Kp.set (fun b=>b=pb) _ (Ad pb (i*3+1)) _ rfl) (fun _ _ g=>g)).trans (Kp.set (fun b=>b=pb) _ (Ad pb (i*3+2)) _ rfl) (fun _ _ g=>g)
        case measure=>simp[intOf];omega
     · obtain rfl:j=ps.length:=by omega
       have hql:=hf.len
       have hdn:=hf.done
       obtain⟨cur,hcz,U8,hcs,hct⟩:∃cur:Array Value,cur.size=cap*3/\wr.heap[pb]?=some (.cells cur 45 (0,0))/\cap<=maxLen/\cur.toList.take (ps.length*3)=q.flatMap aK:=by
        rcases hrow.2 with⟨h0,_⟩ | ⟨g,cap',cur,hv,hb,hg,h1,h2,h3,h4⟩
        · omega
        · injection hv with e1 e2 e3
          injection e1 with e1
          injection e1 with e1
          subst e1 e3
          exact⟨cur,h3,hg,h2,h4⟩
       have hcl:cur.toList.length=cap*3:=hcz
       have YI:∀ty c,(Builtin.clear_ #[41] ty #[.slice (some (Ad pb (i*3))) (ps.length-i) c]).run Tryz.prog wr=.ok (.tuple #[]) (wr.setRow pb (splice cur.toList (i*3) (fp [I 0,I 0,I 0] (ps.length-i))).toArray):=fun ty c=>xM (P:=Tryz.prog) wr 41 ty 45 (.agg #[I 0,I 0,I 0]) Tryz.underlying41 Xt (by decide) (by decide) pb (i*3) (ps.length-i) c cur.toList 45 (by simpa using U8) (by
        have e:(Value.cells (.agg #[I 0,I 0,I 0])).size=3:=rfl
        rw[e,hcl];omega)
       obtain⟨S,hS⟩:=ex (splice cur.toList (i*3) (fp [I 0,I 0,I 0] (ps.length-i)))
       rw[<- hS] at YI
       have hSl:S.length=cap*3:=by
        rw[hS,length_splice _ _ _ (by rw[fy,hcl];simp only[List.length_cons,List.length_nil];omega),hcl]
       have hSt:S.take (i*3)=(KM.jC ps p).flatMap aK:=by
        rw[<- hdn,<- ud,<- hct,List.take_take,Nat.min_eq_left (by omega),hS]
        unfold splice
        exact take_left' _ _ _ (by rw[List.length_take,hcl];omega)
       have hol:(KM.jC ps p).length=i:=by rw[<- hdn,List.length_take];omega
       have hg2:(wr.setRow pb S.toArray).heap[pb]?=some (.cells S.toArray 45 (0,0)):=setRow_heap wr pb _ _ _ _ U8
       have bw:Hid (P (.returned (.slice (some (Ad pb 0)) i cap)) (wr.setRow pb S.toArray)):=HP.o _ _ ⟨_,rfl,by
        rw[hol,<- hSt]
        exact⟨by rw[List.length_take,hSl];omega,.inr ⟨pb,cap,S.toArray,rfl,hlo,hg2,by omega,hcs,by simpa using hSl,by simp⟩⟩,(xg.mono (fun b _ e=>by subst e;rfl)).trans (ug wr pb S.toArray) (fun b _ e=>by subst e;rfl),fun b hb=>.inl hb⟩
       have hic:¬cap=i:=by omega
       have hin:(i:Int)<=(ps.length:Int):=by omega
       have Ol:i<=ps.length:=by omega
       have ait:i<=cap:=by omega
       have YL:cap<=9223372036854775807:=by unfold maxLen at hcs;omega
       clear hf hrow xg HF HR HK U8 hct hdn hS hSl hSt hol hg2 hql hcz hcl C7 HP HH HC
       go_wp2_with (at_builtin;refine JG _ rfl _ 41 rfl _ rfl (YI _ _) ?_)
       exact bw.o
end KI
namespace KX
open Go.RowKit GK KO
open FW (ai aB)
open KW (bE bD aK aZ fu cI aJ dN bT)
open KS (Lc bJ oY dC blk cU)
theorem yt (kd a:Int):∀ss:List KM.Sp,(KM.names ss kd a).length<=(KM.sD ss).length
 | []=>Nat.zero_le _
 | s::r=>by
  have ih:=yt kd a r
  have h1:(KM.fq s kd a).length<=s.aA.length:=by unfold KM.fq;rw[List.length_map];exact List.length_filter_le _ _
  have h2:KM.sD (s::r)=s.aA++KM.sD r:=List.flatMap_cons
  rw[KM.fT,h2,List.length_append,List.length_append]
  omega
theorem Js {k:KM.Kn} (h:KM.aU k):(KM.sD k.aj).length<=512:=by
 have h1:=KM.zw k.aj.length k.aj rfl (fun s hs=>KM.mC (h.each s hs))
 have h2:=h.room
 have h3:=h.c
 omega
theorem nR {k:KM.Kn} (h:KM.aU k):(∀i,i<k.frames.length->0<=(KM.aI k.frames i).refs/\(KM.aI k.frames i).refs<=512)/\(∀i,i<k.slots.length->0<=(KM.bG k.slots i).refs/\(KM.bG k.slots i).refs<=512):=by
 have h1:=Js h
 refine⟨fun i hi=>?_,fun i hi=>?_⟩
 · have:=(h.nz i hi).refs
   have:=yt 1 i k.aj
   omega
 · have:=(h.slt i hi).refs
   have:=yt 2 i k.aj
   omega
theorem je {k:KM.Kn} (h:KM.aU k) {j:Nat} (hj:j<k.aj.length):(KM.au k.aj j).aA.length<=512:=by
 have h1:=KM.mC (h.sp hj)
 have h2:=h.room
 have h3:=h.c
 have h4:=Js h
 have:∀(l:List KM.Sp) (j:Nat),j<l.length->(KM.au l j).aA.length<=(KM.sD l).length:=fun l=>by
  induction l with
  | nil=>intro j hj;simp at hj
  | cons s r ih =>
   intro j hj
   have h2:KM.sD (s::r)=s.aA++KM.sD r:=List.flatMap_cons
   rw[h2,List.length_append]
   cases j with
   | zero=>show s.aA.length<=_;omega
   | succ j=>have:=ih j (by simpa using hj);show(KM.au r j).aA.length<=_;omega
 have:=this k.aj j hj
 omega
theorem aZ.kp {α:Type} {f:α->List Value} {k:Nat} {d:α} {w w':World} {ao:Option Addr} {l:List α} {D:Nat->Prop} (h:aZ f k d w ao l) (hk:Kp D w w') (hn:∀b off,ao=some (Ad b off)->¬D b):aZ f k d w' ao l:=fun hl=>by
 obtain⟨b,off,e,hb,hi⟩:=h hl
 refine⟨b,off,e,Nat.lt_of_lt_of_le hb hk.size,fun i hi' j hj=>?_⟩
 exact(World.cell?_of_block (hk.block b hb (hn b off e))).trans (hi i hi' j hj)
theorem Hk {lo mb:Nat} {tt:TypeId} {X:List Value} (F:FuncId) (E:List Value) (x:Nat) (TT:(F=202/\E=[.pointer (some (Ad x 0))])∨(F=120/\E=[.pointer (some (Ad x 0))])∨(F=88/\E=[]))
  (k:KM.Kn) (S:St) (w:World) (j:Nat) (p:KM.En->Bool) (h:Km lo mb tt X w S k) (hR:KM.aU k) (hj:j<k.aj.length) (hC:∀V e,Kp (fun b=>S.lab b≠.no) w V->Calls Tryz.prog F (Value.agg #[I e.page,I e.kind,I e.loc]::E).toArray V fun r w'=>r=.returned (.bool (p e))/\Below V.heap.size V w') :
  Calls Tryz.prog 87 #[.pointer (some (Ad mb 0)),I (j:Int),.func (.func F) #[] E.toArray] w (gh lo mb tt X w S (.tuple #[]) (KM.gv k j p)):=by
 have hlo:lo<=w.heap.size:=Nat.le_trans h.lo_le (Nat.le_of_lt h.lt)
 have hcc:=hR.c
 have hen:=je hR hj
 obtain⟨pb,cP,A⟩:=h.toKr.sp (by omega)
 obtain⟨ae,ce,vq,hre⟩:=h.toKr.aA hj
 have c3:=h.c3
 rw[A.v] at c3
 have a2:=A.x2 j hj
 rw[vq] at a2
 have La:(j:Int)<(k.aj.length:Int):=by omega
 obtain⟨es,hes⟩:=ex ((KM.au k.aj j).aA)
 rw[<- hes] at a2 hen hre vq
 have HST:Hid (∀V n,n<es.length->Km lo mb tt X V S (KM.dg k es p n)->V.cell? (Ad pb (j*3+2))=some (.slice ae es.length ce)/\aZ aK 3 KM.jI V ae es):=fun V n hn hV=>by
  have hjn:j<(KM.dg k es p n).aj.length:=by rw[KM.gJ];exact hj
  obtain⟨QK,cP',A'⟩:=hV.toKr.sp (by omega)
  have e:QK=pb:=by
   have:=A'.v
   rw[A.v] at this
   injection this with e1 _ _
   injection e1 with e1
   injection e1 with e1 _ _
   exact e1.symm
  subst e
  have x2:=A'.x2 j hjn
  rw[vq] at x2
  obtain⟨ae',ce',UO,UW⟩:=hV.toKr.aA hjn
  rw[KM.gJ,<- hes] at UO UW
  rw[vq] at UO
  injection UO with e1 _ _
  rw[<- e1] at UW
  exact⟨x2,UW⟩
 have Qo:Hid (∀V n,n<es.length->Km lo mb tt X V S (KM.dg k es p n)->Calls Tryz.prog 85 #[.pointer (some (Ad mb 0)),.agg #[I (KM.aN es n).page,I (KM.aN es n).kind,I (KM.aN es n).loc],I (-1)] V (nD lo mb tt X V S (.tuple #[]) (KM.cN (KM.dg k es p n) (KM.aN es n)))):=fun V n hn hV=>by
  have hin:KM.aN es n∈(KM.au k.aj j).aA:=by rw[<- hes];exact KM.dX hn
  have hb:=KM.fV hR hj hin
  have hr:=KM.y8 k es p n
  have hp:=KM.pV hR hj p n (by rw[<- hes];omega)
  rw[<- hes] at hp
  have hf:=nR hp
  have hf1:∀i,i<(KM.dg k es p n).frames.length->0<=(KM.aI (KM.dg k es p n).frames i).refs/\(KM.aI (KM.dg k es p n).frames i).refs<=512:=hf.1
  have hf2:∀i,i<(KM.dg k es p n).slots.length->0<=(KM.bG (KM.dg k es p n).slots i).refs/\(KM.bG (KM.dg k es p n).slots i).refs<=512:=hf.2
  rw[<- KM.vY]
  refine uL _ S V (KM.aN es n) (-1) hV (fun c=>?_) (fun c=>?_) (.inr rfl) ⟨fun c=>?_,fun c=>?_⟩
  · rw[hr.2.2.1];omega
  · rw[hr.2.2.2];omega
  · have:=hf1 (KM.aN es n).loc.toNat (by rw[hr.2.2.1];omega);omega
  · have:=hf2 (KM.aN es n).loc.toNat (by rw[hr.2.2.2];omega);omega
 have Am:=ai hC
 have HDL:Hid (∀V,Km lo mb tt X V S (KM.dg k es p es.length)->Ch S w S V->Calls Tryz.prog 131 #[.slice ae es.length ce,.func (.func F) #[] E.toArray] V fun e w'=>∃av nv cv,e=.returned (.slice av nv cv)/\∃S',Km lo mb tt X (w'.setCell (Ad pb (j*3+2)) (.slice av nv cv)) S' (KM.gv k j p)/\Ch S w S' (w'.setCell (Ad pb (j*3+2)) (.slice av nv cv))/\w'.frozen? (Ad pb (j*3+2))=false/\(∃u,w'.cell? (Ad pb (j*3+2))=some u)):=fun V hV hch=>by
  have hjn:j<(KM.dg k es p es.length).aj.length:=by rw[KM.gJ];exact hj
  have hrow:=(hV.each j hjn).aH
  rw[KM.gJ,<- hes,vq] at hrow
  have hlV:lo<=V.heap.size:=Nat.le_trans hlo hch.kp.size
  have hlab:∀b,blk (.slice ae es.length ce) b->S.lab b=.aA j:=fun b hb=>hV.lE j hjn b (by rw[vq];exact hb)
  refine(KI.Ht F E x TT lo es p (.slice ae es.length ce) V hrow (fun U e hU=>Am.o U e ?_) (by omega)).mono fun e w' ⟨v',h1,h2,h3,h4⟩=>?_
  · exact((hch.kp.mono (fun b _ g=>g)).trans hU (fun b hb hx=>by rw[hlab b hx];simp))
  · obtain⟨av,cv,rfl,_,_⟩:=aQ h2
    obtain⟨QK,cP',A'⟩:=hV.toKr.sp (by omega)
    have hP:S.vP=.slice (some (Ad pb 0)) k.aj.length cP:=A.v
    have k1:Kp (fun b=>S.lab b=.aA j) V w':=h3.mono (fun b _ hx=>hlab b hx)
    have sw:=hV.gw hjn hP k1 h2 (fun b hb=>by
     rcases h4 b hb with g | g
     · exact .inl (hlab b g)
     · exact .inr (hV.toKr.new g))
    have e1:({ KM.dg k es p es.length with aj:=(KM.dg k es p es.length).aj.set j (KM.dV (KM.au (KM.dg k es p es.length).aj j) (KM.jC es p)) }:KM.Kn)=KM.gv k j p:=by
     unfold KM.gv KM.kZ
     rw[<- hes]
    refine⟨av,_,cv,h1,_,e1 ▸ sw.1,hch.trans (sw.2 (fun b hb hx=>?_)),?_,?_⟩
    · rcases h4 b hx with g | g
      · exact hlab b g
      · omega
    · have hpl:S.lab pb=.aj:=A.lab
      have hrP:=hV.aj
      rw[hP] at hrP
      have hrl:=h.len
      have:=k1.row hrP (fun b hb e=>by
       have:S.lab b=.aj:=hV.lP b (by rw[hP];exact hb)
       rw[this] at e;simp at e)
      have hl2:S.L.length=k.aj.length:=hrl
      rw[<- hl2] at this
      exact dn this _
    · have hpl:S.lab pb=.aj:=A.lab
      have c2:=A'.x2 j hjn
      have e:QK=pb:=by
       have:=A'.v
       rw[A.v] at this
       injection this with e1 _ _
       injection e1 with e1
       injection e1 with e1 _ _
       exact e1.symm
      subst e
      exact⟨_,k1.cell c2 (fun e=>by have e:S.lab QK=.aA j:=e;rw[hpl] at e;simp at e)⟩
 have bw:Hid (∀V S',Km lo mb tt X V S' (KM.gv k j p)->Ch S w S' V->gh lo mb tt X w S (.tuple #[]) (KM.gv k j p) (.returned (.tuple #[])) V):=fun V S' h1 h2=>⟨rfl,S',h1,h2⟩
 have wT:=ai (fun V (hV:Km lo mb tt X V S (KM.dg k es p es.length))=>(show V.cell? (Ad pb (j*3+2))=some (.slice ae es.length ce) from by
  have hjn:j<(KM.dg k es p es.length).aj.length:=by rw[KM.gJ];exact hj
  obtain⟨QK,cP',A'⟩:=hV.toKr.sp (by omega)
  have e:QK=pb:=by
   have:=A'.v
   rw[A.v] at this
   injection this with e1 _ _
   injection e1 with e1
   injection e1 with e1 _ _
   exact e1.symm
  subst e
  have x2:=A'.x2 j hjn
  rw[vq] at x2
  exact x2))
 have iW:=ai h
 have BG:Hid (∀V n,Km lo mb tt X V S (KM.dg k es p n)->∀V',Below V.heap.size V V'->Km lo mb tt X V' S (KM.dg k es p n)):=fun V n hV V' hb=>hV.below hb
 have py:Hid (∀n,p (KM.aN es n)=true->KM.cN (KM.dg k es p n) (KM.aN es n)=KM.dg k es p (n+1)):=fun n hn=>by
  show _=if p (KM.aN es n)=true then _ else _
  rw[if_pos hn]
 have iV:Hid (∀n,p (KM.aN es n)=false->KM.dg k es p n=KM.dg k es p (n+1)):=fun n hn=>by
  show _=if p (KM.aN es n)=true then _ else _
  rw[if_neg (by rw[hn];simp)]
 obtain⟨P,hP⟩:=ex (gh lo mb tt X w S (.tuple #[]) (KM.gv k j p))
 rw[<- hP] at bw ⊢
 obtain⟨np,rX⟩:=ex k.aj.length
 rw[<- rX] at c3 La
 clear h hR hcc A vq hre hes hC hP rX hj hlo
 have hee:es.length<=1000000:=by omega
 rcases TT with⟨rfl,rfl⟩ | ⟨rfl,rfl⟩ | ⟨rfl,rfl⟩
 all_goals
  go_enter Tryz.func87,Tryz.ntmps87
  go_wp2
  go_loopw [21] (fun iv wr=>∃n:Nat,n<=es.length/\iv=I (n:Int)/\Km lo mb tt X wr S (KM.dg k es p n)/\Ch S w S wr) (fun iv _=>es.length-(intOf iv).toNat)
  case atStart=>exact⟨0,by omega,rfl,iW.o,Ch.refl _ _⟩
  case round =>
   obtain⟨n,hn,rfl,dM,hch⟩:=hrel
   have S6:=ai dM
   have Dr:=ai hch
   by_cases hlt:n<es.length
   · have hni:(n:Int)<(es.length:Int):=by omega
     obtain⟨y2,hr2⟩:=HST.o wr n hlt dM
     obtain⟨eb,eo,hao,hbl,bM⟩:=hr2 (by omega)
     subst hao
     have x0:=bM n hlt 0 (by omega)
     have x1:=bM n hlt 1 (by omega)
     have x2:=bM n hlt 2 (by omega)
     rw[Nat.add_zero] at x0
     have HA:=ai ((Below.refl wr.heap.size wr).alloc (Nat.le_refl _) (.cells #[I (KM.aN es n).page,I (KM.aN es n).kind,I (KM.aN es n).loc] 45))
     have BX:=ai (B.new wr #[I (KM.aN es n).page,I (KM.aN es n).kind,I (KM.aN es n).loc] 45)
     have j6:=ai (Am.o (wr.alloc (.cells #[I (KM.aN es n).page,I (KM.aN es n).kind,I (KM.aN es n).loc] 45)) (KM.aN es n) ((hch.trans (Ch.below (S:=S) HA.o)).kp))
     have Z2:=ai (fun V=>Qo.o V n hlt)
     have HY2:=ai (py.o n)
     have Fk:=ai (iV.o n)
     obtain⟨G,hG⟩:=ex (p (KM.aN es n))
     rw[<- hG] at j6 HY2 Fk
     obtain⟨e,he⟩:=ex (KM.aN es n)
     have y0:wr.cell? (Ad eb (eo+n*3))=some (I e.page):=by rw[he];exact x0
     have y1:wr.cell? (Ad eb (eo+n*3+1))=some (I e.kind):=by rw[he];exact x1
     have y3:wr.cell? (Ad eb (eo+n*3+2))=some (I e.loc):=by rw[he];exact x2
     rw[<- he] at j6 HA BX Z2 HY2
     clear hG he dM hch hr2 bM x0 x1 x2 iW
     cases G with
     | true =>
      go_wp2_with (first
       | ((first | go_at_call 202 | go_at_call 120 | go_at_call 88);refine j6.o.mono ?_;rintro r w1 ⟨rfl,hb1⟩;have bI:=ai (HA.o.trans (hb1.mono HA.o.size));have BX1:=B.below BX.o hb1 (B.isLt BX.o);obtain⟨d0,d1,d2⟩:=B.c3 BX1;clear hb1 BX1)
       | (go_at_call 85;refine(Z2.o _ (BG.o _ n S6.o _ bI.o)).mono ?_;rintro r w2 ⟨rfl,hk2,hc2⟩;have jJ:=ai hk2;have og:=ai ((Dr.o.trans (Ch.below (S:=S) bI.o)).trans hc2);clear hk2 hc2))
      go_roundw
      case rel=>exact⟨n+1,by omega,by go_num,HY2.o (by trivial) ▸ jJ.o,og.o⟩
      case measure=>simp[intOf];omega
     | false =>
      go_wp2_with ((first | go_at_call 202 | go_at_call 120 | go_at_call 88);refine j6.o.mono ?_;rintro r w1 ⟨rfl,hb1⟩;have bI:=ai (HA.o.trans (hb1.mono HA.o.size));clear hb1)
      go_roundw
      case rel=>exact⟨n+1,by omega,by go_num,Fk.o (by trivial) ▸ BG.o _ n S6.o _ bI.o,Dr.o.trans (Ch.below (S:=S) bI.o)⟩
      case measure=>simp[intOf];omega
   · obtain rfl:n=es.length:=by omega
     have y2:=wT.o wr dM
     have HD2:=ai (HDL.o wr dM hch)
     clear dM hch S6 Dr HDL HST wT Qo Am iW BG py iV
     go_wp2_with (go_at_call 131;refine HD2.o.mono ?_;rintro r w2 ⟨av,nv,cv,rfl,S',hk2,hc2,aiC,u2,hu2⟩;have jJ:=ai hk2;have og:=ai hc2;clear hk2 hc2)
     refine bodyPost_end (v:=.tuple #[]) (by simp[results,Tryz.results87,go_sem]) rfl ?_
     exact bw.o _ S' jJ.o og.o
theorem ED (i:Int) (e:KM.En) (x:Nat) (w:World) (hx:w.cell? (Ad x 0)=some (I i)) :
  Calls Tryz.prog 202 #[.agg #[I e.page,I e.kind,I e.loc],.pointer (some (Ad x 0))] w fun r w'=>r=.returned (.bool (KM.jc i e))/\Below w.heap.size w w':=by
 obtain⟨pg,kd,lc⟩:=e
 unfold KM.jc
 simp only
 have hxl:x<w.heap.size:=World.block_lt_of_cell? w _ hx
 have xA:(w.alloc (.cells #[I pg,I kd,I lc] 45)).cell? (Ad x 0)=some (I i):=(Below.cell ((Below.refl w.heap.size w).alloc (Nat.le_refl _) _) (p:=(Ad x 0)) hxl).trans hx
 obtain⟨A,hA⟩:=ex (decide (kd=1/\lc=i))
 rw[<- hA]
 have HA:=ai hA
 clear hA
 by_cases c:kd=1
 · have kb:(kd==1)=true:=by simpa using c
   obtain⟨C,hC⟩:=ex ((lc==i))
   have HC:=ai hC
   have hC2:=hC.symm
   have cA:=ai c
   clear hC c
   go_enter Tryz.func202,Tryz.ntmps202
   go_wp2
   go_ret
   refine⟨?_,(Below.refl _ _).alloc (Nat.le_refl _) _⟩
   congr 2
   rw[HA.o,cA.o]
   try rw[HC.o]
   by_cases d:lc=i <;> simp[d]
 · have kb:(kd==1)=false:=by simpa using c
   have cA:=ai c
   clear c
   go_enter Tryz.func202,Tryz.ntmps202
   go_wp2
   go_ret
   refine⟨?_,(Below.refl _ _).alloc (Nat.le_refl _) _⟩
   congr 2
   rw[HA.o]
   simp[cA.o]
theorem GR (f:KM.Sl) (w:World):Calls Tryz.prog 204 #[.agg #[.string f.data,I f.refs]] w fun e w'=>e=.returned (.bool (KM.n9 f))/\Below w.heap.size w w':=by
 obtain⟨d,r⟩:=f
 unfold KM.n9
 simp only
 have hd:d.toList.isEmpty=decide (d.size=0):=KW.O9 d
 by_cases c1:d.size=0
 · by_cases c2:r=0
   · rw[decide_eq_true (show d.size=0/\r=0 from⟨c1,c2⟩)]
     rw[decide_eq_true c1] at hd
     have h2:(r==0)=true:=by simpa using c2
     clear c1 c2
     go_enter Tryz.func204,Tryz.ntmps204
     go_wp2
     go_ret
     exact⟨by simp,(Below.refl _ _).alloc (Nat.le_refl _) _⟩
   · rw[decide_eq_false (show ¬(d.size=0/\r=0) from fun x=>c2 x.2)]
     rw[decide_eq_true c1] at hd
     have h2:(r==0)=false:=by simpa using c2
     clear c1 c2
     go_enter Tryz.func204,Tryz.ntmps204
     go_wp2
     go_ret
     exact⟨by simp,(Below.refl _ _).alloc (Nat.le_refl _) _⟩
 · rw[decide_eq_false (show ¬(d.size=0/\r=0) from fun x=>c1 x.1)]
   rw[decide_eq_false c1] at hd
   clear c1
   go_enter Tryz.func204,Tryz.ntmps204
   go_wp2
   go_ret
   exact⟨by simp,(Below.refl _ _).alloc (Nat.le_refl _) _⟩
theorem NT (l:List KM.Sl) (ao:Option Addr) (cap:Nat) (w:World) (h:aZ bD 2 KM.sS w ao l) (hl:l.length<=1000000) :
  Calls Tryz.prog 203 #[.slice ao l.length cap,.func (.func 204) #[] #[]] w fun e w' =>
   Below w.heap.size w w'/\((e=.returned (I (-1))/\∀j,j<l.length->KM.n9 (KM.bG l j)=false)∨∃i:Nat,i<l.length/\e=.returned (I (i:Int))/\KM.n9 (KM.bG l i)=true/\∀j,j<i->KM.n9 (KM.bG l j)=false):=by
 have HH:=ai h
 clear h
 go_enter Tryz.func203,Tryz.ntmps203
 go_wp2
 go_loopw [8] (fun iv wr=>∃k:Nat,k<=l.length/\iv=I (k:Int)/\(∀j,j<k->KM.n9 (KM.bG l j)=false)/\Below w.heap.size w wr) (fun iv _=>l.length-(intOf iv).toNat)
 case atStart=>exact⟨0,by omega,rfl,fun j hj=>by omega,Below.refl _ _⟩
 case round =>
  obtain⟨k,hk,rfl,hno,hb⟩:=hrel
  have iV:=ai hno
  have HB:=ai hb
  clear hno
  by_cases hlt:k<l.length
  · have Ba:(k:Int)<(l.length:Int):=by omega
    obtain⟨eb,eo,hao,hbl,bM⟩:=HH.o (by omega)
    subst hao
    have y0:=(hb.cell (p:=(Ad eb (eo+k*2+0))) hbl).trans (bM k hlt 0 (by omega))
    have y1:=(hb.cell (p:=(Ad eb (eo+k*2+1))) hbl).trans (bM k hlt 1 (by omega))
    rw[Nat.add_zero] at y0
    have j6:=ai (GR (KM.bG l k) wr)
    obtain⟨G,hG⟩:=ex (KM.n9 (KM.bG l k))
    rw[<- hG] at j6
    have HG:=ai hG
    obtain⟨E,hE⟩:=ex (KM.bG l k)
    have x0:wr.cell? (Ad eb (eo+k*2))=some (.string E.data):=by rw[hE];exact y0
    have x1:wr.cell? (Ad eb (eo+k*2+1))=some (I E.refs):=by rw[hE];exact y1
    rw[<- hE] at j6
    clear hG hE hb y0 y1 bM
    cases G with
    | true =>
     go_wp2_with (go_at_call 204;refine j6.o.mono ?_;rintro e w1 ⟨rfl,hb1⟩;have bI:=ai (HB.o.trans (hb1.mono HB.o.size));clear hb1)
     go_ret
     exact⟨bI.o,.inr ⟨k,hlt,rfl,HG.o.symm,iV.o⟩⟩
    | false =>
     go_wp2_with (go_at_call 204;refine j6.o.mono ?_;rintro e w1 ⟨rfl,hb1⟩;have bI:=ai (HB.o.trans (hb1.mono HB.o.size));clear hb1)
     go_roundw
     case rel=>exact⟨k+1,by omega,by go_num,fun j hj=>by
      by_cases q:j=k
      · subst q;exact HG.o.symm
      · exact iV.o j (by omega),bI.o⟩
     case measure=>simp[intOf];omega
  · obtain rfl:k=l.length:=by omega
    clear hb
    go_wp2
    go_ret
    exact⟨HB.o,.inl ⟨rfl,iV.o⟩⟩
theorem NU (l:List KM.Fr) (ao:Option Addr) (cap:Nat) (w:World) (h:aZ bE 4 KM.kY w ao l) (hl:l.length<=1000000) :
  Calls Tryz.prog 187 #[.slice ao l.length cap,.func (.func 168) #[] #[]] w fun e w' =>
   Below w.heap.size w w'/\((e=.returned (I (-1))/\∀j,j<l.length->KM.tV (KM.aI l j)=false)∨∃i:Nat,i<l.length/\e=.returned (I (i:Int))/\KM.tV (KM.aI l i)=true/\∀j,j<i->KM.tV (KM.aI l j)=false):=by
 have HH:=ai h
 clear h
 go_enter Tryz.func187,Tryz.ntmps187
 go_wp2
 go_loopw [8] (fun iv wr=>∃k:Nat,k<=l.length/\iv=I (k:Int)/\(∀j,j<k->KM.tV (KM.aI l j)=false)/\Below w.heap.size w wr) (fun iv _=>l.length-(intOf iv).toNat)
 case atStart=>exact⟨0,by omega,rfl,fun j hj=>by omega,Below.refl _ _⟩
 case round =>
  obtain⟨k,hk,rfl,hno,hb⟩:=hrel
  have iV:=ai hno
  have HB:=ai hb
  clear hno
  by_cases hlt:k<l.length
  · have Ba:(k:Int)<(l.length:Int):=by omega
    obtain⟨eb,eo,hao,hbl,bM⟩:=HH.o (by omega)
    subst hao
    have y0:=(hb.cell (p:=(Ad eb (eo+k*4+0))) hbl).trans (bM k hlt 0 (by omega))
    have y1:=(hb.cell (p:=(Ad eb (eo+k*4+1))) hbl).trans (bM k hlt 1 (by omega))
    have y2:=(hb.cell (p:=(Ad eb (eo+k*4+2))) hbl).trans (bM k hlt 2 (by omega))
    have y3:=(hb.cell (p:=(Ad eb (eo+k*4+3))) hbl).trans (bM k hlt 3 (by omega))
    rw[Nat.add_zero] at y0
    have j6:=ai (KW.yC (KM.aI l k) wr)
    obtain⟨G,hG⟩:=ex (KM.tV (KM.aI l k))
    rw[<- hG] at j6
    have HG:=ai hG
    obtain⟨E,hE⟩:=ex (KM.aI l k)
    have x0:wr.cell? (Ad eb (eo+k*4))=some (.string E.data):=by rw[hE];exact y0
    have x1:wr.cell? (Ad eb (eo+k*4+1))=some (I E.refs):=by rw[hE];exact y1
    have x2:wr.cell? (Ad eb (eo+k*4+2))=some (.bool E.b9):=by rw[hE];exact y2
    have x3:wr.cell? (Ad eb (eo+k*4+3))=some (.bool E.seen):=by rw[hE];exact y3
    rw[<- hE] at j6
    clear hG hE hb y0 y1 y2 y3 bM
    cases G with
    | true =>
     go_wp2_with (go_at_call 168;refine j6.o.mono ?_;rintro e w1 ⟨rfl,hb1⟩;have bI:=ai (HB.o.trans (hb1.mono HB.o.size));clear hb1)
     go_ret
     exact⟨bI.o,.inr ⟨k,hlt,rfl,HG.o.symm,iV.o⟩⟩
    | false =>
     go_wp2_with (go_at_call 168;refine j6.o.mono ?_;rintro e w1 ⟨rfl,hb1⟩;have bI:=ai (HB.o.trans (hb1.mono HB.o.size));clear hb1)
     go_roundw
     case rel=>exact⟨k+1,by omega,by go_num,fun j hj=>by
      by_cases q:j=k
      · subst q;exact HG.o.symm
      · exact iV.o j (by omega),bI.o⟩
     case measure=>simp[intOf];omega
  · obtain rfl:k=l.length:=by omega
    clear hb
    go_wp2
    go_ret
    exact⟨HB.o,.inl ⟨rfl,iV.o⟩⟩
theorem Rx {k:KM.Kn} (hR:KM.aU k) {i:Nat} (hi:i<k.slots.length) (h1:KM.n9 (KM.bG k.slots i)=true) (h2:∀j,j<i->KM.n9 (KM.bG k.slots j)=false):KM.rq k.slots=some i:=by
 unfold KM.rq
 refine List.findIdx?_eq_some_iff_getElem.2 ⟨hi,?_,fun j hj=>?_⟩
 · have:=(KM.tE _).1 h1
   unfold KM.bG at this
   rw[List.getD_eq_getElem?_getD,List.getElem?_eq_getElem hi] at this
   have this:k.slots[i]=KM.sS:=this
   rw[this]
   rfl
 · have hj':j<k.slots.length:=by omega
   have:=h2 j hj
   have hz:¬(KM.bG k.slots j).refs=0:=fun z=>by
    have h3:=(hR.slt j hj').zero ((hR.slt j hj').nil z)
    rw[(KM.tE _).2 h3] at this;cases this
   unfold KM.bG at hz
   rw[List.getD_eq_getElem?_getD,List.getElem?_eq_getElem hj'] at hz
   simpa using hz
theorem Jh {k:KM.Kn} (hR:KM.aU k) {i:Nat} (hi:i<k.frames.length) (h1:KM.tV (KM.aI k.frames i)=true) (h2:∀j,j<i->KM.tV (KM.aI k.frames j)=false):KM.vJ k.frames=some i:=by
 unfold KM.vJ
 refine List.findIdx?_eq_some_iff_getElem.2 ⟨hi,?_,fun j hj=>?_⟩
 · have:=(KM.tD _).1 h1
   unfold KM.aI at this
   rw[List.getD_eq_getElem?_getD,List.getElem?_eq_getElem hi] at this
   have this:k.frames[i]=KM.kY:=this
   rw[this]
   rfl
 · have hj':j<k.frames.length:=by omega
   have:=h2 j hj
   have hz:¬(KM.aI k.frames j).refs=0:=fun z=>by
    have h3:=(hR.nz j hj').zero ((hR.nz j hj').nil z)
    rw[(KM.tD _).2 h3] at this;cases this
   unfold KM.aI at hz
   rw[List.getD_eq_getElem?_getD,List.getElem?_eq_getElem hj'] at hz
   simpa using hz
theorem Rw {k:KM.Kn} (hR:KM.aU k) (h:∀j,j<k.frames.length->KM.tV (KM.aI k.frames j)=false):KM.vJ k.frames=none/\KM.Full k:=by
 have hF:KM.Full k:=fun j hj z=>by
  have h3:=(hR.nz j hj).zero ((hR.nz j hj).nil z)
  have:=h j hj
  rw[(KM.tD _).2 h3] at this;cases this
 refine⟨?_,hF⟩
 unfold KM.vJ
 refine List.findIdx?_eq_none_iff.2 fun x hx=>?_
 obtain⟨j,hj,rfl⟩:=KM.eZ KM.kY hx
 have:=hF j hj
 unfold KM.aI at this
 exact decide_eq_false this
end KX
end Go.Proofs.YtpgifpeohlllfaaGreat
