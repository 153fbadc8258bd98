import Derived.Test.YtkdigjpejnebkaaGreatGQ00
import Derived.Test.YtkdigjpejnebkaaGreatGQ11
import Derived.Laws.CopyOwn
import Derived.Lib.AppendZerosOnto
import Derived.Lib.Overlaps
import Derived.Test.YtkdigjpejnebkaaGreatGQ05
import Derived.Test.YtkdigjpejnebkaaGreatGQ08
set_option maxHeartbeats 20000000
set_option linter.unusedVariables false
set_option maxRecDepth 100000
set_option linter.unusedSimpArgs false
namespace Go.Proofs.YtkdigjpejnebkaaGreat
namespace GF
open Go.RowKit GK
open FW (ai aB)
theorem TE (ss:List FM.Sp) (k:Nat) (hk:k<ss.length):ss.set k (FM.ax ss k)=ss:=by
 apply List.ext_getElem?
 intro j
 rw[List.getElem?_set]
 by_cases e:k=j
 · subst e
   rw[if_pos rfl,if_pos hk]
   unfold FM.ax
   rw[List.getD_eq_getElem?_getD,List.getElem?_eq_getElem hk]
   rfl
 · rw[if_neg e]
theorem tU (ss:List FM.Sp) (k:Nat) (a b:FM.Sp):(ss.set k a).set k b=ss.set k b:=List.set_set a
theorem gW (ss:List FM.Sp) (k:Nat) (a:FM.Sp) (hk:k<ss.length):FM.ax (ss.set k a) k=a:=by rw[GM.m7 _ _ _ _ hk,if_pos rfl]
theorem Mem.YN {lo mb:Nat} {w:World} {D:Nat->Prop} {sl:Int} {v:Value} {L:List Lc} {ss:List FM.Sp} (h:Mem lo mb w D sl v L ss) (k:Nat) (hk:k<ss.length) {pb n cp:Nat} (hvp:(bw L k).vp=.slice (some (Ad pb 0)) n cp) (j:Nat) (hj:j<(FM.ax ss k).aj.length) :
  w.cell? (Ad pb (j*2+1))=some (.string (FM.aN (FM.ax ss k).aj j).data)/\w.frozen? (Ad pb (j*2+1))=false/\D pb:=by
 have kK:k<L.length:=by rw[h.len];exact hk
 have hr:=(h.each k kK).aj
 have hd:=h.d3 k kK pb (.inr (by rw[hvp];rfl))
 rw[hvp] at hr
 have hn:n=(FM.ax ss k).aj.length:=by
  obtain⟨ao,cap,e,_,_⟩:=aJ hr
  injection e
 rw[hn] at hr
 exact⟨cZ aH bl FM.yC hr j 1 hj (by omega),gi hr _,hd⟩
theorem JG {lo mb:Nat} (w:World) (D:Nat->Prop) (m:GM.Mf) (fl:List Bool) (k:Nat) (a:Int) (d:ByteArray) (h:iV lo mb w D m) (hok:GM.qy m fl) (hf:fl.getD k false=true) (ha:M.dD a) (rZ:1<=d.size) (QO:d.size<=8) :
  Calls Tryz.prog 195 #[.pointer (some (Ad mb 0)),I (k:Int),I a,.string d] w (GW.Out (iV lo mb) w D (.agg (FW.di (GM.ku m k a d).1)) (GM.ku m k a d).2):=by
 obtain⟨⟨v,L,hM⟩,hD⟩:=h
 obtain⟨hk,hlv⟩:=hok.live hf
 have hL:=GM.fX (hok.each k hk) hlv
 have h4:=hok.few.2
 have HM:=ai hM
 have HD:=ai hD
 have jd:=ai (fun V (hV:Below w.heap.size w V)=>zJ k a d.size 1 V (hM.below hV) hk (by omega) hL ha (by omega) (by omega))
 have jr:Hid (GM.ku m k a d=if (FM.bG (FM.ax m.ak k).aw a d.size 1).1=0 then ((0,0),GM.gB m k { FM.ax m.ak k with aj:=GM.fT (FM.ax m.ak k).aj a d }) else (FM.bG (FM.ax m.ak k).aw a d.size 1,m)):=rfl
 have PB:Hid (∀V,Below w.heap.size w V->∀pb cp,(bw L k).vp=.slice (some (Ad pb 0)) (FM.ax m.ak k).aj.length cp->FW.iN V (some (Ad pb 0)) (FM.ax m.ak k).aj):=fun V hV pb cp e=>by
  obtain⟨sb,cap,aa,na,ca,ap,cp',_,_,hlc,_,_,_,_,Lm,_,_,_⟩:=(hM.below hV).space k hk
  rw[hlc] at e
  injection e with e1 e2 e3
  subst e1
  exact Lm
 have HL:=ai hL
 have zw:=ai hk
 obtain⟨X,hX⟩:=ex (GM.ku m k a d)
 rw[<- hX] at jr ⊢
 obtain⟨P,hP⟩:=ex (GW.Out (iV lo mb) w D (.agg (FW.di X.1)) X.2)
 have HP:Hid (∀w',(∃D',iV lo mb w' D' X.2/\Kp D w w'/\∀b,D' b->D b∨w.heap.size<=b)->P (.returned (.agg (FW.di X.1))) w'):=fun w' ⟨D',h1,h2,h3⟩=>by rw[hP];exact⟨D',rfl,h1,h2,h3⟩
 rw[<- hP]
 obtain⟨s,hs⟩:=ex (FM.ax m.ak k)
 rw[<- hs] at jd jr PB HL
 have Lu:=ai hs
 obtain⟨vp,hvp⟩:=ex ((bw L k).vp)
 rw[<- hvp] at jd PB
 have HVV:=ai hvp
 obtain⟨f,S8⟩:=ex (FM.bG s.aw a d.size 1)
 rw[<- S8] at jd jr
 obtain⟨f1,f2⟩:=f
 have cP:=ai ((Below.refl w.heap.size w).alloc (Nat.le_refl _) (.cells #[I 0,I 0] 68))
 have BY:=ai (B.new w #[I 0,I 0] 68)
 have jc:k<9223372036854775807:=by omega
 clear hM hD hok hf hL hlv hP hX hs hvp S8 hk
 unfold yl FW.di at jd
 simp only at jd jr
 by_cases y9:f1=0
 · subst y9
   have HX:Hid (X=((0,0),GM.gB m k { s with aj:=GM.fT s.aj a d })):=by rw[jr.o,if_pos rfl];exact rfl
   clear jr
   have mg:Hid (∀V,Below w.heap.size w V->Calls Tryz.prog 197 #[.pointer (some (Ad mb 0)),I (k:Int),I a,I (d.size:Int),I 1] V fun e w'=>∃i pb cp,Below V.heap.size V w'/\GM.Reach s.aj a d.size i/\vp=.slice (some (Ad pb 0)) s.aj.length cp/\e=.returned (.tuple #[.slice (some (Ad pb (i*2))) (GM.cW a d.size-a/16+1).toNat (cp-i),.agg #[I 0,I 0]])):=fun V hV=>(jd.o V hV).mono fun e w' ⟨hb,hh⟩=>by
    rcases hh with⟨g,_⟩ | ⟨_,i,pb,cp,h1,h2,h3⟩
    · exact(g rfl).elim
    · exact⟨i,pb,cp,hb,h1,h2,h3⟩
   have HJ:Hid (∀V,Below w.heap.size w V->∀i pb cp c,GM.Reach s.aj a d.size i->vp=.slice (some (Ad pb 0)) s.aj.length cp->Calls Tryz.prog 198 #[.slice (some (Ad pb (i*2))) (GM.cW a d.size-a/16+1).toNat c] V fun e w'=>e=.returned (.string (GM.eH s.aj a d.size))/\Below V.heap.size V w'):=fun V hV i pb cp c hr hv=>by
    have hle:=wR hr
    have:=FW.Dn (win s.aj i (GM.cW a d.size-a/16+1).toNat) (some (Ad pb (i*2))) c V (H7 (PB.o V hV pb cp hv) hle) (CG HL.o hle) (by rw[nH hle];rcases iP hr with⟨g,_⟩ | ⟨g,_⟩ <;> omega)
    rw[nH hle,H8 HL.o hr] at this
    exact this
   have Wm:Hid (∀V i,GM.Reach s.aj a d.size i->Calls Tryz.prog 68 #[.string (GM.eH s.aj a d.size),I (a%16),.string d] V fun e w'=>e=.returned (.tuple #[.string (CL.over (GM.eH s.aj a d.size) (a%16).toNat d),I 0])/\Below V.heap.size V w'):=fun V i hr=>by
    have h1:=hr.low
    have hsz:=GM.lu HL.o hr
    have:=CW.Bh (GM.eH s.aj a d.size) d (a%16).toNat V (by rcases hsz with⟨g,_⟩ | ⟨g,_⟩ <;> omega) (by rcases hsz with⟨g,g2⟩ | ⟨g,g2⟩ <;> (unfold GM.cW at g2;omega))
    rw[show(((a%16).toNat:Nat):Int)=a%16 by omega] at this
    exact this
   have R6:Hid (∀V i,GM.Reach s.aj a d.size i->∀t:Nat,t<(GM.cW a d.size-a/16+1).toNat->Calls Tryz.prog 142 #[.string (CL.over (GM.eH s.aj a d.size) (a%16).toNat d),I ((t:Int)*16),I 16] V fun e w'=>e=.returned (.tuple #[.string ((CL.over (GM.eH s.aj a d.size) (a%16).toNat d).extract (t*16) (t*16+16)),I 0])/\Below V.heap.size V w'):=fun V i hr t ht=>by
    have h1:=hr.low
    have hsz:=GM.lu HL.o hr
    have hov:(CL.over (GM.eH s.aj a d.size) (a%16).toNat d).size=(GM.eH s.aj a d.size).size:=CL.jz _ _ _ (by rcases hsz with⟨g,g2⟩ | ⟨g,g2⟩ <;> (unfold GM.cW at g2;omega))
    have:=CW.wX (CL.over (GM.eH s.aj a d.size) (a%16).toNat d) (t*16) 16 V (by rw[hov];rcases hsz with⟨g,_⟩ | ⟨g,_⟩ <;> omega) (by rw[hov];rcases hsz with⟨g,g2⟩ | ⟨g,g2⟩ <;> omega)
    rw[show((t*16:Nat):Int)=(t:Int)*16 by omega] at this
    exact this
   have Vq:=ai (fun i (hr:GM.Reach s.aj a d.size i)=>hr.low)
   have Hj:=ai (fun i (hr:GM.Reach s.aj a d.size i)=>JW HL.o hr)
   have KZ:=ai (fun i (hr:GM.Reach s.aj a d.size i)=>wR hr)
   have ZE:=ai (fun i (hr:GM.Reach s.aj a d.size i)=>iP hr)
   obtain⟨DT,hDT⟩:=ex (CL.over (GM.eH s.aj a d.size) (a%16).toNat d)
   rw[<- hDT] at Wm R6 Hj
   obtain⟨MM,YE⟩:=ex ((GM.cW a d.size-a/16+1).toNat)
   rw[<- YE] at mg HJ R6 Hj KZ ZE
   obtain⟨J,hJ⟩:=ex (GM.eH s.aj a d.size)
   rw[<- hJ] at HJ Wm
   clear jd YE hJ hDT
   go_enter Tryz.func195,Tryz.ntmps195
   go_wp2_with (first
    | (go_at_call 197;refine(mg.o _ cP.o).mono ?_;rintro e w1 ⟨i,pb,cp,hb1,hre,hvp,rfl⟩;have KY:=ai hre;have U8:=ai hvp;have bh:=ai (cP.o.trans (hb1.mono cP.o.size));have tP:=ai (B.below BY.o hb1 (B.isLt BY.o));have Bu:=Vq.o i hre;have bY:=ai (bh.o.alloc bh.o.size (.cells #[I 0,I 0] 68));have EU:=ai (B.alloc tP.o (.cells #[I 0,I 0] 68));clear hb1 hre hvp)
    | (go_at_call 198;refine(HJ.o _ bY.o i pb cp _ KY.o U8.o).mono ?_;rintro e w3 ⟨rfl,hb3⟩;have fK:=ai (bY.o.trans (hb3.mono bY.o.size));have PN:=ai (B.below EU.o hb3 (B.isLt EU.o));clear hb3)
    | (go_at_call 68;refine(Wm.o _ i KY.o).mono ?_;rintro e w4 ⟨rfl,hb4⟩;have lZ:=ai (fK.o.trans (hb4.mono fK.o.size));have Wt:=ai (B.below PN.o hb4 (B.isLt PN.o));clear hb4))
   have UE:MM<=2:=by rcases ZE.o i KY.o with⟨g,_⟩ | ⟨g,_⟩ <;> omega
   have ahz:=KZ.o i KY.o
   have HEQ:=ai (Hj.o i KY.o)
   have HVK:Hid ((bw L k).vp=.slice (some (Ad pb 0)) s.aj.length cp):=by rw[<- HVV.o];exact U8.o
   go_loopw [38] (fun iv wr=>∃t:Nat,t<=MM/\iv=I (t:Int)/\Mem lo mb wr D m.slots v L (m.ak.set k { s with aj:=iQ s.aj i DT t })/\Kp D w wr/\wr.heap[w.heap.size]?=some (.cells #[I 0,I 0] 68 (0,0))) (fun iv _=>MM-(intOf iv).toNat)
   case atStart =>
    refine⟨0,by omega,rfl,?_,Kp.aF lZ.o,Wt.o⟩
    have e:m.ak.set k { s with aj:=iQ s.aj i DT 0 }=m.ak:=by
     show m.ak.set k s=m.ak
     rw[Lu.o]
     exact TE _ _ zw.o
    rw[e]
    exact HM.o.below lZ.o
   case round =>
    obtain⟨t,ht,rfl,hm,iB,hy⟩:=hrel
    have HMr:=ai hm
    have HKr:=ai iB
    have HYr:=ai hy
    by_cases hlt:t<MM
    · have hkl:k<(m.ak.set k { s with aj:=iQ s.aj i DT t }).length:=by rw[List.length_set];exact zw.o
      have hsp:=gW m.ak k { s with aj:=iQ s.aj i DT t } zw.o
      have hcd:=hm.YN k hkl HVK.o (i+t) (by rw[hsp];show i+t<(iQ s.aj i DT t).length;rw[pW];omega)
      rw[Nat.add_mul] at hcd
      obtain⟨q0,q1,q2⟩:=hcd
      have OH:=ai q2
      have R5:Hid (pb<wr.heap.size):=World.block_lt_of_cell? wr _ q0
      have l7:Hid (∀V,Below wr.heap.size wr V->Mem lo mb (V.setCell (Ad pb ((i+t)*2+1)) (.string (DT.extract (t*16) (t*16+16)))) D m.slots v L (m.ak.set k { s with aj:=iQ s.aj i DT (t+1) })):=fun V hV=>by
       have:=(hm.below hV).data k hkl HVK.o (i+t) (by rw[hsp];show i+t<(iQ s.aj i DT t).length;rw[pW];omega) (DT.extract (t*16) (t*16+16))
       rw[hsp,tU] at this
       have e:(iQ s.aj i DT t).set (i+t) ⟨(FM.aN (iQ s.aj i DT t) (i+t)).page,DT.extract (t*16) (t*16+16)⟩=iQ s.aj i DT (t+1):=by
        rw[wT];rfl
       rw[show(FM.Sp.aj { s with aj:=iQ s.aj i DT t })=iQ s.aj i DT t from rfl,e] at this
       exact this
      rw[Nat.add_mul] at l7
      have Vg:=ai (fun V=>R6.o V i KY.o t hlt)
      obtain⟨od,XK⟩:=ex ((FM.aN (FM.ax (m.ak.set k { s with aj:=iQ s.aj i DT t }) k).aj (i+t)).data)
      rw[<- XK] at q0
      have hti:(t:Int)<(MM:Int):=by omega
      clear hm iB hy XK hsp hkl q2
      go_wp2_with (go_at_call 142;refine(Vg.o _).mono ?_;rintro e w5 ⟨rfl,kV⟩;have gK:=ai kV;have r0:w5.cell? (Ad pb (i*2+t*2+1))=some (.string od):=(kV.cell (p:=(Ad pb (i*2+t*2+1))) R5.o).trans q0;have r1:w5.frozen? (Ad pb (i*2+t*2+1))=false:=(kV.frozen (p:=(Ad pb (i*2+t*2+1))) R5.o).trans q1;clear kV)
      go_roundw
      case rel =>
       refine⟨t+1,by omega,by go_num,l7.o _ gK.o,(HKr.o.trans (Kp.aF gK.o) (fun _ _ g=>g)).trans (Kp.set D _ (Ad pb (i*2+t*2+1)) _ OH.o) (fun _ _ g=>g),?_⟩
       exact B.other (B.below HYr.o gK.o (B.isLt HYr.o)) _ _ _ (fun e=>by have:=HD.o _ OH.o;omega)
      case measure=>simp[intOf];omega
    · obtain rfl:t=MM:=by omega
      have y0:=B.cell (v:=I 0) hy 0 rfl
      have y1:=B.cell (v:=I 0) hy 1 rfl
      have y2:=B.free hy 0
      have y3:=B.free hy 1
      clear hm iB hy
      go_wp2
      refine bodyPost_ret (v:=.agg #[I 0,I 0]) (by simp[results,Tryz.results195,go_sem,y0,y1]) rfl ?_
      have hfin:=HP.o ((wr.setCell (Ad w.heap.size 0) (I 0)).setCell (Ad w.heap.size 1) (I 0)) (by
       have hs2:Kp (fun b=>b=w.heap.size) wr ((wr.setCell (Ad w.heap.size 0) (I 0)).setCell (Ad w.heap.size 1) (I 0)):=(Kp.set (fun b=>b=w.heap.size) wr (Ad w.heap.size 0) _ rfl).trans (Kp.set (fun b=>b=w.heap.size) _ (Ad w.heap.size 1) _ rfl) (fun _ _ g=>g)
       refine⟨D,?_,HKr.o.trans hs2 (fun b hb e=>by omega),fun b hb=>.inl hb⟩
       rw[HX.o]
       refine⟨⟨v,L,?_⟩,fun b hb=>⟨(HD.o b hb).1,Nat.lt_of_lt_of_le (HD.o b hb).2 (Nat.le_trans HKr.o.size hs2.size)⟩⟩
       have:=HMr.o.kp hs2 (fun b hb e=>by have:=HD.o b hb;omega)
       rw[HEQ.o] at this
       exact this)
      rw[HX.o] at hfin
      exact hfin
 · have HX:Hid (X=((f1,f2),m)):=by rw[jr.o,if_neg y9];exact rfl
   have hfi:(f1==0)=false:=by rw[beq_eq_false_iff_ne];exact y9
   have mg:Hid (∀V,Below w.heap.size w V->Calls Tryz.prog 197 #[.pointer (some (Ad mb 0)),I (k:Int),I a,I (d.size:Int),I 1] V fun e w'=>Below V.heap.size V w'/\e=.returned (.tuple #[Nl,.agg #[I f1,I f2]])):=fun V hV=>(jd.o V hV).mono fun e w' ⟨hb,hh⟩=>by
    rcases hh with⟨_,g⟩ | ⟨g,_⟩
    · exact⟨hb,g⟩
    · exact(y9 g).elim
   clear jr jd y9
   go_enter Tryz.func195,Tryz.ntmps195
   go_wp2_with (go_at_call 197;refine(mg.o _ cP.o).mono ?_;rintro e w1 ⟨hb1,rfl⟩;have bh:=ai (cP.o.trans (hb1.mono cP.o.size));have tP:=ai (B.below BY.o hb1 (B.isLt BY.o));have y0:∀ob,(w1.alloc ob).cell? (Ad w.heap.size 0)=some (I 0):=(fun ob=>B.cell (B.alloc tP.o ob) 0 rfl);have y1:∀ob,(w1.alloc ob).cell? (Ad w.heap.size 1)=some (I 0):=(fun ob=>B.cell (B.alloc tP.o ob) 1 rfl);have y2:∀ob,(w1.alloc ob).frozen? (Ad w.heap.size 0)=false:=(fun ob=>B.free (B.alloc tP.o ob) 0);have y3:∀ob,(w1.alloc ob).frozen? (Ad w.heap.size 1)=false:=(fun ob=>B.free (B.alloc tP.o ob) 1);clear hb1)
   refine bodyPost_ret (v:=.agg #[I f1,I f2]) (by simp[results,Tryz.results195,go_sem,y0,y1]) rfl ?_
   have ze:=(((bh.o.alloc bh.o.size (.cells #[I f1,I f2] 68)).setCell (p:=(Ad w.heap.size 0)) (Nat.le_refl _) (I f1)).setCell (p:=(Ad w.heap.size 1)) (Nat.le_refl _) (I f2))
   have hfin:=HP.o _ (by
    refine⟨D,?_,Kp.aF ze,fun b hb=>.inl hb⟩
    rw[HX.o]
    exact iV.below ⟨⟨v,L,HM.o⟩,HD.o⟩ ze)
   rw[HX.o] at hfin
   exact hfin
theorem sQ (L:List Lc) (k j:Nat) (l:Lc) (hk:k<L.length):bw (L.set k l) j=if j=k then l else bw L j:=by
 unfold bw
 rw[List.getD_eq_getElem?_getD,List.getD_eq_getElem?_getD,List.getElem?_set]
 by_cases h:j=k
 · rw[if_pos h,if_pos h.symm]
   subst h
   rw[if_pos hk];rfl
 · rw[if_neg h,if_neg (fun g=>h g.symm)]
theorem Mem.turn {lo mb:Nat} {w w2:World} {D D':Nat->Prop} {sl:Int} {v:Value} {L:List Lc} {ss:List FM.Sp} (h:Mem lo mb w D sl v L ss) {k:Nat} (hk:k<L.length) {l:Lc} {s:FM.Sp}
  (iB:Kp (fun b=>blk v b∨blk (bw L k).vp b) w w2) (hrow:w2.ownsRow lo 53 3 v L.length ((L.set k l).flatMap bH)) (hs:eO lo w2 l s)
  (sV:∀b,blk l.va b->blk (bw L k).va b∨w.heap.size<=b) (hvp:∀b,blk l.vp b->blk (bw L k).vp b∨w.heap.size<=b) (hne:∀b,blk l.vp b->¬blk l.va b) (hd:∀b,D b->D' b) (hd2:∀b,w.heap.size<=b->b<w2.heap.size->D' b) :
  Mem lo mb w2 D' sl v (L.set k l) (ss.set k s):=by
 have hmb:=B.isLt h.head
 have hlen:=h.len
 have hL:(L.set k l).length=L.length:=List.length_set
 have new:∀b,(blk l.va b->blk (bw L k).va b∨w.heap.size<=b):=sV
 have at_:∀j,bw (L.set k l) j=if j=k then l else bw L j:=fun j=>sQ L k j l hk
 refine⟨by rw[hL,List.length_set];exact hlen,iB.keep h.head (fun e=>by rcases e with e | e;exact h.n1 e;exact(h.n2 k hk).2 e),by rw[hL];exact hrow,fun j hj=>?_,h.base,h.n1,fun j hj=>?_,fun j hj b hb=>?_,fun i j hi hj b hb=>?_,hd _ h.d1,fun b hb=>hd _ (h.d2 b hb),fun j hj b hb=>?_⟩
 · rw[hL] at hj
   rw[at_,GM.m7 _ _ _ _ (by omega)]
   by_cases c:j=k
   · rw[if_pos c,if_pos c];exact hs
   · rw[if_neg c,if_neg c]
     refine(h.each j hj).kp iB (fun b hb e=>?_) (fun b hb e=>?_)
     · rcases e with e | e
       · exact(h.n3 j hj b e).1 hb
       · exact(h.n4 k j hk hj b e).1 hb
     · rcases e with e | e
       · exact(h.n3 j hj b e).2 hb
       · exact(h.n4 k j hk hj b e).2 (fun g=>c g.symm) hb
 · rw[hL] at hj
   rw[at_]
   by_cases c:j=k
   · rw[if_pos c]
     exact⟨fun g=>by rcases sV _ g with e | e;exact(h.n2 k hk).1 e;omega,fun g=>by rcases hvp _ g with e | e;exact(h.n2 k hk).2 e;omega⟩
   · rw[if_neg c];exact h.n2 j hj
 · rw[hL] at hj
   rw[at_]
   by_cases c:j=k
   · rw[if_pos c]
     have:=(h.row.lt b hb).2
     exact⟨fun g=>by rcases sV _ g with e | e;exact(h.n3 k hk b hb).1 e;omega,fun g=>by rcases hvp _ g with e | e;exact(h.n3 k hk b hb).2 e;omega⟩
   · rw[if_neg c];exact h.n3 j hj b hb
 · rw[hL] at hi hj
   rw[at_] at hb ⊢
   by_cases ci:i=k
   · rw[if_pos ci] at hb
     by_cases cj:j=k
     · rw[if_pos cj]
       exact⟨hne b hb,fun g=>(g (by omega)).elim⟩
     · rw[if_neg cj]
       rcases hvp b hb with e | e
       · exact⟨(h.n4 k j hk hj b e).1,fun _=>(h.n4 k j hk hj b e).2 (fun g=>cj g.symm)⟩
       · exact⟨fun g=>by have:=h.lt j hj b (.inl g);omega,fun _ g=>by have:=h.lt j hj b (.inr g);omega⟩
   · rw[if_neg ci] at hb
     have hlt:=h.lt i hi b (.inr hb)
     by_cases cj:j=k
     · rw[if_pos cj]
       refine⟨fun g=>?_,fun _ g=>?_⟩
       · rcases sV b g with e | e
         · exact(h.n4 i k hi hk b hb).1 e
         · omega
       · rcases hvp b g with e | e
         · exact(h.n4 i k hi hk b hb).2 ci e
         · omega
     · rw[if_neg cj];exact h.n4 i j hi hj b hb
 · rw[hL] at hj
   rw[at_] at hb
   by_cases c:j=k
   · rw[if_pos c] at hb
     rcases hb with g | g
     · rcases sV b g with e | e
       · exact hd _ (h.d3 k hk b (.inl e))
       · exact hd2 b e (hs.aw.lt b g).2
     · rcases hvp b g with e | e
       · exact hd _ (h.d3 k hk b (.inr e))
       · exact hd2 b e (hs.aj.lt b g).2
   · rw[if_neg c] at hb
     exact hd _ (h.d3 j hj b hb)
theorem dg (L:List Lc) (k:Nat) (hk:k<L.length) (a b:Lc) (j:Nat) (hj:j<3) (x:Value) (e:bH b=(bH a).set j x):(L.set k b).flatMap bH=((L.set k a).flatMap bH).set (k*3+j) x:=by
 have:=gX bH 3 dw vV b j x hj (L.set k a) k (by rw[List.length_set];exact hk) (by
  rw[e,List.getD_eq_getElem?_getD,List.getElem?_set_self hk];rfl)
 rw[List.set_set] at this
 exact this
theorem nu (L:List Lc) (k:Nat) (hk:k<L.length):L.set k (bw L k)=L:=by
 apply List.ext_getElem?
 intro j
 rw[List.getElem?_set]
 by_cases e:k=j
 · subst e
   rw[if_pos rfl,if_pos hk]
   unfold bw
   rw[List.getD_eq_getElem?_getD,List.getElem?_eq_getElem hk]
   rfl
 · rw[if_neg e]
theorem Mem.TG {lo mb:Nat} {w w1:World} {D D':Nat->Prop} {sl:Int} {sb n cap:Nat} {L:List Lc} {ss:List FM.Sp} (h:Mem lo mb w D sl (.slice (some (Ad sb 0)) n cap) L ss) {k:Nat} (hk:k<L.length) {va:Value} {l:List AM.Ar}
  (hb:Below w.heap.size w w1) (ho:AW.Own lo w1 va l) (sV:∀b,blk va b->w.heap.size<=b) (hd:∀b,D b->D' b) (hd2:∀b,w.heap.size<=b->b<w1.heap.size->D' b) :
  Mem lo mb (w1.setCell (Ad sb (k*3+1)) va) D' sl (.slice (some (Ad sb 0)) n cap) (L.set k { bw L k with va:=va }) (ss.set k { FM.ax ss k with aw:=l })/\Kp (fun b=>b=sb) w (w1.setCell (Ad sb (k*3+1)) va):=by
 have hbs:blk (.slice (some (Ad sb 0)) n cap) sb:=rfl
 have QQ:Kp (fun b=>b=sb) w1 (w1.setCell (Ad sb (k*3+1)) va):=Kp.set _ _ _ _ rfl
 have iB:Kp (fun b=>b=sb) w (w1.setCell (Ad sb (k*3+1)) va):=(Kp.aF hb).trans QQ (fun _ _ g=>g)
 have Uv:n=L.length:=by
  obtain⟨ao,c,e,_,_⟩:=aJ h.row
  injection e
 have hsz:(w1.setCell (Ad sb (k*3+1)) va).heap.size=w1.heap.size:=by simp
 refine⟨h.turn hk (iB.mono (fun b _ e=>.inl (e ▸ hbs))) ?_ ?_ (fun b g=>.inr (sV b g)) (fun b g=>.inl g) (fun b g1 g2=>?_) hd (fun b g1 g2=>hd2 b g1 (by rw[hsz] at g2;exact g2)),iB⟩
 · have hr:=(h.below hb).row
   rw[<- Uv] at hr
   rw[<- nu L k hk] at hr
   have:=bZ hr (k*3+1) va
   rw[<- dg L k hk (bw L k) { bw L k with va:=va } 1 (by omega) va rfl] at this
   rw[<- Uv]
   exact this
 · have hsp:=(h.below hb).each k hk
   refine⟨hsp.live,QQ.row ho (fun b hb' e=>?_),QQ.row hsp.aj (fun b hb' e=>?_)⟩
   · have h1:=sV b hb'
     have h2:=(h.row.lt sb hbs).2
     omega
   · exact(h.n3 k hk sb hbs).2 (e ▸ hb')
 · have h1:=sV b g2
   have h2:=(h.lt k hk b (.inr g1)).2
   omega
theorem NK {lo mb:Nat} (w:World) (D:Nat->Prop) (m:GM.Mf) (fl:List Bool) (k:Nat) (h:iV lo mb w D m) (hok:GM.qy m fl) (hf:fl.getD k false=true) :
  Calls Tryz.prog 190 #[.pointer (some (Ad mb 0)),I (k:Int)] w (GW.Out (iV lo mb) w D (.tuple #[]) (GM.DW m k)):=by
 obtain⟨⟨v,L,hM⟩,hD⟩:=h
 obtain⟨hk,hlv⟩:=hok.live hf
 have h4:=hok.few.2
 obtain⟨sb,cap,aa,na,ca,ap,cp,hv,jQ,hlc,c0,c1,c2,_,_,_,hfz,_⟩:=hM.space k hk
 subst hv
 have HM:=ai hM
 have HD:=ai hD
 have m1:w.cell? (Ad mb 1)=some (.slice (some (Ad sb 0)) m.ak.length cap):=B.cell hM.head 1 rfl
 have jc:(k:Int)<(m.ak.length:Int):=by omega
 have f0:=hfz (k*3)
 have f1:=hfz (k*3+1)
 have f2:=hfz (k*3+2)
 have dx:Hid (GW.Out (iV lo mb) w D (.tuple #[]) (GM.DW m k) (.returned (.tuple #[])) (((w.setCell (Ad sb (k*3)) (.bool false)).setCell (Ad sb (k*3+1)) Nl).setCell (Ad sb (k*3+2)) Nl)):=by
  have kK:k<L.length:=by rw[hM.len];exact hk
  have hbs:blk (.slice (some (Ad sb 0)) m.ak.length cap) sb:=rfl
  have iB:Kp (fun b=>b=sb) w (((w.setCell (Ad sb (k*3)) (.bool false)).setCell (Ad sb (k*3+1)) Nl).setCell (Ad sb (k*3+2)) Nl):=sS w sb _ _ _ _ _ _ rfl
  refine⟨D,rfl,⟨⟨_,L.set k vV,hM.turn kK (l:=vV) (s:=FM.E6) (iB.mono (fun b _ e=>.inl (e ▸ hbs))) ?_ ⟨rfl,AW.Own.nil _ _,World.ownsRow_nil _ _ _ _⟩ (fun b g=>by cases g) (fun b g=>by cases g) (fun b g=>by cases g) (fun b g=>g) (fun b g1 g2=>?_)⟩,fun b hb=>⟨(hD b hb).1,Nat.lt_of_lt_of_le (hD b hb).2 iB.size⟩⟩,iB.mono (fun b _ e=>hM.d2 b (e ▸ hbs)),fun b hb=>.inl hb⟩
  · have Uv:m.ak.length=L.length:=hM.len.symm
    have hr:=hM.row
    rw[<- Uv] at hr ⊢
    rw[<- nu L k kK] at hr
    have r0:=bZ hr (k*3+0) (.bool false)
    rw[<- dg L k kK (bw L k) ⟨false,(bw L k).va,(bw L k).vp⟩ 0 (by omega) (.bool false) rfl] at r0
    have r1:=bZ r0 (k*3+1) Nl
    rw[<- dg L k kK ⟨false,(bw L k).va,(bw L k).vp⟩ ⟨false,Nl,(bw L k).vp⟩ 1 (by omega) Nl rfl] at r1
    have r2:=bZ r1 (k*3+2) Nl
    rw[<- dg L k kK ⟨false,Nl,(bw L k).vp⟩ vV 2 (by omega) Nl rfl] at r2
    exact r2
  · simp at g2;omega
 obtain⟨P,hP⟩:=ex (GW.Out (iV lo mb) w D (.tuple #[]) (GM.DW m k))
 rw[<- hP] at dx ⊢
 obtain⟨ns,hns⟩:=ex m.ak.length
 rw[<- hns] at m1 jc hk h4
 obtain⟨lv,yY⟩:=ex ((FM.ax m.ak k).live)
 obtain⟨np,fE⟩:=ex ((FM.ax m.ak k).aj.length)
 rw[<- yY] at c0
 rw[<- fE] at c2
 clear hM hD hok hf hlv hP hns yY fE hlc hfz
 go_enter Tryz.func190,Tryz.ntmps190
 go_wp2
 go_end0
 exact dx.o
theorem C7 {lo mb:Nat} (w:World) (D:Nat->Prop) (m:GM.Mf) (fl:List Bool) (k:Nat) (p n q:Int) (h:iV lo mb w D m) (hok:GM.qy m fl) (hf:fl.getD k false=true) (hp:M.dD p) (hn:M.dD n) :
  Calls Tryz.prog 194 #[.pointer (some (Ad mb 0)),I (k:Int),I p,I n,I q] w (GW.Out (iV lo mb) w D (I (GM.ez m k p n q).1) (GM.ez m k p n q).2):=by
 obtain⟨⟨v,L,hM⟩,hD⟩:=h
 obtain⟨hk,hlv⟩:=hok.live hf
 have hL:=GM.fX (hok.each k hk) hlv
 have h4:=hok.few.2
 obtain⟨sb,cap,aa,na,ca,ap,cp,hv,jQ,hlc,c0,c1,c2,Gs,_,_,hfz,_⟩:=hM.space k hk
 subst hv
 have hfit:=AM.eJ _ hL.check
 have Cm:=ai (AW.C5 (FM.ax m.ak k).aw (.slice aa na ca) p n q w Gs hfit hp hn)
 have m1:w.cell? (Ad mb 1)=some (.slice (some (Ad sb 0)) m.ak.length cap):=B.cell hM.head 1 rfl
 have hmb:=B.isLt hM.head
 have jc:(k:Int)<(m.ak.length:Int):=by omega
 have jr:Hid (GM.ez m k p n q=if ¬(AW.bg (FM.ax m.ak k).aw p n q).2=0 then ((AW.bg (FM.ax m.ak k).aw p n q).2,m) else (0,GM.gB m k { FM.ax m.ak k with aw:=(AW.bg (FM.ax m.ak k).aw p n q).1 })):=rfl
 obtain⟨X,hX⟩:=ex (AW.bg (FM.ax m.ak k).aw p n q)
 rw[<- hX] at Cm jr
 have HM:=ai hM
 have HD:=ai hD
 have yz:=ai hfz
 have zw:=ai hk
 obtain⟨R,hR⟩:=ex (GM.ez m k p n q)
 rw[<- hR] at jr ⊢
 obtain⟨P,hP⟩:=ex (GW.Out (iV lo mb) w D (I R.1) R.2)
 have HP:Hid (∀w',(∃D',iV lo mb w' D' R.2/\Kp D w w'/\∀b,D' b->D b∨w.heap.size<=b)->P (.returned (I R.1)) w'):=fun w' ⟨D',h1,h2,h3⟩=>by rw[hP];exact⟨D',rfl,h1,h2,h3⟩
 rw[<- hP]
 obtain⟨X1,X2⟩:=X
 simp only at Cm jr
 obtain⟨ns,hns⟩:=ex m.ak.length
 rw[<- hns] at m1 jc hk h4
 have qQ:=ai hns
 clear hM hD hok hf hlv hX hR hP hL Gs hfit hlc hfz hns c0 c2
 by_cases IG:X2=0
 · subst IG
   have HR:Hid (R=(0,GM.gB m k { FM.ax m.ak k with aw:=X1 })):=by rw[jr.o,if_neg (fun g=>g rfl)];exact rfl
   clear jr
   go_enter Tryz.func194,Tryz.ntmps194
   go_wp2_with (go_at_call 201;refine Cm.o.mono ?_;rintro e w1 ⟨r,rfl,hr,hb⟩;obtain⟨ra,rc,hre,_,_⟩:=aJ (show w1.ownsRow w.heap.size 59 4 r _ _ from hr);subst hre;have Je:=ai hr;have bh:=ai hb;have x1:w1.cell? (Ad mb 1)=some (.slice (some (Ad sb 0)) ns cap):=(hb.cell (p:=(Ad mb 1)) hmb).trans m1;have x2:w1.cell? (Ad sb (k*3+1))=some (.slice aa na ca):=(hb.cell (p:=(Ad sb (k*3+1))) jQ).trans c1;have x3:w1.frozen? (Ad sb (k*3+1))=false:=(hb.frozen (p:=(Ad sb (k*3+1))) jQ).trans (yz.o _);clear hr hb)
   have kK:k<L.length:=by rw[HM.o.len];exact zw.o
   have hlo:=HM.o.base
   obtain⟨hA,hK⟩:=HM.o.TG (D':=fun b=>D b∨(w.heap.size<=b/\b<w1.heap.size)) kK bh.o (AW.Own.mono Je.o (by omega)) (fun b hb=>(World.ownsRow.lt (show w1.ownsRow w.heap.size _ 4 _ _ _ from Je.o) b hb).1) (fun b hb=>.inl hb) (fun b g1 g2=>.inr ⟨g1,g2⟩)
   have:=HP.o _ ⟨_,by rw[HR.o];exact⟨⟨_,_,hA⟩,fun b hb=>by
    have hs:=bh.o.size
    have hz:(w1.setCell (Ad sb (k*3+1)) (.slice ra X1.length rc)).heap.size=w1.heap.size:=by simp
    rw[hz]
    rcases hb with g | g
    · have:=HD.o b g;omega
    · omega⟩,hK.mono (fun b _ e=>HM.o.d2 b (by rw[e];rfl)),fun b hb=>by
    rcases hb with g | g
    · exact .inl g
    · exact .inr g.1⟩
   rw[HR.o] at this
   exact this
 · have HR:Hid (R=(X2,m)):=by rw[jr.o,if_pos IG];exact rfl
   have Z6:(X2==0)=false:=by rw[beq_eq_false_iff_ne];exact IG
   clear jr IG
   go_enter Tryz.func194,Tryz.ntmps194
   go_wp2_with (go_at_call 201;refine Cm.o.mono ?_;rintro e w1 ⟨r,rfl,hr,hb⟩;obtain⟨ra,rc,hre,_,_⟩:=aJ (show w1.ownsRow w.heap.size 59 4 r _ _ from hr);subst hre;have bh:=ai hb;clear hr hb)
   have:=HP.o w1 ⟨D,by rw[HR.o];exact iV.below ⟨⟨_,L,HM.o⟩,HD.o⟩ bh.o,Kp.aF bh.o,fun b hb=>.inl hb⟩
   rw[HR.o] at this
   exact this
theorem QW {s:FM.Sp} (h:GM.ql s):FW.Hz s:=by
 have h1:=GM.dU h
 have h2:=FW.gf s.aw
 refine⟨AM.eJ _ h.check,by unfold M.bD;omega,fun k hk=>⟨?_,?_⟩⟩
 · have hm:(FM.aN s.aj k).page∈FM.bk s.aw:=by
    rw[<- h.nums]
    exact List.mem_map_of_mem (FM.lH hk)
   have:=GM.nP h.check hm
   unfold M.dD;omega
 · rw[h.size k hk];unfold M.bD;omega
theorem Kr {s:FM.Sp} (h:FM.aU s=true):FW.Hz s:=by
 cases hl:s.live with
 | true=>exact QW (GM.fX h hl)
 | false =>
  unfold FM.aU at h
  rw[hl] at h
  simp only[Bool.false_eq_true,if_false,Bool.and_eq_true,decide_eq_true_eq] at h
  have ha:s.aw=[]:=List.length_eq_zero_iff.1 h.1
  have hp:s.aj=[]:=List.length_eq_zero_iff.1 h.2
  refine⟨by rw[ha];exact AW.Bx,by rw[hp];unfold M.bD;simp,fun k hk=>by rw[hp] at hk;simp at hk⟩
theorem IM {m:GM.Mf} {fl:List Bool} (h:GM.qy m fl):FW.yB m.ak:=⟨by unfold M.bD;have:=h.few.2;omega,fun k hk=>Kr (h.each k hk)⟩
theorem xK {lo mb:Nat} (w:World) (D:Nat->Prop) (m:GM.Mf) (fl:List Bool) (k:Nat) (h:iV lo mb w D m) (hok:GM.qy m fl) (hf:fl.getD k false=true) :
  Calls Tryz.prog 191 #[.pointer (some (Ad mb 0)),I (k:Int)] w (GW.Out (iV lo mb) w D (I (GM.pA m k).1) (GM.pA m k).2):=by
 obtain⟨⟨v,L,hM⟩,hD⟩:=h
 obtain⟨hk,hlv⟩:=hok.live hf
 have hL:=GM.fX (hok.each k hk) hlv
 have h4:=hok.few.2
 have hsl:=hok.slots
 have Gd:=hok.room
 obtain⟨sb,cap,aa,na,ca,ap,cp,hv,jQ,hlc,c0,c1,c2,Gs,Lm,_,hfz,_⟩:=hM.space k hk
 obtain⟨oG,cap',hv2,YF⟩:=hM.has
 rw[hv] at hv2
 injection hv2 with e1 e2 e3
 subst e1 e3
 subst hv
 have qJ:=FW.gf (FM.ax m.ak k).aw
 have oJ:=FW.mz m.ak m.ak.length
 have S4:(FM.ax m.ak k).aw.length<=1000000:=by have:=AM.dR _ hL.check;omega
 have M4:(FM.ax m.ak k).aj.length<=1000000:=by have:=GM.dU hL;omega
 have Ch:Hid (∀V,Below w.heap.size w V->Calls Tryz.prog 74 #[.slice (some (Ad sb 0)) m.ak.length cap] V fun e w'=>e=.returned (I (FM.room m.ak))/\Below V.heap.size V w'):=fun V hV=>FW.ju m.ak (some (Ad sb 0)) cap V (YF.below hV) (IM hok) (by omega)
 have Wh:Hid (∀V,Below w.heap.size w V->Calls Tryz.prog 22 #[.slice aa na ca] V fun e w'=>e=.returned (I (AM.br (FM.ax m.ak k).aw))/\Below V.heap.size V w'):=fun V hV=>AW.ju _ _ _ (Gs.below hV) (AM.eJ _ hL.check)
 have PG:Hid (∀V,Below w.heap.size w V->Calls Tryz.prog 107 #[.agg #[.bool (FM.ax m.ak k).live,.slice aa na ca,.slice ap (FM.ax m.ak k).aj.length cp]] V (Ja V (FM.ax m.ak k))):=fun V hV=>xW (FM.ax m.ak k) aa ap na ca cp V (Gs.below hV) (Lm.below hV) S4 M4
 have jr:Hid (GM.pA m k=if 4<=m.ak.length then (2,m) else if m.slots<FM.room m.ak+AM.br (FM.ax m.ak k).aw then (8,m) else (0,{ m with ak:=m.ak++[FM.ax m.ak k] })):=rfl
 obtain⟨m0,m1⟩:=B.c2 hM.head
 have hmb:=B.isLt hM.head
 have XT:¬mb=w.heap.size:=by omega
 have jc:(k:Int)<(m.ak.length:Int):=by omega
 have HM:=ai hM
 have HD:=ai hD
 have zw:=ai hk
 obtain⟨R,hR⟩:=ex (GM.pA m k)
 rw[<- hR] at jr ⊢
 obtain⟨P,hP⟩:=ex (GW.Out (iV lo mb) w D (I R.1) R.2)
 have HP:Hid (∀w',(∃D',iV lo mb w' D' R.2/\Kp D w w'/\∀b,D' b->D b∨w.heap.size<=b)->P (.returned (I R.1)) w'):=fun w' ⟨D',h1,h2,h3⟩=>by rw[hP];exact⟨D',rfl,h1,h2,h3⟩
 rw[<- hP]
 obtain⟨s,hs⟩:=ex (FM.ax m.ak k)
 rw[<- hs] at Wh PG jr c0 c2 qJ
 obtain⟨lv,yY⟩:=ex s.live
 obtain⟨np,fE⟩:=ex s.aj.length
 rw[<- yY] at c0
 rw[<- fE] at c2
 rw[<- yY,<- fE] at PG
 have qA:=ai yY
 obtain⟨sl,Du⟩:=ex m.slots
 rw[<- Du] at jr m0 hsl Gd
 obtain⟨rm,Gc⟩:=ex (FM.room m.ak)
 rw[<- Gc] at Ch jr Gd
 have abP:0<=rm:=by rw[Gc];exact oJ.1
 obtain⟨tt,VS⟩:=ex (AM.br s.aw)
 rw[<- VS] at Wh jr qJ
 obtain⟨ns,hns⟩:=ex m.ak.length
 rw[<- hns] at m1 jc hk h4 Ch jr
 have qQ:=ai hns
 have CC:=ai Du
 have cL:=ai ((Below.refl w.heap.size w).alloc (Nat.le_refl _) (.cells #[.bool lv,.slice aa na ca,.slice ap np cp] 53))
 have BX:=ai (B.new w #[.bool lv,.slice aa na ca,.slice ap np cp] 53)
 clear hM hD hok hf hlv hR hP hL Gs Lm hlc hfz hns hs yY fE Du Gc VS oJ YF e2 S4 M4
 by_cases h4n:4<=ns
 · have HR:Hid (R=(2,m)):=by rw[jr.o,if_pos h4n];exact rfl
   have h4i:(4:Int)<=(ns:Int):=by omega
   clear jr
   go_enter Tryz.func191,Tryz.ntmps191
   go_wp2
   have:=HP.o _ ⟨D,by rw[HR.o];exact iV.below ⟨⟨_,L,HM.o⟩,HD.o⟩ cL.o,Kp.aF cL.o,fun b hb=>.inl hb⟩
   rw[HR.o] at this
   exact this
 · have h4i:¬(4:Int)<=(ns:Int):=by omega
   have oo:Hid (R=if sl<rm+tt then (8,m) else (0,{ m with ak:=m.ak++[s] })):=by rw[jr.o,if_neg h4n,CC.o];exact rfl
   clear jr
   have hwr:IntKind.i64.wrap (rm+tt)=rm+tt:=IntWalk.i64_in _ (by omega)
   go_enter Tryz.func191,Tryz.ntmps191
   go_wp2_with fail
   obtain⟨WA,fH⟩:=ex (w.alloc (.cells #[.bool lv,.slice aa na ca,.slice ap np cp] 53))
   rw[<- fH] at cL BX ⊢
   obtain⟨xb,nA⟩:=ex w.heap.size
   rw[<- nA] at BX ⊢
   have tN:=ai nA
   have Wl:=ai (HM.o.below cL.o)
   have HS:Hid (∀V,Below WA.heap.size WA V->V.cell? (Ad mb 0)=some (I sl)/\V.cell? (Ad mb 1)=some (.slice (some (Ad sb 0)) ns cap)/\V.cell? (Ad xb 0)=some (.bool lv)/\V.cell? (Ad xb 1)=some (.slice aa na ca)/\V.cell? (Ad xb 2)=some (.slice ap np cp)):=fun V hb=>by
    have h1:=B.below BX.o hb (B.isLt BX.o)
    have h2:=B.below Wl.o.head hb (B.isLt Wl.o.head)
    exact⟨by rw[CC.o];exact B.cell h2 0 rfl,by rw[qQ.o];exact B.cell h2 1 rfl,B.cell h1 0 rfl,B.cell h1 1 rfl,B.cell h1 2 rfl⟩
   have jL:=ai (Below.refl WA.heap.size WA).drew
   have cB:=ai (HS.o _ jL.o)
   clear fH nA m0 m1 c0 c1 c2 XT
   go_cut [20] (fun x20 wx=>x20=.bool (decide (sl<rm+tt))/\Below WA.heap.size WA wx)
   case first =>
    go_region_held3 (fun V=>V.cell? (Ad mb 0)=some (I sl)/\V.cell? (Ad mb 1)=some (.slice (some (Ad sb 0)) ns cap)/\V.cell? (Ad xb 0)=some (.bool lv)/\V.cell? (Ad xb 1)=some (.slice aa na ca)/\V.cell? (Ad xb 2)=some (.slice ap np cp)) (first | exact vN.o | exact qm.o | exact cB.o)
     (first
      | (go_at_call 74;refine(Ch.o _ (cL.o.trans (jL.o.mono cL.o.size))).mono ?_;rintro e w2 ⟨rfl,hb2⟩;have iw:=ai (jL.o.trans (hb2.mono jL.o.size));have qm:=ai (HS.o _ iw.o);clear hb2)
      | (go_at_call 22;refine(Wh.o _ (cL.o.trans (iw.o.mono cL.o.size))).mono ?_;rintro e w3 ⟨rfl,hb3⟩;have oq:=ai (iw.o.trans (hb3.mono iw.o.size));have vN:=ai (HS.o _ oq.o);clear hb3))
    all_goals
     go_wp2_with fail
     go_meet
     case rel=>exact⟨by first | rfl | simp,oq.o⟩
   case rest =>
    obtain⟨rfl,hbc⟩:=hcut
    have kO:=ai hbc
    have HSC:=HS.o _ hbc
    obtain⟨s0,s1,s2,s3,s4⟩:=HSC
    clear hbc cB jL Ch Wh
    by_cases hroom:sl<rm+tt
    · have HR:Hid (R=(8,m)):=by rw[oo.o,if_pos hroom];exact rfl
      clear oo
      go_wp2
      have hb:=cL.o.trans (kO.o.mono cL.o.size)
      have:=HP.o _ ⟨D,by rw[HR.o];exact iV.below ⟨⟨_,L,HM.o⟩,HD.o⟩ hb,Kp.aF hb,fun b hb=>.inl hb⟩
      rw[HR.o] at this
      exact this
    · have HR:Hid (R=(0,{ m with ak:=m.ak++[s] })):=by rw[oo.o,if_neg hroom];exact rfl
      clear oo
      have oL:=ai (cL.o.trans (kO.o.mono cL.o.size))
      have mX:Hid (Mem lo mb wc D m.slots (.slice (some (Ad sb 0)) ns cap) L m.ak):=by have:=HM.o.below oL.o;rw[<- qQ.o] at this;exact this
      have hlk:L.length=ns:=by rw[qQ.o];exact HM.o.len
      have mi:Hid (∀V,Below wc.heap.size wc V->Calls Tryz.prog 107 #[.agg #[.bool lv,.slice aa na ca,.slice ap np cp]] V fun e w'=>∃a1 n1 c1 a2 n2 c2,e=.returned (.agg #[.bool lv,.slice a1 n1 c1,.slice a2 n2 c2])/\eO V.heap.size w' ⟨lv,.slice a1 n1 c1,.slice a2 n2 c2⟩ s/\(∀b,blk (.slice a2 n2 c2) b->¬blk (.slice a1 n1 c1) b)/\Below V.heap.size V w'):=fun V hV=>(PG.o V (oL.o.trans (hV.mono oL.o.size))).mono fun e w' ⟨va,vp,h1,h2,h3,h4⟩=>by
       rw[<- qA.o] at h1 h2
       obtain⟨a1,c1,e1,_⟩:=aJ h2.aw
       obtain⟨a2,c2,e2,_⟩:=aJ h2.aj
       have U0:va=_:=e1
       have e2':vp=_:=e2
       subst U0 e2'
       exact⟨_,_,_,_,_,_,h1,h2,h3,h4⟩
      have jL:=ai (Below.refl wc.heap.size wc).drew
      have y7:lo<=wc.heap.size:=by have:=mX.o.base;have:=B.isLt mX.o.head;omega
      obtain⟨i0,hin,hz0,hz1,hz2⟩:=info_parts Bo
      have nC:=ai hin
      have vM:=ai hz0
      have rR:=ai hz1
      have mU:=ai hz2
      clear hin hz0 hz1 hz2
      go_wp2
      go_region_law (first
       | (refine iz (P:=Tryz.prog) rfl _ _ 26 rfl lo 53 i0 (.agg #[.bool false,Nl,Nl]) 3 56 Tryz.underlying26 nC.o vM.o rR.o mU.o rfl (by decide) (.slice (some (Ad sb 0)) ns cap) ns (L.flatMap bH) rfl Er.o (some (Ad w2.heap.size 0)) 1 1 [.bool lv,.slice a1 n1 c1,.slice a2 n2 c2] rfl rfl (fun _=>⟨_,rfl,B.news (B.new w2 _ _)⟩) (by intro u hu;simp at hu;rcases hu with rfl | rfl | rfl <;> rfl) (by unfold maxLen;omega) (by omega) Vr.o ?_;intro v3 w4 hown hgr hat;obtain⟨a4,c4,rfl,_⟩:=aJ hown;have Ck:=ai hown;have zy:=ai hgr;have Hy:=ai hat;have Gr:=B.grown (B.alloc (mX.o.below iw.o).head (.cells #[.bool lv,.slice a1 n1 c1,.slice a2 n2 c2] 53)) hgr (fun e=>mX.o.n1 e.symm);have y1:w4.cell? (Ad mb 1)=some (.slice (some (Ad sb 0)) ns cap):=B.cell Gr 1 rfl;have y2:w4.frozen? (Ad mb 1)=false:=B.free Gr 1;clear hown hgr hat Gr)
       | (go_simp;go_at_call 107;refine(mi.o _ jL.o).mono ?_;rintro e w2 ⟨a1,n1,c1,a2,n2,c2,rfl,hs2,l6,hb2⟩;have iw:=ai (jL.o.trans (hb2.mono jL.o.size));have Zb:=ai hs2;have Zq:=ai l6;have bY:=ai hb2;have m3:w2.cell? (Ad mb 1)=some (.slice (some (Ad sb 0)) ns cap):=B.cell (mX.o.below iw.o).head 1 rfl;have m4:(w2.alloc (.cells #[.bool lv,.slice a1 n1 c1,.slice a2 n2 c2] 53)).cell? (Ad mb 1)=some (.slice (some (Ad sb 0)) ns cap):=B.cell (B.alloc (mX.o.below iw.o).head _) 1 rfl;have Er:Hid ((w2.alloc (.cells #[.bool lv,.slice a1 n1 c1,.slice a2 n2 c2] 53)).ownsRow lo 53 3 (.slice (some (Ad sb 0)) ns cap) ns (L.flatMap bH)):=hlk ▸ ((mX.o.below iw.o).row.alloc _);have Vr:Hid (lo<=(w2.alloc (.cells #[.bool lv,.slice a1 n1 c1,.slice a2 n2 c2] 53)).heap.size):=(by show _<=_;have:=iw.o.size;simp;omega);clear hb2 hs2 l6;go_simp))
      all_goals
       go_wp2
       have hp:=mX.o.push (D':=fun b=>D b∨(w.heap.size<=b/\b<w4.heap.size)) y7 iw.o Zb.o Zq.o zy.o (hlk ▸ Ck.o) Hy.o (fun b hb=>.inl hb) (fun b h1 h2=>.inr ⟨by have:=oL.o.size;omega,h2⟩)
       have hsz:(w4.setCell (Ad mb 1) (.slice a4 (ns+1) c4)).heap.size=w4.heap.size:=by simp
       have hkk:Kp D wc (w4.setCell (Ad mb 1) (.slice a4 (ns+1) c4)):=hp.2.mono (fun b _ hb=>by
        rcases hb with g | g
        · rw[g];exact mX.o.d1
        · exact mX.o.d2 b g)
       have:=HP.o _ ⟨_,by rw[HR.o];exact⟨⟨_,_,hp.1⟩,fun b hb=>by
        have z1:=hkk.size
        have z2:=oL.o.size
        have z3:=HM.o.base
        have z4:=B.isLt HM.o.head
        rw[hsz] at z1 ⊢
        rcases hb with g | g
        · have:=HD.o b g;omega
        · omega⟩,(Kp.aF oL.o).trans hkk (fun _ _ g=>g),fun b hb=>by
        rcases hb with g | g
        · exact .inl g
        · exact .inr g.1⟩
       rw[HR.o] at this
       exact this
end GF
namespace GK
open Go.RowKit
theorem jN {P:Program} (w:World) (dT sT ty elem:TypeId) (size:Nat) (hu:P.underlying dT=some (.slice elem)) (hsz:∀w,(sizeOf elem).run P w=.ok size w) (g off dLen dCap:Nat) (sp:Option Addr) (sLen sCap:Nat)
  (cur:List Value) (t:TypeId) (hg:w.heap[g]?=some (.cells cur.toArray t (0,0))) (cs:List Value) (hn:cs.length=Nat.min sLen dLen*size) (hsrc:0<cs.length->∃ad,sp=some ad/\∀j v,cs[j]?=some v->w.cell? (ad.add j)=some v)
  (hfit:off+cs.length<=cur.length) (h1:∀v∈cs,v.oneCell'=true) :
  (Builtin.copy_ #[dT,sT] ty #[.slice (some (Ad g off)) dLen dCap,.slice sp sLen sCap]).run P w=.ok (goInt (Nat.min sLen dLen)) (w.setRow g (splice cur off cs).toArray):=by
 have hst:=run_storeCells_at (P:=P) g off t cs 0 cur.toArray w hg (by simpa using hfit) h1
 have hfc:(Builtin.firstCells size (Nat.min sLen dLen) (.slice sp sLen sCap)).run P w=.ok cs.toArray w:=by
  by_cases h0:0<cs.length
  · obtain⟨ad,rfl,hc⟩:=hsrc h0
    exact run_firstCells_some w size (Nat.min sLen dLen) ad sLen sCap cs hn hc
  · have hcs:cs=[]:=List.eq_nil_of_length_eq_zero (by omega)
    subst hcs
    cases sp with
    | none=>exact run_firstCells_none w size _ _ _
    | some ad=>exact run_firstCells_some w size (Nat.min sLen dLen) ad sLen sCap [] hn (fun j v h=>by cases h)
 simp only[Nat.add_zero] at hst
 unfold Builtin.copy_
 simp[run_underlying hu,Builtin.lenOf,hsz,hfc,hst,splice]
def fe (z:List Value):Nat->List Value
 | 0=>[]
 | n+1=>z++fe z n
theorem fG (z:List Value):∀n,(fe z n).length=n*z.length
 | 0=>by simp[fe]
 | n+1=>by rw[fe,List.length_append,fG z n,Nat.succ_mul,Nat.add_comm]
theorem uy (z:List Value):∀(n j:Nat),j<n*z.length->(fe z n)[j]?=z[j%z.length]?
 | 0,j,h=>by omega
 | n+1,j,h=>by
  have hz:0<z.length:=by
   rcases Nat.eq_zero_or_pos z.length with g | g
   · rw[g] at h;omega
   · exact g
  rw[fe]
  by_cases c:j<z.length
  · rw[List.getElem?_append_left c,Nat.mod_eq_of_lt c]
  · rw[List.getElem?_append_right (by omega),uy z n (j-z.length) (by rw[Nat.succ_mul] at h;omega),<- Nat.mod_eq_sub_mod (by omega)]
theorem qU (z:Array Value) (n:Nat) (hz:0<z.size):(Builtin.zeroCells z n).toList=fe z.toList n:=by
 apply List.ext_getElem?
 intro j
 by_cases c:j<n*z.size
 · rw[uy z.toList n j (by simpa using c)]
   unfold Builtin.zeroCells
   have hm:j%z.size<z.size:=Nat.mod_lt _ hz
   simp[c,hm,getElem!_pos]
 · rw[List.getElem?_eq_none (by simp[Builtin.zeroCells];omega),List.getElem?_eq_none (by rw[fG];simp;omega)]
theorem ux (z:List Value) (h:∀u∈z,u.oneCell'=true):∀n,∀u∈fe z n,u.oneCell'=true
 | 0,u,hu=>by cases hu
 | n+1,u,hu=>by
  rcases List.mem_append.1 hu with g | g
  · exact h u g
  · exact ux z h n u g
theorem wI {P:Program} (w:World) (t ty elem:TypeId) (z:Value) (hu:P.underlying t=some (.slice elem)) (hv:∀w,(zeroValue elem).run P w=.ok z w) (hz:0<z.cells.size) (h1:∀u∈z.cells.toList,u.oneCell'=true) (g off n c:Nat)
  (cur:List Value) (te:TypeId) (hg:w.heap[g]?=some (.cells cur.toArray te (0,0))) (hfit:off+n*z.cells.size<=cur.length) :
  (Builtin.clear_ #[t] ty #[.slice (some (Ad g off)) n c]).run P w=.ok (.tuple #[]) (w.setRow g (splice cur off (fe z.cells.toList n)).toArray):=by
 have hzl:(fe z.cells.toList n).length=n*z.cells.size:=by rw[fG];simp
 have hst:=run_storeCells_at (P:=P) g off te (fe z.cells.toList n) 0 cur.toArray w hg (by simp[hzl];omega) (ux _ h1 n)
 simp only[Nat.add_zero] at hst
 cases n with
 | zero =>
  unfold Builtin.clear_
  have e:splice cur off (fe z.cells.toList 0)=cur:=by simp[splice,fe]
  rw[e,setRow_self w g cur.toArray te (0,0) hg]
  simp[run_underlying hu]
 | succ n =>
  unfold Builtin.clear_
  simp[run_underlying hu,hv,qU z.cells (n+1) hz,hst,splice]
end GK
namespace LM
open Go.RowKit
structure Fx where
 off:Int
 bytes:ByteArray
structure Sh where
 page:Int
 data:ByteArray
 ik:List Fx
 ao:Option Addr
 cap:Nat
def fx0:Fx:=⟨0,⟨#[]⟩⟩
def rB (l:List Fx) (i:Nat):Fx:=l.getD i fx0
def sh0:Sh:=⟨0,⟨#[]⟩,[],none,0⟩
def gu (l:List Sh) (i:Nat):Sh:=l.getD i sh0
def Hc (w:World) (b off:Nat) (l:List Fx):Prop:=∀i,i<l.length->w.cell? (Ad b (off+i*2))=some (I (rB l i).off)/\w.cell? (Ad b (off+i*2+1))=some (.string (rB l i).bytes)
theorem Xa {w w':World} {b off:Nat} {l:List Fx} (hb:Below w.heap.size w w') (hlt:b<w.heap.size) (h:Hc w b off l):Hc w' b off l:=fun i hi=>by
 obtain⟨c0,c1⟩:=h i hi
 exact⟨(M.aA hb hlt).trans c0,(M.aA hb hlt).trans c1⟩
def Cg (w:World) (ao:Option Addr) (l:List Fx):Prop:=M.dS Hc w ao l
theorem Cg.below {w w':World} {ao:Option Addr} {l:List Fx} (h:Cg w ao l) (hb:Below w.heap.size w w'):Cg w' ao l:=M.dS.below (lie:=Hc) (fun hb hlt h=>Xa hb hlt h) h hb
def ad7 (f:Fx):Prop:=M.dD f.off/\M.bD f.bytes.size
structure SD (s:Sh):Prop where
 page:M.dD s.page
 data:M.bD s.data.size
 ik:M.bD s.ik.length
 fix:∀k,k<s.ik.length->ad7 (rB s.ik k)
def pJ (s:Sh):Array Value:=#[I s.page,.string s.data,.slice s.ao s.ik.length s.cap]
def pG (l:List Fx):Nat->Int
 | 0=>0
 | k+1=>(rB l k).off+((rB l k).bytes.size:Int)
def Gv (e:Int) (f:Fx):Bool:=decide (e<=f.off/\f.off<=16/\1<=(f.bytes.size:Int)/\(f.bytes.size:Int)<=16-f.off)
def dE (l:List Fx):Nat->Bool
 | 0=>true
 | k+1=>dE l k&&Gv (pG l k) (rB l k)
def uO (s:Sh):Bool:=decide (1<=s.page/\s.page<=255/\s.data.size=16)
def fc (s:Sh):Bool:=uO s&&dE s.ik s.ik.length
def nS (d:ByteArray) (l:List Fx):Nat->ByteArray
 | 0=>d
 | k+1=>CL.over (nS d l k) (rB l k).off.toNat (rB l k).bytes
def YK (s:Sh):ByteArray:=nS s.data s.ik s.ik.length
def oF (s:Sh):ByteArray×Int:=if fc s then (YK s,0) else (⟨#[]⟩,1)
theorem mP (l:List Fx):∀(k n:Nat),k<=n->dE l k=false->dE l n=false
 | k, 0, h, hk => by obtain rfl:k=0 := by omega
                     exact hk
 | k,n+1,h,hk=>by
  by_cases e:k=n+1
  · subst e;exact hk
  · simp[dE,mP l k n (by omega) hk]
theorem qg (l:List Fx) (k:Nat) (hk:k<l.length) (h:Gv (pG l k) (rB l k)=false):dE l l.length=false :=
 mP l (k+1) l.length (by omega) (by simp[dE,h])
theorem xL (l:List Fx):∀(n:Nat),dE l n=true->∀i,i<n->Gv (pG l i) (rB l i)=true
 | 0,_,i,hi=>by omega
 | n+1,h,i,hi=>by
  simp only[dE,Bool.and_eq_true] at h
  by_cases e:i=n
  · subst e;exact h.2
  · exact xL l n h.1 i (by omega)
theorem s7 (e:Int) (f:Fx):Gv e f=true↔(e<=f.off/\f.off<=16/\1<=(f.bytes.size:Int)/\(f.bytes.size:Int)<=16-f.off):=by simp[Gv]
theorem vX {e:Int} {f:Fx} (h:¬(e<=f.off/\f.off<=16/\1<=(f.bytes.size:Int)/\(f.bytes.size:Int)<=16-f.off)):Gv e f=false:=by simpa [Gv] using h
theorem tq (l:List Fx):∀k,dE l k=true->(k:Int)<=pG l k/\pG l k<=16
 | 0,_=>by simp[pG]
 | k+1,h=>by
  simp only[dE,Bool.and_eq_true] at h
  have ih:=tq l k h.1
  have hf:=(s7 _ _).1 h.2
  simp only[pG]
  omega
theorem uE (d:ByteArray) (l:List Fx) (hd:d.size=16):∀k,dE l k=true->(nS d l k).size=16
 | 0,_=>hd
 | k+1,h=>by
  simp only[dE,Bool.and_eq_true] at h
  have ih:=uE d l hd k h.1
  have hf:=(s7 _ _).1 h.2
  have he:=tq l k h.1
  simp only[nS]
  rw[CL.jz _ _ _ (by omega),ih]
end LM
end Go.Proofs.YtkdigjpejnebkaaGreat
