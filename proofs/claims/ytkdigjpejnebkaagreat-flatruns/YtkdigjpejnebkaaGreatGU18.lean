import Derived.Test.YtkdigjpejnebkaaGreatGU00
import Derived.Test.YtkdigjpejnebkaaGreatGU17
set_option maxHeartbeats 20000000
set_option linter.unusedVariables false
set_option maxRecDepth 100000
set_option linter.unusedSimpArgs false
namespace Go.Proofs.YtkdigjpejnebkaaGreat
namespace GF
open Go.RowKit GK
open FW (ai aB)
theorem Fk (l:List FM.Pg) (j:Nat) (h:j<l.length):l[j]?=some (FM.aN l j):=by
 unfold FM.aN
 rw[List.getD_eq_getElem?_getD,List.getElem?_eq_getElem h]
 rfl
theorem MI:∀{ps:List FM.Pg} {p:Int} {i:Nat},FW.Low ps p i->i=GM.rp ps p
 | [],p,i,h=>by
  have:=h.le
  simp only[List.length_nil] at this
  show i=0
  omega
 | g::ps,p,i,h=>by
  unfold GM.rp
  rw[List.takeWhile_cons]
  cases i with
  | zero =>
   have:=h.high 0 (by omega) (by simp)
   have hd:(decide (g.page<p))=false:=decide_eq_false (by show ¬g.page<p;have e:(FM.aN (g::ps) 0).page=g.page:=rfl;omega)
   rw[hd]
   rfl
  | succ i =>
   have h0:=h.low 0 (by omega)
   have hd:(decide (g.page<p))=true:=decide_eq_true (by have e:(FM.aN (g::ps) 0).page=g.page:=rfl;omega)
   rw[hd]
   have hl:FW.Low ps p i:=⟨by have:=h.le;simp only[List.length_cons] at this;omega,fun j hj=>h.low (j+1) (by omega),fun j h1 h2=>h.high (j+1) (by omega) (by simp only[List.length_cons];omega)⟩
   have:=MI hl
   unfold GM.rp at this
   simp only[if_true,List.length_cons]
   omega
theorem Mem.E5 {lo mb:Nat} {w w1:World} {D D':Nat->Prop} {sl:Int} {sb n cap:Nat} {L:List Lc} {ss:List FM.Sp} (h:Mem lo mb w D sl (.slice (some (Ad sb 0)) n cap) L ss) {k:Nat} (hk:k<L.length) {vp:Value} {l:List FM.Pg}
  (iz:Kp (blk (bu L k).vp) w w1) (ho:w1.ownsRow lo 65 2 vp l.length (l.flatMap aH)) (hvp:∀b,blk vp b->blk (bu L k).vp b∨w.heap.size<=b) (hd:∀b,D b->D' b) (hd2:∀b,w.heap.size<=b->b<w1.heap.size->D' b) :
  Mem lo mb (w1.setCell (Ad sb (k*3+2)) vp) D' sl (.slice (some (Ad sb 0)) n cap) (L.set k { bu L k with vp:=vp }) (ss.set k { FM.ax ss k with aj:=l })/\Kp (fun b=>b=sb∨blk (bu L k).vp b) w (w1.setCell (Ad sb (k*3+2)) vp):=by
 have hbs:blk (.slice (some (Ad sb 0)) n cap) sb:=rfl
 have QH:Kp (fun b=>b=sb) w1 (w1.setCell (Ad sb (k*3+2)) vp):=Kp.set _ _ _ _ rfl
 have hkA:Kp (fun b=>b=sb∨blk (bu L k).vp b) w (w1.setCell (Ad sb (k*3+2)) vp):=(iz.mono (fun _ _ g=>Or.inr g)).trans QH (fun _ _ g=>.inl g)
 have Uy:n=L.length:=by
  obtain⟨ao,c,e,_,_⟩:=aL h.row
  injection e
 have hsz:(w1.setCell (Ad sb (k*3+2)) vp).heap.size=w1.heap.size:=by simp
 have aeY:=(h.row.lt sb hbs).2
 refine⟨h.turn hk (hkA.mono (fun b _ e=>e.elim (fun g=>.inl (g ▸ hbs)) .inr)) ?_ ?_ (fun b g=>.inl g) hvp (fun b g1 g2=>?_) hd (fun b g1 g2=>hd2 b g1 (by rw[hsz] at g2;exact g2)),hkA⟩
 · have hr:=iz.row h.row (fun b hb e=>(h.n3 k hk b hb).2 e)
   rw[<- Uy] at hr
   rw[<- nt L k hk] at hr
   have:=bY hr (k*3+2) vp
   rw[<- dg L k hk (bu L k) { bu L k with vp:=vp } 2 (by omega) vp rfl] at this
   rw[<- Uy]
   exact this
 · have hsp:=h.each k hk
   refine⟨hsp.live,QH.row (iz.row hsp.aw (fun b hb e=>(h.n4 k k hk hk b e).1 hb)) (fun b hb' e=>?_),QH.row ho (fun b hb' e=>?_)⟩
   · exact(h.n3 k hk sb hbs).1 (e ▸ hb')
   · rcases hvp b hb' with g | g
     · exact(h.n3 k hk sb hbs).2 (e ▸ g)
     · omega
 · rcases hvp b g1 with g | g
   · exact(h.n4 k k hk hk b g).1 g2
   · have:=(h.lt k hk b (.inl g2)).2
     omega
theorem Qk {lo mb:Nat} (w:World) (D:Nat->Prop) (m:GM.Mf) (fl:List Bool) (k:Nat) (p n q:Int) (h:jS lo mb w D m) (hok:GM.qy m fl) (hf:fl.getD k false=true) (hp:M.dF p) (hn:M.dF n) :
  Calls Tryz.prog 193 #[.pointer (some (Ad mb 0)),I (k:Int),I p,I n,I q] w (GW.Out (jS lo mb) w D (I (GM.mapM m k p n q).1) (GM.mapM m k p n q).2):=by
 obtain⟨⟨v,L,hM⟩,hD⟩:=h
 obtain⟨hk,hlv⟩:=hok.live hf
 have hL:=GM.gp (hok.each k hk) hlv
 have h4:=hok.few.2
 have hsl:=hok.slots
 have Ez:=hok.room
 have oD:=(FW.mn m.ak m.ak.length).1
 have hfits:=IH hok
 have OD:=ai (fun (g:(AW.dH (FM.ax m.ak k).aw p n q).2=0)=>(GM.kZ hL.check g).2.1)
 have hrise:=hL.nN
 have Dt:(FM.ax m.ak k).aj.length<=70000:=by have:=GM.ed hL;have:=FW.gB (FM.ax m.ak k).aw;omega
 obtain⟨sb,cap,aa,na,ca,ap,cp,hv,jN,hlc,c0,c1,c2,Gk,Lb,_,hfz,_⟩:=hM.space k hk
 obtain⟨ov,cap',hv2,YM⟩:=hM.has
 rw[hv] at hv2
 injection hv2 with e1 e2 e3
 subst e1 e3
 subst hv
 have hfit:=AM.eN _ hL.check
 have Ck:=ai (AW.Ih (FM.ax m.ak k).aw (.slice aa na ca) p n q w Gk hfit hp hn)
 have Ce:Hid (∀V,Below w.heap.size w V->Calls Tryz.prog 74 #[.slice (some (Ad sb 0)) m.ak.length cap] V fun e w'=>e=.returned (I (FM.room m.ak))/\Below V.heap.size V w'):=fun V hV=>FW.jr m.ak (some (Ad sb 0)) cap V (YM.below hV) hfits (by omega)
 obtain⟨m0,m1⟩:=B.c2 hM.head
 have hmb:=B.isLt hM.head
 have jd:(k:Int)<(m.ak.length:Int):=by omega
 have jn:Hid (GM.mapM m k p n q=if ¬(AW.dH (FM.ax m.ak k).aw p n q).2=0 then ((AW.dH (FM.ax m.ak k).aw p n q).2,m) else if m.slots<FM.room m.ak+n then (8,m) else (0,GM.gz m k { FM.ax m.ak k with aw:=(AW.dH (FM.ax m.ak k).aw p n q).1,aj:=GM.iV (FM.ax m.ak k).aj p n.toNat })):=rfl
 obtain⟨X,hX⟩:=ex (AW.dH (FM.ax m.ak k).aw p n q)
 rw[<- hX] at Ck jn OD
 have HM:=ai hM
 have HD:=ai hD
 have yB:=ai hfz
 have Hg:=ai hk
 have OL:=ai hlc
 obtain⟨R,hR⟩:=ex (GM.mapM m k p n q)
 rw[<- hR] at jn ⊢
 obtain⟨P,hP⟩:=ex (GW.Out (jS lo mb) w D (I R.1) R.2)
 have HP:Hid (∀w',(∃D',jS lo mb w' D' R.2/\Kp D w w'/\∀b,D' b->D b∨w.heap.size<=b)->P (.returned (I R.1)) w'):=fun w' ⟨D',h1,h2,h3⟩=>by rw[hP];exact⟨D',rfl,h1,h2,h3⟩
 rw[<- hP]
 obtain⟨X1,X2⟩:=X
 simp only at Ck jn OD
 obtain⟨ns,hns⟩:=ex m.ak.length
 rw[<- hns] at m1 jd hk h4 Ce
 have qP:=ai hns
 obtain⟨rm,FX⟩:=ex (FM.room m.ak)
 rw[<- FX] at Ce jn Ez
 have abZ:0<=rm:=by rw[FX];exact oD
 obtain⟨sl,Dq⟩:=ex m.slots
 rw[<- Dq] at jn m0 hsl Ez
 have EG:=ai Dq
 obtain⟨s,hs⟩:=ex (FM.ax m.ak k)
 rw[<- hs] at jn c2 OL hrise Dt
 have Ll:=ai hs
 have RS:=ai hrise
 clear hM hD hok hf hlv hX hR hP hL Gk Lb hfit hlc hfz hns c0 hs FX Dq oD YM e2 hrise hfits
 by_cases IC:X2=0
 · subst IC
   have FY:=OD.o rfl
   have oa:Hid (R=if sl<rm+n then (8,m) else (0,GM.gz m k { s with aw:=X1,aj:=GM.iV s.aj p n.toNat })):=by rw[jn.o,if_neg (fun g=>g rfl)];exact rfl
   clear jn OD
   have hwr:IntKind.i64.wrap (rm+n)=rm+n:=IntWalk.i64_in _ (by omega)
   go_enter Tryz.func193,Tryz.ntmps193
   go_wp2_with (go_at_call 121;refine Ck.o.mono ?_;rintro e w1 ⟨r,rfl,hr,hb⟩;obtain⟨ra,rc,hre,_,_⟩:=aL (show w1.ownsRow w.heap.size 59 4 r _ _ from hr);subst hre;have I6:=ai hr;have bj:=ai hb;clear hr hb)
   have HS:Hid (∀V,Below w1.heap.size w1 V->V.cell? (Ad mb 0)=some (I sl)/\V.cell? (Ad mb 1)=some (.slice (some (Ad sb 0)) ns cap)):=fun V hb=>by
    have h2:=(HM.o.below (bj.o.trans (hb.mono bj.o.size))).head
    exact⟨by rw[EG.o];exact B.cell h2 0 rfl,by rw[qP.o];exact B.cell h2 1 rfl⟩
   have jI:=ai (Below.refl w1.heap.size w1).drew
   have cw:=ai (HS.o _ jI.o)
   clear m0 m1
   go_cut [37] (fun x wx=>x=.bool (decide (sl<rm+n))/\Below w1.heap.size w1 wx)
   case first =>
    go_region_held3 (fun V=>V.cell? (Ad mb 0)=some (I sl)/\V.cell? (Ad mb 1)=some (.slice (some (Ad sb 0)) ns cap)) (first | exact ql.o | exact cw.o)
     (first
      | (go_at_call 74;refine(Ce.o _ (bj.o.trans (jI.o.mono bj.o.size))).mono ?_;rintro e w2 ⟨rfl,hb2⟩;have je:=ai (jI.o.trans (hb2.mono jI.o.size));have ql:=ai (HS.o _ je.o);clear hb2))
    all_goals
     go_wp2_with fail
     go_meet
     case rel=>exact⟨by first | rfl | simp,je.o⟩
   case rest =>
    obtain⟨rfl,hbc⟩:=hcut
    have l9:=ai (bj.o.trans (hbc.mono bj.o.size))
    have Oz:=ai (Kp.row (Kp.aF (D:=fun _=>False) hbc) (show w1.ownsRow w.heap.size 59 4 _ _ _ from I6.o) (fun _ _ g=>g))
    have HSC:=HS.o _ hbc
    obtain⟨s0,s1⟩:=HSC
    clear hbc cw jI Ce I6 bj HS Ck
    by_cases hroom:sl<rm+n
    · have HR:Hid (R=(8,m)):=by rw[oa.o,if_pos hroom];exact rfl
      clear oa
      go_wp2
      have:=HP.o _ ⟨D,by rw[HR.o];exact jS.below ⟨⟨_,L,HM.o⟩,HD.o⟩ l9.o,Kp.aF l9.o,fun b hb=>.inl hb⟩
      rw[HR.o] at this
      exact this
    · have HR:Hid (R=(0,GM.gz m k { s with aw:=X1,aj:=GM.iV s.aj p n.toNat })):=by rw[oa.o,if_neg hroom];exact rfl
      clear oa
      have kK:k<L.length:=by rw[HM.o.len];exact Hg.o
      have hlo:=HM.o.base
      obtain⟨hA,hK⟩:=HM.o.TI (D':=fun b=>D b∨(w.heap.size<=b/\b<wc.heap.size)) kK l9.o (AW.Own.mono (show AW.Own w.heap.size wc _ _ from Oz.o) (by omega)) (fun b hb=>(Oz.o.lt b hb).1) (fun b hb=>.inl hb) (fun b g1 g2=>.inr ⟨g1,g2⟩)
      have QH:k<(m.ak.set k { FM.ax m.ak k with aw:=X1 }).length:=by rw[List.length_set];exact Hg.o
      have F6:bu (L.set k { bu L k with va:=.slice ra X1.length rc }) k={ bu L k with va:=.slice ra X1.length rc }:=by rw[sN _ _ _ _ kK,if_pos rfl]
      have FU:FM.ax (m.ak.set k { FM.ax m.ak k with aw:=X1 }) k={ FM.ax m.ak k with aw:=X1 }:=gW _ _ _ Hg.o
      obtain⟨sb',cap',aa',na',ca',ap',cp',hv',_,Yg,_,y1,y2,_,Kf,_,hfz',_⟩:=hA.space k QH
      rw[F6,FU,OL.o] at Yg
      injection Yg with g1 g2 g3
      injection g3 with g4 g5 g6
      subst g4 g6
      injection hv' with v1 v2 v3
      injection v1 with v1
      injection v1 with v1
      subst v1
      rw[FU] at Kf y2
      simp only at Kf y2
      rw[<- Ll.o] at Kf y2
      have s2:wc.cell? (Ad sb (k*3+1))=some (.slice aa na ca):=(l9.o.cell (p:=(Ad sb (k*3+1))) jN).trans c1
      have s3:wc.frozen? (Ad sb (k*3+1))=false:=(l9.o.frozen (p:=(Ad sb (k*3+1))) jN).trans (yB.o _)
      have s4:wc.cell? (Ad sb (k*3+2))=some (.slice ap s.aj.length cp):=(l9.o.cell (p:=(Ad sb (k*3+2))) jN).trans c2
      have HA:=ai hA
      have I9:=ai hK
      obtain⟨W3,hW3⟩:=ex (wc.setCell (Ad sb (k*3+1)) (.slice ra X1.length rc))
      have Zb:Hid (W3.heap.size=wc.heap.size):=by show _=_;rw[hW3];simp
      have Ve:=ai hW3
      rw[<- hW3] at HA I9 Kf y2 hfz'
      have yw:Hid (∀V,Below W3.heap.size W3 V->V.cell? (Ad sb (k*3+2))=some (.slice ap s.aj.length cp)):=fun V hV=>(hV.cell (p:=(Ad sb (k*3+2))) (World.block_lt_of_cell? _ _ y2)).trans y2
      have Ek:Hid (Calls Tryz.prog 60 #[.slice ap s.aj.length cp,I p] (wc.setCell (Ad sb (k*3+1)) (.slice ra X1.length rc)) fun e w'=>∃i,FW.Low s.aj p i/\e=.returned (.tuple #[I (i:Int),.bool (FW.foundAt s.aj p i)])/\Below W3.heap.size W3 w'):=by
       show Calls _ _ _ _ _
       rw[<- hW3]
       exact FW.zM _ _ _ _ _ Kf RS.o (by omega)
      have HZE:Hid (∀V,Calls Tryz.prog 200 #[I p,I n] V fun e w'=>∃za zc,e=.returned (.slice za n.toNat zc)/\w'.ownsRow V.heap.size 65 2 (.slice za n.toNat zc) n.toNat ((GM.gS p n.toNat).flatMap aH)/\Below V.heap.size V w'):=fun V=>by
       have:=pQ p n.toNat V (by omega) (by omega) (by omega)
       rw[show((n.toNat:Nat):Int)=n by omega] at this
       refine this.mono ?_
       rintro e w' ⟨v,rfl,h1,h2⟩
       obtain⟨za,zc,rfl,_,_⟩:=aL h1
       exact⟨za,zc,rfl,h1,h2⟩
      have xG:k<(L.set k { bu L k with va:=.slice ra X1.length rc }).length:=by rw[List.length_set];exact kK
      have MX:(bu (L.set k { bu L k with va:=.slice ra X1.length rc }) k).vp=.slice ap s.aj.length cp:=by rw[F6,OL.o]
      have qz:=ai MX
      have tN:Hid (∀V,Below W3.heap.size W3 V->V.ownsRow lo 65 2 (.slice ap s.aj.length cp) s.aj.length (s.aj.flatMap aH)):=fun V hV=>by
       have:=((HA.o.below hV).each k xG).aj
       rw[qz.o,FU] at this
       simp only at this
       rw[<- Ll.o] at this
       exact this
      have ahW:lo<=W3.heap.size:=by have:=HA.o.base;have:=B.isLt HA.o.head;omega
      have nB:Hid (∀V i za zc H0,Below W3.heap.size W3 V->FW.Low s.aj p i->W3.heap.size<=H0->V.ownsRow H0 65 2 (.slice za n.toNat zc) n.toNat ((GM.gS p n.toNat).flatMap aH)->Calls Tryz.prog 199 #[.slice ap s.aj.length cp,I (i:Int),.slice za n.toNat zc] V fun e w'=>∃a6 c6,e=.returned (.slice a6 (GM.iV s.aj p n.toNat).length c6)/\w'.ownsRow lo 65 2 (.slice a6 (GM.iV s.aj p n.toNat).length c6) (GM.iV s.aj p n.toNat).length ((GM.iV s.aj p n.toNat).flatMap aH)/\Kp (blk (.slice ap s.aj.length cp)) V w'/\(∀b,blk (.slice a6 (GM.iV s.aj p n.toNat).length c6) b->blk (.slice ap s.aj.length cp) b∨V.heap.size<=b)):=fun V i za zc H0 hV y7 hH hz=>by
       have hr:=tN.o V hV
       have hrl:=tN.o W3 (Below.refl _ _)
       have hvs:=hV.size
       have hil:=y7.le
       have hie:=MI y7
       subst hie
       have:=FT lo s.aj (GM.gS p n.toNat) (.slice ap s.aj.length cp) (.slice za n.toNat zc) H0 (GM.rp s.aj p) V hr (by rw[qT];exact hz) (by omega) (fun b h1 h2=>by
        have g1:=(hz.lt b h1).1
        have g2:=(hrl.lt b h2).2
        omega) hil (by rw[qT];omega) (by omega) (by rw[qT];omega)
       refine this.mono ?_
       rintro e w' ⟨v',rfl,h1,h2,h3⟩
       change w'.ownsRow lo _ 2 v' (GM.iV s.aj p n.toNat).length ((GM.iV s.aj p n.toNat).flatMap aH) at h1
       obtain⟨a6,c6,rfl,_,_⟩:=aL h1
       exact⟨a6,c6,rfl,h1,h2,h3⟩
      have Cx:Hid (¬blk (.slice ap s.aj.length cp) sb):=by
       have:=(HA.o.n3 k xG sb rfl).2
       rw[qz.o] at this
       exact this
      have adH:Hid (¬blk (.slice ap s.aj.length cp) mb):=by
       have:=(HA.o.n2 k xG).2
       rw[qz.o] at this
       exact this
      have ZM:Hid (∀b,blk (.slice ap s.aj.length cp) b->D b):=fun b hb=>HM.o.d3 k kK b (.inr (by rw[OL.o];exact hb))
      have Ha:Hid (∀V,Kp (blk (.slice ap s.aj.length cp)) W3 V->V.frozen? (Ad sb (k*3+2))=false/\V.cell? (Ad sb (k*3+2))=some (.slice ap s.aj.length cp)):=fun V hV=>by
       refine⟨?_,hV.cell (yw.o _ (Below.refl _ _)) Cx.o⟩
       have hr:=hV.row HA.o.row (fun b hb e=>(HA.o.n3 k xG b hb).2 (by rw[qz.o];exact e))
       have EB:m.ak.length=(L.set k { bu L k with va:=.slice ra X1.length rc }).length:=by rw[List.length_set];exact HM.o.len.symm
       rw[<- EB] at hr
       exact fZ hr _
      obtain⟨PL,QJ⟩:=ex s.aj.length
      obtain⟨IL,UU⟩:=ex ((GM.iV s.aj p n.toNat).length)
      rw[<- QJ] at Ek nB Cx adH ZM Ha yw qz s4 Dt
      rw[<- UU] at nB
      have HIL:=ai UU
      clear hA hK Kf y1 y2 hfz' QJ UU hW3 tN c2 c1 F6 FU MX s0 s1
      go_wp2_with (go_at_call 60;refine Ek.o.mono ?_;rintro e w4 ⟨i,y7,rfl,hb4⟩;have HLW:=ai y7;have Hi:=ai hb4;have x4:=yw.o _ hb4;clear y7 hb4)
      have VD:=ai Hi.o.drew
      go_region_law (first
       | (go_simp;go_at_call 200;refine(HZE.o _).mono ?_;rintro e w5 ⟨za,zc,rfl,hz,ot⟩;have HZ5:=ai hz;have HK5:=ai (VD.o.trans (ot.mono VD.o.size));have x5:=yw.o _ HK5.o;clear hz ot;go_simp)
       | (go_simp;go_at_call 199;refine(nB.o _ _ _ _ _ HK5.o HLW.o VD.o.size HZ5.o).mono ?_;rintro e w6 ⟨a6,c6,rfl,ho,tJ,hbl⟩;have Ph:=ai ho;have Cz:=ai ((Kp.aF HK5.o).trans tJ (fun _ _ g=>g));have Pw:=ai (fun b hb=>(hbl b hb).imp id (fun g=>Nat.le_trans HK5.o.size g));obtain⟨x6,x7⟩:=Ha.o _ Cz.o;clear ho tJ hbl;go_simp))
      all_goals
       go_wp2
       obtain⟨hp1,hp2⟩:=HA.o.E5 (D':=fun b=>D b∨(w.heap.size<=b/\b<w6.heap.size)) xG (vp:=.slice a6 IL c6) (l:=GM.iV s.aj p n.toNat) (w1:=w6) (by rw[qz.o];exact Cz.o) (by rw[<- HIL.o];exact Ph.o) (by rw[qz.o];exact Pw.o) (fun b hb=>by
        have z1:=Cz.o.size
        have z2:=Zb.o
        rcases hb with g | g
        · exact .inl g
        · exact .inr ⟨g.1,by omega⟩) (fun b g1 g2=>.inr ⟨by have:=Zb.o;have:=l9.o.size;omega,g2⟩)
       have hsz:(w6.setCell (Ad sb (k*3+2)) (.slice a6 IL c6)).heap.size=w6.heap.size:=by simp
       rw[qz.o] at hp2
       have hkk:Kp D w (w6.setCell (Ad sb (k*3+2)) (.slice a6 IL c6)):=(I9.o.mono (D1:=D) (fun b _ e=>HM.o.d2 b (by rw[e];rfl))).trans hp2 (fun b _ e=>by
        rcases e with e | e
        · exact HM.o.d2 b (by rw[e];rfl)
        · exact ZM.o b e)
       have Uq:(m.ak.set k { FM.ax m.ak k with aw:=X1 }).set k { FM.ax (m.ak.set k { FM.ax m.ak k with aw:=X1 }) k with aj:=GM.iV s.aj p n.toNat }=m.ak.set k { s with aw:=X1,aj:=GM.iV s.aj p n.toNat }:=by
        rw[tT,gW _ _ _ Hg.o,Ll.o]
       rw[Uq] at hp1
       have:=HP.o _ ⟨_,by rw[HR.o];exact⟨⟨_,_,hp1⟩,fun b hb=>by
        have z1:=hkk.size
        have z2:=HD.o
        rw[hsz] at z1 ⊢
        rcases hb with g | g
        · have:=z2 b g;omega
        · omega⟩,hkk,fun b hb=>by
        rcases hb with g | g
        · exact .inl g
        · exact .inr g.1⟩
       rw[HR.o] at this
       exact this
 · have HR:Hid (R=(X2,m)):=by rw[jn.o,if_pos IC];exact rfl
   have hxi:(X2==0)=false:=by rw[beq_eq_false_iff_ne];exact IC
   clear jn IC OD
   go_enter Tryz.func193,Tryz.ntmps193
   go_wp2_with (go_at_call 121;refine Ck.o.mono ?_;rintro e w1 ⟨r,rfl,hr,hb⟩;obtain⟨ra,rc,hre,_,_⟩:=aL (show w1.ownsRow w.heap.size 59 4 r _ _ from hr);subst hre;have bj:=ai hb;clear hr hb)
   have:=HP.o w1 ⟨D,by rw[HR.o];exact jS.below ⟨⟨_,L,HM.o⟩,HD.o⟩ bj.o,Kp.aF bj.o,fun b hb=>.inl hb⟩
   rw[HR.o] at this
   exact this
def Bp (p n:Int) (g:FM.Pg):Bool:=decide (p<=g.page/\g.page<p+n)
theorem nH (p n:Int) (g:FM.Pg) (x y:Nat) (w:World) (hx:w.cell? (Ad x 0)=some (I p)) (hy:w.cell? (Ad y 0)=some (I n)) (hp:0<=p) (hn:0<=n) (FY:p+n<=1000) :
  Calls Tryz.prog 204 #[.agg #[I g.page,.string g.data],.pointer (some (Ad x 0)),.pointer (some (Ad y 0))] w fun e w'=>e=.returned (.bool (Bp p n g))/\Below w.heap.size w w':=by
 have hxl:x<w.heap.size:=World.block_lt_of_cell? w _ hx
 have hyl:y<w.heap.size:=World.block_lt_of_cell? w _ hy
 have hxn:¬x=w.heap.size:=by omega
 have hyn:¬y=w.heap.size:=by omega
 obtain⟨pg,d⟩:=g
 have hw:IntKind.i64.wrap (p+n)=p+n:=IntWalk.i64_in _ (by omega)
 have HB:=ai ((Below.refl w.heap.size w).alloc (Nat.le_refl _) (.cells #[I pg,.string d] 65))
 unfold Bp
 simp only
 by_cases c1:p<=pg
 · by_cases c2:pg<p+n
   · rw[decide_eq_true (show p<=pg/\pg<p+n from⟨c1,c2⟩)]
     go_enter Tryz.func204,Tryz.ntmps204
     go_wp2
     go_ret
     exact⟨rfl,HB.o⟩
   · rw[decide_eq_false (show ¬(p<=pg/\pg<p+n) from fun e=>c2 e.2)]
     go_enter Tryz.func204,Tryz.ntmps204
     go_wp2
     go_ret
     exact⟨rfl,HB.o⟩
 · rw[decide_eq_false (show ¬(p<=pg/\pg<p+n) from fun e=>c1 e.1)]
   go_enter Tryz.func204,Tryz.ntmps204
   go_wp2
   go_ret
   exact⟨rfl,HB.o⟩
theorem yX (lo:Nat) (ps:List FM.Pg) (p n:Int) (ao:Option Addr) (cap x y:Nat) (w:World) (h:w.ownsRow lo 65 2 (.slice ao ps.length cap) ps.length (ps.flatMap aH)) (hx:w.cell? (Ad x 0)=some (I p)) (hy:w.cell? (Ad y 0)=some (I n)) (hp:0<=p) (hn:0<=n) (FY:p+n<=1000) (hl:ps.length<=100000) :
  Calls Tryz.prog 210 #[.slice ao ps.length cap,.func (.func 204) #[] #[.pointer (some (Ad x 0)),.pointer (some (Ad y 0))]] w fun e w' =>
   Below w.heap.size w w'/\((e=.returned (I (-1))/\∀j,j<ps.length->Bp p n (FM.aN ps j)=false)∨∃i:Nat,i<ps.length/\e=.returned (I (i:Int))/\Bp p n (FM.aN ps i)=true/\∀j,j<i->Bp p n (FM.aN ps j)=false):=by
 have HH:=ai h
 have HC:Hid (∀V g,Below w.heap.size w V->Calls Tryz.prog 204 #[.agg #[I g.page,.string g.data],.pointer (some (Ad x 0)),.pointer (some (Ad y 0))] V fun e w'=>e=.returned (.bool (Bp p n g))/\Below V.heap.size V w'):=fun V g hV=>nH p n g x y V ((hV.cell (p:=(Ad x 0)) (World.block_lt_of_cell? w _ hx)).trans hx) ((hV.cell (p:=(Ad y 0)) (World.block_lt_of_cell? w _ hy)).trans hy) hp hn FY
 clear h hx hy
 go_enter Tryz.func210,Tryz.ntmps210
 go_wp2
 go_loopw [8] (fun iv wr=>∃k:Nat,k<=ps.length/\iv=I (k:Int)/\(∀j,j<k->Bp p n (FM.aN ps j)=false)/\Below w.heap.size w wr) (fun iv _=>ps.length-(intOf iv).toNat)
 case atStart=>exact⟨0,by omega,rfl,fun j hj=>by omega,Below.refl _ _⟩
 case round =>
  obtain⟨k,hk,rfl,hno,hb⟩:=hrel
  have mS:=ai hno
  have HB:=ai hb
  clear hno
  by_cases hlt:k<ps.length
  · have jd:(k:Int)<(ps.length:Int):=by omega
    obtain⟨ov,cap',e0,_,hg⟩:=aL HH.o
    injection e0 with ea _ ec
    obtain⟨g,hgo,_,_⟩:=hg (by omega)
    have hao:ao=some (Ad g 0):=ea.trans hgo
    clear ea ec hg hgo
    subst hao
    have hrow:=Kp.row (Kp.aF (D:=fun _=>False) hb) HH.o (fun _ _ q=>q)
    have c0:wr.cell? (Ad g (k*2))=some (I (FM.aN ps k).page):=cZ aH bl FM.yE hrow k 0 hlt (by omega)
    have c1:wr.cell? (Ad g (k*2+1))=some (.string (FM.aN ps k).data):=cZ aH bl FM.yE hrow k 1 hlt (by omega)
    have nC:=ai (HC.o wr (FM.aN ps k) hb)
    obtain⟨G,hG⟩:=ex (Bp p n (FM.aN ps k))
    rw[<- hG] at nC
    have HG:=ai hG
    obtain⟨pg,mA⟩:=ex (FM.aN ps k)
    rw[<- mA] at c0 c1 nC
    clear hG mA hb hrow
    cases G with
    | true =>
     go_wp2_with (go_at_call 204;refine nC.o.mono ?_;rintro e w1 ⟨rfl,hb1⟩;have bj:=ai (HB.o.trans (hb1.mono HB.o.size));clear hb1)
     go_ret
     exact⟨bj.o,.inr ⟨k,hlt,rfl,HG.o.symm,mS.o⟩⟩
    | false =>
     go_wp2_with (go_at_call 204;refine nC.o.mono ?_;rintro e w1 ⟨rfl,hb1⟩;have bj:=ai (HB.o.trans (hb1.mono HB.o.size));clear hb1)
     go_roundw
     case rel=>exact⟨k+1,by omega,by go_num,fun j hj=>by
      by_cases q:j=k
      · subst q;exact HG.o.symm
      · exact mS.o j (by omega),bj.o⟩
     case measure=>simp[intOf];omega
  · obtain rfl:k=ps.length:=by omega
    clear hb
    go_wp2
    go_ret
    exact⟨HB.o,.inl ⟨rfl,mS.o⟩⟩
structure Hr (p n:Int) (ps q:List FM.Pg) (i j:Nat):Prop where
 len:q.length=ps.length
 lt:i<j
 le:j<=ps.length
 front:q.take i=(ps.take j).filter (fun g=>!Bp p n g)
 back:q.drop j=ps.drop j
theorem mY (l:List FM.Pg) (j:Nat) (h:j<l.length):l.take (j+1)=l.take j++[FM.aN l j]:=by
 rw[List.take_add_one,Fk l j h]
 rfl
theorem Hr.start {p n:Int} {ps:List FM.Pg} {i:Nat} (hi:i<ps.length) (hg:Bp p n (FM.aN ps i)=true) (hno:∀j,j<i->Bp p n (FM.aN ps j)=false):Hr p n ps ps i (i+1):=by
 refine⟨rfl,by omega,hi,?_,rfl⟩
 have:∀k,k<=i->(ps.take k).filter (fun g=>!Bp p n g)=ps.take k:=fun k=>by
  induction k with
  | zero=>intro _;simp
  | succ k ih =>
   intro hk
   rw[mY ps k (by omega),List.filter_append,ih (by omega)]
   simp[hno k (by omega)]
 rw[mY ps i hi,List.filter_append,this i (Nat.le_refl _)]
 simp[hg]
theorem Hr.at {p n:Int} {ps q:List FM.Pg} {i j:Nat} (h:Hr p n ps q i j) (hj:j<ps.length):FM.aN q j=FM.aN ps j:=by
 have e:(q.drop j)[0]?=(ps.drop j)[0]?:=by rw[h.back]
 rw[List.getElem?_drop,List.getElem?_drop,Nat.add_zero,Fk q j (by rw[h.len];exact hj),Fk ps j hj] at e
 injection e
theorem Hr.skip {p n:Int} {ps q:List FM.Pg} {i j:Nat} (h:Hr p n ps q i j) (hj:j<ps.length) (hg:Bp p n (FM.aN ps j)=true):Hr p n ps q i (j+1):=by
 refine⟨h.len,by have:=h.lt;omega,hj,?_,?_⟩
 · rw[mY ps j hj,List.filter_append,h.front]
   simp[hg]
 · rw[<- List.drop_drop,<- List.drop_drop,h.back]
theorem Hr.keep {p n:Int} {ps q:List FM.Pg} {i j:Nat} (h:Hr p n ps q i j) (hj:j<ps.length) (hg:Bp p n (FM.aN ps j)=false):Hr p n ps (q.set i (FM.aN ps j)) (i+1) (j+1):=by
 have hlt:=h.lt
 have EB:=h.len
 refine⟨by rw[List.length_set];exact h.len,by omega,hj,?_,?_⟩
 · rw[mY ps j hj,List.filter_append,<- h.front,mY _ i (by rw[List.length_set];omega)]
   have e1:(q.set i (FM.aN ps j)).take i=q.take i:=by
    rw[List.take_set,List.set_eq_of_length_le (by rw[List.length_take];omega)]
   have e2:FM.aN (q.set i (FM.aN ps j)) i=FM.aN ps j:=by
    unfold FM.aN
    rw[List.getD_eq_getElem?_getD,List.getElem?_set_self (by omega)]
    rfl
   rw[e1,e2]
   simp[hg]
 · rw[List.drop_set_of_lt (by omega),<- List.drop_drop,<- List.drop_drop,h.back]
theorem Hr.done {p n:Int} {ps q:List FM.Pg} {i:Nat} (h:Hr p n ps q i ps.length):q.take i=GM.iF ps p n:=by
 rw[h.front,List.take_length]
 rfl
theorem JJ (q:List FM.Pg) (i:Nat) (g:FM.Pg) (hi:i<q.length):(q.set i g).flatMap aH=((q.flatMap aH).set (i*2) (I g.page)).set (i*2+1) (.string g.data):=by
 have h1:=gX aH 2 bl FM.yE ⟨g.page,(FM.aN q i).data⟩ 0 (I g.page) (by omega) q i hi rfl
 have h2:=gX aH 2 bl FM.yE g 1 (.string g.data) (by omega) (q.set i ⟨g.page,(FM.aN q i).data⟩) i (by rw[List.length_set];exact hi) (by
  rw[List.getD_eq_getElem?_getD,List.getElem?_set_self hi];rfl)
 rw[List.set_set,h1] at h2
 exact h2
theorem Mu {ps:List FM.Pg} {p n:Int} (h:∀j,j<ps.length->Bp p n (FM.aN ps j)=false):GM.iF ps p n=ps:=by
 unfold GM.iF
 rw[List.filter_eq_self]
 intro g hg
 obtain⟨k,hk,rfl⟩:=FM.ie hg
 have:=h k hk
 unfold Bp at this
 simp[this]
theorem Gs (lo:Nat) (ps:List FM.Pg) (p n:Int) (vp:Value) (x y:Nat) (w:World) (h:w.ownsRow lo 65 2 vp ps.length (ps.flatMap aH)) (hx:w.cell? (Ad x 0)=some (I p)) (hy:w.cell? (Ad y 0)=some (I n)) (hnx:¬blk vp x) (hny:¬blk vp y) (hp:0<=p) (hn:0<=n) (FY:p+n<=1000) (hl:ps.length<=100000) :
  Calls Tryz.prog 203 #[vp,.func (.func 204) #[] #[.pointer (some (Ad x 0)),.pointer (some (Ad y 0))]] w (jH lo vp (GM.iF ps p n) w):=by
 obtain⟨ao,cap,rfl,hcm,hgo⟩:=aL h
 have HIX:=ai (yX lo ps p n ao cap x y w h hx hy hp hn FY hl)
 have HH:=ai h
 have HX:=ai hx
 have HY:=ai hy
 have kG:=ai hnx
 have HNY:=ai hny
 obtain⟨P,hP⟩:=ex (jH lo (.slice ao ps.length cap) (GM.iF ps p n) w)
 have HP:Hid (∀e w',jH lo (.slice ao ps.length cap) (GM.iF ps p n) w e w'->P e w'):=fun e w' h=>by rw[hP];exact h
 rw[<- hP]
 have Tw:=ai hgo
 clear h hx hy hP hnx hny hgo
 by_cases hall:∀j,j<ps.length->Bp p n (FM.aN ps j)=false
 · have Tv:Hid (Calls Tryz.prog 210 #[.slice ao ps.length cap,.func (.func 204) #[] #[.pointer (some (Ad x 0)),.pointer (some (Ad y 0))]] w fun e w'=>e=.returned (I (-1))/\Below w.heap.size w w'):=HIX.o.mono fun e w' ⟨hb,hh⟩=>by
    rcases hh with⟨rfl,_⟩ | ⟨i,hi,_,hg,_⟩
    · exact⟨rfl,hb⟩
    · rw[hall i hi] at hg;cases hg
   have nD:=ai (Mu hall)
   clear hall HIX
   go_enter Tryz.func203,Tryz.ntmps203
   go_wp2_with (go_at_call 210;refine Tv.o.mono ?_;rintro e w1 ⟨rfl,hb1⟩;have bj:=ai hb1;clear hb1)
   exact HP.o _ _ ⟨_,rfl,by rw[nD.o];exact Kp.row (Kp.aF (D:=fun _=>False) bj.o) HH.o (fun _ _ g=>g),Kp.aF bj.o,fun b hb=>.inl hb⟩
 · have Tv:Hid (Calls Tryz.prog 210 #[.slice ao ps.length cap,.func (.func 204) #[] #[.pointer (some (Ad x 0)),.pointer (some (Ad y 0))]] w fun e w'=>∃i:Nat,e=.returned (I (i:Int))/\Hr p n ps ps i (i+1)/\Below w.heap.size w w'):=HIX.o.mono fun e w' ⟨hb,hh⟩=>by
    rcases hh with⟨_,g⟩ | ⟨i,hi,rfl,hg,hno⟩
    · exact(hall g).elim
    · exact⟨i,rfl,Hr.start hi hg hno,hb⟩
   have hpos:0<ps.length:=by
    rcases Nat.eq_zero_or_pos ps.length with g | g
    · exact(hall (fun j hj=>by omega)).elim
    · exact g
   obtain⟨pb,rfl,hlo,hpb⟩:=Tw.o hpos
   clear hall HIX Tw
   go_enter Tryz.func203,Tryz.ntmps203
   go_wp2_with (go_at_call 210;refine Tv.o.mono ?_;rintro e w1 ⟨i1,rfl,UF,hb1⟩;have bj:=ai hb1;have Tx:=ai UF;have hi1:=UF.le;have hi2:((i1:Int)==-1)=false:=(by rw[beq_eq_false_iff_ne];omega);clear hb1 UF)
   go_loopw [5,6] (fun iv jv wr=>∃(i j:Nat) (q:List FM.Pg),iv=I (i:Int)/\jv=I (j:Int)/\Hr p n ps q i j/\wr.ownsRow lo 65 2 (.slice (some (Ad pb 0)) ps.length cap) ps.length (q.flatMap aH)/\Kp (fun b=>b=pb) w wr) (fun _ jv _=>ps.length-(intOf jv).toNat)
   case atStart=>exact⟨i1,i1+1,ps,rfl,by go_num,Tx.o,Kp.row (Kp.aF (D:=fun _=>False) bj.o) HH.o (fun _ _ g=>g),Kp.aF bj.o⟩
   case round =>
    obtain⟨i,j,q,rfl,rfl,hf,hrow,iz⟩:=hrel
    have hij:=hf.lt
    have hjl:=hf.le
    have HF:=ai hf
    have HR:=ai hrow
    have HK:=ai iz
    clear Tx bj hi1
    by_cases hlt:j<ps.length
    · have hji:(j:Int)<(ps.length:Int):=by omega
      have hii:(i:Int)<(ps.length:Int):=by omega
      have hql:=hf.len
      have yF:∀V:World,V.ownsRow lo 65 2 (.slice (some (Ad pb 0)) ps.length cap) ps.length (q.flatMap aH)->∀k,k<ps.length->V.cell? (Ad pb (k*2))=some (I (FM.aN q k).page)/\V.cell? (Ad pb (k*2+1))=some (.string (FM.aN q k).data):=fun V hV k hk=>by
       rw[<- hql] at hV
       exact⟨cZ aH bl FM.yE hV k 0 (by omega) (by omega),cZ aH bl FM.yE hV k 1 (by omega) (by omega)⟩
      have tN:=ai yF
      obtain⟨c0,c1⟩:=yF wr hrow j hlt
      rw[hf.at hlt] at c0 c1
      have ahL:pb<wr.heap.size:=(hrow.lt pb rfl).2
      have ahM:¬pb=wr.heap.size:=by omega
      have HA:=ai ((Below.refl wr.heap.size wr).alloc (Nat.le_refl _) (.cells #[I (FM.aN ps j).page,.string (FM.aN ps j).data] 65))
      have nC:Hid (Calls Tryz.prog 204 #[.agg #[I (FM.aN ps j).page,.string (FM.aN ps j).data],.pointer (some (Ad x 0)),.pointer (some (Ad y 0))] (wr.alloc (.cells #[I (FM.aN ps j).page,.string (FM.aN ps j).data] 65)) fun e w'=>e=.returned (.bool (Bp p n (FM.aN ps j)))/\Below (wr.alloc (.cells #[I (FM.aN ps j).page,.string (FM.aN ps j).data] 65)).heap.size (wr.alloc (.cells #[I (FM.aN ps j).page,.string (FM.aN ps j).data] 65)) w'):=by
       have hkk:=iz.trans (Kp.aF (D:=fun b=>b=pb) HA.o) (fun _ _ g=>g)
       exact nH p n (FM.aN ps j) x y _ (hkk.cell HX.o (fun e=>kG.o (by subst e;rfl))) (hkk.cell HY.o (fun e=>HNY.o (by subst e;rfl))) hp hn FY
      have BX:=ai (B.new wr #[I (FM.aN ps j).page,.string (FM.aN ps j).data] 65)
      have RP:=ai (hf.skip hlt)
      have HKE:=ai (hf.keep hlt)
      obtain⟨G,hG⟩:=ex (Bp p n (FM.aN ps j))
      rw[<- hG] at nC RP HKE
      obtain⟨g,hg⟩:=ex (FM.aN ps j)
      rw[<- hg] at c0 c1 nC HKE HA BX
      clear hG hg hrow iz yF hf
      cases G with
      | true =>
       go_wp2_with (go_at_call 204;refine nC.o.mono ?_;rintro e w2 ⟨rfl,hb2⟩;have bW:=ai (HA.o.trans (hb2.mono HA.o.size));clear hb2)
       go_roundw
       case rel=>exact⟨i,j+1,q,rfl,by go_num,RP.o (by trivial),Kp.row (Kp.aF (D:=fun _=>False) bW.o) HR.o (fun _ _ g=>g),HK.o.trans (Kp.aF (D:=fun b=>b=pb) bW.o) (fun _ _ g=>g)⟩
       case measure=>simp[intOf];omega
      | false =>
       go_wp2_with (go_at_call 204;refine nC.o.mono ?_;rintro e w2 ⟨rfl,hb2⟩;have bW:=ai (HA.o.trans (hb2.mono HA.o.size));have lu:=ai (Kp.row (Kp.aF (D:=fun _=>False) bW.o) HR.o (fun _ _ g=>g));have hc2:=tN.o _ lu.o i (by omega);obtain⟨d0,d1⟩:=hc2;have d2:=fZ lu.o (i*2);have d3:=fZ lu.o (i*2+1);have hx2:=B.below BX.o hb2 (B.isLt BX.o);obtain⟨d4,d5⟩:=B.c2 hx2;clear hb2 hx2)
       go_roundw
       case rel =>
        refine⟨i+1,j+1,q.set i g,by go_num,by go_num,HKE.o (by trivial),?_,?_⟩
        · rw[JJ q i g (by omega)]
          exact bY (bY lu.o (i*2) _) (i*2+1) _
        · exact((HK.o.trans (Kp.aF (D:=fun b=>b=pb) bW.o) (fun _ _ g=>g)).trans (Kp.set (fun b=>b=pb) w2 (Ad pb (i*2)) _ rfl) (fun _ _ g=>g)).trans (Kp.set (fun b=>b=pb) _ (Ad pb (i*2+1)) _ rfl) (fun _ _ g=>g)
       case measure=>simp[intOf];omega
    · obtain rfl:j=ps.length:=by omega
      have hql:=hf.len
      have hdn:=hf.done
      obtain⟨cur,hcz,UE,hcs,hct⟩:∃cur:Array Value,cur.size=cap*2/\wr.heap[pb]?=some (.cells cur 65 (0,0))/\cap<=maxLen/\cur.toList.take (ps.length*2)=q.flatMap aH:=by
       rcases hrow.2 with⟨h0,_⟩ | ⟨g,cap',cur,hv,hb,hg,h1,h2,h3,h4⟩
       · omega
       · injection hv with e1 e2 e3
         injection e1 with e1
         injection e1 with e1
         subst e1 e3
         exact⟨cur,h3,hg,h2,h4⟩
      have hcl:cur.toList.length=cap*2:=hcz
      have Yq:∀ty c,(Builtin.clear_ #[51] ty #[.slice (some (Ad pb (i*2))) (ps.length-i) c]).run Tryz.prog wr=.ok (.tuple #[]) (wr.setRow pb (splice cur.toList (i*2) (ft [I 0,.string ⟨#[]⟩] (ps.length-i))).toArray):=fun ty c=>wL (P:=Tryz.prog) wr 51 ty 65 (.agg #[I 0,.string ⟨#[]⟩]) Tryz.underlying51 WI (by decide) (by decide) pb (i*2) (ps.length-i) c cur.toList 65 (by simpa using UE) (by
       have e:(Value.cells (.agg #[I 0,.string ⟨#[]⟩])).size=2:=rfl
       rw[e,hcl];omega)
      obtain⟨S,hS⟩:=ex (splice cur.toList (i*2) (ft [I 0,.string ⟨#[]⟩] (ps.length-i)))
      rw[<- hS] at Yq
      have hSl:S.length=cap*2:=by
       rw[hS,length_splice _ _ _ (by rw[fI,hcl];simp only[List.length_cons,List.length_nil];omega),hcl]
      have hSt:S.take (i*2)=(GM.iF ps p n).flatMap aH:=by
       rw[<- hdn,<- tQ,<- hct,List.take_take,Nat.min_eq_left (by omega),hS]
       unfold splice
       exact take_left' _ _ _ (by rw[List.length_take,hcl];omega)
      have hol:(GM.iF ps p n).length=i:=by rw[<- hdn,List.length_take];omega
      have hg2:(wr.setRow pb S.toArray).heap[pb]?=some (.cells S.toArray 65 (0,0)):=setRow_heap wr pb _ _ _ _ UE
      have dz:Hid (P (.returned (.slice (some (Ad pb 0)) i cap)) (wr.setRow pb S.toArray)):=HP.o _ _ ⟨_,rfl,by
       rw[hol,<- hSt]
       exact⟨by rw[List.length_take,hSl];omega,.inr ⟨pb,cap,S.toArray,rfl,hlo,hg2,by omega,hcs,by simpa using hSl,by simp⟩⟩,(iz.mono (fun b _ e=>by subst e;rfl)).trans (tU wr pb S.toArray) (fun b _ e=>by subst e;rfl),fun b hb=>.inl hb⟩
      have hic:¬cap=i:=by omega
      have hin:(i:Int)<=(ps.length:Int):=by omega
      have acv:i<=ps.length:=by omega
      have ah6:i<=cap:=by omega
      have Yu:cap<=9223372036854775807:=by unfold maxLen at hcs;omega
      clear hf hrow iz HF HR HK UE hct hdn hS hSl hSt hol hg2 hql hcz hcl Tv HP HH HX HY kG HNY
      go_wp2_with (at_builtin;refine Jk _ rfl _ 51 rfl _ rfl (Yq _ _) ?_)
      exact dz.o
theorem Jp {lo mb:Nat} (w:World) (D:Nat->Prop) (m:GM.Mf) (fl:List Bool) (k:Nat) (p n:Int) (h:jS lo mb w D m) (hok:GM.qy m fl) (hf:fl.getD k false=true) (hp:M.dF p) (hn:M.dF n) :
  Calls Tryz.prog 196 #[.pointer (some (Ad mb 0)),I (k:Int),I p,I n] w (GW.Out (jS lo mb) w D (I (GM.gU m k p n).1) (GM.gU m k p n).2):=by
 obtain⟨⟨v,L,hM⟩,hD⟩:=h
 obtain⟨hk,hlv⟩:=hok.live hf
 have hL:=GM.gp (hok.each k hk) hlv
 have h4:=hok.few.2
 have OD:=ai (fun (g:(AW.bO (FM.ax m.ak k).aw p n).2=0)=>(GM.o5 hL.check g).2.1)
 have Dt:(FM.ax m.ak k).aj.length<=70000:=by have:=GM.ed hL;have:=FW.gB (FM.ax m.ak k).aw;omega
 obtain⟨sb,cap,aa,na,ca,ap,cp,hv,jN,hlc,c0,c1,c2,Gk,_,_,hfz,_⟩:=hM.space k hk
 subst hv
 have hfit:=AM.eN _ hL.check
 have Ck:Hid (∀V,Below w.heap.size w V->Calls Tryz.prog 202 #[.slice aa na ca,I p,I n] V fun e w'=>∃r,e=.returned (.tuple #[r,I (AW.bO (FM.ax m.ak k).aw p n).2])/\AW.Own V.heap.size w' r (AW.bO (FM.ax m.ak k).aw p n).1/\Below V.heap.size V w'):=fun V hV=>AW.Jn (FM.ax m.ak k).aw (.slice aa na ca) p n V (Gk.below hV) hfit hp hn
 have m1:w.cell? (Ad mb 1)=some (.slice (some (Ad sb 0)) m.ak.length cap):=B.cell hM.head 1 rfl
 have hmb:=B.isLt hM.head
 have jd:(k:Int)<(m.ak.length:Int):=by omega
 have jn:Hid (GM.gU m k p n=if ¬(AW.bO (FM.ax m.ak k).aw p n).2=0 then ((AW.bO (FM.ax m.ak k).aw p n).2,m) else (0,GM.gz m k { FM.ax m.ak k with aw:=(AW.bO (FM.ax m.ak k).aw p n).1,aj:=GM.iF (FM.ax m.ak k).aj p n })):=rfl
 obtain⟨X,hX⟩:=ex (AW.bO (FM.ax m.ak k).aw p n)
 rw[<- hX] at Ck jn OD
 have HM:=ai hM
 have HD:=ai hD
 have yB:=ai hfz
 have Hg:=ai hk
 have OL:=ai hlc
 obtain⟨R,hR⟩:=ex (GM.gU m k p n)
 rw[<- hR] at jn ⊢
 obtain⟨P,hP⟩:=ex (GW.Out (jS lo mb) w D (I R.1) R.2)
 have HP:Hid (∀w',(∃D',jS lo mb w' D' R.2/\Kp D w w'/\∀b,D' b->D b∨w.heap.size<=b)->P (.returned (I R.1)) w'):=fun w' ⟨D',h1,h2,h3⟩=>by rw[hP];exact⟨D',rfl,h1,h2,h3⟩
 rw[<- hP]
 obtain⟨X1,X2⟩:=X
 simp only at Ck jn OD
 obtain⟨ns,hns⟩:=ex m.ak.length
 rw[<- hns] at m1 jd hk h4
 have qP:=ai hns
 obtain⟨s,hs⟩:=ex (FM.ax m.ak k)
 rw[<- hs] at jn c2 OL Dt
 have Ll:=ai hs
 have nC:=ai c2
 have aci:¬mb=w.heap.size:=by omega
 have ach:¬mb=w.heap.size+1:=by omega
 have XF:¬sb=w.heap.size:=by omega
 have XE:¬sb=w.heap.size+1:=by omega
 have cY:=ai (((Below.refl w.heap.size w).alloc (Nat.le_refl _) (.cells #[I p] 3)).alloc (by simp) (.cells #[I n] 3))
 have BP:=ai (B.alloc (B.new w #[I p] 3) (.cells #[I n] 3))
 have BN:=ai (B.new (w.alloc (.cells #[I p] 3)) #[I n] 3)
 clear hM hD hok hf hlv hX hR hP hL Gk hfit hlc hfz hns c0 c2 hs
 go_enter Tryz.func196,Tryz.ntmps196
 go_wp2_with fail
 obtain⟨WA,gw⟩:=ex ((w.alloc (.cells #[I p] 3)).alloc (.cells #[I n] 3))
 have hsz1:(w.alloc (.cells #[I p] 3)).heap.size=w.heap.size+1:=by simp
 rw[hsz1] at BN
 rw[<- gw] at cY BP BN ⊢
 obtain⟨x,Ip⟩:=ex w.heap.size
 obtain⟨y,hye⟩:=ex (w.heap.size+1)
 rw[<- hye] at BN ach XE ⊢
 rw[<- Ip] at BP aci XF ⊢
 have HXE:=ai Ip
 have KO:=ai hye
 have HS:Hid (∀V,Below WA.heap.size WA V->V.cell? (Ad sb (k*3+1))=some (.slice aa na ca)/\V.cell? (Ad x 0)=some (I p)/\V.cell? (Ad y 0)=some (I n)):=fun V hb=>by
  have h1:=B.below BP.o hb (B.isLt BP.o)
  have h2:=B.below BN.o hb (B.isLt BN.o)
  exact⟨((cY.o.trans (hb.mono cY.o.size)).cell (p:=(Ad sb (k*3+1))) jN).trans c1,B.cell h1 0 rfl,B.cell h2 0 rfl⟩
 have jI:=ai (Below.refl WA.heap.size WA).drew
 have cw:=ai (HS.o _ jI.o)
 clear gw Ip hye m1 hsz1
 go_cut [10,11] (fun x10 x11 wx=>∃ra rc,x10=.slice ra X1.length rc/\x11=I X2/\wx.ownsRow w.heap.size 59 4 (.slice ra X1.length rc) X1.length (AM.aT X1)/\Below WA.heap.size WA wx)
 case first =>
  go_region_held3 (fun V=>V.cell? (Ad sb (k*3+1))=some (.slice aa na ca)/\V.cell? (Ad x 0)=some (I p)/\V.cell? (Ad y 0)=some (I n)) (first | exact Cg.o | exact cw.o)
   (first
    | (go_at_call 202;refine(Ck.o _ (cY.o.trans (jI.o.mono cY.o.size))).mono ?_;rintro e w1 ⟨r,rfl,hr,hb⟩;obtain⟨ra,rc,hre,_,_⟩:=aL (show w1.ownsRow _ 59 4 r _ _ from hr);subst hre;have I6:=ai (AW.Own.mono hr (cY.o.trans (jI.o.mono cY.o.size)).size);have qp:=ai (jI.o.trans (hb.mono jI.o.size));have Cg:=ai (HS.o _ qp.o);clear hr hb))
  all_goals
   go_wp2_with fail
   go_meet
   case rel=>exact⟨ra,rc,rfl,rfl,I6.o,qp.o⟩
 case rest =>
  obtain⟨ra,rc,rfl,rfl,hro,hbc⟩:=hcut
  have l9:=ai (cY.o.trans (hbc.mono cY.o.size))
  have Oz:=ai hro
  obtain⟨z0,z1,z2⟩:=HS.o _ hbc
  have rT:=ai z1
  have mQ:=ai z2
  clear hbc cw jI Ck HS hro BP BN c1 z1 z2
  by_cases IC:X2=0
  · subst IC
    have FY:=OD.o rfl
    have HR:Hid (R=(0,GM.gz m k { s with aw:=X1,aj:=GM.iF s.aj p n })):=by rw[jn.o,if_neg (fun g=>g rfl)];exact rfl
    clear jn OD
    have kK:k<L.length:=by rw[HM.o.len];exact Hg.o
    have hlo:=HM.o.base
    obtain⟨hA,hK⟩:=HM.o.TI (D':=fun b=>D b∨(w.heap.size<=b/\b<wc.heap.size)) kK l9.o (AW.Own.mono (show AW.Own w.heap.size wc _ _ from Oz.o) (by omega)) (fun b hb=>(Oz.o.lt b hb).1) (fun b hb=>.inl hb) (fun b g1 g2=>.inr ⟨g1,g2⟩)
    have F6:bu (L.set k { bu L k with va:=.slice ra X1.length rc }) k={ bu L k with va:=.slice ra X1.length rc }:=by rw[sN _ _ _ _ kK,if_pos rfl]
    have FU:FM.ax (m.ak.set k { FM.ax m.ak k with aw:=X1 }) k={ FM.ax m.ak k with aw:=X1 }:=gW _ _ _ Hg.o
    have s3:wc.frozen? (Ad sb (k*3+1))=false:=(l9.o.frozen (p:=(Ad sb (k*3+1))) jN).trans (yB.o _)
    have s4:wc.cell? (Ad sb (k*3+2))=some (.slice ap s.aj.length cp):=(l9.o.cell (p:=(Ad sb (k*3+2))) jN).trans nC.o
    have HA:=ai hA
    have I9:=ai hK
    obtain⟨W3,hW3⟩:=ex (wc.setCell (Ad sb (k*3+1)) (.slice ra X1.length rc))
    have Zb:Hid (W3.heap.size=wc.heap.size):=by show _=_;rw[hW3];simp
    rw[<- hW3] at HA I9
    have xG:k<(L.set k { bu L k with va:=.slice ra X1.length rc }).length:=by rw[List.length_set];exact kK
    have MX:(bu (L.set k { bu L k with va:=.slice ra X1.length rc }) k).vp=.slice ap s.aj.length cp:=by rw[F6,OL.o]
    have qz:=ai MX
    have UB:Kp (fun b=>b=sb) wc W3:=by rw[hW3];exact Kp.set _ _ _ _ rfl
    have y0:W3.cell? (Ad x 0)=some (I p):=UB.cell rT.o (fun e=>XF e.symm)
    have y1:W3.cell? (Ad y 0)=some (I n):=UB.cell mQ.o (fun e=>XE e.symm)
    have y2:W3.cell? (Ad sb (k*3+2))=some (.slice ap s.aj.length cp):=by
     have:=cZ bH dw vY (by
      have hr:=HA.o.row
      rw[show m.ak.length=(L.set k { bu L k with va:=.slice ra X1.length rc }).length by rw[List.length_set];exact HM.o.len.symm] at hr
      exact hr) k 2 xG (by omega)
     rw[this]
     show(bH (bu _ k))[2]?=_
     rw[F6,OL.o]
     rfl
    have XJ:W3.ownsRow lo 65 2 (.slice ap s.aj.length cp) s.aj.length (s.aj.flatMap aH):=by
     have:=(HA.o.each k xG).aj
     rw[qz.o,FU] at this
     simp only at this
     rw[<- Ll.o] at this
     exact this
    have hbl:∀b,blk (.slice ap s.aj.length cp) b->b<w.heap.size:=fun b hb=>(HM.o.lt k kK b (.inr (by rw[OL.o];exact hb))).2
    have HDE:Hid (Calls Tryz.prog 203 #[.slice ap s.aj.length cp,.func (.func 204) #[] #[.pointer (some (Ad x 0)),.pointer (some (Ad y 0))]] (wc.setCell (Ad sb (k*3+1)) (.slice ra X1.length rc)) fun e w'=>∃a6 c6,e=.returned (.slice a6 (GM.iF s.aj p n).length c6)/\w'.ownsRow lo 65 2 (.slice a6 (GM.iF s.aj p n).length c6) (GM.iF s.aj p n).length ((GM.iF s.aj p n).flatMap aH)/\Kp (blk (.slice ap s.aj.length cp)) W3 w'/\(∀b,blk (.slice a6 (GM.iF s.aj p n).length c6) b->blk (.slice ap s.aj.length cp) b∨W3.heap.size<=b)):=by
     show Calls _ _ _ _ _
     rw[<- hW3]
     refine(Gs lo s.aj p n _ x y W3 XJ y0 y1 (fun e=>by have:=hbl _ e;have:=HXE.o;omega) (fun e=>by have:=hbl _ e;have:=KO.o;omega) (by omega) (by omega) (by omega) (by omega)).mono ?_
     rintro e w' ⟨v',rfl,h1,h2,h3⟩
     obtain⟨a6,c6,rfl,_,_⟩:=aL h1
     exact⟨a6,c6,rfl,h1,h2,h3⟩
    have Cx:Hid (¬blk (.slice ap s.aj.length cp) sb):=by
     have:=(HA.o.n3 k xG sb rfl).2
     rw[qz.o] at this
     exact this
    have ZM:Hid (∀b,blk (.slice ap s.aj.length cp) b->D b):=fun b hb=>HM.o.d3 k kK b (.inr (by rw[OL.o];exact hb))
    have Ha:Hid (∀V,Kp (blk (.slice ap s.aj.length cp)) W3 V->V.frozen? (Ad sb (k*3+2))=false/\V.cell? (Ad sb (k*3+2))=some (.slice ap s.aj.length cp)):=fun V hV=>by
     refine⟨?_,hV.cell y2 Cx.o⟩
     have hr:=hV.row HA.o.row (fun b hb e=>(HA.o.n3 k xG b hb).2 (by rw[qz.o];exact e))
     have EB:m.ak.length=(L.set k { bu L k with va:=.slice ra X1.length rc }).length:=by rw[List.length_set];exact HM.o.len.symm
     rw[<- EB] at hr
     exact fZ hr _
    obtain⟨PL,QJ⟩:=ex s.aj.length
    obtain⟨IL,UU⟩:=ex ((GM.iF s.aj p n).length)
    rw[<- QJ] at HDE Cx ZM Ha qz s4 Dt
    rw[<- UU] at HDE
    have HIL:=ai UU
    clear hA hK y0 y1 y2 QJ UU hW3 XJ hbl F6 FU MX UB rT mQ nC
    go_wp2_with (go_at_call 203;refine HDE.o.mono ?_;rintro e w6 ⟨a6,c6,rfl,ho,tJ,hbl⟩;have Ph:=ai ho;have Cz:=ai tJ;have Pw:=ai hbl;obtain⟨x6,x7⟩:=Ha.o _ tJ;clear ho tJ hbl)
    obtain⟨hp1,hp2⟩:=HA.o.E5 (D':=fun b=>D b∨(w.heap.size<=b/\b<w6.heap.size)) xG (vp:=.slice a6 IL c6) (l:=GM.iF s.aj p n) (w1:=w6) (by rw[qz.o];exact Cz.o) (by rw[<- HIL.o];exact Ph.o) (by rw[qz.o];exact Pw.o) (fun b hb=>by
     have z1:=Cz.o.size
     have z2:=Zb.o
     rcases hb with g | g
     · exact .inl g
     · exact .inr ⟨g.1,by omega⟩) (fun b g1 g2=>.inr ⟨by have:=Zb.o;have:=l9.o.size;omega,g2⟩)
    have hsz:(w6.setCell (Ad sb (k*3+2)) (.slice a6 IL c6)).heap.size=w6.heap.size:=by simp
    rw[qz.o] at hp2
    have hkk:Kp D w (w6.setCell (Ad sb (k*3+2)) (.slice a6 IL c6)):=(I9.o.mono (D1:=D) (fun b _ e=>HM.o.d2 b (by rw[e];rfl))).trans hp2 (fun b _ e=>by
     rcases e with e | e
     · exact HM.o.d2 b (by rw[e];rfl)
     · exact ZM.o b e)
    have Uq:(m.ak.set k { FM.ax m.ak k with aw:=X1 }).set k { FM.ax (m.ak.set k { FM.ax m.ak k with aw:=X1 }) k with aj:=GM.iF s.aj p n }=m.ak.set k { s with aw:=X1,aj:=GM.iF s.aj p n }:=by
     rw[tT,gW _ _ _ Hg.o,Ll.o]
    rw[Uq] at hp1
    have:=HP.o _ ⟨_,by rw[HR.o];exact⟨⟨_,_,hp1⟩,fun b hb=>by
     have z1:=hkk.size
     have z2:=HD.o
     rw[hsz] at z1 ⊢
     rcases hb with g | g
     · have:=z2 b g;omega
     · omega⟩,hkk,fun b hb=>by
     rcases hb with g | g
     · exact .inl g
     · exact .inr g.1⟩
    rw[HR.o] at this
    exact this
  · have HR:Hid (R=(X2,m)):=by rw[jn.o,if_pos IC];exact rfl
    have hxi:(X2==0)=false:=by rw[beq_eq_false_iff_ne];exact IC
    clear jn IC OD
    go_wp2
    have:=HP.o _ ⟨D,by rw[HR.o];exact jS.below ⟨⟨_,L,HM.o⟩,HD.o⟩ l9.o,Kp.aF l9.o,fun b hb=>.inl hb⟩
    rw[HR.o] at this
    exact this
theorem Qg (lo mb:Nat):GW.gP lo mb (jS lo mb) GM.qy GM.aQ :=
 ⟨fun w w' D E s h hk hd=>jS.kp h hk hd,fun w D s h=>h.2,GM.Br,fun w D s fl k a n way h hok hf ha pZ QF hw=>MK w D s fl k a n way h hok hf ha pZ QF,fun w D s fl k a d h hok hf ha h1 h8=>Jv w D s fl k a d h hok hf ha h1 h8,fun w D s fl k p n q h hok hf hp hn=>Qk w D s fl k p n q h hok hf hp hn,fun w D s fl k p n h hok hf hp hn=>Jp w D s fl k p n h hok hf hp hn,fun w D s fl k p n q h hok hf hp hn=>C4 w D s fl k p n q h hok hf hp hn,fun w D s fl k h hok hf=>xM w D s fl k h hok hf,fun w D s fl k h hok hf=>NP w D s fl k h hok hf⟩
end GF
end Go.Proofs.YtkdigjpejnebkaaGreat
