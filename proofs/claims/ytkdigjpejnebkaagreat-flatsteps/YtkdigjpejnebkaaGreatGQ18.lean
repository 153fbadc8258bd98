import Derived.Test.YtkdigjpejnebkaaGreatGQ00
import Derived.Test.YtkdigjpejnebkaaGreatGQ17
set_option maxHeartbeats 20000000
set_option linter.unusedVariables false
set_option maxRecDepth 100000
set_option linter.unusedSimpArgs false
namespace Go.Proofs.YtkdigjpejnebkaaGreat
namespace GF
open Go.RowKit GK
open FW (ai aB)
theorem Fv (l:List FM.Pg) (j:Nat) (h:j<l.length):l[j]?=some (FM.aN l j):=by
 unfold FM.aN
 rw[List.getD_eq_getElem?_getD,List.getElem?_eq_getElem h]
 rfl
theorem MF:∀{ps:List FM.Pg} {p:Int} {i:Nat},FW.Low ps p i->i=GM.rh ps p
 | [],p,i,h=>by
  have:=h.le
  simp only[List.length_nil] at this
  show i=0
  omega
 | g::ps,p,i,h=>by
  unfold GM.rh
  rw[List.takeWhile_cons]
  cases i with
  | zero =>
   have:=h.high 0 (by omega) (by simp)
   have hd:(decide (g.page<p))=false:=decide_eq_false (by show ¬g.page<p;have e:(FM.aN (g::ps) 0).page=g.page:=rfl;omega)
   rw[hd]
   rfl
  | succ i =>
   have h0:=h.low 0 (by omega)
   have hd:(decide (g.page<p))=true:=decide_eq_true (by have e:(FM.aN (g::ps) 0).page=g.page:=rfl;omega)
   rw[hd]
   have hl:FW.Low ps p i:=⟨by have:=h.le;simp only[List.length_cons] at this;omega,fun j hj=>h.low (j+1) (by omega),fun j h1 h2=>h.high (j+1) (by omega) (by simp only[List.length_cons];omega)⟩
   have:=MF hl
   unfold GM.rh at this
   simp only[if_true,List.length_cons]
   omega
theorem Mem.Fb {lo mb:Nat} {w w1:World} {D D':Nat->Prop} {sl:Int} {sb n cap:Nat} {L:List Lc} {ss:List FM.Sp} (h:Mem lo mb w D sl (.slice (some (Ad sb 0)) n cap) L ss) {k:Nat} (hk:k<L.length) {vp:Value} {l:List FM.Pg}
  (iB:Kp (blk (bw L k).vp) w w1) (ho:w1.ownsRow lo 65 2 vp l.length (l.flatMap aH)) (hvp:∀b,blk vp b->blk (bw L k).vp b∨w.heap.size<=b) (hd:∀b,D b->D' b) (hd2:∀b,w.heap.size<=b->b<w1.heap.size->D' b) :
  Mem lo mb (w1.setCell (Ad sb (k*3+2)) vp) D' sl (.slice (some (Ad sb 0)) n cap) (L.set k { bw L k with vp:=vp }) (ss.set k { FM.ax ss k with aj:=l })/\Kp (fun b=>b=sb∨blk (bw L k).vp b) w (w1.setCell (Ad sb (k*3+2)) vp):=by
 have hbs:blk (.slice (some (Ad sb 0)) n cap) sb:=rfl
 have QQ:Kp (fun b=>b=sb) w1 (w1.setCell (Ad sb (k*3+2)) vp):=Kp.set _ _ _ _ rfl
 have hkA:Kp (fun b=>b=sb∨blk (bw L k).vp b) w (w1.setCell (Ad sb (k*3+2)) vp):=(iB.mono (fun _ _ g=>Or.inr g)).trans QQ (fun _ _ g=>.inl g)
 have Uv:n=L.length:=by
  obtain⟨ao,c,e,_,_⟩:=aJ h.row
  injection e
 have hsz:(w1.setCell (Ad sb (k*3+2)) vp).heap.size=w1.heap.size:=by simp
 have aeC:=(h.row.lt sb hbs).2
 refine⟨h.turn hk (hkA.mono (fun b _ e=>e.elim (fun g=>.inl (g ▸ hbs)) .inr)) ?_ ?_ (fun b g=>.inl g) hvp (fun b g1 g2=>?_) hd (fun b g1 g2=>hd2 b g1 (by rw[hsz] at g2;exact g2)),hkA⟩
 · have hr:=iB.row h.row (fun b hb e=>(h.n3 k hk b hb).2 e)
   rw[<- Uv] at hr
   rw[<- nu L k hk] at hr
   have:=bZ hr (k*3+2) vp
   rw[<- dg L k hk (bw L k) { bw L k with vp:=vp } 2 (by omega) vp rfl] at this
   rw[<- Uv]
   exact this
 · have hsp:=h.each k hk
   refine⟨hsp.live,QQ.row (iB.row hsp.aw (fun b hb e=>(h.n4 k k hk hk b e).1 hb)) (fun b hb' e=>?_),QQ.row ho (fun b hb' e=>?_)⟩
   · exact(h.n3 k hk sb hbs).1 (e ▸ hb')
   · rcases hvp b hb' with g | g
     · exact(h.n3 k hk sb hbs).2 (e ▸ g)
     · omega
 · rcases hvp b g1 with g | g
   · exact(h.n4 k k hk hk b g).1 g2
   · have:=(h.lt k hk b (.inl g2)).2
     omega
theorem Qt {lo mb:Nat} (w:World) (D:Nat->Prop) (m:GM.Mf) (fl:List Bool) (k:Nat) (p n q:Int) (h:iV lo mb w D m) (hok:GM.qy m fl) (hf:fl.getD k false=true) (hp:M.dD p) (hn:M.dD n) :
  Calls Tryz.prog 193 #[.pointer (some (Ad mb 0)),I (k:Int),I p,I n,I q] w (GW.Out (iV lo mb) w D (I (GM.mapM m k p n q).1) (GM.mapM m k p n q).2):=by
 obtain⟨⟨v,L,hM⟩,hD⟩:=h
 obtain⟨hk,hlv⟩:=hok.live hf
 have hL:=GM.fX (hok.each k hk) hlv
 have h4:=hok.few.2
 have hsl:=hok.slots
 have Gd:=hok.room
 have oJ:=(FW.mz m.ak m.ak.length).1
 have hfits:=IM hok
 have OJ:=ai (fun (g:(AW.dF (FM.ax m.ak k).aw p n q).2=0)=>(GM.ll hL.check g).2.1)
 have hrise:=hL.nO
 have Dw:(FM.ax m.ak k).aj.length<=70000:=by have:=GM.dU hL;have:=FW.gf (FM.ax m.ak k).aw;omega
 obtain⟨sb,cap,aa,na,ca,ap,cp,hv,jQ,hlc,c0,c1,c2,Gs,Lm,_,hfz,_⟩:=hM.space k hk
 obtain⟨oG,cap',hv2,YF⟩:=hM.has
 rw[hv] at hv2
 injection hv2 with e1 e2 e3
 subst e1 e3
 subst hv
 have hfit:=AM.eJ _ hL.check
 have Cm:=ai (AW.Il (FM.ax m.ak k).aw (.slice aa na ca) p n q w Gs hfit hp hn)
 have Ch:Hid (∀V,Below w.heap.size w V->Calls Tryz.prog 74 #[.slice (some (Ad sb 0)) m.ak.length cap] V fun e w'=>e=.returned (I (FM.room m.ak))/\Below V.heap.size V w'):=fun V hV=>FW.ju m.ak (some (Ad sb 0)) cap V (YF.below hV) hfits (by omega)
 obtain⟨m0,m1⟩:=B.c2 hM.head
 have hmb:=B.isLt hM.head
 have jc:(k:Int)<(m.ak.length:Int):=by omega
 have jr:Hid (GM.mapM m k p n q=if ¬(AW.dF (FM.ax m.ak k).aw p n q).2=0 then ((AW.dF (FM.ax m.ak k).aw p n q).2,m) else if m.slots<FM.room m.ak+n then (8,m) else (0,GM.gB m k { FM.ax m.ak k with aw:=(AW.dF (FM.ax m.ak k).aw p n q).1,aj:=GM.iZ (FM.ax m.ak k).aj p n.toNat })):=rfl
 obtain⟨X,hX⟩:=ex (AW.dF (FM.ax m.ak k).aw p n q)
 rw[<- hX] at Cm jr OJ
 have HM:=ai hM
 have HD:=ai hD
 have yz:=ai hfz
 have zw:=ai hk
 have OT:=ai hlc
 obtain⟨R,hR⟩:=ex (GM.mapM m k p n q)
 rw[<- hR] at jr ⊢
 obtain⟨P,hP⟩:=ex (GW.Out (iV lo mb) w D (I R.1) R.2)
 have HP:Hid (∀w',(∃D',iV lo mb w' D' R.2/\Kp D w w'/\∀b,D' b->D b∨w.heap.size<=b)->P (.returned (I R.1)) w'):=fun w' ⟨D',h1,h2,h3⟩=>by rw[hP];exact⟨D',rfl,h1,h2,h3⟩
 rw[<- hP]
 obtain⟨X1,X2⟩:=X
 simp only at Cm jr OJ
 obtain⟨ns,hns⟩:=ex m.ak.length
 rw[<- hns] at m1 jc hk h4 Ch
 have qQ:=ai hns
 obtain⟨rm,Gc⟩:=ex (FM.room m.ak)
 rw[<- Gc] at Ch jr Gd
 have abP:0<=rm:=by rw[Gc];exact oJ
 obtain⟨sl,Du⟩:=ex m.slots
 rw[<- Du] at jr m0 hsl Gd
 have CC:=ai Du
 obtain⟨s,hs⟩:=ex (FM.ax m.ak k)
 rw[<- hs] at jr c2 OT hrise Dw
 have Lu:=ai hs
 have RZ:=ai hrise
 clear hM hD hok hf hlv hX hR hP hL Gs Lm hfit hlc hfz hns c0 hs Gc Du oJ YF e2 hrise hfits
 by_cases IG:X2=0
 · subst IG
   have Ge:=OJ.o rfl
   have oo:Hid (R=if sl<rm+n then (8,m) else (0,GM.gB m k { s with aw:=X1,aj:=GM.iZ s.aj p n.toNat })):=by rw[jr.o,if_neg (fun g=>g rfl)];exact rfl
   clear jr OJ
   have hwr:IntKind.i64.wrap (rm+n)=rm+n:=IntWalk.i64_in _ (by omega)
   go_enter Tryz.func193,Tryz.ntmps193
   go_wp2_with (go_at_call 121;refine Cm.o.mono ?_;rintro e w1 ⟨r,rfl,hr,hb⟩;obtain⟨ra,rc,hre,_,_⟩:=aJ (show w1.ownsRow w.heap.size 59 4 r _ _ from hr);subst hre;have Je:=ai hr;have bh:=ai hb;clear hr hb)
   have HS:Hid (∀V,Below w1.heap.size w1 V->V.cell? (Ad mb 0)=some (I sl)/\V.cell? (Ad mb 1)=some (.slice (some (Ad sb 0)) ns cap)):=fun V hb=>by
    have h2:=(HM.o.below (bh.o.trans (hb.mono bh.o.size))).head
    exact⟨by rw[CC.o];exact B.cell h2 0 rfl,by rw[qQ.o];exact B.cell h2 1 rfl⟩
   have jL:=ai (Below.refl w1.heap.size w1).drew
   have cB:=ai (HS.o _ jL.o)
   clear m0 m1
   go_cut [37] (fun x wx=>x=.bool (decide (sl<rm+n))/\Below w1.heap.size w1 wx)
   case first =>
    go_region_held3 (fun V=>V.cell? (Ad mb 0)=some (I sl)/\V.cell? (Ad mb 1)=some (.slice (some (Ad sb 0)) ns cap)) (first | exact qm.o | exact cB.o)
     (first
      | (go_at_call 74;refine(Ch.o _ (bh.o.trans (jL.o.mono bh.o.size))).mono ?_;rintro e w2 ⟨rfl,hb2⟩;have iw:=ai (jL.o.trans (hb2.mono jL.o.size));have qm:=ai (HS.o _ iw.o);clear hb2))
    all_goals
     go_wp2_with fail
     go_meet
     case rel=>exact⟨by first | rfl | simp,iw.o⟩
   case rest =>
    obtain⟨rfl,hbc⟩:=hcut
    have kO:=ai (bh.o.trans (hbc.mono bh.o.size))
    have OD:=ai (Kp.row (Kp.aF (D:=fun _=>False) hbc) (show w1.ownsRow w.heap.size 59 4 _ _ _ from Je.o) (fun _ _ g=>g))
    have HSC:=HS.o _ hbc
    obtain⟨s0,s1⟩:=HSC
    clear hbc cB jL Ch Je bh HS Cm
    by_cases hroom:sl<rm+n
    · have HR:Hid (R=(8,m)):=by rw[oo.o,if_pos hroom];exact rfl
      clear oo
      go_wp2
      have:=HP.o _ ⟨D,by rw[HR.o];exact iV.below ⟨⟨_,L,HM.o⟩,HD.o⟩ kO.o,Kp.aF kO.o,fun b hb=>.inl hb⟩
      rw[HR.o] at this
      exact this
    · have HR:Hid (R=(0,GM.gB m k { s with aw:=X1,aj:=GM.iZ s.aj p n.toNat })):=by rw[oo.o,if_neg hroom];exact rfl
      clear oo
      have kK:k<L.length:=by rw[HM.o.len];exact zw.o
      have hlo:=HM.o.base
      obtain⟨hA,hK⟩:=HM.o.TG (D':=fun b=>D b∨(w.heap.size<=b/\b<wc.heap.size)) kK kO.o (AW.Own.mono (show AW.Own w.heap.size wc _ _ from OD.o) (by omega)) (fun b hb=>(OD.o.lt b hb).1) (fun b hb=>.inl hb) (fun b g1 g2=>.inr ⟨g1,g2⟩)
      have QQ:k<(m.ak.set k { FM.ax m.ak k with aw:=X1 }).length:=by rw[List.length_set];exact zw.o
      have Gh:bw (L.set k { bw L k with va:=.slice ra X1.length rc }) k={ bw L k with va:=.slice ra X1.length rc }:=by rw[sQ _ _ _ _ kK,if_pos rfl]
      have Ga:FM.ax (m.ak.set k { FM.ax m.ak k with aw:=X1 }) k={ FM.ax m.ak k with aw:=X1 }:=gW _ _ _ zw.o
      obtain⟨sb',cap',aa',na',ca',ap',cp',hv',_,Ya,_,y1,y2,_,Ko,_,hfz',_⟩:=hA.space k QQ
      rw[Gh,Ga,OT.o] at Ya
      injection Ya with g1 g2 g3
      injection g3 with g4 g5 g6
      subst g4 g6
      injection hv' with v1 v2 v3
      injection v1 with v1
      injection v1 with v1
      subst v1
      rw[Ga] at Ko y2
      simp only at Ko y2
      rw[<- Lu.o] at Ko y2
      have s2:wc.cell? (Ad sb (k*3+1))=some (.slice aa na ca):=(kO.o.cell (p:=(Ad sb (k*3+1))) jQ).trans c1
      have s3:wc.frozen? (Ad sb (k*3+1))=false:=(kO.o.frozen (p:=(Ad sb (k*3+1))) jQ).trans (yz.o _)
      have s4:wc.cell? (Ad sb (k*3+2))=some (.slice ap s.aj.length cp):=(kO.o.cell (p:=(Ad sb (k*3+2))) jQ).trans c2
      have HA:=ai hA
      have Jj:=ai hK
      obtain⟨W3,hW3⟩:=ex (wc.setCell (Ad sb (k*3+1)) (.slice ra X1.length rc))
      have Y6:Hid (W3.heap.size=wc.heap.size):=by show _=_;rw[hW3];simp
      have U7:=ai hW3
      rw[<- hW3] at HA Jj Ko y2 hfz'
      have yu:Hid (∀V,Below W3.heap.size W3 V->V.cell? (Ad sb (k*3+2))=some (.slice ap s.aj.length cp)):=fun V hV=>(hV.cell (p:=(Ad sb (k*3+2))) (World.block_lt_of_cell? _ _ y2)).trans y2
      have Eo:Hid (Calls Tryz.prog 60 #[.slice ap s.aj.length cp,I p] (wc.setCell (Ad sb (k*3+1)) (.slice ra X1.length rc)) fun e w'=>∃i,FW.Low s.aj p i/\e=.returned (.tuple #[I (i:Int),.bool (FW.foundAt s.aj p i)])/\Below W3.heap.size W3 w'):=by
       show Calls _ _ _ _ _
       rw[<- hW3]
       exact FW.zN _ _ _ _ _ Ko RZ.o (by omega)
      have HZE:Hid (∀V,Calls Tryz.prog 200 #[I p,I n] V fun e w'=>∃za zc,e=.returned (.slice za n.toNat zc)/\w'.ownsRow V.heap.size 65 2 (.slice za n.toNat zc) n.toNat ((GM.gS p n.toNat).flatMap aH)/\Below V.heap.size V w'):=fun V=>by
       have:=pT p n.toNat V (by omega) (by omega) (by omega)
       rw[show((n.toNat:Nat):Int)=n by omega] at this
       refine this.mono ?_
       rintro e w' ⟨v,rfl,h1,h2⟩
       obtain⟨za,zc,rfl,_,_⟩:=aJ h1
       exact⟨za,zc,rfl,h1,h2⟩
      have xE:k<(L.set k { bw L k with va:=.slice ra X1.length rc }).length:=by rw[List.length_set];exact kK
      have MT:(bw (L.set k { bw L k with va:=.slice ra X1.length rc }) k).vp=.slice ap s.aj.length cp:=by rw[Gh,OT.o]
      have qz:=ai MT
      have tO:Hid (∀V,Below W3.heap.size W3 V->V.ownsRow lo 65 2 (.slice ap s.aj.length cp) s.aj.length (s.aj.flatMap aH)):=fun V hV=>by
       have:=((HA.o.below hV).each k xE).aj
       rw[qz.o,Ga] at this
       simp only at this
       rw[<- Lu.o] at this
       exact this
      have ahy:lo<=W3.heap.size:=by have:=HA.o.base;have:=B.isLt HA.o.head;omega
      have nC:Hid (∀V i za zc H0,Below W3.heap.size W3 V->FW.Low s.aj p i->W3.heap.size<=H0->V.ownsRow H0 65 2 (.slice za n.toNat zc) n.toNat ((GM.gS p n.toNat).flatMap aH)->Calls Tryz.prog 199 #[.slice ap s.aj.length cp,I (i:Int),.slice za n.toNat zc] V fun e w'=>∃a6 c6,e=.returned (.slice a6 (GM.iZ s.aj p n.toNat).length c6)/\w'.ownsRow lo 65 2 (.slice a6 (GM.iZ s.aj p n.toNat).length c6) (GM.iZ s.aj p n.toNat).length ((GM.iZ s.aj p n.toNat).flatMap aH)/\Kp (blk (.slice ap s.aj.length cp)) V w'/\(∀b,blk (.slice a6 (GM.iZ s.aj p n.toNat).length c6) b->blk (.slice ap s.aj.length cp) b∨V.heap.size<=b)):=fun V i za zc H0 hV y7 hH hz=>by
       have hr:=tO.o V hV
       have hrl:=tO.o W3 (Below.refl _ _)
       have hvs:=hV.size
       have hil:=y7.le
       have hie:=MF y7
       subst hie
       have:=F6 lo s.aj (GM.gS p n.toNat) (.slice ap s.aj.length cp) (.slice za n.toNat zc) H0 (GM.rh s.aj p) V hr (by rw[qT];exact hz) (by omega) (fun b h1 h2=>by
        have g1:=(hz.lt b h1).1
        have g2:=(hrl.lt b h2).2
        omega) hil (by rw[qT];omega) (by omega) (by rw[qT];omega)
       refine this.mono ?_
       rintro e w' ⟨v',rfl,h1,h2,h3⟩
       change w'.ownsRow lo _ 2 v' (GM.iZ s.aj p n.toNat).length ((GM.iZ s.aj p n.toNat).flatMap aH) at h1
       obtain⟨a6,c6,rfl,_,_⟩:=aJ h1
       exact⟨a6,c6,rfl,h1,h2,h3⟩
      have Jh:Hid (¬blk (.slice ap s.aj.length cp) sb):=by
       have:=(HA.o.n3 k xE sb rfl).2
       rw[qz.o] at this
       exact this
      have adt:Hid (¬blk (.slice ap s.aj.length cp) mb):=by
       have:=(HA.o.n2 k xE).2
       rw[qz.o] at this
       exact this
      have ZA:Hid (∀b,blk (.slice ap s.aj.length cp) b->D b):=fun b hb=>HM.o.d3 k kK b (.inr (by rw[OT.o];exact hb))
      have Hi:Hid (∀V,Kp (blk (.slice ap s.aj.length cp)) W3 V->V.frozen? (Ad sb (k*3+2))=false/\V.cell? (Ad sb (k*3+2))=some (.slice ap s.aj.length cp)):=fun V hV=>by
       refine⟨?_,hV.cell (yu.o _ (Below.refl _ _)) Jh.o⟩
       have hr:=hV.row HA.o.row (fun b hb e=>(HA.o.n3 k xE b hb).2 (by rw[qz.o];exact e))
       have EG:m.ak.length=(L.set k { bw L k with va:=.slice ra X1.length rc }).length:=by rw[List.length_set];exact HM.o.len.symm
       rw[<- EG] at hr
       exact gi hr _
      obtain⟨PL,QS⟩:=ex s.aj.length
      obtain⟨IL,UN⟩:=ex ((GM.iZ s.aj p n.toNat).length)
      rw[<- QS] at Eo nC Jh adt ZA Hi yu qz s4 Dw
      rw[<- UN] at nC
      have HIL:=ai UN
      clear hA hK Ko y1 y2 hfz' QS UN hW3 tO c2 c1 Gh Ga MT s0 s1
      go_wp2_with (go_at_call 60;refine Eo.o.mono ?_;rintro e w4 ⟨i,y7,rfl,hb4⟩;have HLW:=ai y7;have Ay:=ai hb4;have x4:=yu.o _ hb4;clear y7 hb4)
      have Vt:=ai Ay.o.drew
      go_region_law (first
       | (go_simp;go_at_call 200;refine(HZE.o _).mono ?_;rintro e w5 ⟨za,zc,rfl,hz,kV⟩;have HZ5:=ai hz;have Tv:=ai (Vt.o.trans (kV.mono Vt.o.size));have x5:=yu.o _ Tv.o;clear hz kV;go_simp)
       | (go_simp;go_at_call 199;refine(nC.o _ _ _ _ _ Tv.o HLW.o Vt.o.size HZ5.o).mono ?_;rintro e w6 ⟨a6,c6,rfl,ho,tK,hbl⟩;have Py:=ai ho;have Ax:=ai ((Kp.aF Tv.o).trans tK (fun _ _ g=>g));have HBL:=ai (fun b hb=>(hbl b hb).imp id (fun g=>Nat.le_trans Tv.o.size g));obtain⟨x6,x7⟩:=Hi.o _ Ax.o;clear ho tK hbl;go_simp))
      all_goals
       go_wp2
       obtain⟨hp1,hp2⟩:=HA.o.Fb (D':=fun b=>D b∨(w.heap.size<=b/\b<w6.heap.size)) xE (vp:=.slice a6 IL c6) (l:=GM.iZ s.aj p n.toNat) (w1:=w6) (by rw[qz.o];exact Ax.o) (by rw[<- HIL.o];exact Py.o) (by rw[qz.o];exact HBL.o) (fun b hb=>by
        have z1:=Ax.o.size
        have z2:=Y6.o
        rcases hb with g | g
        · exact .inl g
        · exact .inr ⟨g.1,by omega⟩) (fun b g1 g2=>.inr ⟨by have:=Y6.o;have:=kO.o.size;omega,g2⟩)
       have hsz:(w6.setCell (Ad sb (k*3+2)) (.slice a6 IL c6)).heap.size=w6.heap.size:=by simp
       rw[qz.o] at hp2
       have hkk:Kp D w (w6.setCell (Ad sb (k*3+2)) (.slice a6 IL c6)):=(Jj.o.mono (D1:=D) (fun b _ e=>HM.o.d2 b (by rw[e];rfl))).trans hp2 (fun b _ e=>by
        rcases e with e | e
        · exact HM.o.d2 b (by rw[e];rfl)
        · exact ZA.o b e)
       have Um:(m.ak.set k { FM.ax m.ak k with aw:=X1 }).set k { FM.ax (m.ak.set k { FM.ax m.ak k with aw:=X1 }) k with aj:=GM.iZ s.aj p n.toNat }=m.ak.set k { s with aw:=X1,aj:=GM.iZ s.aj p n.toNat }:=by
        rw[tU,gW _ _ _ zw.o,Lu.o]
       rw[Um] at hp1
       have:=HP.o _ ⟨_,by rw[HR.o];exact⟨⟨_,_,hp1⟩,fun b hb=>by
        have z1:=hkk.size
        have z2:=HD.o
        rw[hsz] at z1 ⊢
        rcases hb with g | g
        · have:=z2 b g;omega
        · omega⟩,hkk,fun b hb=>by
        rcases hb with g | g
        · exact .inl g
        · exact .inr g.1⟩
       rw[HR.o] at this
       exact this
 · have HR:Hid (R=(X2,m)):=by rw[jr.o,if_pos IG];exact rfl
   have Z6:(X2==0)=false:=by rw[beq_eq_false_iff_ne];exact IG
   clear jr IG OJ
   go_enter Tryz.func193,Tryz.ntmps193
   go_wp2_with (go_at_call 121;refine Cm.o.mono ?_;rintro e w1 ⟨r,rfl,hr,hb⟩;obtain⟨ra,rc,hre,_,_⟩:=aJ (show w1.ownsRow w.heap.size 59 4 r _ _ from hr);subst hre;have bh:=ai hb;clear hr hb)
   have:=HP.o w1 ⟨D,by rw[HR.o];exact iV.below ⟨⟨_,L,HM.o⟩,HD.o⟩ bh.o,Kp.aF bh.o,fun b hb=>.inl hb⟩
   rw[HR.o] at this
   exact this
def Bv (p n:Int) (g:FM.Pg):Bool:=decide (p<=g.page/\g.page<p+n)
theorem nI (p n:Int) (g:FM.Pg) (x y:Nat) (w:World) (hx:w.cell? (Ad x 0)=some (I p)) (hy:w.cell? (Ad y 0)=some (I n)) (hp:0<=p) (hn:0<=n) (Ge:p+n<=1000) :
  Calls Tryz.prog 204 #[.agg #[I g.page,.string g.data],.pointer (some (Ad x 0)),.pointer (some (Ad y 0))] w fun e w'=>e=.returned (.bool (Bv p n g))/\Below w.heap.size w w':=by
 have hxl:x<w.heap.size:=World.block_lt_of_cell? w _ hx
 have hyl:y<w.heap.size:=World.block_lt_of_cell? w _ hy
 have hxn:¬x=w.heap.size:=by omega
 have hyn:¬y=w.heap.size:=by omega
 obtain⟨pg,d⟩:=g
 have hw:IntKind.i64.wrap (p+n)=p+n:=IntWalk.i64_in _ (by omega)
 have HB:=ai ((Below.refl w.heap.size w).alloc (Nat.le_refl _) (.cells #[I pg,.string d] 65))
 unfold Bv
 simp only
 by_cases c1:p<=pg
 · by_cases c2:pg<p+n
   · rw[decide_eq_true (show p<=pg/\pg<p+n from⟨c1,c2⟩)]
     go_enter Tryz.func204,Tryz.ntmps204
     go_wp2
     go_ret
     exact⟨rfl,HB.o⟩
   · rw[decide_eq_false (show ¬(p<=pg/\pg<p+n) from fun e=>c2 e.2)]
     go_enter Tryz.func204,Tryz.ntmps204
     go_wp2
     go_ret
     exact⟨rfl,HB.o⟩
 · rw[decide_eq_false (show ¬(p<=pg/\pg<p+n) from fun e=>c1 e.1)]
   go_enter Tryz.func204,Tryz.ntmps204
   go_wp2
   go_ret
   exact⟨rfl,HB.o⟩
theorem yX (lo:Nat) (ps:List FM.Pg) (p n:Int) (ao:Option Addr) (cap x y:Nat) (w:World) (h:w.ownsRow lo 65 2 (.slice ao ps.length cap) ps.length (ps.flatMap aH)) (hx:w.cell? (Ad x 0)=some (I p)) (hy:w.cell? (Ad y 0)=some (I n)) (hp:0<=p) (hn:0<=n) (Ge:p+n<=1000) (hl:ps.length<=100000) :
  Calls Tryz.prog 210 #[.slice ao ps.length cap,.func (.func 204) #[] #[.pointer (some (Ad x 0)),.pointer (some (Ad y 0))]] w fun e w' =>
   Below w.heap.size w w'/\((e=.returned (I (-1))/\∀j,j<ps.length->Bv p n (FM.aN ps j)=false)∨∃i:Nat,i<ps.length/\e=.returned (I (i:Int))/\Bv p n (FM.aN ps i)=true/\∀j,j<i->Bv p n (FM.aN ps j)=false):=by
 have HH:=ai h
 have HC:Hid (∀V g,Below w.heap.size w V->Calls Tryz.prog 204 #[.agg #[I g.page,.string g.data],.pointer (some (Ad x 0)),.pointer (some (Ad y 0))] V fun e w'=>e=.returned (.bool (Bv p n g))/\Below V.heap.size V w'):=fun V g hV=>nI p n g x y V ((hV.cell (p:=(Ad x 0)) (World.block_lt_of_cell? w _ hx)).trans hx) ((hV.cell (p:=(Ad y 0)) (World.block_lt_of_cell? w _ hy)).trans hy) hp hn Ge
 clear h hx hy
 go_enter Tryz.func210,Tryz.ntmps210
 go_wp2
 go_loopw [8] (fun iv wr=>∃k:Nat,k<=ps.length/\iv=I (k:Int)/\(∀j,j<k->Bv p n (FM.aN ps j)=false)/\Below w.heap.size w wr) (fun iv _=>ps.length-(intOf iv).toNat)
 case atStart=>exact⟨0,by omega,rfl,fun j hj=>by omega,Below.refl _ _⟩
 case round =>
  obtain⟨k,hk,rfl,hno,hb⟩:=hrel
  have mh:=ai hno
  have HB:=ai hb
  clear hno
  by_cases hlt:k<ps.length
  · have jc:(k:Int)<(ps.length:Int):=by omega
    obtain⟨oG,cap',e0,_,hg⟩:=aJ HH.o
    injection e0 with ea _ ec
    obtain⟨g,hgo,_,_⟩:=hg (by omega)
    have hao:ao=some (Ad g 0):=ea.trans hgo
    clear ea ec hg hgo
    subst hao
    have hrow:=Kp.row (Kp.aF (D:=fun _=>False) hb) HH.o (fun _ _ q=>q)
    have c0:wr.cell? (Ad g (k*2))=some (I (FM.aN ps k).page):=cZ aH bl FM.yC hrow k 0 hlt (by omega)
    have c1:wr.cell? (Ad g (k*2+1))=some (.string (FM.aN ps k).data):=cZ aH bl FM.yC hrow k 1 hlt (by omega)
    have mi:=ai (HC.o wr (FM.aN ps k) hb)
    obtain⟨G,hG⟩:=ex (Bv p n (FM.aN ps k))
    rw[<- hG] at mi
    have HG:=ai hG
    obtain⟨pg,mD⟩:=ex (FM.aN ps k)
    rw[<- mD] at c0 c1 mi
    clear hG mD hb hrow
    cases G with
    | true =>
     go_wp2_with (go_at_call 204;refine mi.o.mono ?_;rintro e w1 ⟨rfl,hb1⟩;have bh:=ai (HB.o.trans (hb1.mono HB.o.size));clear hb1)
     go_ret
     exact⟨bh.o,.inr ⟨k,hlt,rfl,HG.o.symm,mh.o⟩⟩
    | false =>
     go_wp2_with (go_at_call 204;refine mi.o.mono ?_;rintro e w1 ⟨rfl,hb1⟩;have bh:=ai (HB.o.trans (hb1.mono HB.o.size));clear hb1)
     go_roundw
     case rel=>exact⟨k+1,by omega,by go_num,fun j hj=>by
      by_cases q:j=k
      · subst q;exact HG.o.symm
      · exact mh.o j (by omega),bh.o⟩
     case measure=>simp[intOf];omega
  · obtain rfl:k=ps.length:=by omega
    clear hb
    go_wp2
    go_ret
    exact⟨HB.o,.inl ⟨rfl,mh.o⟩⟩
structure H5 (p n:Int) (ps q:List FM.Pg) (i j:Nat):Prop where
 len:q.length=ps.length
 lt:i<j
 le:j<=ps.length
 front:q.take i=(ps.take j).filter (fun g=>!Bv p n g)
 back:q.drop j=ps.drop j
theorem mZ (l:List FM.Pg) (j:Nat) (h:j<l.length):l.take (j+1)=l.take j++[FM.aN l j]:=by
 rw[List.take_add_one,Fv l j h]
 rfl
theorem H5.start {p n:Int} {ps:List FM.Pg} {i:Nat} (hi:i<ps.length) (hg:Bv p n (FM.aN ps i)=true) (hno:∀j,j<i->Bv p n (FM.aN ps j)=false):H5 p n ps ps i (i+1):=by
 refine⟨rfl,by omega,hi,?_,rfl⟩
 have:∀k,k<=i->(ps.take k).filter (fun g=>!Bv p n g)=ps.take k:=fun k=>by
  induction k with
  | zero=>intro _;simp
  | succ k ih =>
   intro hk
   rw[mZ ps k (by omega),List.filter_append,ih (by omega)]
   simp[hno k (by omega)]
 rw[mZ ps i hi,List.filter_append,this i (Nat.le_refl _)]
 simp[hg]
theorem H5.at {p n:Int} {ps q:List FM.Pg} {i j:Nat} (h:H5 p n ps q i j) (hj:j<ps.length):FM.aN q j=FM.aN ps j:=by
 have e:(q.drop j)[0]?=(ps.drop j)[0]?:=by rw[h.back]
 rw[List.getElem?_drop,List.getElem?_drop,Nat.add_zero,Fv q j (by rw[h.len];exact hj),Fv ps j hj] at e
 injection e
theorem H5.skip {p n:Int} {ps q:List FM.Pg} {i j:Nat} (h:H5 p n ps q i j) (hj:j<ps.length) (hg:Bv p n (FM.aN ps j)=true):H5 p n ps q i (j+1):=by
 refine⟨h.len,by have:=h.lt;omega,hj,?_,?_⟩
 · rw[mZ ps j hj,List.filter_append,h.front]
   simp[hg]
 · rw[<- List.drop_drop,<- List.drop_drop,h.back]
theorem H5.keep {p n:Int} {ps q:List FM.Pg} {i j:Nat} (h:H5 p n ps q i j) (hj:j<ps.length) (hg:Bv p n (FM.aN ps j)=false):H5 p n ps (q.set i (FM.aN ps j)) (i+1) (j+1):=by
 have hlt:=h.lt
 have EG:=h.len
 refine⟨by rw[List.length_set];exact h.len,by omega,hj,?_,?_⟩
 · rw[mZ ps j hj,List.filter_append,<- h.front,mZ _ i (by rw[List.length_set];omega)]
   have e1:(q.set i (FM.aN ps j)).take i=q.take i:=by
    rw[List.take_set,List.set_eq_of_length_le (by rw[List.length_take];omega)]
   have e2:FM.aN (q.set i (FM.aN ps j)) i=FM.aN ps j:=by
    unfold FM.aN
    rw[List.getD_eq_getElem?_getD,List.getElem?_set_self (by omega)]
    rfl
   rw[e1,e2]
   simp[hg]
 · rw[List.drop_set_of_lt (by omega),<- List.drop_drop,<- List.drop_drop,h.back]
theorem H5.done {p n:Int} {ps q:List FM.Pg} {i:Nat} (h:H5 p n ps q i ps.length):q.take i=GM.iH ps p n:=by
 rw[h.front,List.take_length]
 rfl
theorem JU (q:List FM.Pg) (i:Nat) (g:FM.Pg) (hi:i<q.length):(q.set i g).flatMap aH=((q.flatMap aH).set (i*2) (I g.page)).set (i*2+1) (.string g.data):=by
 have h1:=gX aH 2 bl FM.yC ⟨g.page,(FM.aN q i).data⟩ 0 (I g.page) (by omega) q i hi rfl
 have h2:=gX aH 2 bl FM.yC g 1 (.string g.data) (by omega) (q.set i ⟨g.page,(FM.aN q i).data⟩) i (by rw[List.length_set];exact hi) (by
  rw[List.getD_eq_getElem?_getD,List.getElem?_set_self hi];rfl)
 rw[List.set_set,h1] at h2
 exact h2
theorem Mr {ps:List FM.Pg} {p n:Int} (h:∀j,j<ps.length->Bv p n (FM.aN ps j)=false):GM.iH ps p n=ps:=by
 unfold GM.iH
 rw[List.filter_eq_self]
 intro g hg
 obtain⟨k,hk,rfl⟩:=FM.ie hg
 have:=h k hk
 unfold Bv at this
 simp[this]
theorem GC (lo:Nat) (ps:List FM.Pg) (p n:Int) (vp:Value) (x y:Nat) (w:World) (h:w.ownsRow lo 65 2 vp ps.length (ps.flatMap aH)) (hx:w.cell? (Ad x 0)=some (I p)) (hy:w.cell? (Ad y 0)=some (I n)) (hnx:¬blk vp x) (hny:¬blk vp y) (hp:0<=p) (hn:0<=n) (Ge:p+n<=1000) (hl:ps.length<=100000) :
  Calls Tryz.prog 203 #[vp,.func (.func 204) #[] #[.pointer (some (Ad x 0)),.pointer (some (Ad y 0))]] w (jK lo vp (GM.iH ps p n) w):=by
 obtain⟨ao,cap,rfl,hcm,hgo⟩:=aJ h
 have HIX:=ai (yX lo ps p n ao cap x y w h hx hy hp hn Ge hl)
 have HH:=ai h
 have HX:=ai hx
 have HY:=ai hy
 have l7:=ai hnx
 have HNY:=ai hny
 obtain⟨P,hP⟩:=ex (jK lo (.slice ao ps.length cap) (GM.iH ps p n) w)
 have HP:Hid (∀e w',jK lo (.slice ao ps.length cap) (GM.iH ps p n) w e w'->P e w'):=fun e w' h=>by rw[hP];exact h
 rw[<- hP]
 have HGO:=ai hgo
 clear h hx hy hP hnx hny hgo
 by_cases hall:∀j,j<ps.length->Bv p n (FM.aN ps j)=false
 · have Tx:Hid (Calls Tryz.prog 210 #[.slice ao ps.length cap,.func (.func 204) #[] #[.pointer (some (Ad x 0)),.pointer (some (Ad y 0))]] w fun e w'=>e=.returned (I (-1))/\Below w.heap.size w w'):=HIX.o.mono fun e w' ⟨hb,hh⟩=>by
    rcases hh with⟨rfl,_⟩ | ⟨i,hi,_,hg,_⟩
    · exact⟨rfl,hb⟩
    · rw[hall i hi] at hg;cases hg
   have nE:=ai (Mr hall)
   clear hall HIX
   go_enter Tryz.func203,Tryz.ntmps203
   go_wp2_with (go_at_call 210;refine Tx.o.mono ?_;rintro e w1 ⟨rfl,hb1⟩;have bh:=ai hb1;clear hb1)
   exact HP.o _ _ ⟨_,rfl,by rw[nE.o];exact Kp.row (Kp.aF (D:=fun _=>False) bh.o) HH.o (fun _ _ g=>g),Kp.aF bh.o,fun b hb=>.inl hb⟩
 · have Tx:Hid (Calls Tryz.prog 210 #[.slice ao ps.length cap,.func (.func 204) #[] #[.pointer (some (Ad x 0)),.pointer (some (Ad y 0))]] w fun e w'=>∃i:Nat,e=.returned (I (i:Int))/\H5 p n ps ps i (i+1)/\Below w.heap.size w w'):=HIX.o.mono fun e w' ⟨hb,hh⟩=>by
    rcases hh with⟨_,g⟩ | ⟨i,hi,rfl,hg,hno⟩
    · exact(hall g).elim
    · exact⟨i,rfl,H5.start hi hg hno,hb⟩
   have hpos:0<ps.length:=by
    rcases Nat.eq_zero_or_pos ps.length with g | g
    · exact(hall (fun j hj=>by omega)).elim
    · exact g
   obtain⟨pb,rfl,hlo,hpb⟩:=HGO.o hpos
   clear hall HIX HGO
   go_enter Tryz.func203,Tryz.ntmps203
   go_wp2_with (go_at_call 210;refine Tx.o.mono ?_;rintro e w1 ⟨i1,rfl,UA,hb1⟩;have bh:=ai hb1;have Ty:=ai UA;have hi1:=UA.le;have hi2:((i1:Int)==-1)=false:=(by rw[beq_eq_false_iff_ne];omega);clear hb1 UA)
   go_loopw [5,6] (fun iv jv wr=>∃(i j:Nat) (q:List FM.Pg),iv=I (i:Int)/\jv=I (j:Int)/\H5 p n ps q i j/\wr.ownsRow lo 65 2 (.slice (some (Ad pb 0)) ps.length cap) ps.length (q.flatMap aH)/\Kp (fun b=>b=pb) w wr) (fun _ jv _=>ps.length-(intOf jv).toNat)
   case atStart=>exact⟨i1,i1+1,ps,rfl,by go_num,Ty.o,Kp.row (Kp.aF (D:=fun _=>False) bh.o) HH.o (fun _ _ g=>g),Kp.aF bh.o⟩
   case round =>
    obtain⟨i,j,q,rfl,rfl,hf,hrow,iB⟩:=hrel
    have hij:=hf.lt
    have hjl:=hf.le
    have HF:=ai hf
    have HR:=ai hrow
    have HK:=ai iB
    clear Ty bh hi1
    by_cases hlt:j<ps.length
    · have hji:(j:Int)<(ps.length:Int):=by omega
      have hii:(i:Int)<(ps.length:Int):=by omega
      have hql:=hf.len
      have yD:∀V:World,V.ownsRow lo 65 2 (.slice (some (Ad pb 0)) ps.length cap) ps.length (q.flatMap aH)->∀k,k<ps.length->V.cell? (Ad pb (k*2))=some (I (FM.aN q k).page)/\V.cell? (Ad pb (k*2+1))=some (.string (FM.aN q k).data):=fun V hV k hk=>by
       rw[<- hql] at hV
       exact⟨cZ aH bl FM.yC hV k 0 (by omega) (by omega),cZ aH bl FM.yC hV k 1 (by omega) (by omega)⟩
      have tO:=ai yD
      obtain⟨c0,c1⟩:=yD wr hrow j hlt
      rw[hf.at hlt] at c0 c1
      have ahm:pb<wr.heap.size:=(hrow.lt pb rfl).2
      have ahn:¬pb=wr.heap.size:=by omega
      have HA:=ai ((Below.refl wr.heap.size wr).alloc (Nat.le_refl _) (.cells #[I (FM.aN ps j).page,.string (FM.aN ps j).data] 65))
      have mi:Hid (Calls Tryz.prog 204 #[.agg #[I (FM.aN ps j).page,.string (FM.aN ps j).data],.pointer (some (Ad x 0)),.pointer (some (Ad y 0))] (wr.alloc (.cells #[I (FM.aN ps j).page,.string (FM.aN ps j).data] 65)) fun e w'=>e=.returned (.bool (Bv p n (FM.aN ps j)))/\Below (wr.alloc (.cells #[I (FM.aN ps j).page,.string (FM.aN ps j).data] 65)).heap.size (wr.alloc (.cells #[I (FM.aN ps j).page,.string (FM.aN ps j).data] 65)) w'):=by
       have hkk:=iB.trans (Kp.aF (D:=fun b=>b=pb) HA.o) (fun _ _ g=>g)
       exact nI p n (FM.aN ps j) x y _ (hkk.cell HX.o (fun e=>l7.o (by subst e;rfl))) (hkk.cell HY.o (fun e=>HNY.o (by subst e;rfl))) hp hn Ge
      have BX:=ai (B.new wr #[I (FM.aN ps j).page,.string (FM.aN ps j).data] 65)
      have Va:=ai (hf.skip hlt)
      have HKE:=ai (hf.keep hlt)
      obtain⟨G,hG⟩:=ex (Bv p n (FM.aN ps j))
      rw[<- hG] at mi Va HKE
      obtain⟨g,hg⟩:=ex (FM.aN ps j)
      rw[<- hg] at c0 c1 mi HKE HA BX
      clear hG hg hrow iB yD hf
      cases G with
      | true =>
       go_wp2_with (go_at_call 204;refine mi.o.mono ?_;rintro e w2 ⟨rfl,hb2⟩;have bY:=ai (HA.o.trans (hb2.mono HA.o.size));clear hb2)
       go_roundw
       case rel=>exact⟨i,j+1,q,rfl,by go_num,Va.o (by trivial),Kp.row (Kp.aF (D:=fun _=>False) bY.o) HR.o (fun _ _ g=>g),HK.o.trans (Kp.aF (D:=fun b=>b=pb) bY.o) (fun _ _ g=>g)⟩
       case measure=>simp[intOf];omega
      | false =>
       go_wp2_with (go_at_call 204;refine mi.o.mono ?_;rintro e w2 ⟨rfl,hb2⟩;have bY:=ai (HA.o.trans (hb2.mono HA.o.size));have mg:=ai (Kp.row (Kp.aF (D:=fun _=>False) bY.o) HR.o (fun _ _ g=>g));have hc2:=tO.o _ mg.o i (by omega);obtain⟨d0,d1⟩:=hc2;have d2:=gi mg.o (i*2);have d3:=gi mg.o (i*2+1);have hx2:=B.below BX.o hb2 (B.isLt BX.o);obtain⟨d4,d5⟩:=B.c2 hx2;clear hb2 hx2)
       go_roundw
       case rel =>
        refine⟨i+1,j+1,q.set i g,by go_num,by go_num,HKE.o (by trivial),?_,?_⟩
        · rw[JU q i g (by omega)]
          exact bZ (bZ mg.o (i*2) _) (i*2+1) _
        · exact((HK.o.trans (Kp.aF (D:=fun b=>b=pb) bY.o) (fun _ _ g=>g)).trans (Kp.set (fun b=>b=pb) w2 (Ad pb (i*2)) _ rfl) (fun _ _ g=>g)).trans (Kp.set (fun b=>b=pb) _ (Ad pb (i*2+1)) _ rfl) (fun _ _ g=>g)
       case measure=>simp[intOf];omega
    · obtain rfl:j=ps.length:=by omega
      have hql:=hf.len
      have hdn:=hf.done
      obtain⟨cur,hcz,Uz,hcs,hct⟩:∃cur:Array Value,cur.size=cap*2/\wr.heap[pb]?=some (.cells cur 65 (0,0))/\cap<=maxLen/\cur.toList.take (ps.length*2)=q.flatMap aH:=by
       rcases hrow.2 with⟨h0,_⟩ | ⟨g,cap',cur,hv,hb,hg,h1,h2,h3,h4⟩
       · omega
       · injection hv with e1 e2 e3
         injection e1 with e1
         injection e1 with e1
         subst e1 e3
         exact⟨cur,h3,hg,h2,h4⟩
      have hcl:cur.toList.length=cap*2:=hcz
      have Yk:∀ty c,(Builtin.clear_ #[51] ty #[.slice (some (Ad pb (i*2))) (ps.length-i) c]).run Tryz.prog wr=.ok (.tuple #[]) (wr.setRow pb (splice cur.toList (i*2) (fe [I 0,.string ⟨#[]⟩] (ps.length-i))).toArray):=fun ty c=>wI (P:=Tryz.prog) wr 51 ty 65 (.agg #[I 0,.string ⟨#[]⟩]) Tryz.underlying51 Ww (by decide) (by decide) pb (i*2) (ps.length-i) c cur.toList 65 (by simpa using Uz) (by
       have e:(Value.cells (.agg #[I 0,.string ⟨#[]⟩])).size=2:=rfl
       rw[e,hcl];omega)
      obtain⟨S,hS⟩:=ex (splice cur.toList (i*2) (fe [I 0,.string ⟨#[]⟩] (ps.length-i)))
      rw[<- hS] at Yk
      have hSl:S.length=cap*2:=by
       rw[hS,length_splice _ _ _ (by rw[fG,hcl];simp only[List.length_cons,List.length_nil];omega),hcl]
      have hSt:S.take (i*2)=(GM.iH ps p n).flatMap aH:=by
       rw[<- hdn,<- tR,<- hct,List.take_take,Nat.min_eq_left (by omega),hS]
       unfold splice
       exact take_left' _ _ _ (by rw[List.length_take,hcl];omega)
      have hol:(GM.iH ps p n).length=i:=by rw[<- hdn,List.length_take];omega
      have hg2:(wr.setRow pb S.toArray).heap[pb]?=some (.cells S.toArray 65 (0,0)):=setRow_heap wr pb _ _ _ _ Uz
      have dx:Hid (P (.returned (.slice (some (Ad pb 0)) i cap)) (wr.setRow pb S.toArray)):=HP.o _ _ ⟨_,rfl,by
       rw[hol,<- hSt]
       exact⟨by rw[List.length_take,hSl];omega,.inr ⟨pb,cap,S.toArray,rfl,hlo,hg2,by omega,hcs,by simpa using hSl,by simp⟩⟩,(iB.mono (fun b _ e=>by subst e;rfl)).trans (tV wr pb S.toArray) (fun b _ e=>by subst e;rfl),fun b hb=>.inl hb⟩
      have hic:¬cap=i:=by omega
      have hin:(i:Int)<=(ps.length:Int):=by omega
      have ach:i<=ps.length:=by omega
      have ahI:i<=cap:=by omega
      have Yn:cap<=9223372036854775807:=by unfold maxLen at hcs;omega
      clear hf hrow iB HF HR HK Uz hct hdn hS hSl hSt hol hg2 hql hcz hcl Tx HP HH HX HY l7 HNY
      go_wp2_with (at_builtin;refine Jt _ rfl _ 51 rfl _ rfl (Yk _ _) ?_)
      exact dx.o
theorem Jy {lo mb:Nat} (w:World) (D:Nat->Prop) (m:GM.Mf) (fl:List Bool) (k:Nat) (p n:Int) (h:iV lo mb w D m) (hok:GM.qy m fl) (hf:fl.getD k false=true) (hp:M.dD p) (hn:M.dD n) :
  Calls Tryz.prog 196 #[.pointer (some (Ad mb 0)),I (k:Int),I p,I n] w (GW.Out (iV lo mb) w D (I (GM.gU m k p n).1) (GM.gU m k p n).2):=by
 obtain⟨⟨v,L,hM⟩,hD⟩:=h
 obtain⟨hk,hlv⟩:=hok.live hf
 have hL:=GM.fX (hok.each k hk) hlv
 have h4:=hok.few.2
 have OJ:=ai (fun (g:(AW.bP (FM.ax m.ak k).aw p n).2=0)=>(GM.o7 hL.check g).2.1)
 have Dw:(FM.ax m.ak k).aj.length<=70000:=by have:=GM.dU hL;have:=FW.gf (FM.ax m.ak k).aw;omega
 obtain⟨sb,cap,aa,na,ca,ap,cp,hv,jQ,hlc,c0,c1,c2,Gs,_,_,hfz,_⟩:=hM.space k hk
 subst hv
 have hfit:=AM.eJ _ hL.check
 have Cm:Hid (∀V,Below w.heap.size w V->Calls Tryz.prog 202 #[.slice aa na ca,I p,I n] V fun e w'=>∃r,e=.returned (.tuple #[r,I (AW.bP (FM.ax m.ak k).aw p n).2])/\AW.Own V.heap.size w' r (AW.bP (FM.ax m.ak k).aw p n).1/\Below V.heap.size V w'):=fun V hV=>AW.Jw (FM.ax m.ak k).aw (.slice aa na ca) p n V (Gs.below hV) hfit hp hn
 have m1:w.cell? (Ad mb 1)=some (.slice (some (Ad sb 0)) m.ak.length cap):=B.cell hM.head 1 rfl
 have hmb:=B.isLt hM.head
 have jc:(k:Int)<(m.ak.length:Int):=by omega
 have jr:Hid (GM.gU m k p n=if ¬(AW.bP (FM.ax m.ak k).aw p n).2=0 then ((AW.bP (FM.ax m.ak k).aw p n).2,m) else (0,GM.gB m k { FM.ax m.ak k with aw:=(AW.bP (FM.ax m.ak k).aw p n).1,aj:=GM.iH (FM.ax m.ak k).aj p n })):=rfl
 obtain⟨X,hX⟩:=ex (AW.bP (FM.ax m.ak k).aw p n)
 rw[<- hX] at Cm jr OJ
 have HM:=ai hM
 have HD:=ai hD
 have yz:=ai hfz
 have zw:=ai hk
 have OT:=ai hlc
 obtain⟨R,hR⟩:=ex (GM.gU m k p n)
 rw[<- hR] at jr ⊢
 obtain⟨P,hP⟩:=ex (GW.Out (iV lo mb) w D (I R.1) R.2)
 have HP:Hid (∀w',(∃D',iV lo mb w' D' R.2/\Kp D w w'/\∀b,D' b->D b∨w.heap.size<=b)->P (.returned (I R.1)) w'):=fun w' ⟨D',h1,h2,h3⟩=>by rw[hP];exact⟨D',rfl,h1,h2,h3⟩
 rw[<- hP]
 obtain⟨X1,X2⟩:=X
 simp only at Cm jr OJ
 obtain⟨ns,hns⟩:=ex m.ak.length
 rw[<- hns] at m1 jc hk h4
 have qQ:=ai hns
 obtain⟨s,hs⟩:=ex (FM.ax m.ak k)
 rw[<- hs] at jr c2 OT Dw
 have Lu:=ai hs
 have mi:=ai c2
 have ab7:¬mb=w.heap.size:=by omega
 have ab6:¬mb=w.heap.size+1:=by omega
 have Xw:¬sb=w.heap.size:=by omega
 have Xv:¬sb=w.heap.size+1:=by omega
 have cL:=ai (((Below.refl w.heap.size w).alloc (Nat.le_refl _) (.cells #[I p] 3)).alloc (by simp) (.cells #[I n] 3))
 have BP:=ai (B.alloc (B.new w #[I p] 3) (.cells #[I n] 3))
 have BN:=ai (B.new (w.alloc (.cells #[I p] 3)) #[I n] 3)
 clear hM hD hok hf hlv hX hR hP hL Gs hfit hlc hfz hns c0 c2 hs
 go_enter Tryz.func196,Tryz.ntmps196
 go_wp2_with fail
 obtain⟨WA,fH⟩:=ex ((w.alloc (.cells #[I p] 3)).alloc (.cells #[I n] 3))
 have hsz1:(w.alloc (.cells #[I p] 3)).heap.size=w.heap.size+1:=by simp
 rw[hsz1] at BN
 rw[<- fH] at cL BP BN ⊢
 obtain⟨x,Cx⟩:=ex w.heap.size
 obtain⟨y,hye⟩:=ex (w.heap.size+1)
 rw[<- hye] at BN ab6 Xv ⊢
 rw[<- Cx] at BP ab7 Xw ⊢
 have Y3:=ai Cx
 have KW:=ai hye
 have HS:Hid (∀V,Below WA.heap.size WA V->V.cell? (Ad sb (k*3+1))=some (.slice aa na ca)/\V.cell? (Ad x 0)=some (I p)/\V.cell? (Ad y 0)=some (I n)):=fun V hb=>by
  have h1:=B.below BP.o hb (B.isLt BP.o)
  have h2:=B.below BN.o hb (B.isLt BN.o)
  exact⟨((cL.o.trans (hb.mono cL.o.size)).cell (p:=(Ad sb (k*3+1))) jQ).trans c1,B.cell h1 0 rfl,B.cell h2 0 rfl⟩
 have jL:=ai (Below.refl WA.heap.size WA).drew
 have cB:=ai (HS.o _ jL.o)
 clear fH Cx hye m1 hsz1
 go_cut [10,11] (fun x10 x11 wx=>∃ra rc,x10=.slice ra X1.length rc/\x11=I X2/\wx.ownsRow w.heap.size 59 4 (.slice ra X1.length rc) X1.length (AM.aT X1)/\Below WA.heap.size WA wx)
 case first =>
  go_region_held3 (fun V=>V.cell? (Ad sb (k*3+1))=some (.slice aa na ca)/\V.cell? (Ad x 0)=some (I p)/\V.cell? (Ad y 0)=some (I n)) (first | exact Cj.o | exact cB.o)
   (first
    | (go_at_call 202;refine(Cm.o _ (cL.o.trans (jL.o.mono cL.o.size))).mono ?_;rintro e w1 ⟨r,rfl,hr,hb⟩;obtain⟨ra,rc,hre,_,_⟩:=aJ (show w1.ownsRow _ 59 4 r _ _ from hr);subst hre;have Je:=ai (AW.Own.mono hr (cL.o.trans (jL.o.mono cL.o.size)).size);have qp:=ai (jL.o.trans (hb.mono jL.o.size));have Cj:=ai (HS.o _ qp.o);clear hr hb))
  all_goals
   go_wp2_with fail
   go_meet
   case rel=>exact⟨ra,rc,rfl,rfl,Je.o,qp.o⟩
 case rest =>
  obtain⟨ra,rc,rfl,rfl,hro,hbc⟩:=hcut
  have kO:=ai (cL.o.trans (hbc.mono cL.o.size))
  have OD:=ai hro
  obtain⟨z0,z1,z2⟩:=HS.o _ hbc
  have rR:=ai z1
  have mU:=ai z2
  clear hbc cB jL Cm HS hro BP BN c1 z1 z2
  by_cases IG:X2=0
  · subst IG
    have Ge:=OJ.o rfl
    have HR:Hid (R=(0,GM.gB m k { s with aw:=X1,aj:=GM.iH s.aj p n })):=by rw[jr.o,if_neg (fun g=>g rfl)];exact rfl
    clear jr OJ
    have kK:k<L.length:=by rw[HM.o.len];exact zw.o
    have hlo:=HM.o.base
    obtain⟨hA,hK⟩:=HM.o.TG (D':=fun b=>D b∨(w.heap.size<=b/\b<wc.heap.size)) kK kO.o (AW.Own.mono (show AW.Own w.heap.size wc _ _ from OD.o) (by omega)) (fun b hb=>(OD.o.lt b hb).1) (fun b hb=>.inl hb) (fun b g1 g2=>.inr ⟨g1,g2⟩)
    have Gh:bw (L.set k { bw L k with va:=.slice ra X1.length rc }) k={ bw L k with va:=.slice ra X1.length rc }:=by rw[sQ _ _ _ _ kK,if_pos rfl]
    have Ga:FM.ax (m.ak.set k { FM.ax m.ak k with aw:=X1 }) k={ FM.ax m.ak k with aw:=X1 }:=gW _ _ _ zw.o
    have s3:wc.frozen? (Ad sb (k*3+1))=false:=(kO.o.frozen (p:=(Ad sb (k*3+1))) jQ).trans (yz.o _)
    have s4:wc.cell? (Ad sb (k*3+2))=some (.slice ap s.aj.length cp):=(kO.o.cell (p:=(Ad sb (k*3+2))) jQ).trans mi.o
    have HA:=ai hA
    have Jj:=ai hK
    obtain⟨W3,hW3⟩:=ex (wc.setCell (Ad sb (k*3+1)) (.slice ra X1.length rc))
    have Y6:Hid (W3.heap.size=wc.heap.size):=by show _=_;rw[hW3];simp
    rw[<- hW3] at HA Jj
    have xE:k<(L.set k { bw L k with va:=.slice ra X1.length rc }).length:=by rw[List.length_set];exact kK
    have MT:(bw (L.set k { bw L k with va:=.slice ra X1.length rc }) k).vp=.slice ap s.aj.length cp:=by rw[Gh,OT.o]
    have qz:=ai MT
    have Ux:Kp (fun b=>b=sb) wc W3:=by rw[hW3];exact Kp.set _ _ _ _ rfl
    have y0:W3.cell? (Ad x 0)=some (I p):=Ux.cell rR.o (fun e=>Xw e.symm)
    have y1:W3.cell? (Ad y 0)=some (I n):=Ux.cell mU.o (fun e=>Xv e.symm)
    have y2:W3.cell? (Ad sb (k*3+2))=some (.slice ap s.aj.length cp):=by
     have:=cZ bH dw vV (by
      have hr:=HA.o.row
      rw[show m.ak.length=(L.set k { bw L k with va:=.slice ra X1.length rc }).length by rw[List.length_set];exact HM.o.len.symm] at hr
      exact hr) k 2 xE (by omega)
     rw[this]
     show(bH (bw _ k))[2]?=_
     rw[Gh,OT.o]
     rfl
    have XB:W3.ownsRow lo 65 2 (.slice ap s.aj.length cp) s.aj.length (s.aj.flatMap aH):=by
     have:=(HA.o.each k xE).aj
     rw[qz.o,Ga] at this
     simp only at this
     rw[<- Lu.o] at this
     exact this
    have hbl:∀b,blk (.slice ap s.aj.length cp) b->b<w.heap.size:=fun b hb=>(HM.o.lt k kK b (.inr (by rw[OT.o];exact hb))).2
    have HDE:Hid (Calls Tryz.prog 203 #[.slice ap s.aj.length cp,.func (.func 204) #[] #[.pointer (some (Ad x 0)),.pointer (some (Ad y 0))]] (wc.setCell (Ad sb (k*3+1)) (.slice ra X1.length rc)) fun e w'=>∃a6 c6,e=.returned (.slice a6 (GM.iH s.aj p n).length c6)/\w'.ownsRow lo 65 2 (.slice a6 (GM.iH s.aj p n).length c6) (GM.iH s.aj p n).length ((GM.iH s.aj p n).flatMap aH)/\Kp (blk (.slice ap s.aj.length cp)) W3 w'/\(∀b,blk (.slice a6 (GM.iH s.aj p n).length c6) b->blk (.slice ap s.aj.length cp) b∨W3.heap.size<=b)):=by
     show Calls _ _ _ _ _
     rw[<- hW3]
     refine(GC lo s.aj p n _ x y W3 XB y0 y1 (fun e=>by have:=hbl _ e;have:=Y3.o;omega) (fun e=>by have:=hbl _ e;have:=KW.o;omega) (by omega) (by omega) (by omega) (by omega)).mono ?_
     rintro e w' ⟨v',rfl,h1,h2,h3⟩
     obtain⟨a6,c6,rfl,_,_⟩:=aJ h1
     exact⟨a6,c6,rfl,h1,h2,h3⟩
    have Jh:Hid (¬blk (.slice ap s.aj.length cp) sb):=by
     have:=(HA.o.n3 k xE sb rfl).2
     rw[qz.o] at this
     exact this
    have ZA:Hid (∀b,blk (.slice ap s.aj.length cp) b->D b):=fun b hb=>HM.o.d3 k kK b (.inr (by rw[OT.o];exact hb))
    have Hi:Hid (∀V,Kp (blk (.slice ap s.aj.length cp)) W3 V->V.frozen? (Ad sb (k*3+2))=false/\V.cell? (Ad sb (k*3+2))=some (.slice ap s.aj.length cp)):=fun V hV=>by
     refine⟨?_,hV.cell y2 Jh.o⟩
     have hr:=hV.row HA.o.row (fun b hb e=>(HA.o.n3 k xE b hb).2 (by rw[qz.o];exact e))
     have EG:m.ak.length=(L.set k { bw L k with va:=.slice ra X1.length rc }).length:=by rw[List.length_set];exact HM.o.len.symm
     rw[<- EG] at hr
     exact gi hr _
    obtain⟨PL,QS⟩:=ex s.aj.length
    obtain⟨IL,UN⟩:=ex ((GM.iH s.aj p n).length)
    rw[<- QS] at HDE Jh ZA Hi qz s4 Dw
    rw[<- UN] at HDE
    have HIL:=ai UN
    clear hA hK y0 y1 y2 QS UN hW3 XB hbl Gh Ga MT Ux rR mU mi
    go_wp2_with (go_at_call 203;refine HDE.o.mono ?_;rintro e w6 ⟨a6,c6,rfl,ho,tK,hbl⟩;have Py:=ai ho;have Ax:=ai tK;have HBL:=ai hbl;obtain⟨x6,x7⟩:=Hi.o _ tK;clear ho tK hbl)
    obtain⟨hp1,hp2⟩:=HA.o.Fb (D':=fun b=>D b∨(w.heap.size<=b/\b<w6.heap.size)) xE (vp:=.slice a6 IL c6) (l:=GM.iH s.aj p n) (w1:=w6) (by rw[qz.o];exact Ax.o) (by rw[<- HIL.o];exact Py.o) (by rw[qz.o];exact HBL.o) (fun b hb=>by
     have z1:=Ax.o.size
     have z2:=Y6.o
     rcases hb with g | g
     · exact .inl g
     · exact .inr ⟨g.1,by omega⟩) (fun b g1 g2=>.inr ⟨by have:=Y6.o;have:=kO.o.size;omega,g2⟩)
    have hsz:(w6.setCell (Ad sb (k*3+2)) (.slice a6 IL c6)).heap.size=w6.heap.size:=by simp
    rw[qz.o] at hp2
    have hkk:Kp D w (w6.setCell (Ad sb (k*3+2)) (.slice a6 IL c6)):=(Jj.o.mono (D1:=D) (fun b _ e=>HM.o.d2 b (by rw[e];rfl))).trans hp2 (fun b _ e=>by
     rcases e with e | e
     · exact HM.o.d2 b (by rw[e];rfl)
     · exact ZA.o b e)
    have Um:(m.ak.set k { FM.ax m.ak k with aw:=X1 }).set k { FM.ax (m.ak.set k { FM.ax m.ak k with aw:=X1 }) k with aj:=GM.iH s.aj p n }=m.ak.set k { s with aw:=X1,aj:=GM.iH s.aj p n }:=by
     rw[tU,gW _ _ _ zw.o,Lu.o]
    rw[Um] at hp1
    have:=HP.o _ ⟨_,by rw[HR.o];exact⟨⟨_,_,hp1⟩,fun b hb=>by
     have z1:=hkk.size
     have z2:=HD.o
     rw[hsz] at z1 ⊢
     rcases hb with g | g
     · have:=z2 b g;omega
     · omega⟩,hkk,fun b hb=>by
     rcases hb with g | g
     · exact .inl g
     · exact .inr g.1⟩
    rw[HR.o] at this
    exact this
  · have HR:Hid (R=(X2,m)):=by rw[jr.o,if_pos IG];exact rfl
    have Z6:(X2==0)=false:=by rw[beq_eq_false_iff_ne];exact IG
    clear jr IG OJ
    go_wp2
    have:=HP.o _ ⟨D,by rw[HR.o];exact iV.below ⟨⟨_,L,HM.o⟩,HD.o⟩ kO.o,Kp.aF kO.o,fun b hb=>.inl hb⟩
    rw[HR.o] at this
    exact this
theorem FO (lo mb:Nat):GW.gQ lo mb (iV lo mb) GM.qy GM.aQ :=
 ⟨fun w w' D E s h hk hd=>iV.kp h hk hd,fun w D s h=>h.2,GM.IK,fun w D s fl k a n way h hok hf ha rZ QO hw=>MH w D s fl k a n way h hok hf ha rZ QO,fun w D s fl k a d h hok hf ha h1 h8=>JG w D s fl k a d h hok hf ha h1 h8,fun w D s fl k p n q h hok hf hp hn=>Qt w D s fl k p n q h hok hf hp hn,fun w D s fl k p n h hok hf hp hn=>Jy w D s fl k p n h hok hf hp hn,fun w D s fl k p n q h hok hf hp hn=>C7 w D s fl k p n q h hok hf hp hn,fun w D s fl k h hok hf=>xK w D s fl k h hok hf,fun w D s fl k h hok hf=>NK w D s fl k h hok hf⟩
end GF
end Go.Proofs.YtkdigjpejnebkaaGreat
