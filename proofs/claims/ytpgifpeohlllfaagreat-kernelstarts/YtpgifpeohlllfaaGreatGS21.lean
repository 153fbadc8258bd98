import Derived.Test.YtpgifpeohlllfaaGreatGS00
import Derived.Test.YtpgifpeohlllfaaGreatGS20
import Derived.Deep.LoopGhost
set_option maxHeartbeats 20000000
set_option linter.unusedVariables false
set_option maxRecDepth 100000
set_option linter.unusedSimpArgs false
namespace Go.Proofs.YtpgifpeohlllfaaGreat
namespace KX
open Go.RowKit GK KO
open FW (ai aB)
open KW (bE bD aK aZ fu cI aJ dN bT)
open KS (Lc bJ oY dC blk cU)
def mR (f:KM.Sp->KM.Sp) (l:List KM.Sp) (n:Nat):List KM.Sp:=(l.take n).map f++l.drop n
theorem lZ (f:KM.Sp->KM.Sp) (l:List KM.Sp) (n:Nat):(mR f l n).length=l.length:=by
 unfold mR
 rw[List.length_append,List.length_map,List.length_take,List.length_drop];omega
theorem tu (f:KM.Sp->KM.Sp) (l:List KM.Sp) (n m:Nat) (hm:m<l.length):KM.au (mR f l n) m=if m<n then f (KM.au l m) else KM.au l m:=by
 unfold mR KM.au
 rw[List.getD_eq_getElem?_getD,List.getD_eq_getElem?_getD,List.getElem?_eq_getElem hm]
 by_cases c:m<n
 · rw[if_pos c,List.getElem?_append_left (by rw[List.length_map,List.length_take];omega),List.getElem?_map,List.getElem?_take,if_pos c,List.getElem?_eq_getElem hm]
   rfl
 · rw[if_neg c,List.getElem?_append_right (by rw[List.length_map,List.length_take];omega),List.length_map,List.length_take,List.getElem?_drop,show n+(m-min n l.length)=m by omega,List.getElem?_eq_getElem hm]
theorem A6 (f:KM.Sp->KM.Sp) (l:List KM.Sp) (n:Nat) (hn:n<l.length):(mR f l n).set n (f (KM.au l n))=mR f l (n+1):=by
 refine KM.jV KM.Fw _ _ (by rw[List.length_set,lZ,lZ]) (fun m hm=>?_)
 rw[List.length_set,lZ] at hm
 have h1:=KM.gL (mR f l n) n m (f (KM.au l n)) (by rw[lZ];exact hn)
 have h2:=tu f l n m hm
 have h3:=tu f l (n+1) m hm
 unfold KM.au at h1 h2 h3 ⊢
 rw[h1,h3,h2]
 by_cases c:n=m
 · subst c
   rw[if_pos rfl,if_pos (by omega)]
 · rw[if_neg c]
   by_cases d:m<n
   · rw[if_pos d,if_pos (by omega)]
   · rw[if_neg d,if_neg (by omega)]
theorem Kg (f:KM.Sp->KM.Sp) (l:List KM.Sp):mR f l l.length=l.map f:=by
 unfold mR
 rw[List.take_length,List.drop_length,List.append_nil]
def di (k:KM.Kn) (i s n:Nat):KM.Kn:={ k with frames:=k.frames.set i KM.kY,slots:=k.slots.set s ⟨(KM.aI k.frames i).data,(KM.aI k.frames i).refs⟩,aj:=mR (KM.ie i s) k.aj n }
theorem Cj {lo mb:Nat} {tt:TypeId} {X:List Value} (k:KM.Kn) (S:St) (w:World) (i:Nat) (h:Km lo mb tt X w S k) (hR:KM.aU k) (hi:i<k.frames.length) (hr0:(KM.aI k.frames i).refs≠0) :
  Calls Tryz.prog 190 #[.pointer (some (Ad mb 0)),I (i:Int)] w (gh lo mb tt X w S (.tuple #[]) (KM.cT k i)):=by
 have hcc:=hR.c
 obtain⟨fb,cF,A⟩:=h.toKr.fr (by omega)
 obtain⟨W,hW⟩:=ex (((w.alloc (.cells #[I (i:Int)] 3)).alloc (.cells #[.string (KM.aI k.frames i).data,I (KM.aI k.frames i).refs,.bool (KM.aI k.frames i).b9,.bool (KM.aI k.frames i).seen] 40)).drew)
 have bW:Hid (Below w.heap.size w W):=by rw[hW];exact(((Below.refl w.heap.size w).alloc (Nat.le_refl _) _).alloc (by simp) _).drew
 have X0:Hid (W.heap[w.heap.size]?=some (.cells #[I (i:Int)] 3 (0,0))):=by rw[hW];exact B.alloc (B.new w _ _) _
 have F0:Hid (W.heap[w.heap.size+1]?=some (.cells #[.string (KM.aI k.frames i).data,I (KM.aI k.frames i).refs,.bool (KM.aI k.frames i).b9,.bool (KM.aI k.frames i).seen] 40 (0,0))):=by
  have:=B.new (w.alloc (.cells #[I (i:Int)] 3)) #[.string (KM.aI k.frames i).data,I (KM.aI k.frames i).refs,.bool (KM.aI k.frames i).b9,.bool (KM.aI k.frames i).seen] 40
  rw[World.size_alloc] at this
  rw[hW];exact this
 have SY:=ai (h.below bW.o)
 have ZZ:Hid (Ch S w S W):=Ch.below bW.o
 have n0:S.lab w.heap.size=.no:=h.toKr.new (Nat.le_refl _)
 have n1:S.lab (w.heap.size+1)=.no:=h.toKr.new (Nat.le_succ _)
 have xg:Hid (∀S' V,Ch S W S' V->V.heap[w.heap.size]?=some (.cells #[I (i:Int)] 3 (0,0))/\V.heap[w.heap.size+1]?=some (.cells #[.string (KM.aI k.frames i).data,I (KM.aI k.frames i).refs,.bool (KM.aI k.frames i).b9,.bool (KM.aI k.frames i).seen] 40 (0,0))):=fun S' V hV=>⟨hV.keep X0.o n0,hV.keep F0.o n1⟩
 have c1:=h.c1
 rw[A.v] at c1
 have x0:=A.x0 i hi
 have x1:=A.x1 i hi
 have x2:=A.x2 i hi
 have x3:=A.x3 i hi
 have Ba:(i:Int)<(k.frames.length:Int):=by omega
 have oa:=h.lt
 have hfl:=A.lt
 have bw:Hid (∀V S' K,K=KM.cT k i->Km lo mb tt X V S' K->Ch S W S' V->gh lo mb tt X w S (.tuple #[]) (KM.cT k i) (.returned (.tuple #[])) V):=fun V S' K hK h1 h2=>⟨rfl,S',hK ▸ h1,ZZ.o.trans h2⟩
 obtain⟨P,hP⟩:=ex (gh lo mb tt X w S (.tuple #[]) (KM.cT k i))
 rw[<- hP] at bw ⊢
 have Xk:=ai hW
 cases hd:(KM.aI k.frames i).b9 with
 | false =>
  have hdrop:KM.cT k i=KM.iP k i k.aj.length:=by
   rw[KM.Nh hR hi]
   unfold KM.cT
   rw[hd]
   rfl
  have Iq:=ai (fun V S' h1 h2=>bw.o V S' _ hdrop.symm h1 h2)
  have Ta:Hid (∀V S' n,n<k.aj.length->Km lo mb tt X V S' (KM.iP k i n)->Ch S W S' V->Calls Tryz.prog 87 #[.pointer (some (Ad mb 0)),I (n:Int),.func (.func 202) #[] #[.pointer (some (Ad w.heap.size 0))]] V (gh lo mb tt X V S' (.tuple #[]) (KM.iP k i (n+1)))):=fun V S' n hn hV hc=>by
   have hp:=KM.qi hR i n (by omega)
   refine Hk 202 [.pointer (some (Ad w.heap.size 0))] w.heap.size (.inl ⟨rfl,rfl⟩) (KM.iP k i n) S' V n (KM.jc (i:Int)) hV hp.1 (by rw[hp.2.2.2.2.2.1];exact hn) (fun U e hU=>?_)
   have hx:=(xg.out S' V hc).1
   have hno:S'.lab w.heap.size=.no:=hc.no _ (B.isLt X0.o) n0
   exact ED (i:Int) e w.heap.size U (B.cell (hU.keep hx (fun z=>z hno)) 0 rfl)
  have BB:Hid (∀V S' n,Km lo mb tt X V S' (KM.iP k i n)->n<=k.aj.length->∃av cv,V.cell? (Ad mb 3)=some (.slice av k.aj.length cv)):=fun V S' n hV hn=>by
   have hp:=KM.qi hR i n hn
   obtain⟨pb,cP,A'⟩:=hV.toKr.sp (by rw[hp.2.2.2.2.2.1];omega)
   have:=hV.c3
   rw[A'.v,hp.2.2.2.2.2.1] at this
   exact⟨_,_,this⟩
  obtain⟨av,cv,d3⟩:=BB.o W S 0 SY.o (by omega)
  obtain⟨np,rX⟩:=ex k.aj.length
  rw[<- rX] at d3 Ta Iq
  have aib:np<=4:=by omega
  have d0:W.cell? (Ad w.heap.size 0)=some (I (i:Int)):=B.cell X0.o 0 rfl
  obtain⟨FR,Bd⟩:=ex (KM.aI k.frames i)
  rw[<- Bd] at x0 x1 x2 x3 Xk hd F0
  obtain⟨fd,fr,fdy,fs⟩:=FR
  simp only at x0 x1 x2 x3 Xk hd F0
  subst hd
  have d2:W.cell? (Ad (w.heap.size+1) 2)=some (.bool false):=B.cell F0.o 2 rfl
  clear hW hP hR hcc A h hr0 Bd rX BB bw xg hdrop hi
  go_enter Tryz.func190,Tryz.ntmps190
  go_upto_region 1 with fail
  go_region
  rw[<- Xk.o]
  go_wp2
  go_loopw [29] (fun iv wr=>∃(n:Nat) (S':St),n<=np/\iv=I (n:Int)/\Km lo mb tt X wr S' (KM.iP k i n)/\Ch S W S' wr) (fun iv _=>np-(intOf iv).toNat)
  case atStart=>exact⟨0,S,by omega,rfl,SY.o,Ch.refl _ _⟩
  case round =>
   obtain⟨n,S',hn,rfl,dM,hch⟩:=hrel
   by_cases hlt:n<np
   · have hni:(n:Int)<(np:Int):=by omega
     have aed:=ai (Ta.o wr S' n hlt dM hch)
     have Dr:=ai hch
     clear dM hch SY ZZ
     go_wp2_with (go_at_call 87;refine aed.o.mono ?_;rintro r w2 ⟨rfl,S2,hk2,hc2⟩;have jJ:=ai hk2;have j6:=ai (Dr.o.trans hc2);clear hk2 hc2)
     go_roundw
     case rel=>exact⟨n+1,S2,by omega,by go_num,jJ.o,j6.o⟩
     case measure=>simp[intOf];omega
   · obtain rfl:n=np:=by omega
     have HX:=ai (Iq.o wr S' dM hch)
     clear dM hch
     go_wp2
     first
      | exact HX.o
      | (refine bodyPost_ret (v:=.tuple #[]) (by simp[results,Tryz.results190,go_sem]) rfl ?_;exact HX.o)
 | true =>
  obtain⟨s,yL,hsl,Yd⟩:=hR.slot hi hr0
  have TA:KM.cT k i=di k i s k.aj.length:=by
   unfold KM.cT di
   rw[hd,yL,Kg]
   rfl
  have Iq:=ai (fun V S' h1 h2=>bw.o V S' _ TA.symm h1 h2)
  obtain⟨lb,cL,AL⟩:=SY.o.toKr.sl (by omega)
  obtain⟨aL,cL',eL,_,hrL⟩:=jN bD (fun _=>rfl) KM.sS SY.o.slots
  have c2:=SY.o.c2
  rw[AL.v] at c2
  have eL2:aL=some (Ad lb 0):=by
   have:=eL
   rw[AL.v] at this
   injection this with e1 _ _
   exact e1.symm
  subst eL2
  have BH:Hid (Calls Tryz.prog 203 #[.slice (some (Ad lb 0)) k.slots.length cL,.func (.func 204) #[] #[]] W fun e w'=>e=.returned (I (s:Int))/\Below W.heap.size W w'):=(NT k.slots (some (Ad lb 0)) cL W hrL (by omega)).mono fun e w' ⟨hb,hh⟩=>by
   rcases hh with⟨_,hno⟩ | ⟨m,hm,he,hy,hno⟩
   · have:=hno s hsl
     have hz:=(hR.slt s hsl).zero Yd
     rw[hz] at this
     cases this
   · have:=Rx hR hm hy hno
     rw[yL] at this
     injection this with this
     subst this
     exact⟨he,hb⟩
  have dr:∀V:World,Below V.heap.size V V.drew:=fun V=>(Below.refl _ _).drew
  have PN:Hid (∀V U,Below W.heap.size W V->U=((V.setCell (Ad lb (s*2)) (.string (KM.aI k.frames i).data)).setCell (Ad lb (s*2+1)) (I (KM.aI k.frames i).refs)).drew->Km lo mb tt X U S { k with slots:=k.slots.set s ⟨(KM.aI k.frames i).data,(KM.aI k.frames i).refs⟩ }/\Ch S W S U):=fun V U hb hU=>by
   have m0:=SY.o.below hb
   have m1:=m0.XM AL.v hsl ⟨(KM.aI k.frames i).data,(KM.aI k.frames i).refs⟩
   subst hU
   exact⟨m1.1.below (dr _),((Ch.below hb).trans m1.2).trans (Ch.below (dr _))⟩
  have Fm:Hid (∀V U,Km lo mb tt X V S { k with slots:=k.slots.set s ⟨(KM.aI k.frames i).data,(KM.aI k.frames i).refs⟩ }->Ch S W S V->U=((((V.setCell (Ad fb (i*4)) (.string ⟨#[]⟩)).setCell (Ad fb (i*4+1)) (I 0)).setCell (Ad fb (i*4+2)) (.bool false)).setCell (Ad fb (i*4+3)) (.bool false)).drew->Km lo mb tt X U S (di k i s 0)/\Ch S W S U):=fun V U hV hc hU=>by
   have m2:=hV.NI A.v (i:=i) hi KM.kY
   subst hU
   exact⟨m2.1.below (dr _),(hc.trans m2.2).trans (Ch.below (dr _))⟩
  have wW:Hid (∀V S' n,n<k.aj.length->Km lo mb tt X V S' (di k i s n)->Ch S W S' V->∃pb cP ae ce lv ax nx cx,V.cell? (Ad pb (n*3))=some (.bool lv)/\V.cell? (Ad pb (n*3+1))=some (.slice ax nx cx)/\V.cell? (Ad pb (n*3+2))=some (.slice ae (KM.au k.aj n).aA.length ce)/\S'.vP=.slice (some (Ad pb 0)) k.aj.length cP /\
    ((di k i s n=di k i s (n+1)/\∀V',Below V.heap.size V V'->Calls Tryz.prog 153 #[.slice ae (KM.au k.aj n).aA.length ce,.func (.func 202) #[] #[.pointer (some (Ad w.heap.size 0))]] V' fun e w'=>e=.returned (I (-1))/\Below V'.heap.size V' w') ∨
    ∃(m eb:Nat),m<(KM.au k.aj n).aA.length/\ae=some (Ad eb 0)/\eb<V.heap.size/\∀V',Below V.heap.size V V'->Calls Tryz.prog 153 #[.slice ae (KM.au k.aj n).aA.length ce,.func (.func 202) #[] #[.pointer (some (Ad w.heap.size 0))]] V' fun e w'=>e=.returned (I (m:Int))/\Below V'.heap.size V' w'/\(∃u1 u2,w'.cell? (Ad eb (m*3+1))=some (I u1)/\w'.cell? (Ad eb (m*3+2))=some (I u2))/\w'.frozen? (Ad eb (m*3+1))=false/\w'.frozen? (Ad eb (m*3+2))=false/\(∀U,U=((w'.setCell (Ad eb (m*3+1)) (I 2)).setCell (Ad eb (m*3+2)) (I (s:Int))).drew->Km lo mb tt X U S' (di k i s (n+1))/\Ch S' V S' U))):=fun V S' n hn hV hc=>by
   have hlen:(di k i s n).aj.length=k.aj.length:=lZ _ _ _
   have hn':n<(di k i s n).aj.length:=by rw[hlen];exact hn
   have hat:KM.au (di k i s n).aj n=KM.au k.aj n:=by
    show KM.au (mR _ _ _) n=_
    rw[tu _ _ _ _ hn,if_neg (by omega)]
   obtain⟨pb,cP,A'⟩:=hV.toKr.sp (by omega)
   obtain⟨ae,ce,vq,hre⟩:=hV.toKr.aA hn'
   rw[hat] at vq hre
   have a0:=A'.x0 n hn'
   have a1:=A'.x1 n hn'
   have a2:=A'.x2 n hn'
   rw[vq] at a2
   have hv:=A'.v
   rw[hlen] at hv
   obtain⟨ax,cx,qP,_,_⟩:=aQ (hV.each n hn').aD
   rw[qP] at a1
   refine⟨pb,cP,ae,ce,_,ax,_,cx,a0,a1,a2,hv,?_⟩
   have hx:V.heap[w.heap.size]?=some (.cells #[I (i:Int)] 3 (0,0)):=(xg.out S' V hc).1
   have Ld:∀V',Below V.heap.size V V'->_:=fun V' hb'=>KW.CB 202 (.inr (.inr rfl)) (KM.jc (i:Int)) (KM.au k.aj n).aA ae ce w.heap.size V' (hre.below hb') (by have:=je hR hn;omega) (fun U e hU=>ED (i:Int) e w.heap.size U (B.cell (B.below (B.below hx hb' (B.isLt hx)) hU (Nat.lt_of_lt_of_le (B.isLt hx) hb'.size)) 0 rfl))
   by_cases hex:∃m,m<(KM.au k.aj n).aA.length/\KM.jc (i:Int) (KM.aN (KM.au k.aj n).aA m)=true
   · obtain⟨m,hm,hy⟩:=hex
     obtain⟨eb,hao,Rk⟩:∃eb,ae=some (Ad eb 0)/\eb<V.heap.size:=by
      obtain⟨ao,cap,e,_,hg⟩:=aQ (hV.each n hn').aH
      rw[hat,vq] at e
      rw[hat] at hg
      obtain⟨g,e2,_,hgl⟩:=hg (by omega)
      injection e with e1 _ _
      exact⟨g,by rw[e1,e2],hgl⟩
     subst hao
     refine .inr ⟨m,eb,hm,rfl,Rk,fun V' hb'=>(Ld V' hb').mono fun e w' ⟨hb,hh⟩=>?_⟩
     have hbb:Below V.heap.size V w':=hb'.trans (hb.mono hb'.size)
     have he:e=.returned (I (m:Int)):=by
      rcases hh with⟨_,hno⟩ | ⟨m',hm',he,hy',_⟩
      · have:=hno m hm;rw[hy] at this;cases this
      · have:=KM.Nj hR hi hn hm hm' hy hy'
        rw[this];exact he
     have mw:=hV.below hbb
     have hs1:m<(KM.au (di k i s n).aj n).aA.length:=by rw[hat];exact hm
     have hrow:=(mw.each n hn').aH
     rw[hat,vq] at hrow
     have g1:=iQ aK (fun _=>rfl) KM.jI hrow m 1 hm (by omega)
     have g2:=iQ aK (fun _=>rfl) KM.jI hrow m 2 hm (by omega)
     refine⟨he,hb,⟨_,_,g1,g2⟩,dn hrow _,dn hrow _,fun U hU=>?_⟩
     have e1:=mw.kZ hn' vq hs1 (c:=1) (by omega) (e:=⟨(KM.aN (KM.au k.aj n).aA m).page,2,(KM.aN (KM.au k.aj n).aA m).loc⟩) (u:=I 2) (by rw[hat];rfl)
     have hl2:n<({ di k i s n with aj:=(di k i s n).aj.set n (KM.dV (KM.au (di k i s n).aj n) ((KM.au (di k i s n).aj n).aA.set m ⟨(KM.aN (KM.au k.aj n).aA m).page,2,(KM.aN (KM.au k.aj n).aA m).loc⟩)) }:KM.Kn).aj.length:=by
      show n<(List.set _ _ _).length
      rw[List.length_set];exact hn'
     have Vh:KM.au ((di k i s n).aj.set n (KM.dV (KM.au (di k i s n).aj n) ((KM.au (di k i s n).aj n).aA.set m ⟨(KM.aN (KM.au k.aj n).aA m).page,2,(KM.aN (KM.au k.aj n).aA m).loc⟩))) n=KM.dV (KM.au k.aj n) ((KM.au k.aj n).aA.set m ⟨(KM.aN (KM.au k.aj n).aA m).page,2,(KM.aN (KM.au k.aj n).aA m).loc⟩):=by
      rw[KM.gL _ _ _ _ hn',if_pos rfl,hat]
     have e2:=e1.1.kZ hl2 vq (i:=m) (by
      show m<(KM.au (List.set _ _ _) n).aA.length
      rw[Vh]
      show m<(List.set _ _ _).length
      rw[List.length_set];exact hm) (c:=2) (by omega) (e:=⟨(KM.aN (KM.au k.aj n).aA m).page,2,(s:Int)⟩) (u:=I (s:Int)) (by
      show _=(aK (KM.aN (KM.au (List.set _ _ _) n).aA m)).set 2 _
      rw[Vh]
      show _=(aK ((List.set _ _ _).getD m KM.jI)).set 2 _
      rw[KM.bK _ _ _ _ hm]
      rfl)
     have hK:({ ({ di k i s n with aj:=(di k i s n).aj.set n (KM.dV (KM.au (di k i s n).aj n) ((KM.au (di k i s n).aj n).aA.set m ⟨(KM.aN (KM.au k.aj n).aA m).page,2,(KM.aN (KM.au k.aj n).aA m).loc⟩)) }:KM.Kn) with aj:=((di k i s n).aj.set n (KM.dV (KM.au (di k i s n).aj n) ((KM.au (di k i s n).aj n).aA.set m ⟨(KM.aN (KM.au k.aj n).aA m).page,2,(KM.aN (KM.au k.aj n).aA m).loc⟩))).set n (KM.dV (KM.au ((di k i s n).aj.set n (KM.dV (KM.au (di k i s n).aj n) ((KM.au (di k i s n).aj n).aA.set m ⟨(KM.aN (KM.au k.aj n).aA m).page,2,(KM.aN (KM.au k.aj n).aA m).loc⟩))) n) ((KM.au ((di k i s n).aj.set n (KM.dV (KM.au (di k i s n).aj n) ((KM.au (di k i s n).aj n).aA.set m ⟨(KM.aN (KM.au k.aj n).aA m).page,2,(KM.aN (KM.au k.aj n).aA m).loc⟩))) n).aA.set m ⟨(KM.aN (KM.au k.aj n).aA m).page,2,(s:Int)⟩)) }:KM.Kn)=di k i s (n+1):=by
      rw[Vh,List.set_set]
      unfold di
      simp only
      congr 1
      rw[<- A6 _ _ _ hn]
      congr 1
      unfold KM.dV KM.ie
      simp only[List.set_set]
      congr 1
      exact KM.Ga _ _ _ m hm hy (fun q hq hqi=>KM.Nj hR hi hn hq hm hqi hy)
     subst hU
     have e3:=hK ▸ e2.1
     exact⟨e3.below (dr _),(((Ch.below hbb).trans e1.2).trans e2.2).trans (Ch.below (dr _))⟩
   · have hno:∀m,m<(KM.au k.aj n).aA.length->KM.jc (i:Int) (KM.aN (KM.au k.aj n).aA m)=false:=fun m hm=>by
      cases g:KM.jc (i:Int) (KM.aN (KM.au k.aj n).aA m) with
      | false=>rfl
      | true=>exact absurd ⟨m,hm,g⟩ hex
     refine .inl ⟨?_,fun V' hb'=>(Ld V' hb').mono fun e w' ⟨hb,hh⟩=>?_⟩
     · unfold di
       congr 1
       rw[<- A6 _ _ _ hn]
       have e1:KM.ie (i:Int) s (KM.au k.aj n)=KM.au (mR (KM.ie i s) k.aj n) n:=by
        rw[tu _ _ _ _ hn,if_neg (by omega)]
        unfold KM.ie
        rw[KM.JQ _ _ _ hno]
       rw[e1]
       refine(KM.jV KM.Fw _ _ (by rw[List.length_set]) (fun q hq=>?_)).symm
       have:=KM.gL (mR (KM.ie i s) k.aj n) n q (KM.au (mR (KM.ie i s) k.aj n) n) (by rw[lZ];exact hn)
       unfold KM.au at this ⊢
       rw[this]
       by_cases z:n=q
       · rw[if_pos z,z]
       · rw[if_neg z]
     · rcases hh with⟨he,_⟩ | ⟨m',hm',_,hy',_⟩
       · exact⟨he,hb⟩
       · exact absurd ⟨m',hm',hy'⟩ hex
  obtain⟨pb,cP,AP⟩:=SY.o.toKr.sp (by omega)
  have hvP:=AP.v
  have HVP:=ai AP.v
  have np4:k.aj.length<=4:=by omega
  have Fv:=ai (fun V K (hV:Km lo mb tt X V S K) (hK:K.frames=k.frames)=>(show(∀j,V.frozen? (Ad fb j)=false)/\V.cell? (Ad fb (i*4))=some (.string (KM.aI k.frames i).data)/\V.cell? (Ad fb (i*4+1))=some (I (KM.aI k.frames i).refs)/\V.cell? (Ad fb (i*4+2))=some (.bool (KM.aI k.frames i).b9)/\V.cell? (Ad fb (i*4+3))=some (.bool (KM.aI k.frames i).seen)/\V.cell? (Ad mb 1)=some (.slice (some (Ad fb 0)) k.frames.length cF)/\V.cell? (Ad mb 3)=some (.slice (some (Ad pb 0)) k.aj.length cP) from by
   obtain⟨Vu,cF',A'⟩:=hV.toKr.fr (by rw[hK];omega)
   have e:Vu=fb:=by
    have:=A'.v
    rw[A.v] at this
    injection this with e1 _ _
    injection e1 with e1
    injection e1 with e1 _ _
    exact e1.symm
   subst e
   have c1:=hV.c1
   have c3:=hV.c3
   rw[A.v] at c1
   rw[hvP] at c3
   have y0:=A'.x0 i (by rw[hK];exact hi)
   have y1:=A'.x1 i (by rw[hK];exact hi)
   have y2:=A'.x2 i (by rw[hK];exact hi)
   have y3:=A'.x3 i (by rw[hK];exact hi)
   rw[hK] at y0 y1 y2 y3
   exact⟨A'.fz,y0,y1,y2,y3,c1,c3⟩))
  have hx0:=AL.x0 s hsl
  have hx1:=AL.x1 s hsl
  have hz0:=AL.fz (s*2)
  have hz1:=AL.fz (s*2+1)
  have hll:=AL.lt
  have og:=ai (fun V (hV:Km lo mb tt X V S (di k i s 0))=>(show V.cell? (Ad mb 3)=some (.slice (some (Ad pb 0)) k.aj.length cP) from by have:=hV.c3;rw[hvP] at this;exact this))
  have q0:∀V,Below W.heap.size W V->V.cell? (Ad (w.heap.size+1) 0)=some (.string (KM.aI k.frames i).data)/\V.cell? (Ad (w.heap.size+1) 1)=some (I (KM.aI k.frames i).refs)/\V.cell? (Ad mb 2)=some (.slice (some (Ad lb 0)) k.slots.length cL)/\V.cell? (Ad lb (s*2))=some (.string (KM.bG k.slots s).data)/\V.cell? (Ad lb (s*2+1))=some (I (KM.bG k.slots s).refs)/\V.frozen? (Ad lb (s*2))=false/\V.frozen? (Ad lb (s*2+1))=false:=fun V hb=>by
   have hF:=B.below F0.o hb (B.isLt F0.o)
   have mV:=SY.o.below hb
   obtain⟨lb',cL',A'⟩:=mV.toKr.sl (by omega)
   have e:lb'=lb:=by
    have:=A'.v
    rw[AL.v] at this
    injection this with e1 _ _
    injection e1 with e1
    injection e1 with e1 _ _
    exact e1.symm
   subst e
   have c2:=mV.c2
   rw[AL.v] at c2
   exact⟨B.cell hF 0 rfl,B.cell hF 1 rfl,c2,A'.x0 s hsl,A'.x1 s hsl,A'.fz _,A'.fz _⟩
  have HQ0:=ai q0
  have HXA:=ai (fun V (hc:Ch S W S V)=>(show V.cell? (Ad w.heap.size 0)=some (I (i:Int)) from B.cell (xg.out S V hc).1 0 rfl))
  obtain⟨FR,Bd⟩:=ex (KM.aI k.frames i)
  rw[<- Bd] at x0 x1 x2 x3 Xk hd F0 PN Fm Fv HQ0
  obtain⟨SR,Vl⟩:=ex (KM.bG k.slots s)
  rw[<- Vl] at HQ0
  rw[hd] at x2 Xk F0
  have d2:W.cell? (Ad (w.heap.size+1) 2)=some (.bool true):=B.cell F0.o 2 rfl
  have Ye:(s:Int)<(k.slots.length:Int):=by omega
  have HMF:Hid (∀S' V,Ch S W S' V->S'.vP=S.vP):=fun S' V hc=>hc.eP
  have hHW:=bW.o.size
  clear hW hP hR hcc A h hr0 Bd bw xg hi yL Yd AL AP hrL eL q0 TA hvP Vl dr hx0 hx1 hz0 hz1
  go_enter Tryz.func190,Tryz.ntmps190
  go_upto_region 1 with fail
  go_region
  rw[<- Xk.o]
  go_upto_region 10 with(go_at_call 203;refine BH.o.mono ?_;rintro e w1 ⟨rfl,hb1⟩;have bI:=ai hb1;clear hb1)
  obtain⟨p0,p1,p2,p3,p4,p5,p6⟩:=HQ0.o w1 bI.o
  obtain⟨U1,hU1⟩:=ex (((w1.setCell (Ad lb (s*2)) (.string FR.data)).setCell (Ad lb (s*2+1)) (I FR.refs)).drew)
  have SL:=ai hU1
  obtain⟨hk1,hc1⟩:=PN.o w1 U1 bI.o hU1
  have pC:=ai hk1
  have Mn:=ai hc1
  clear hU1 hk1 hc1
  go_region
  rw[<- SL.o]
  obtain⟨g0,g1,g2,g3,g4,g5,g6⟩:=Fv.o U1 _ pC.o rfl
  have g0a:=g0 (i*4)
  have g0b:=g0 (i*4+1)
  have g0c:=g0 (i*4+2)
  have g0d:=g0 (i*4+3)
  have g7:=HXA.o U1 Mn.o
  obtain⟨U2,hU2⟩:=ex (((((U1.setCell (Ad fb (i*4)) (.string ⟨#[]⟩)).setCell (Ad fb (i*4+1)) (I 0)).setCell (Ad fb (i*4+2)) (.bool false)).setCell (Ad fb (i*4+3)) (.bool false)).drew)
  have Qd:=ai hU2
  obtain⟨hk2,hc2⟩:=Fm.o U1 U2 pC.o Mn.o hU2
  have jJ:=ai hk2
  have j6:=ai hc2
  have k3:=og.o U2 hk2
  clear hU2 hk2 hc2 p0 p1 p2 p3 p4 p5 p6 g0
  go_upto_region 11 with fail
  go_region
  rw[<- Qd.o]
  clear SL Qd pC Mn bI g0a g0b g0c g0d g1 g2 g3 g4 g5 g6 g7
  go_wp2
  go_loopw [69] (fun iv wr=>∃(n:Nat) (S':St),n<=k.aj.length/\iv=I (n:Int)/\Km lo mb tt X wr S' (di k i s n)/\Ch S W S' wr) (fun iv _=>k.aj.length-(intOf iv).toNat)
  case atStart=>exact⟨0,S,by omega,rfl,jJ.o,j6.o⟩
  case round =>
   obtain⟨n,S',hn,rfl,dM,hch⟩:=hrel
   by_cases hlt:n<k.aj.length
   · have hni:(n:Int)<(k.aj.length:Int):=by omega
     obtain⟨QK,cP',ae,ce,lv,ax,nx,cx,a0,a1,a2,hvp,hcs⟩:=wW.o wr S' n hlt dM hch
     have epb:QK=pb:=by
      rw[HMF.o S' wr hch,HVP.o] at hvp
      injection hvp with e1 _ _
      injection e1 with e1
      injection e1 with e1 _ _
      exact e1.symm
     subst epb
     have S6:=ai dM
     have Dr:=ai hch
     have HA:=ai ((Below.refl wr.heap.size wr).alloc (Nat.le_refl _) (.cells #[.bool lv,.slice ax nx cx,.slice ae (KM.au k.aj n).aA.length ce] 43))
     have BX:=ai (B.new wr #[.bool lv,.slice ax nx cx,.slice ae (KM.au k.aj n).aA.length ce] 43)
     have YF:∀eb,eb<wr.heap.size->¬wr.heap.size=eb:=fun eb h=>by omega
     have Yt:(KM.au k.aj n).aA.length<=(KM.au k.aj n).aA.length:=Nat.le_refl _
     clear dM hch hvp jJ j6
     rcases hcs with⟨hsame,hcl⟩ | ⟨m,eb,hm,P5,Rk,hcl⟩
     · have Mg:=ai hsame
       have Am:=ai hcl
       clear hsame hcl
       go_wp2_with (go_at_call 153;refine(Am.o _ HA.o).mono ?_;rintro e w2 ⟨rfl,hb2⟩;have ck:=ai (HA.o.trans (hb2.mono HA.o.size));clear hb2)
       go_roundw
       case rel=>exact⟨n+1,S',by omega,by go_num,Mg.o ▸ S6.o.below ck.o,Dr.o.trans (Ch.below ck.o)⟩
       case measure=>simp[intOf];omega
     · subst P5
       have Am:=ai hcl
       have WN:(m:Int)<((KM.au k.aj n).aA.length:Int):=by omega
       have hm0:(0:Int)<=(m:Int):=by omega
       have hne:=YF eb Rk
       clear hcl YF
       go_upto_region 17 with(go_at_call 153;refine(Am.o _ HA.o).mono ?_;rintro e w2 ⟨rfl,hb2,⟨u1,u2,t1,t2⟩,t3,t4,hfin⟩;have Dt:=B.below BX.o hb2 (B.isLt BX.o);obtain⟨r0,r1,r2⟩:=B.c3 Dt;have jZ:=ai hfin;clear hb2 hfin Dt)
       go_region
       go_wp2
       go_roundw
       case rel =>
        obtain⟨z1,z2⟩:=jZ.o _ rfl
        exact⟨n+1,S',by omega,by go_num,z1,Dr.o.trans z2⟩
       case measure=>simp[intOf];omega
   · obtain rfl:n=k.aj.length:=by omega
     have HX:=ai (Iq.o wr S' dM hch)
     clear dM hch
     go_wp2
     first
      | exact HX.o
      | (refine bodyPost_end (v:=.tuple #[]) (by simp[results,Tryz.results190,go_sem]) rfl ?_;exact HX.o)
structure Held (w:World) (S:St) (ah:Option Addr) (held:List Int):Prop where
 has:aZ bT 1 0 w ah held
 no:∀b off,ah=some (Ad b off)->S.lab b=.no
 lt:∀b off,ah=some (Ad b off)->b<w.heap.size
theorem Held.ch {w w':World} {S S':St} {ah:Option Addr} {held:List Int} (h:Held w S ah held) (hc:Ch S w S' w'):Held w' S' ah held :=
 ⟨KX.aZ.kp h.has hc.kp (fun b off e z=>z (h.no b off e)),fun b off e=>hc.no b (h.lt b off e) (h.no b off e),fun b off e=>Nat.lt_of_lt_of_le (h.lt b off e) hc.kp.size⟩
theorem QL {held:List Int} {k:KM.Kn} {i:Nat} (h:(held.contains (i:Int) || (KM.aI k.frames i).seen)=false) (hi:i<k.frames.length):jQ held k i=k:=by
 rw[Bool.or_eq_false_iff] at h
 unfold jQ
 rw[if_neg (by rw[h.1];simp)]
 have:k.frames.set i (KM.unseen (KM.aI k.frames i))=k.frames:=by
  refine KM.jV KM.kY _ _ List.length_set (fun m hm=>?_)
  rw[List.length_set] at hm
  by_cases c:i=m
  · subst c
    rw[KM.bK _ _ _ _ hm]
    have e:=h.2
    unfold KM.unseen
    show(⟨(KM.aI k.frames i).data,(KM.aI k.frames i).refs,(KM.aI k.frames i).b9,false⟩:KM.Fr)=KM.aI k.frames i
    rw[<- e]
  · rw[KM.getD_set_ne _ _ _ _ _ c]
 rw[this]
theorem J6 {held:List Int} {k:KM.Kn} (hh:0<=k.hand/\k.hand<k.frames.length):({ jQ held k k.hand.toNat with hand:=KM.gA (jQ held k k.hand.toNat) }:KM.Kn)=KM.gK held k:=by
 have e:((k.hand.toNat:Nat):Int)=k.hand:=by omega
 unfold jQ KM.gK
 rw[e]
 by_cases c:held.contains k.hand=true
 · rw[if_pos c,if_pos c]
 · rw[if_neg c,if_neg c]
   unfold KM.gA
   simp only[List.length_set]
theorem CP {lo mb:Nat} {tt:TypeId} {X:List Value} (k:KM.Kn) (S:St) (w:World) (held:List Int) (ah:Option Addr) (ch:Nat) (h:Km lo mb tt X w S k) (hR:KM.aU k) (hl:held.length<=2) (hH:Held w S ah held) :
  Calls Tryz.prog 165 #[.pointer (some (Ad mb 0)),.slice ah held.length ch] w (gh lo mb tt X w S (I ((KM.bR k held).1:Int)) (KM.bR k held).2):=by
 have hcc:=hR.c
 obtain⟨fb,cF,A⟩:=h.toKr.fr (by omega)
 obtain⟨aF,cF',eF,_,hrF⟩:=jN bE (fun _=>rfl) KM.kY h.frames
 have eF2:aF=some (Ad fb 0):=by
  have:=eF
  rw[A.v] at this
  injection this with e1 _ _
  exact e1.symm
 subst eF2
 have c1:=h.c1
 rw[A.v] at c1
 have Ld:=NU k.frames (some (Ad fb 0)) cF w hrF (by omega)
 by_cases hex:∃i,i<k.frames.length/\KM.tV (KM.aI k.frames i)=true/\∀j,j<i->KM.tV (KM.aI k.frames j)=false
 · obtain⟨i,hi,hy,hno⟩:=hex
   have hf:=Jh hR hi hy hno
   have hg:KM.bR k held=(i,k):=by unfold KM.bR;rw[hf]
   have BH:Hid (Calls Tryz.prog 187 #[.slice (some (Ad fb 0)) k.frames.length cF,.func (.func 168) #[] #[]] w fun e w'=>e=.returned (I (i:Int))/\Below w.heap.size w w'):=Ld.mono fun e w' ⟨hb,hh⟩=>by
    rcases hh with⟨_,hn⟩ | ⟨m,hm,he,hy2,q9⟩
    · have:=hn i hi;rw[hy] at this;cases this
    · have:=Jh hR hm hy2 q9
      rw[hf] at this
      injection this with this
      subst this
      exact⟨he,hb⟩
   have bw:Hid (∀V,Below w.heap.size w V->gh lo mb tt X w S (I ((KM.bR k held).1:Int)) (KM.bR k held).2 (.returned (I (i:Int))) V):=fun V hb=>by
    rw[hg]
    exact⟨rfl,S,h.below hb,Ch.below hb⟩
   obtain⟨P,hP⟩:=ex (gh lo mb tt X w S (I ((KM.bR k held).1:Int)) (KM.bR k held).2)
   rw[<- hP] at bw ⊢
   have hi0:(0:Int)<=(i:Int):=by omega
   clear hP Ld hg hf hno hy h hR hcc A eF hrF hH
   go_enter Tryz.func165,Tryz.ntmps165
   go_wp2_with (go_at_call 187;refine BH.o.mono ?_;rintro e w1 ⟨rfl,hb1⟩;have bI:=ai hb1;clear hb1)
   exact bw.o _ bI.o
 · have hall:∀j,j<k.frames.length->KM.tV (KM.aI k.frames j)=false:=fun j=>by
    induction j using Nat.strongRecOn with
    | _ j ih =>
     intro hj
     cases g:KM.tV (KM.aI k.frames j) with
     | false=>rfl
     | true=>exact absurd ⟨j,hj,g,fun m hm=>ih m hm (by omega)⟩ hex
   obtain⟨hf,OM⟩:=Rw hR hall
   obtain⟨T,hT,N7,I9⟩:=KM.zh held hl hR OM
   have qz:=KM.zg held T 69 k (by omega) N7 I9
   have hg:KM.bR k held=((KM.bC held T k).hand.toNat,{ KM.cT (KM.bC held T k) (KM.bC held T k).hand.toNat with hand:=KM.gA (KM.bC held T k) }):=by
    unfold KM.bR
    rw[hf,qz]
   have BH:Hid (Calls Tryz.prog 187 #[.slice (some (Ad fb 0)) k.frames.length cF,.func (.func 168) #[] #[]] w fun e w'=>e=.returned (I (-1))/\Below w.heap.size w w'):=Ld.mono fun e w' ⟨hb,hh⟩=>by
    rcases hh with⟨he,_⟩ | ⟨m,hm,_,hy2,_⟩
    · exact⟨he,hb⟩
    · rw[hall m hm] at hy2;cases hy2
   have TK:=KM.B0 held hR OM
   have l6:∀n,(KM.bC held n k).frames.length=k.frames.length:=fun n=>(TK n).kept.nf
   have CJ:∀n,0<=(KM.bC held n k).hand/\(KM.bC held n k).hand<(KM.bC held n k).frames.length:=fun n=>(TK n).right.hand
   have HPS:Hid (∀V S' n,Km lo mb tt X V S' (KM.bC held n k)->Ch S w S' V->Calls Tryz.prog 188 #[.pointer (some (Ad mb 0)),I (KM.bC held n k).hand,.slice ah held.length ch] V (nD lo mb tt X V S' (.bool (KM.ki held (KM.bC held n k))) (jQ held (KM.bC held n k) (KM.bC held n k).hand.toNat))):=fun V S' n hV hc=>by
    have e:(((KM.bC held n k).hand.toNat:Nat):Int)=(KM.bC held n k).hand:=by have:=CJ n;omega
    have:=Gt (KM.bC held n k) S' V (KM.bC held n k).hand.toNat held ah ch hV (by have:=CJ n;omega) (hH.ch hc).has (by omega)
    rw[e] at this
    exact this
   have HMV:Hid (∀V S' n,Km lo mb tt X V S' (jQ held (KM.bC held n k) (KM.bC held n k).hand.toNat)->Calls Tryz.prog 189 #[.pointer (some (Ad mb 0))] V (nD lo mb tt X V S' (.tuple #[]) (KM.bC held (n+1) k))):=fun V S' n hV=>by
    have hpk:(jQ held (KM.bC held n k) (KM.bC held n k).hand.toNat).frames.length=(KM.bC held n k).frames.length/\(jQ held (KM.bC held n k) (KM.bC held n k).hand.toNat).hand=(KM.bC held n k).hand:=by
     unfold jQ
     split
     · exact⟨rfl,rfl⟩
     · exact⟨List.length_set,rfl⟩
    have:=tq (jQ held (KM.bC held n k) (KM.bC held n k).hand.toNat) S' V hV (by rw[hpk.1,hpk.2];exact CJ n) (by rw[hpk.1,l6];omega)
    rw[J6 (CJ n)] at this
    exact this
   have HST:Hid (∀V S',Km lo mb tt X V S' (jQ held (KM.bC held T k) (KM.bC held T k).hand.toNat)->Km lo mb tt X V S' (KM.bC held T k)):=fun V S' hV=>by
    have e:(((KM.bC held T k).hand.toNat:Nat):Int)=(KM.bC held T k).hand:=by have:=CJ T;omega
    rw[QL (by rw[e];exact I9) (by have:=CJ T;omega)] at hV
    exact hV
   have Mi:Hid (∀V S',Km lo mb tt X V S' (KM.bC held T k)->Calls Tryz.prog 190 #[.pointer (some (Ad mb 0)),I (KM.bC held T k).hand] V (gh lo mb tt X V S' (.tuple #[]) (KM.cT (KM.bC held T k) (KM.bC held T k).hand.toNat))):=fun V S' hV=>by
    have e:(((KM.bC held T k).hand.toNat:Nat):Int)=(KM.bC held T k).hand:=by have:=CJ T;omega
    have:=Cj (KM.bC held T k) S' V (KM.bC held T k).hand.toNat hV (TK T).right (by have:=CJ T;omega) ((TK T).full _ (by have:=CJ T;omega))
    rw[e] at this
    exact this
   have Rq:=KM.tP (KM.bC held T k) (KM.bC held T k).hand.toNat
   have FO:Hid (∀V S',Km lo mb tt X V S' (KM.cT (KM.bC held T k) (KM.bC held T k).hand.toNat)->Calls Tryz.prog 189 #[.pointer (some (Ad mb 0))] V (nD lo mb tt X V S' (.tuple #[]) { KM.cT (KM.bC held T k) (KM.bC held T k).hand.toNat with hand:=KM.gA (KM.bC held T k) })):=fun V S' hV=>by
    have hlen:(KM.cT (KM.bC held T k) (KM.bC held T k).hand.toNat).frames.length=(KM.bC held T k).frames.length:=by rw[Rq.1,List.length_set]
    have:=tq _ S' V hV (by rw[hlen,Rq.2];exact CJ T) (by rw[hlen,l6];omega)
    have e:KM.gA (KM.cT (KM.bC held T k) (KM.bC held T k).hand.toNat)=KM.gA (KM.bC held T k):=by
     unfold KM.gA
     rw[hlen,Rq.2]
    rw[e] at this
    exact this
   have Ql:Hid (∀V S' n,Km lo mb tt X V S' (KM.bC held n k)->V.cell? (Ad mb 4)=some (I (KM.bC held n k).hand)):=fun V S' n hV=>hV.c4
   have HHI:=ai (fun n=>CJ n)
   have HPP:=ai N7
   have LQ:=ai I9
   have bw:Hid (∀V S',Km lo mb tt X V S' { KM.cT (KM.bC held T k) (KM.bC held T k).hand.toNat with hand:=KM.gA (KM.bC held T k) }->Ch S w S' V->gh lo mb tt X w S (I ((KM.bR k held).1:Int)) (KM.bR k held).2 (.returned (I (KM.bC held T k).hand)) V):=fun V S' h1 h2=>by
    rw[hg]
    refine⟨?_,S',h1,h2⟩
    congr 2
    have:=CJ T
    show _=(((KM.bC held T k).hand.toNat:Nat):Int)
    omega
   obtain⟨P,hP⟩:=ex (gh lo mb tt X w S (I ((KM.bR k held).1:Int)) (KM.bR k held).2)
   rw[<- hP] at bw ⊢
   have iW:=ai h
   have oa:=h.lt
   clear hP Ld hg hf hall hex h hR hcc A eF hrF hH TK l6 CJ N7 I9 qz OM Rq hl
   go_enter Tryz.func165,Tryz.ntmps165
   go_wp2_with (go_at_call 187;refine BH.o.mono ?_;rintro e w1 ⟨rfl,hb1⟩;have bI:=ai hb1;clear hb1)
   go_loopg [23] T (fun g _ wr=>∃(n:Nat) (S':St),n<=T/\g=T-n/\Km lo mb tt X wr S' (KM.bC held n k)/\Ch S w S' wr)
   case atStart=>exact⟨0,S,by omega,by omega,iW.o.below bI.o,Ch.below bI.o⟩
   case round =>
    obtain⟨n,S',hn,P4,dM,hch⟩:=hrel
    have d4:=Ql.o wr S' n dM
    have LS:=ai (HPS.o wr S' n dM hch)
    have Wa:=ai (fun V=>HMV.o V S' n)
    have Dr:=ai hch
    have HGK:=ai P4
    clear dM hch P4 iW
    by_cases hlt:n<T
    · have hp:=HPP.o n hlt
      rw[hp] at LS
      obtain⟨hd,CJ⟩:=ex ((KM.bC held n k).hand)
      rw[<- CJ] at d4 LS Wa
      clear hp CJ
      go_wp2_with (first
       | (go_at_call 188;refine LS.o.mono ?_;rintro e w2 ⟨rfl,hk2,hc2⟩;have jJ:=ai hk2;have j6:=ai (Dr.o.trans hc2);clear hk2 hc2)
       | (go_at_call 189;refine(Wa.o _ jJ.o).mono ?_;rintro e w3 ⟨rfl,hk3,hc3⟩;have l8:=ai hk3;have og:=ai (j6.o.trans hc3);clear hk3 hc3))
      go_roundg (T-(n+1))
      case measure=>have:=HGK.o;omega
      case rel=>exact⟨n+1,S',by omega,by omega,l8.o,og.o⟩
    · obtain rfl:n=T:=by omega
      have hp:=LQ.o
      rw[hp] at LS
      have HI:=ai (HHI.o n)
      obtain⟨IT,hIT⟩:=ex (KM.bC held n k)
      rw[<- hIT] at d4 LS HST Mi FO bw
      have ad7:Hid (∀V S',Km lo mb tt X V S' IT->V.cell? (Ad mb 4)=some (I IT.hand)):=fun V S' hV=>hV.c4
      clear hp hIT HMV Wa HPS Ql HPP LQ HHI HI
      go_wp2_with (first
       | (go_at_call 188;refine LS.o.mono ?_;rintro e w2 ⟨rfl,hk2,hc2⟩;have Rj:=HST.o _ _ hk2;have jJ:=ai Rj;have j6:=ai (Dr.o.trans hc2);have d5:=ad7.o w2 S' Rj;have aif:=Rj.lt;clear hk2 hc2 Rj)
       | (go_at_call 190;refine(Mi.o _ _ jJ.o).mono ?_;rintro e w3 ⟨rfl,S3,hk3,hc3⟩;have l8:=ai hk3;have og:=ai (j6.o.trans hc3);clear hk3 hc3)
       | (have _:=l8;go_at_call 189;refine(FO.o _ _ l8.o).mono ?_;rintro e w4 ⟨rfl,hk4,Hc⟩;have Ua:=ai hk4;have Z4:=ai (og.o.trans Hc);clear hk4 Hc))
      exact bw.o _ _ Ua.o Z4.o
end KX
end Go.Proofs.YtpgifpeohlllfaaGreat
