import Derived.Test.YtpgifpeohlllfaaGreatGJ23
import Derived.Deep.LoopGhost
set_option maxHeartbeats 20000000
set_option linter.unusedVariables false
set_option maxRecDepth 100000
set_option linter.unusedSimpArgs false
namespace Go.Proofs.YtpgifpeohlllfaaGreat
namespace KX
open Go.RowKit GK KO
open FW (hideC add_below)
open KW (cellFr cellSl cellEn HasRow KAt HasK cellsK aggEn cellI)
open KS (Lc cellLc lc0 lcAt blk SpOwn)
def mapTo (f : KM.Sp -> KM.Sp) (l : List KM.Sp) (n : Nat) : List KM.Sp:=(l.take n).map f ++ l.drop n
theorem mapTo_len (f : KM.Sp -> KM.Sp) (l : List KM.Sp) (n : Nat) : (mapTo f l n).length = l.length:=by
 unfold mapTo
 rw [List.length_append,List.length_map,List.length_take,List.length_drop];omega
theorem mapTo_at (f : KM.Sp -> KM.Sp) (l : List KM.Sp) (n m : Nat) (hm : m < l.length) : KM.spAt (mapTo f l n) m = if m < n then f (KM.spAt l m) else KM.spAt l m:=by
 unfold mapTo KM.spAt
 rw [List.getD_eq_getElem?_getD,List.getD_eq_getElem?_getD,List.getElem?_eq_getElem hm]
 by_cases c : m < n
 · rw [if_pos c,List.getElem?_append_left (by rw [List.length_map,List.length_take];omega),List.getElem?_map,List.getElem?_take,if_pos c,List.getElem?_eq_getElem hm]
   rfl
 · rw [if_neg c,List.getElem?_append_right (by rw [List.length_map,List.length_take];omega),List.length_map,List.length_take,List.getElem?_drop,show n + (m - min n l.length) = m by omega,List.getElem?_eq_getElem hm]
theorem mapTo_set (f : KM.Sp -> KM.Sp) (l : List KM.Sp) (n : Nat) (hn : n < l.length) : (mapTo f l n).set n (f (KM.spAt l n)) = mapTo f l (n + 1):=by
 refine KM.ext_getD KM.sp0 _ _ (by rw [List.length_set,mapTo_len,mapTo_len]) (fun m hm=>?_)
 rw [List.length_set,mapTo_len] at hm
 have h1:=KM.spAt_set (mapTo f l n) n m (f (KM.spAt l n)) (by rw [mapTo_len];exact hn)
 have h2:=mapTo_at f l n m hm
 have h3:=mapTo_at f l (n + 1) m hm
 unfold KM.spAt at h1 h2 h3 ⊢
 rw [h1,h3,h2]
 by_cases c : n = m
 · subst c
   rw [if_pos rfl,if_pos (by omega)]
 · rw [if_neg c]
   by_cases d : m < n
   · rw [if_pos d,if_pos (by omega)]
   · rw [if_neg d,if_neg (by omega)]
theorem mapTo_all (f : KM.Sp -> KM.Sp) (l : List KM.Sp) : mapTo f l l.length = l.map f:=by
 unfold mapTo
 rw [List.take_length,List.drop_length,List.append_nil]
def swapTo (k : KM.Kn) (i s n : Nat) : KM.Kn:={ k with frames:=k.frames.set i KM.fr0,slots:=k.slots.set s ⟨(KM.frAt k.frames i).data,(KM.frAt k.frames i).refs⟩,spaces:=mapTo (KM.swapS i s) k.spaces n }
set_option maxHeartbeats 16000000 in
theorem putAside_any {lo mb : Nat} {tt : TypeId} {X : List Value} (k : KM.Kn) (S : St) (w : World) (i : Nat) (h : Km lo mb tt X w S k) (hR : KM.RightK k) (hi : i < k.frames.length) (hr0 : (KM.frAt k.frames i).refs ≠ 0) :
  Calls Tryz.prog 190 #[.pointer (some ⟨mb,0,none⟩),.int .i64 (i : Int)] w (OutM lo mb tt X w S (.tuple #[]) (KM.asideK k i)):=by
 have hcc:=hR.c
 obtain ⟨fb,cF,A⟩:=h.toKr.fr (by omega)
 obtain ⟨W,hW⟩ : ∃ W,W = ((w.alloc (.cells #[.int .i64 (i : Int)] 3)).alloc (.cells #[.string (KM.frAt k.frames i).data,.int .i64 (KM.frAt k.frames i).refs,.bool (KM.frAt k.frames i).dirty,.bool (KM.frAt k.frames i).seen] 40)).drew:=⟨_,rfl⟩
 have HB0 : Hid (Below w.heap.size w W):=by rw [hW];exact (((Below.refl w.heap.size w).alloc (Nat.le_refl _) _).alloc (by simp) _).drew
 have X0 : Hid (W.heap[w.heap.size]? = some (.cells #[.int .i64 (i : Int)] 3 (0,0))):=by rw [hW];exact B.alloc (B.new w _ _) _
 have F0 : Hid (W.heap[w.heap.size + 1]? = some (.cells #[.string (KM.frAt k.frames i).data,.int .i64 (KM.frAt k.frames i).refs,.bool (KM.frAt k.frames i).dirty,.bool (KM.frAt k.frames i).seen] 40 (0,0))):=by
  have:=B.new (w.alloc (.cells #[.int .i64 (i : Int)] 3)) #[.string (KM.frAt k.frames i).data,.int .i64 (KM.frAt k.frames i).refs,.bool (KM.frAt k.frames i).dirty,.bool (KM.frAt k.frames i).seen] 40
  rw [World.size_alloc] at this
  rw [hW];exact this
 have HMW:=hideC (h.below HB0.out)
 have HCW : Hid (Ch S w S W):=Ch.below HB0.out
 have n0 : S.lab w.heap.size = .no:=h.toKr.new (Nat.le_refl _)
 have n1 : S.lab (w.heap.size + 1) = .no:=h.toKr.new (Nat.le_succ _)
 have hkp : Hid (∀ S' V,Ch S W S' V -> V.heap[w.heap.size]? = some (.cells #[.int .i64 (i : Int)] 3 (0,0)) /\ V.heap[w.heap.size + 1]? = some (.cells #[.string (KM.frAt k.frames i).data,.int .i64 (KM.frAt k.frames i).refs,.bool (KM.frAt k.frames i).dirty,.bool (KM.frAt k.frames i).seen] 40 (0,0))):=fun S' V hV=>⟨hV.keep X0.out n0,hV.keep F0.out n1⟩
 have c1:=h.c1
 rw [A.v] at c1
 have x0:=A.x0 i hi
 have x1:=A.x1 i hi
 have x2:=A.x2 i hi
 have x3:=A.x3 i hi
 have hki : (i : Int) < (k.frames.length : Int):=by omega
 have hml:=h.lt
 have hfl:=A.lt
 have HFIN : Hid (∀ V S' K,K = KM.asideK k i -> Km lo mb tt X V S' K -> Ch S W S' V -> OutM lo mb tt X w S (.tuple #[]) (KM.asideK k i) (.returned (.tuple #[])) V):=fun V S' K hK h1 h2=>⟨rfl,S',hK ▸ h1,HCW.out.trans h2⟩
 obtain ⟨P,hP⟩ : ∃ P,P = OutM lo mb tt X w S (.tuple #[]) (KM.asideK k i):=⟨_,rfl⟩
 rw [<- hP] at HFIN ⊢
 have HHW:=hideC hW
 cases hd : (KM.frAt k.frames i).dirty with
 | false =>
  have hdrop : KM.asideK k i = KM.outTo k i k.spaces.length:=by
   rw [KM.out_drop hR hi]
   unfold KM.asideK
   rw [hd]
   rfl
  have HF2:=hideC (fun V S' h1 h2=>HFIN.out V S' _ hdrop.symm h1 h2)
  have HFO : Hid (∀ V S' n,n < k.spaces.length -> Km lo mb tt X V S' (KM.outTo k i n) -> Ch S W S' V -> Calls Tryz.prog 87 #[.pointer (some ⟨mb,0,none⟩),.int .i64 (n : Int),.func (.func 202) #[] #[.pointer (some ⟨w.heap.size,0,none⟩)]] V (OutM lo mb tt X V S' (.tuple #[]) (KM.outTo k i (n + 1)))):=fun V S' n hn hV hc=>by
   have hp:=KM.out_parts hR i n (by omega)
   refine forget_any 202 [.pointer (some ⟨w.heap.size,0,none⟩)] w.heap.size (.inl ⟨rfl,rfl⟩) (KM.outTo k i n) S' V n (KM.isIn (i : Int)) hV hp.1 (by rw [hp.2.2.2.2.2.1];exact hn) (fun U e hU=>?_)
   have hx:=(hkp.out S' V hc).1
   have hno : S'.lab w.heap.size = .no:=hc.no _ (B.isLt X0.out) n0
   exact here_any (i : Int) e w.heap.size U (B.cell (hU.keep hx (fun z=>z hno)) 0 rfl)
  have HSL : Hid (∀ V S' n,Km lo mb tt X V S' (KM.outTo k i n) -> n <= k.spaces.length -> ∃ av cv,V.cell? ⟨mb,3,none⟩ = some (.slice av k.spaces.length cv)):=fun V S' n hV hn=>by
   have hp:=KM.out_parts hR i n hn
   obtain ⟨pb,cP,A'⟩:=hV.toKr.sp (by rw [hp.2.2.2.2.2.1];omega)
   have:=hV.c3
   rw [A'.v,hp.2.2.2.2.2.1] at this
   exact ⟨_,_,this⟩
  obtain ⟨av,cv,d3⟩:=HSL.out W S 0 HMW.out (by omega)
  obtain ⟨np,hnp⟩ : ∃ np,np = k.spaces.length:=⟨_,rfl⟩
  rw [<- hnp] at d3 HFO HF2
  have hnp4 : np <= 4:=by omega
  have d0 : W.cell? ⟨w.heap.size,0,none⟩ = some (.int .i64 (i : Int)):=B.cell X0.out 0 rfl
  obtain ⟨FR,hFR⟩ : ∃ FR,FR = KM.frAt k.frames i:=⟨_,rfl⟩
  rw [<- hFR] at x0 x1 x2 x3 HHW hd F0
  obtain ⟨fd,fr,fdy,fs⟩:=FR
  simp only at x0 x1 x2 x3 HHW hd F0
  subst hd
  have d2 : W.cell? ⟨w.heap.size + 1,2,none⟩ = some (.bool false):=B.cell F0.out 2 rfl
  clear hW hP hR hcc A h hr0 hFR hnp HSL HFIN hkp hdrop hi
  go_enter Tryz.func190,Tryz.ntmps190
  go_upto_region 1 with fail
  go_region
  rw [<- HHW.out]
  go_wp2
  go_loopw [29] (fun iv wr=>∃ (n : Nat) (S' : St),n <= np /\ iv = .int .i64 (n : Int) /\ Km lo mb tt X wr S' (KM.outTo k i n) /\ Ch S W S' wr) (fun iv _=>np - (intOf iv).toNat)
  case atStart=>exact ⟨0,S,by omega,rfl,HMW.out,Ch.refl _ _⟩
  case round =>
   obtain ⟨n,S',hn,rfl,hkm,hch⟩:=hrel
   by_cases hlt : n < np
   · have hni : (n : Int) < (np : Int):=by omega
     have HFO2:=hideC (HFO.out wr S' n hlt hkm hch)
     have HCH:=hideC hch
     clear hkm hch HMW HCW
     go_wp2_with (go_at_call 87;refine HFO2.out.mono ?_;rintro r w2 ⟨rfl,S2,hk2,hc2⟩;have HK2:=hideC hk2;have HC2:=hideC (HCH.out.trans hc2);clear hk2 hc2)
     go_roundw
     case rel=>exact ⟨n + 1,S2,by omega,by go_num,HK2.out,HC2.out⟩
     case measure=>simp [intOf];omega
   · obtain rfl : n = np:=by omega
     have HX:=hideC (HF2.out wr S' hkm hch)
     clear hkm hch
     go_wp2
     first
      | exact HX.out
      | (refine bodyPost_ret (v:=.tuple #[]) (by simp [results,Tryz.results190,go_sem]) rfl ?_;exact HX.out)
 | true =>
  obtain ⟨s,hfs,hsl,hsn⟩:=hR.slot hi hr0
  have hswap : KM.asideK k i = swapTo k i s k.spaces.length:=by
   unfold KM.asideK swapTo
   rw [hd,hfs,mapTo_all]
   rfl
  have HF2:=hideC (fun V S' h1 h2=>HFIN.out V S' _ hswap.symm h1 h2)
  obtain ⟨lb,cL,AL⟩:=HMW.out.toKr.sl (by omega)
  obtain ⟨aL,cL',eL,_,hrL⟩:=row_has cellSl (fun _=>rfl) KM.sl0 HMW.out.slots
  have c2:=HMW.out.c2
  rw [AL.v] at c2
  have eL2 : aL = some ⟨lb,0,none⟩:=by
   have:=eL
   rw [AL.v] at this
   injection this with e1 _ _
   exact e1.symm
  subst eL2
  have HIX : Hid (Calls Tryz.prog 203 #[.slice (some ⟨lb,0,none⟩) k.slots.length cL,.func (.func 204) #[] #[]] W fun e w'=>e = .returned (.int .i64 (s : Int)) /\ Below W.heap.size W w'):=(ixSl_any k.slots (some ⟨lb,0,none⟩) cL W hrL (by omega)).mono fun e w' ⟨hb,hh⟩=>by
   rcases hh with ⟨_,hno⟩ | ⟨m,hm,he,hy,hno⟩
   · have:=hno s hsl
     have hz:=(hR.slt s hsl).zero hsn
     rw [hz] at this
     cases this
   · have:=free_sl hR hm hy hno
     rw [hfs] at this
     injection this with this
     subst this
     exact ⟨he,hb⟩
  have dr : ∀ V : World,Below V.heap.size V V.drew:=fun V=>(Below.refl _ _).drew
  have HL1 : Hid (∀ V U,Below W.heap.size W V -> U = ((V.setCell ⟨lb,s * 2,none⟩ (.string (KM.frAt k.frames i).data)).setCell ⟨lb,s * 2 + 1,none⟩ (.int .i64 (KM.frAt k.frames i).refs)).drew -> Km lo mb tt X U S { k with slots:=k.slots.set s ⟨(KM.frAt k.frames i).data,(KM.frAt k.frames i).refs⟩ } /\ Ch S W S U):=fun V U hb hU=>by
   have m0:=HMW.out.below hb
   have m1:=m0.layS AL.v hsl ⟨(KM.frAt k.frames i).data,(KM.frAt k.frames i).refs⟩
   subst hU
   exact ⟨m1.1.below (dr _),((Ch.below hb).trans m1.2).trans (Ch.below (dr _))⟩
  have HL2 : Hid (∀ V U,Km lo mb tt X V S { k with slots:=k.slots.set s ⟨(KM.frAt k.frames i).data,(KM.frAt k.frames i).refs⟩ } -> Ch S W S V -> U = ((((V.setCell ⟨fb,i * 4,none⟩ (.string ⟨#[]⟩)).setCell ⟨fb,i * 4 + 1,none⟩ (.int .i64 0)).setCell ⟨fb,i * 4 + 2,none⟩ (.bool false)).setCell ⟨fb,i * 4 + 3,none⟩ (.bool false)).drew -> Km lo mb tt X U S (swapTo k i s 0) /\ Ch S W S U):=fun V U hV hc hU=>by
   have m2:=hV.layF A.v (i:=i) hi KM.fr0
   subst hU
   exact ⟨m2.1.below (dr _),(hc.trans m2.2).trans (Ch.below (dr _))⟩
  have HRD : Hid (∀ V S' n,n < k.spaces.length -> Km lo mb tt X V S' (swapTo k i s n) -> Ch S W S' V -> ∃ pb cP ae ce lv ax nx cx,V.cell? ⟨pb,n * 3,none⟩ = some (.bool lv) /\ V.cell? ⟨pb,n * 3 + 1,none⟩ = some (.slice ax nx cx) /\ V.cell? ⟨pb,n * 3 + 2,none⟩ = some (.slice ae (KM.spAt k.spaces n).ents.length ce) /\ S'.vP = .slice (some ⟨pb,0,none⟩) k.spaces.length cP /\
    ((swapTo k i s n = swapTo k i s (n + 1) /\ ∀ V',Below V.heap.size V V' -> Calls Tryz.prog 153 #[.slice ae (KM.spAt k.spaces n).ents.length ce,.func (.func 202) #[] #[.pointer (some ⟨w.heap.size,0,none⟩)]] V' fun e w'=>e = .returned (.int .i64 (-1)) /\ Below V'.heap.size V' w') ∨
    ∃ (m eb : Nat),m < (KM.spAt k.spaces n).ents.length /\ ae = some ⟨eb,0,none⟩ /\ eb < V.heap.size /\ ∀ V',Below V.heap.size V V' -> Calls Tryz.prog 153 #[.slice ae (KM.spAt k.spaces n).ents.length ce,.func (.func 202) #[] #[.pointer (some ⟨w.heap.size,0,none⟩)]] V' fun e w'=>e = .returned (.int .i64 (m : Int)) /\ Below V'.heap.size V' w' /\ (∃ u1 u2,w'.cell? ⟨eb,m * 3 + 1,none⟩ = some (.int .i64 u1) /\ w'.cell? ⟨eb,m * 3 + 2,none⟩ = some (.int .i64 u2)) /\ w'.frozen? ⟨eb,m * 3 + 1,none⟩ = false /\ w'.frozen? ⟨eb,m * 3 + 2,none⟩ = false /\ (∀ U,U = ((w'.setCell ⟨eb,m * 3 + 1,none⟩ (.int .i64 2)).setCell ⟨eb,m * 3 + 2,none⟩ (.int .i64 (s : Int))).drew -> Km lo mb tt X U S' (swapTo k i s (n + 1)) /\ Ch S' V S' U))):=fun V S' n hn hV hc=>by
   have hlen : (swapTo k i s n).spaces.length = k.spaces.length:=mapTo_len _ _ _
   have hn' : n < (swapTo k i s n).spaces.length:=by rw [hlen];exact hn
   have hat : KM.spAt (swapTo k i s n).spaces n = KM.spAt k.spaces n:=by
    show KM.spAt (mapTo _ _ _) n = _
    rw [mapTo_at _ _ _ _ hn,if_neg (by omega)]
   obtain ⟨pb,cP,A'⟩:=hV.toKr.sp (by omega)
   obtain ⟨ae,ce,hve,hre⟩:=hV.toKr.ents hn'
   rw [hat] at hve hre
   have a0:=A'.x0 n hn'
   have a1:=A'.x1 n hn'
   have a2:=A'.x2 n hn'
   rw [hve] at a2
   have hv:=A'.v
   rw [hlen] at hv
   obtain ⟨ax,cx,hva,_,_⟩:=row_form (hV.each n hn').areas
   rw [hva] at a1
   refine ⟨pb,cP,ae,ce,_,ax,_,cx,a0,a1,a2,hv,?_⟩
   have hx : V.heap[w.heap.size]? = some (.cells #[.int .i64 (i : Int)] 3 (0,0)):=(hkp.out S' V hc).1
   have hix : ∀ V',Below V.heap.size V V' -> _:=fun V' hb'=>KW.ixE_any 202 (.inr (.inr rfl)) (KM.isIn (i : Int)) (KM.spAt k.spaces n).ents ae ce w.heap.size V' (hre.below hb') (by have:=ents_few hR hn;omega) (fun U e hU=>here_any (i : Int) e w.heap.size U (B.cell (B.below (B.below hx hb' (B.isLt hx)) hU (Nat.lt_of_lt_of_le (B.isLt hx) hb'.size)) 0 rfl))
   by_cases hex : ∃ m,m < (KM.spAt k.spaces n).ents.length /\ KM.isIn (i : Int) (KM.enAt (KM.spAt k.spaces n).ents m) = true
   · obtain ⟨m,hm,hy⟩:=hex
     obtain ⟨eb,hao,hebl⟩ : ∃ eb,ae = some ⟨eb,0,none⟩ /\ eb < V.heap.size:=by
      obtain ⟨ao,cap,e,_,hg⟩:=row_form (hV.each n hn').pages
      rw [hat,hve] at e
      rw [hat] at hg
      obtain ⟨g,e2,_,hgl⟩:=hg (by omega)
      injection e with e1 _ _
      exact ⟨g,by rw [e1,e2],hgl⟩
     subst hao
     refine .inr ⟨m,eb,hm,rfl,hebl,fun V' hb'=>(hix V' hb').mono fun e w' ⟨hb,hh⟩=>?_⟩
     have hbb : Below V.heap.size V w':=hb'.trans (hb.mono hb'.size)
     have he : e = .returned (.int .i64 (m : Int)):=by
      rcases hh with ⟨_,hno⟩ | ⟨m',hm',he,hy',_⟩
      · have:=hno m hm;rw [hy] at this;cases this
      · have:=KM.one_in hR hi hn hm hm' hy hy'
        rw [this];exact he
     have mw:=hV.below hbb
     have hs1 : m < (KM.spAt (swapTo k i s n).spaces n).ents.length:=by rw [hat];exact hm
     have hrow:=(mw.each n hn').pages
     rw [hat,hve] at hrow
     have g1:=row_at cellEn (fun _=>rfl) KM.en0 hrow m 1 hm (by omega)
     have g2:=row_at cellEn (fun _=>rfl) KM.en0 hrow m 2 hm (by omega)
     refine ⟨he,hb,⟨_,_,g1,g2⟩,row_free hrow _,row_free hrow _,fun U hU=>?_⟩
     have e1:=mw.setE hn' hve hs1 (c:=1) (by omega) (e:=⟨(KM.enAt (KM.spAt k.spaces n).ents m).page,2,(KM.enAt (KM.spAt k.spaces n).ents m).loc⟩) (u:=.int .i64 2) (by rw [hat];rfl)
     have hl2 : n < ({ swapTo k i s n with spaces:=(swapTo k i s n).spaces.set n (KM.withE (KM.spAt (swapTo k i s n).spaces n) ((KM.spAt (swapTo k i s n).spaces n).ents.set m ⟨(KM.enAt (KM.spAt k.spaces n).ents m).page,2,(KM.enAt (KM.spAt k.spaces n).ents m).loc⟩)) } : KM.Kn).spaces.length:=by
      show n < (List.set _ _ _).length
      rw [List.length_set];exact hn'
     have hat2 : KM.spAt ((swapTo k i s n).spaces.set n (KM.withE (KM.spAt (swapTo k i s n).spaces n) ((KM.spAt (swapTo k i s n).spaces n).ents.set m ⟨(KM.enAt (KM.spAt k.spaces n).ents m).page,2,(KM.enAt (KM.spAt k.spaces n).ents m).loc⟩))) n = KM.withE (KM.spAt k.spaces n) ((KM.spAt k.spaces n).ents.set m ⟨(KM.enAt (KM.spAt k.spaces n).ents m).page,2,(KM.enAt (KM.spAt k.spaces n).ents m).loc⟩):=by
      rw [KM.spAt_set _ _ _ _ hn',if_pos rfl,hat]
     have e2:=e1.1.setE hl2 hve (i:=m) (by
      show m < (KM.spAt (List.set _ _ _) n).ents.length
      rw [hat2]
      show m < (List.set _ _ _).length
      rw [List.length_set];exact hm) (c:=2) (by omega) (e:=⟨(KM.enAt (KM.spAt k.spaces n).ents m).page,2,(s : Int)⟩) (u:=.int .i64 (s : Int)) (by
      show _ = (cellEn (KM.enAt (KM.spAt (List.set _ _ _) n).ents m)).set 2 _
      rw [hat2]
      show _ = (cellEn ((List.set _ _ _).getD m KM.en0)).set 2 _
      rw [KM.getD_set_self _ _ _ _ hm]
      rfl)
     have hK : ({ ({ swapTo k i s n with spaces:=(swapTo k i s n).spaces.set n (KM.withE (KM.spAt (swapTo k i s n).spaces n) ((KM.spAt (swapTo k i s n).spaces n).ents.set m ⟨(KM.enAt (KM.spAt k.spaces n).ents m).page,2,(KM.enAt (KM.spAt k.spaces n).ents m).loc⟩)) } : KM.Kn) with spaces:=((swapTo k i s n).spaces.set n (KM.withE (KM.spAt (swapTo k i s n).spaces n) ((KM.spAt (swapTo k i s n).spaces n).ents.set m ⟨(KM.enAt (KM.spAt k.spaces n).ents m).page,2,(KM.enAt (KM.spAt k.spaces n).ents m).loc⟩))).set n (KM.withE (KM.spAt ((swapTo k i s n).spaces.set n (KM.withE (KM.spAt (swapTo k i s n).spaces n) ((KM.spAt (swapTo k i s n).spaces n).ents.set m ⟨(KM.enAt (KM.spAt k.spaces n).ents m).page,2,(KM.enAt (KM.spAt k.spaces n).ents m).loc⟩))) n) ((KM.spAt ((swapTo k i s n).spaces.set n (KM.withE (KM.spAt (swapTo k i s n).spaces n) ((KM.spAt (swapTo k i s n).spaces n).ents.set m ⟨(KM.enAt (KM.spAt k.spaces n).ents m).page,2,(KM.enAt (KM.spAt k.spaces n).ents m).loc⟩))) n).ents.set m ⟨(KM.enAt (KM.spAt k.spaces n).ents m).page,2,(s : Int)⟩)) } : KM.Kn) = swapTo k i s (n + 1):=by
      rw [hat2,List.set_set]
      unfold swapTo
      simp only
      congr 1
      rw [<- mapTo_set _ _ _ hn]
      congr 1
      unfold KM.withE KM.swapS
      simp only [List.set_set]
      congr 1
      exact KM.swap_first _ _ _ m hm hy (fun q hq hqi=>KM.one_in hR hi hn hq hm hqi hy)
     subst hU
     have e3:=hK ▸ e2.1
     exact ⟨e3.below (dr _),(((Ch.below hbb).trans e1.2).trans e2.2).trans (Ch.below (dr _))⟩
   · have hno : ∀ m,m < (KM.spAt k.spaces n).ents.length -> KM.isIn (i : Int) (KM.enAt (KM.spAt k.spaces n).ents m) = false:=fun m hm=>by
      cases g : KM.isIn (i : Int) (KM.enAt (KM.spAt k.spaces n).ents m) with
      | false=>rfl
      | true=>exact absurd ⟨m,hm,g⟩ hex
     refine .inl ⟨?_,fun V' hb'=>(hix V' hb').mono fun e w' ⟨hb,hh⟩=>?_⟩
     · unfold swapTo
       congr 1
       rw [<- mapTo_set _ _ _ hn]
       have e1 : KM.swapS (i : Int) s (KM.spAt k.spaces n) = KM.spAt (mapTo (KM.swapS i s) k.spaces n) n:=by
        rw [mapTo_at _ _ _ _ hn,if_neg (by omega)]
        unfold KM.swapS
        rw [KM.swap_none _ _ _ hno]
       rw [e1]
       refine (KM.ext_getD KM.sp0 _ _ (by rw [List.length_set]) (fun q hq=>?_)).symm
       have:=KM.spAt_set (mapTo (KM.swapS i s) k.spaces n) n q (KM.spAt (mapTo (KM.swapS i s) k.spaces n) n) (by rw [mapTo_len];exact hn)
       unfold KM.spAt at this ⊢
       rw [this]
       by_cases z : n = q
       · rw [if_pos z,z]
       · rw [if_neg z]
     · rcases hh with ⟨he,_⟩ | ⟨m',hm',_,hy',_⟩
       · exact ⟨he,hb⟩
       · exact absurd ⟨m',hm',hy'⟩ hex
  obtain ⟨pb,cP,AP⟩:=HMW.out.toKr.sp (by omega)
  have hvP:=AP.v
  have HVP:=hideC AP.v
  have np4 : k.spaces.length <= 4:=by omega
  have HAF:=hideC (fun V K (hV : Km lo mb tt X V S K) (hK : K.frames = k.frames)=>(show (∀ j,V.frozen? ⟨fb,j,none⟩ = false) /\ V.cell? ⟨fb,i * 4,none⟩ = some (.string (KM.frAt k.frames i).data) /\ V.cell? ⟨fb,i * 4 + 1,none⟩ = some (.int .i64 (KM.frAt k.frames i).refs) /\ V.cell? ⟨fb,i * 4 + 2,none⟩ = some (.bool (KM.frAt k.frames i).dirty) /\ V.cell? ⟨fb,i * 4 + 3,none⟩ = some (.bool (KM.frAt k.frames i).seen) /\ V.cell? ⟨mb,1,none⟩ = some (.slice (some ⟨fb,0,none⟩) k.frames.length cF) /\ V.cell? ⟨mb,3,none⟩ = some (.slice (some ⟨pb,0,none⟩) k.spaces.length cP) from by
   obtain ⟨fb',cF',A'⟩:=hV.toKr.fr (by rw [hK];omega)
   have e : fb' = fb:=by
    have:=A'.v
    rw [A.v] at this
    injection this with e1 _ _
    injection e1 with e1
    injection e1 with e1 _ _
    exact e1.symm
   subst e
   have c1:=hV.c1
   have c3:=hV.c3
   rw [A.v] at c1
   rw [hvP] at c3
   have y0:=A'.x0 i (by rw [hK];exact hi)
   have y1:=A'.x1 i (by rw [hK];exact hi)
   have y2:=A'.x2 i (by rw [hK];exact hi)
   have y3:=A'.x3 i (by rw [hK];exact hi)
   rw [hK] at y0 y1 y2 y3
   exact ⟨A'.fz,y0,y1,y2,y3,c1,c3⟩))
  have hx0:=AL.x0 s hsl
  have hx1:=AL.x1 s hsl
  have hz0:=AL.fz (s * 2)
  have hz1:=AL.fz (s * 2 + 1)
  have hll:=AL.lt
  have HC3:=hideC (fun V (hV : Km lo mb tt X V S (swapTo k i s 0))=>(show V.cell? ⟨mb,3,none⟩ = some (.slice (some ⟨pb,0,none⟩) k.spaces.length cP) from by have:=hV.c3;rw [hvP] at this;exact this))
  have q0 : ∀ V,Below W.heap.size W V -> V.cell? ⟨w.heap.size + 1,0,none⟩ = some (.string (KM.frAt k.frames i).data) /\ V.cell? ⟨w.heap.size + 1,1,none⟩ = some (.int .i64 (KM.frAt k.frames i).refs) /\ V.cell? ⟨mb,2,none⟩ = some (.slice (some ⟨lb,0,none⟩) k.slots.length cL) /\ V.cell? ⟨lb,s * 2,none⟩ = some (.string (KM.slAt k.slots s).data) /\ V.cell? ⟨lb,s * 2 + 1,none⟩ = some (.int .i64 (KM.slAt k.slots s).refs) /\ V.frozen? ⟨lb,s * 2,none⟩ = false /\ V.frozen? ⟨lb,s * 2 + 1,none⟩ = false:=fun V hb=>by
   have hF:=B.below F0.out hb (B.isLt F0.out)
   have mV:=HMW.out.below hb
   obtain ⟨lb',cL',A'⟩:=mV.toKr.sl (by omega)
   have e : lb' = lb:=by
    have:=A'.v
    rw [AL.v] at this
    injection this with e1 _ _
    injection e1 with e1
    injection e1 with e1 _ _
    exact e1.symm
   subst e
   have c2:=mV.c2
   rw [AL.v] at c2
   exact ⟨B.cell hF 0 rfl,B.cell hF 1 rfl,c2,A'.x0 s hsl,A'.x1 s hsl,A'.fz _,A'.fz _⟩
  have HQ0:=hideC q0
  have HXA:=hideC (fun V (hc : Ch S W S V)=>(show V.cell? ⟨w.heap.size,0,none⟩ = some (.int .i64 (i : Int)) from B.cell (hkp.out S V hc).1 0 rfl))
  obtain ⟨FR,hFR⟩ : ∃ FR,FR = KM.frAt k.frames i:=⟨_,rfl⟩
  rw [<- hFR] at x0 x1 x2 x3 HHW hd F0 HL1 HL2 HAF HQ0
  obtain ⟨SR,hSR⟩ : ∃ SR,SR = KM.slAt k.slots s:=⟨_,rfl⟩
  rw [<- hSR] at HQ0
  rw [hd] at x2 HHW F0
  have d2 : W.cell? ⟨w.heap.size + 1,2,none⟩ = some (.bool true):=B.cell F0.out 2 rfl
  have hsi : (s : Int) < (k.slots.length : Int):=by omega
  have HMF : Hid (∀ S' V,Ch S W S' V -> S'.vP = S.vP):=fun S' V hc=>hc.eP
  have hHW:=HB0.out.size
  clear hW hP hR hcc A h hr0 hFR HFIN hkp hi hfs hsn AL AP hrL eL q0 hswap hvP hSR dr hx0 hx1 hz0 hz1
  go_enter Tryz.func190,Tryz.ntmps190
  go_upto_region 1 with fail
  go_region
  rw [<- HHW.out]
  go_upto_region 10 with (go_at_call 203;refine HIX.out.mono ?_;rintro e w1 ⟨rfl,hb1⟩;have HB1:=hideC hb1;clear hb1)
  obtain ⟨p0,p1,p2,p3,p4,p5,p6⟩:=HQ0.out w1 HB1.out
  obtain ⟨U1,hU1⟩ : ∃ U1,U1 = ((w1.setCell ⟨lb,s * 2,none⟩ (.string FR.data)).setCell ⟨lb,s * 2 + 1,none⟩ (.int .i64 FR.refs)).drew:=⟨_,rfl⟩
  have HU1:=hideC hU1
  obtain ⟨hk1,hc1⟩:=HL1.out w1 U1 HB1.out hU1
  have HK1:=hideC hk1
  have HC1:=hideC hc1
  clear hU1 hk1 hc1
  go_region
  rw [<- HU1.out]
  obtain ⟨g0,g1,g2,g3,g4,g5,g6⟩:=HAF.out U1 _ HK1.out rfl
  have g0a:=g0 (i * 4)
  have g0b:=g0 (i * 4 + 1)
  have g0c:=g0 (i * 4 + 2)
  have g0d:=g0 (i * 4 + 3)
  have g7:=HXA.out U1 HC1.out
  obtain ⟨U2,hU2⟩ : ∃ U2,U2 = ((((U1.setCell ⟨fb,i * 4,none⟩ (.string ⟨#[]⟩)).setCell ⟨fb,i * 4 + 1,none⟩ (.int .i64 0)).setCell ⟨fb,i * 4 + 2,none⟩ (.bool false)).setCell ⟨fb,i * 4 + 3,none⟩ (.bool false)).drew:=⟨_,rfl⟩
  have HU2:=hideC hU2
  obtain ⟨hk2,hc2⟩:=HL2.out U1 U2 HK1.out HC1.out hU2
  have HK2:=hideC hk2
  have HC2:=hideC hc2
  have k3:=HC3.out U2 hk2
  clear hU2 hk2 hc2 p0 p1 p2 p3 p4 p5 p6 g0
  go_upto_region 11 with fail
  go_region
  rw [<- HU2.out]
  clear HU1 HU2 HK1 HC1 HB1 g0a g0b g0c g0d g1 g2 g3 g4 g5 g6 g7
  go_wp2
  go_loopw [69] (fun iv wr=>∃ (n : Nat) (S' : St),n <= k.spaces.length /\ iv = .int .i64 (n : Int) /\ Km lo mb tt X wr S' (swapTo k i s n) /\ Ch S W S' wr) (fun iv _=>k.spaces.length - (intOf iv).toNat)
  case atStart=>exact ⟨0,S,by omega,rfl,HK2.out,HC2.out⟩
  case round =>
   obtain ⟨n,S',hn,rfl,hkm,hch⟩:=hrel
   by_cases hlt : n < k.spaces.length
   · have hni : (n : Int) < (k.spaces.length : Int):=by omega
     obtain ⟨pb',cP',ae,ce,lv,ax,nx,cx,a0,a1,a2,hvp,hcs⟩:=HRD.out wr S' n hlt hkm hch
     have epb : pb' = pb:=by
      rw [HMF.out S' wr hch,HVP.out] at hvp
      injection hvp with e1 _ _
      injection e1 with e1
      injection e1 with e1 _ _
      exact e1.symm
     subst epb
     have HKM:=hideC hkm
     have HCH:=hideC hch
     have HA:=hideC ((Below.refl wr.heap.size wr).alloc (Nat.le_refl _) (.cells #[.bool lv,.slice ax nx cx,.slice ae (KM.spAt k.spaces n).ents.length ce] 43))
     have BX:=hideC (B.new wr #[.bool lv,.slice ax nx cx,.slice ae (KM.spAt k.spaces n).ents.length ce] 43)
     have hebn : ∀ eb,eb < wr.heap.size -> ¬ wr.heap.size = eb:=fun eb h=>by omega
     have hlen4 : (KM.spAt k.spaces n).ents.length <= (KM.spAt k.spaces n).ents.length:=Nat.le_refl _
     clear hkm hch hvp HK2 HC2
     rcases hcs with ⟨hsame,hcl⟩ | ⟨m,eb,hm,hae,hebl,hcl⟩
     · have HSM:=hideC hsame
       have HCL:=hideC hcl
       clear hsame hcl
       go_wp2_with (go_at_call 153;refine (HCL.out _ HA.out).mono ?_;rintro e w2 ⟨rfl,hb2⟩;have HB2:=hideC (HA.out.trans (hb2.mono HA.out.size));clear hb2)
       go_roundw
       case rel=>exact ⟨n + 1,S',by omega,by go_num,HSM.out ▸ HKM.out.below HB2.out,HCH.out.trans (Ch.below HB2.out)⟩
       case measure=>simp [intOf];omega
     · subst hae
       have HCL:=hideC hcl
       have hmi : (m : Int) < ((KM.spAt k.spaces n).ents.length : Int):=by omega
       have hm0 : (0 : Int) <= (m : Int):=by omega
       have hne:=hebn eb hebl
       clear hcl hebn
       go_upto_region 17 with (go_at_call 153;refine (HCL.out _ HA.out).mono ?_;rintro e w2 ⟨rfl,hb2,⟨u1,u2,t1,t2⟩,t3,t4,hfin⟩;have BX2:=B.below BX.out hb2 (B.isLt BX.out);obtain ⟨r0,r1,r2⟩:=B.c3 BX2;have HFI:=hideC hfin;clear hb2 hfin BX2)
       go_region
       go_wp2
       go_roundw
       case rel =>
        obtain ⟨z1,z2⟩:=HFI.out _ rfl
        exact ⟨n + 1,S',by omega,by go_num,z1,HCH.out.trans z2⟩
       case measure=>simp [intOf];omega
   · obtain rfl : n = k.spaces.length:=by omega
     have HX:=hideC (HF2.out wr S' hkm hch)
     clear hkm hch
     go_wp2
     first
      | exact HX.out
      | (refine bodyPost_end (v:=.tuple #[]) (by simp [results,Tryz.results190,go_sem]) rfl ?_;exact HX.out)
structure Held (w : World) (S : St) (ah : Option Addr) (held : List Int) : Prop where
 has : HasRow cellI 1 0 w ah held
 no : ∀ b off,ah = some ⟨b,off,none⟩ -> S.lab b = .no
 lt : ∀ b off,ah = some ⟨b,off,none⟩ -> b < w.heap.size
theorem Held.ch {w w' : World} {S S' : St} {ah : Option Addr} {held : List Int} (h : Held w S ah held) (hc : Ch S w S' w') : Held w' S' ah held :=
 ⟨KX.HasRow.kp h.has hc.kp (fun b off e z=>z (h.no b off e)),fun b off e=>hc.no b (h.lt b off e) (h.no b off e),fun b off e=>Nat.lt_of_lt_of_le (h.lt b off e) hc.kp.size⟩
theorem pass_no {held : List Int} {k : KM.Kn} {i : Nat} (h : (held.contains (i : Int) || (KM.frAt k.frames i).seen) = false) (hi : i < k.frames.length) : passK held k i = k:=by
 rw [Bool.or_eq_false_iff] at h
 unfold passK
 rw [if_neg (by rw [h.1];simp)]
 have : k.frames.set i (KM.unseen (KM.frAt k.frames i)) = k.frames:=by
  refine KM.ext_getD KM.fr0 _ _ List.length_set (fun m hm=>?_)
  rw [List.length_set] at hm
  by_cases c : i = m
  · subst c
    rw [KM.getD_set_self _ _ _ _ hm]
    have e:=h.2
    unfold KM.unseen
    show (⟨(KM.frAt k.frames i).data,(KM.frAt k.frames i).refs,(KM.frAt k.frames i).dirty,false⟩ : KM.Fr) = KM.frAt k.frames i
    rw [<- e]
  · rw [KM.getD_set_ne _ _ _ _ _ c]
 rw [this]
theorem pass_step {held : List Int} {k : KM.Kn} (hh : 0 <= k.hand /\ k.hand < k.frames.length) : ({ passK held k k.hand.toNat with hand:=KM.nextH (passK held k k.hand.toNat) } : KM.Kn) = KM.stepH held k:=by
 have e : ((k.hand.toNat : Nat) : Int) = k.hand:=by omega
 unfold passK KM.stepH
 rw [e]
 by_cases c : held.contains k.hand = true
 · rw [if_pos c,if_pos c]
 · rw [if_neg c,if_neg c]
   unfold KM.nextH
   simp only [List.length_set]
set_option maxHeartbeats 16000000 in
theorem get_any {lo mb : Nat} {tt : TypeId} {X : List Value} (k : KM.Kn) (S : St) (w : World) (held : List Int) (ah : Option Addr) (ch : Nat) (h : Km lo mb tt X w S k) (hR : KM.RightK k) (hl : held.length <= 2) (hH : Held w S ah held) :
  Calls Tryz.prog 165 #[.pointer (some ⟨mb,0,none⟩),.slice ah held.length ch] w (OutM lo mb tt X w S (.int .i64 ((KM.getK k held).1 : Int)) (KM.getK k held).2):=by
 have hcc:=hR.c
 obtain ⟨fb,cF,A⟩:=h.toKr.fr (by omega)
 obtain ⟨aF,cF',eF,_,hrF⟩:=row_has cellFr (fun _=>rfl) KM.fr0 h.frames
 have eF2 : aF = some ⟨fb,0,none⟩:=by
  have:=eF
  rw [A.v] at this
  injection this with e1 _ _
  exact e1.symm
 subst eF2
 have c1:=h.c1
 rw [A.v] at c1
 have hix:=ixFr_any k.frames (some ⟨fb,0,none⟩) cF w hrF (by omega)
 by_cases hex : ∃ i,i < k.frames.length /\ KM.isZ (KM.frAt k.frames i) = true /\ ∀ j,j < i -> KM.isZ (KM.frAt k.frames j) = false
 · obtain ⟨i,hi,hy,hno⟩:=hex
   have hf:=free_fr hR hi hy hno
   have hg : KM.getK k held = (i,k):=by unfold KM.getK;rw [hf]
   have HIX : Hid (Calls Tryz.prog 187 #[.slice (some ⟨fb,0,none⟩) k.frames.length cF,.func (.func 168) #[] #[]] w fun e w'=>e = .returned (.int .i64 (i : Int)) /\ Below w.heap.size w w'):=hix.mono fun e w' ⟨hb,hh⟩=>by
    rcases hh with ⟨_,hn⟩ | ⟨m,hm,he,hy2,hn2⟩
    · have:=hn i hi;rw [hy] at this;cases this
    · have:=free_fr hR hm hy2 hn2
      rw [hf] at this
      injection this with this
      subst this
      exact ⟨he,hb⟩
   have HFIN : Hid (∀ V,Below w.heap.size w V -> OutM lo mb tt X w S (.int .i64 ((KM.getK k held).1 : Int)) (KM.getK k held).2 (.returned (.int .i64 (i : Int))) V):=fun V hb=>by
    rw [hg]
    exact ⟨rfl,S,h.below hb,Ch.below hb⟩
   obtain ⟨P,hP⟩ : ∃ P,P = OutM lo mb tt X w S (.int .i64 ((KM.getK k held).1 : Int)) (KM.getK k held).2:=⟨_,rfl⟩
   rw [<- hP] at HFIN ⊢
   have hi0 : (0 : Int) <= (i : Int):=by omega
   clear hP hix hg hf hno hy h hR hcc A eF hrF hH
   go_enter Tryz.func165,Tryz.ntmps165
   go_wp2_with (go_at_call 187;refine HIX.out.mono ?_;rintro e w1 ⟨rfl,hb1⟩;have HB1:=hideC hb1;clear hb1)
   exact HFIN.out _ HB1.out
 · have hall : ∀ j,j < k.frames.length -> KM.isZ (KM.frAt k.frames j) = false:=fun j=>by
    induction j using Nat.strongRecOn with
    | _ j ih =>
     intro hj
     cases g : KM.isZ (KM.frAt k.frames j) with
     | false=>rfl
     | true=>exact absurd ⟨j,hj,g,fun m hm=>ih m hm (by omega)⟩ hex
   obtain ⟨hf,hFull⟩:=full_fr hR hall
   obtain ⟨T,hT,hpass,hstop⟩:=KM.clock_ends held hl hR hFull
   have hck:=KM.clock_iter held T 69 k (by omega) hpass hstop
   have hg : KM.getK k held = ((KM.iterH held T k).hand.toNat,{ KM.asideK (KM.iterH held T k) (KM.iterH held T k).hand.toNat with hand:=KM.nextH (KM.iterH held T k) }):=by
    unfold KM.getK
    rw [hf,hck]
   have HIX : Hid (Calls Tryz.prog 187 #[.slice (some ⟨fb,0,none⟩) k.frames.length cF,.func (.func 168) #[] #[]] w fun e w'=>e = .returned (.int .i64 (-1)) /\ Below w.heap.size w w'):=hix.mono fun e w' ⟨hb,hh⟩=>by
    rcases hh with ⟨he,_⟩ | ⟨m,hm,_,hy2,_⟩
    · exact ⟨he,hb⟩
    · rw [hall m hm] at hy2;cases hy2
   have TK:=KM.ticked held hR hFull
   have hnf : ∀ n,(KM.iterH held n k).frames.length = k.frames.length:=fun n=>(TK n).kept.nf
   have hhd : ∀ n,0 <= (KM.iterH held n k).hand /\ (KM.iterH held n k).hand < (KM.iterH held n k).frames.length:=fun n=>(TK n).right.hand
   have HPS : Hid (∀ V S' n,Km lo mb tt X V S' (KM.iterH held n k) -> Ch S w S' V -> Calls Tryz.prog 188 #[.pointer (some ⟨mb,0,none⟩),.int .i64 (KM.iterH held n k).hand,.slice ah held.length ch] V (OutS lo mb tt X V S' (.bool (KM.passB held (KM.iterH held n k))) (passK held (KM.iterH held n k) (KM.iterH held n k).hand.toNat))):=fun V S' n hV hc=>by
    have e : (((KM.iterH held n k).hand.toNat : Nat) : Int) = (KM.iterH held n k).hand:=by have:=hhd n;omega
    have:=passed_any (KM.iterH held n k) S' V (KM.iterH held n k).hand.toNat held ah ch hV (by have:=hhd n;omega) (hH.ch hc).has (by omega)
    rw [e] at this
    exact this
   have HMV : Hid (∀ V S' n,Km lo mb tt X V S' (passK held (KM.iterH held n k) (KM.iterH held n k).hand.toNat) -> Calls Tryz.prog 189 #[.pointer (some ⟨mb,0,none⟩)] V (OutS lo mb tt X V S' (.tuple #[]) (KM.iterH held (n + 1) k))):=fun V S' n hV=>by
    have hpk : (passK held (KM.iterH held n k) (KM.iterH held n k).hand.toNat).frames.length = (KM.iterH held n k).frames.length /\ (passK held (KM.iterH held n k) (KM.iterH held n k).hand.toNat).hand = (KM.iterH held n k).hand:=by
     unfold passK
     split
     · exact ⟨rfl,rfl⟩
     · exact ⟨List.length_set,rfl⟩
    have:=moveHand_any (passK held (KM.iterH held n k) (KM.iterH held n k).hand.toNat) S' V hV (by rw [hpk.1,hpk.2];exact hhd n) (by rw [hpk.1,hnf];omega)
    rw [pass_step (hhd n)] at this
    exact this
   have HST : Hid (∀ V S',Km lo mb tt X V S' (passK held (KM.iterH held T k) (KM.iterH held T k).hand.toNat) -> Km lo mb tt X V S' (KM.iterH held T k)):=fun V S' hV=>by
    have e : (((KM.iterH held T k).hand.toNat : Nat) : Int) = (KM.iterH held T k).hand:=by have:=hhd T;omega
    rw [pass_no (by rw [e];exact hstop) (by have:=hhd T;omega)] at hV
    exact hV
   have HPA : Hid (∀ V S',Km lo mb tt X V S' (KM.iterH held T k) -> Calls Tryz.prog 190 #[.pointer (some ⟨mb,0,none⟩),.int .i64 (KM.iterH held T k).hand] V (OutM lo mb tt X V S' (.tuple #[]) (KM.asideK (KM.iterH held T k) (KM.iterH held T k).hand.toNat))):=fun V S' hV=>by
    have e : (((KM.iterH held T k).hand.toNat : Nat) : Int) = (KM.iterH held T k).hand:=by have:=hhd T;omega
    have:=putAside_any (KM.iterH held T k) S' V (KM.iterH held T k).hand.toNat hV (TK T).right (by have:=hhd T;omega) ((TK T).full _ (by have:=hhd T;omega))
    rw [e] at this
    exact this
   have hasd:=KM.aside_frames (KM.iterH held T k) (KM.iterH held T k).hand.toNat
   have HM2 : Hid (∀ V S',Km lo mb tt X V S' (KM.asideK (KM.iterH held T k) (KM.iterH held T k).hand.toNat) -> Calls Tryz.prog 189 #[.pointer (some ⟨mb,0,none⟩)] V (OutS lo mb tt X V S' (.tuple #[]) { KM.asideK (KM.iterH held T k) (KM.iterH held T k).hand.toNat with hand:=KM.nextH (KM.iterH held T k) })):=fun V S' hV=>by
    have hlen : (KM.asideK (KM.iterH held T k) (KM.iterH held T k).hand.toNat).frames.length = (KM.iterH held T k).frames.length:=by rw [hasd.1,List.length_set]
    have:=moveHand_any _ S' V hV (by rw [hlen,hasd.2];exact hhd T) (by rw [hlen,hnf];omega)
    have e : KM.nextH (KM.asideK (KM.iterH held T k) (KM.iterH held T k).hand.toNat) = KM.nextH (KM.iterH held T k):=by
     unfold KM.nextH
     rw [hlen,hasd.2]
    rw [e] at this
    exact this
   have HHD : Hid (∀ V S' n,Km lo mb tt X V S' (KM.iterH held n k) -> V.cell? ⟨mb,4,none⟩ = some (.int .i64 (KM.iterH held n k).hand)):=fun V S' n hV=>hV.c4
   have HHI:=hideC (fun n=>hhd n)
   have HPP:=hideC hpass
   have HSS:=hideC hstop
   have HFIN : Hid (∀ V S',Km lo mb tt X V S' { KM.asideK (KM.iterH held T k) (KM.iterH held T k).hand.toNat with hand:=KM.nextH (KM.iterH held T k) } -> Ch S w S' V -> OutM lo mb tt X w S (.int .i64 ((KM.getK k held).1 : Int)) (KM.getK k held).2 (.returned (.int .i64 (KM.iterH held T k).hand)) V):=fun V S' h1 h2=>by
    rw [hg]
    refine ⟨?_,S',h1,h2⟩
    congr 2
    have:=hhd T
    show _ = (((KM.iterH held T k).hand.toNat : Nat) : Int)
    omega
   obtain ⟨P,hP⟩ : ∃ P,P = OutM lo mb tt X w S (.int .i64 ((KM.getK k held).1 : Int)) (KM.getK k held).2:=⟨_,rfl⟩
   rw [<- hP] at HFIN ⊢
   have HK0:=hideC h
   have hml:=h.lt
   clear hP hix hg hf hall hex h hR hcc A eF hrF hH TK hnf hhd hpass hstop hck hFull hasd hl
   go_enter Tryz.func165,Tryz.ntmps165
   go_wp2_with (go_at_call 187;refine HIX.out.mono ?_;rintro e w1 ⟨rfl,hb1⟩;have HB1:=hideC hb1;clear hb1)
   go_loopg [23] T (fun g _ wr=>∃ (n : Nat) (S' : St),n <= T /\ g = T - n /\ Km lo mb tt X wr S' (KM.iterH held n k) /\ Ch S w S' wr)
   case atStart=>exact ⟨0,S,by omega,by omega,HK0.out.below HB1.out,Ch.below HB1.out⟩
   case round =>
    obtain ⟨n,S',hn,hgk,hkm,hch⟩:=hrel
    have d4:=HHD.out wr S' n hkm
    have HPS2:=hideC (HPS.out wr S' n hkm hch)
    have HMV2:=hideC (fun V=>HMV.out V S' n)
    have HCH:=hideC hch
    have HGK:=hideC hgk
    clear hkm hch hgk HK0
    by_cases hlt : n < T
    · have hp:=HPP.out n hlt
      rw [hp] at HPS2
      obtain ⟨hd,hhd⟩ : ∃ hd,hd = (KM.iterH held n k).hand:=⟨_,rfl⟩
      rw [<- hhd] at d4 HPS2 HMV2
      clear hp hhd
      go_wp2_with (first
       | (go_at_call 188;refine HPS2.out.mono ?_;rintro e w2 ⟨rfl,hk2,hc2⟩;have HK2:=hideC hk2;have HC2:=hideC (HCH.out.trans hc2);clear hk2 hc2)
       | (go_at_call 189;refine (HMV2.out _ HK2.out).mono ?_;rintro e w3 ⟨rfl,hk3,hc3⟩;have HK3:=hideC hk3;have HC3:=hideC (HC2.out.trans hc3);clear hk3 hc3))
      go_roundg (T - (n + 1))
      case measure=>have:=HGK.out;omega
      case rel=>exact ⟨n + 1,S',by omega,by omega,HK3.out,HC3.out⟩
    · obtain rfl : n = T:=by omega
      have hp:=HSS.out
      rw [hp] at HPS2
      have HI:=hideC (HHI.out n)
      obtain ⟨IT,hIT⟩ : ∃ IT,IT = KM.iterH held n k:=⟨_,rfl⟩
      rw [<- hIT] at d4 HPS2 HST HPA HM2 HFIN
      have HHD3 : Hid (∀ V S',Km lo mb tt X V S' IT -> V.cell? ⟨mb,4,none⟩ = some (.int .i64 IT.hand)):=fun V S' hV=>hV.c4
      clear hp hIT HMV HMV2 HPS HHD HPP HSS HHI HI
      go_wp2_with (first
       | (go_at_call 188;refine HPS2.out.mono ?_;rintro e w2 ⟨rfl,hk2,hc2⟩;have hk2b:=HST.out _ _ hk2;have HK2:=hideC hk2b;have HC2:=hideC (HCH.out.trans hc2);have d5:=HHD3.out w2 S' hk2b;have hml2:=hk2b.lt;clear hk2 hc2 hk2b)
       | (go_at_call 190;refine (HPA.out _ _ HK2.out).mono ?_;rintro e w3 ⟨rfl,S3,hk3,hc3⟩;have HK3:=hideC hk3;have HC3:=hideC (HC2.out.trans hc3);clear hk3 hc3)
       | (have _:=HK3;go_at_call 189;refine (HM2.out _ _ HK3.out).mono ?_;rintro e w4 ⟨rfl,hk4,hc4⟩;have HK4:=hideC hk4;have HC4:=hideC (HC3.out.trans hc4);clear hk4 hc4))
      exact HFIN.out _ _ HK4.out HC4.out
end KX
end Go.Proofs.YtpgifpeohlllfaaGreat
