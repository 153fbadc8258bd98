import Derived.Test.YtpgifpeohlllfaaGreatGP00
import Derived.Test.YtpgifpeohlllfaaGreatGP21
import Derived.Deep.LoopGhost
set_option maxHeartbeats 20000000
set_option linter.unusedVariables false
set_option maxRecDepth 100000
set_option linter.unusedSimpArgs false
namespace Go.Proofs.YtpgifpeohlllfaaGreat
namespace KX
open Go.RowKit GK KO
open FW (ai aC)
open KW (bE bD aI aU fe cO aH dH bQ)
open KS (Lc bO oD dm blk cT)
theorem C4 (i:Int) (e:KM.En) (x:Nat) (w:World) (hx:w.cell? (Ad x 0)=some (I i)) :
  Calls Tryz.prog 202 #[.agg #[I e.page,I e.kind,I e.loc],.pointer (some (Ad x 0))] w fun r w'=>r=.returned (.bool (KM.iG i e))/\Below w.heap.size w w':=by
 obtain⟨pg,kd,lc⟩:=e
 unfold KM.iG
 simp only
 have hxl:x<w.heap.size:=World.block_lt_of_cell? w _ hx
 have xA:(w.alloc (.cells #[I pg,I kd,I lc] 45)).cell? (Ad x 0)=some (I i):=(Below.cell ((Below.refl w.heap.size w).alloc (Nat.le_refl _) _) (p:=(Ad x 0)) hxl).trans hx
 obtain⟨A,hA⟩:=ex (decide (kd=1/\lc=i))
 rw[<- hA]
 have HA:=ai hA
 clear hA
 by_cases c:kd=1
 · have kb:(kd==1)=true:=by simpa using c
   obtain⟨C,hC⟩:=ex ((lc==i))
   have HC:=ai hC
   have hC2:=hC.symm
   have fh:=ai c
   clear hC c
   go_enter Tryz.func202,Tryz.ntmps202
   go_wp2
   go_ret
   refine⟨?_,(Below.refl _ _).alloc (Nat.le_refl _) _⟩
   congr 2
   rw[HA.o,fh.o]
   try rw[HC.o]
   by_cases d:lc=i <;> simp[d]
 · have kb:(kd==1)=false:=by simpa using c
   have fh:=ai c
   clear c
   go_enter Tryz.func202,Tryz.ntmps202
   go_wp2
   go_ret
   refine⟨?_,(Below.refl _ _).alloc (Nat.le_refl _) _⟩
   congr 2
   rw[HA.o]
   simp[fh.o]
theorem EP (f:KM.Sl) (w:World):Calls Tryz.prog 204 #[.agg #[.string f.data,I f.refs]] w fun e w'=>e=.returned (.bool (KM.nt f))/\Below w.heap.size w w':=by
 obtain⟨d,r⟩:=f
 unfold KM.nt
 simp only
 have hd:d.toList.isEmpty=decide (d.size=0):=KW.MS d
 by_cases c1:d.size=0
 · by_cases c2:r=0
   · rw[decide_eq_true (show d.size=0/\r=0 from⟨c1,c2⟩)]
     rw[decide_eq_true c1] at hd
     have h2:(r==0)=true:=by simpa using c2
     clear c1 c2
     go_enter Tryz.func204,Tryz.ntmps204
     go_wp2
     go_ret
     exact⟨by simp,(Below.refl _ _).alloc (Nat.le_refl _) _⟩
   · rw[decide_eq_false (show ¬(d.size=0/\r=0) from fun x=>c2 x.2)]
     rw[decide_eq_true c1] at hd
     have h2:(r==0)=false:=by simpa using c2
     clear c1 c2
     go_enter Tryz.func204,Tryz.ntmps204
     go_wp2
     go_ret
     exact⟨by simp,(Below.refl _ _).alloc (Nat.le_refl _) _⟩
 · rw[decide_eq_false (show ¬(d.size=0/\r=0) from fun x=>c1 x.1)]
   rw[decide_eq_false c1] at hd
   clear c1
   go_enter Tryz.func204,Tryz.ntmps204
   go_wp2
   go_ret
   exact⟨by simp,(Below.refl _ _).alloc (Nat.le_refl _) _⟩
theorem LV (l:List KM.Sl) (ao:Option Addr) (cap:Nat) (w:World) (h:aU bD 2 KM.xY w ao l) (hl:l.length<=1000000) :
  Calls Tryz.prog 203 #[.slice ao l.length cap,.func (.func 204) #[] #[]] w fun e w' =>
   Below w.heap.size w w'/\((e=.returned (I (-1))/\∀j,j<l.length->KM.nt (KM.bk l j)=false)∨∃i:Nat,i<l.length/\e=.returned (I (i:Int))/\KM.nt (KM.bk l i)=true/\∀j,j<i->KM.nt (KM.bk l j)=false):=by
 have HH:=ai h
 clear h
 go_enter Tryz.func203,Tryz.ntmps203
 go_wp2
 go_loopw [8] (fun iv wr=>∃k:Nat,k<=l.length/\iv=I (k:Int)/\(∀j,j<k->KM.nt (KM.bk l j)=false)/\Below w.heap.size w wr) (fun iv _=>l.length-(intOf iv).toNat)
 case atStart=>exact⟨0,by omega,rfl,fun j hj=>by omega,Below.refl _ _⟩
 case round =>
  obtain⟨k,hk,rfl,hno,hb⟩:=hrel
  have gP:=ai hno
  have HB:=ai hb
  clear hno
  by_cases hlt:k<l.length
  · have zm:(k:Int)<(l.length:Int):=by omega
    obtain⟨eb,eo,hao,hbl,bC⟩:=HH.o (by omega)
    subst hao
    have y0:=(hb.cell (p:=(Ad eb (eo+k*2+0))) hbl).trans (bC k hlt 0 (by omega))
    have y1:=(hb.cell (p:=(Ad eb (eo+k*2+1))) hbl).trans (bC k hlt 1 (by omega))
    rw[Nat.add_zero] at y0
    have kv:=ai (EP (KM.bk l k) wr)
    obtain⟨G,hG⟩:=ex (KM.nt (KM.bk l k))
    rw[<- hG] at kv
    have HG:=ai hG
    obtain⟨E,hE⟩:=ex (KM.bk l k)
    have x0:wr.cell? (Ad eb (eo+k*2))=some (.string E.data):=by rw[hE];exact y0
    have x1:wr.cell? (Ad eb (eo+k*2+1))=some (I E.refs):=by rw[hE];exact y1
    rw[<- hE] at kv
    clear hG hE hb y0 y1 bC
    cases G with
    | true =>
     go_wp2_with (go_at_call 204;refine kv.o.mono ?_;rintro e w1 ⟨rfl,hb1⟩;have aZ:=ai (HB.o.trans (hb1.mono HB.o.size));clear hb1)
     go_ret
     exact⟨aZ.o,.inr ⟨k,hlt,rfl,HG.o.symm,gP.o⟩⟩
    | false =>
     go_wp2_with (go_at_call 204;refine kv.o.mono ?_;rintro e w1 ⟨rfl,hb1⟩;have aZ:=ai (HB.o.trans (hb1.mono HB.o.size));clear hb1)
     go_roundw
     case rel=>exact⟨k+1,by omega,by go_num,fun j hj=>by
      by_cases q:j=k
      · subst q;exact HG.o.symm
      · exact gP.o j (by omega),aZ.o⟩
     case measure=>simp[intOf];omega
  · obtain rfl:k=l.length:=by omega
    clear hb
    go_wp2
    go_ret
    exact⟨HB.o,.inl ⟨rfl,gP.o⟩⟩
theorem LX (l:List KM.Fr) (ao:Option Addr) (cap:Nat) (w:World) (h:aU bE 4 KM.l9 w ao l) (hl:l.length<=1000000) :
  Calls Tryz.prog 187 #[.slice ao l.length cap,.func (.func 168) #[] #[]] w fun e w' =>
   Below w.heap.size w w'/\((e=.returned (I (-1))/\∀j,j<l.length->KM.sD (KM.aD l j)=false)∨∃i:Nat,i<l.length/\e=.returned (I (i:Int))/\KM.sD (KM.aD l i)=true/\∀j,j<i->KM.sD (KM.aD l j)=false):=by
 have HH:=ai h
 clear h
 go_enter Tryz.func187,Tryz.ntmps187
 go_wp2
 go_loopw [8] (fun iv wr=>∃k:Nat,k<=l.length/\iv=I (k:Int)/\(∀j,j<k->KM.sD (KM.aD l j)=false)/\Below w.heap.size w wr) (fun iv _=>l.length-(intOf iv).toNat)
 case atStart=>exact⟨0,by omega,rfl,fun j hj=>by omega,Below.refl _ _⟩
 case round =>
  obtain⟨k,hk,rfl,hno,hb⟩:=hrel
  have gP:=ai hno
  have HB:=ai hb
  clear hno
  by_cases hlt:k<l.length
  · have zm:(k:Int)<(l.length:Int):=by omega
    obtain⟨eb,eo,hao,hbl,bC⟩:=HH.o (by omega)
    subst hao
    have y0:=(hb.cell (p:=(Ad eb (eo+k*4+0))) hbl).trans (bC k hlt 0 (by omega))
    have y1:=(hb.cell (p:=(Ad eb (eo+k*4+1))) hbl).trans (bC k hlt 1 (by omega))
    have y2:=(hb.cell (p:=(Ad eb (eo+k*4+2))) hbl).trans (bC k hlt 2 (by omega))
    have y3:=(hb.cell (p:=(Ad eb (eo+k*4+3))) hbl).trans (bC k hlt 3 (by omega))
    rw[Nat.add_zero] at y0
    have kv:=ai (KW.wZ (KM.aD l k) wr)
    obtain⟨G,hG⟩:=ex (KM.sD (KM.aD l k))
    rw[<- hG] at kv
    have HG:=ai hG
    obtain⟨E,hE⟩:=ex (KM.aD l k)
    have x0:wr.cell? (Ad eb (eo+k*4))=some (.string E.data):=by rw[hE];exact y0
    have x1:wr.cell? (Ad eb (eo+k*4+1))=some (I E.refs):=by rw[hE];exact y1
    have x2:wr.cell? (Ad eb (eo+k*4+2))=some (.bool E.bW):=by rw[hE];exact y2
    have x3:wr.cell? (Ad eb (eo+k*4+3))=some (.bool E.seen):=by rw[hE];exact y3
    rw[<- hE] at kv
    clear hG hE hb y0 y1 y2 y3 bC
    cases G with
    | true =>
     go_wp2_with (go_at_call 168;refine kv.o.mono ?_;rintro e w1 ⟨rfl,hb1⟩;have aZ:=ai (HB.o.trans (hb1.mono HB.o.size));clear hb1)
     go_ret
     exact⟨aZ.o,.inr ⟨k,hlt,rfl,HG.o.symm,gP.o⟩⟩
    | false =>
     go_wp2_with (go_at_call 168;refine kv.o.mono ?_;rintro e w1 ⟨rfl,hb1⟩;have aZ:=ai (HB.o.trans (hb1.mono HB.o.size));clear hb1)
     go_roundw
     case rel=>exact⟨k+1,by omega,by go_num,fun j hj=>by
      by_cases q:j=k
      · subst q;exact HG.o.symm
      · exact gP.o j (by omega),aZ.o⟩
     case measure=>simp[intOf];omega
  · obtain rfl:k=l.length:=by omega
    clear hb
    go_wp2
    go_ret
    exact⟨HB.o,.inl ⟨rfl,gP.o⟩⟩
theorem PA {k:KM.Kn} (hR:KM.aQ k) {i:Nat} (hi:i<k.slots.length) (h1:KM.nt (KM.bk k.slots i)=true) (h2:∀j,j<i->KM.nt (KM.bk k.slots j)=false):KM.qc k.slots=some i:=by
 unfold KM.qc
 refine List.findIdx?_eq_some_iff_getElem.2 ⟨hi,?_,fun j hj=>?_⟩
 · have:=(KM.rR _).1 h1
   unfold KM.bk at this
   rw[List.getD_eq_getElem?_getD,List.getElem?_eq_getElem hi] at this
   have this:k.slots[i]=KM.xY:=this
   rw[this]
   rfl
 · have hj':j<k.slots.length:=by omega
   have:=h2 j hj
   have hz:¬(KM.bk k.slots j).refs=0:=fun z=>by
    have h3:=(hR.slt j hj').zero ((hR.slt j hj').nil z)
    rw[(KM.rR _).2 h3] at this;cases this
   unfold KM.bk at hz
   rw[List.getD_eq_getElem?_getD,List.getElem?_eq_getElem hj'] at hz
   simpa using hz
theorem G5 {k:KM.Kn} (hR:KM.aQ k) {i:Nat} (hi:i<k.frames.length) (h1:KM.sD (KM.aD k.frames i)=true) (h2:∀j,j<i->KM.sD (KM.aD k.frames j)=false):KM.ux k.frames=some i:=by
 unfold KM.ux
 refine List.findIdx?_eq_some_iff_getElem.2 ⟨hi,?_,fun j hj=>?_⟩
 · have:=(KM.rQ _).1 h1
   unfold KM.aD at this
   rw[List.getD_eq_getElem?_getD,List.getElem?_eq_getElem hi] at this
   have this:k.frames[i]=KM.l9:=this
   rw[this]
   rfl
 · have hj':j<k.frames.length:=by omega
   have:=h2 j hj
   have hz:¬(KM.aD k.frames j).refs=0:=fun z=>by
    have h3:=(hR.mO j hj').zero ((hR.mO j hj').nil z)
    rw[(KM.rQ _).2 h3] at this;cases this
   unfold KM.aD at hz
   rw[List.getD_eq_getElem?_getD,List.getElem?_eq_getElem hj'] at hz
   simpa using hz
theorem Pz {k:KM.Kn} (hR:KM.aQ k) (h:∀j,j<k.frames.length->KM.sD (KM.aD k.frames j)=false):KM.ux k.frames=none/\KM.Full k:=by
 have hF:KM.Full k:=fun j hj z=>by
  have h3:=(hR.mO j hj).zero ((hR.mO j hj).nil z)
  have:=h j hj
  rw[(KM.rQ _).2 h3] at this;cases this
 refine⟨?_,hF⟩
 unfold KM.ux
 refine List.findIdx?_eq_none_iff.2 fun x hx=>?_
 obtain⟨j,hj,rfl⟩:=KM.eu KM.l9 hx
 have:=hF j hj
 unfold KM.aD at this
 exact decide_eq_false this
def mn (f:KM.Sp->KM.Sp) (l:List KM.Sp) (n:Nat):List KM.Sp:=(l.take n).map f++l.drop n
theorem kY (f:KM.Sp->KM.Sp) (l:List KM.Sp) (n:Nat):(mn f l n).length=l.length:=by
 unfold mn
 rw[List.length_append,List.length_map,List.length_take,List.length_drop];omega
theorem rM (f:KM.Sp->KM.Sp) (l:List KM.Sp) (n m:Nat) (hm:m<l.length):KM.aq (mn f l n) m=if m<n then f (KM.aq l m) else KM.aq l m:=by
 unfold mn KM.aq
 rw[List.getD_eq_getElem?_getD,List.getD_eq_getElem?_getD,List.getElem?_eq_getElem hm]
 by_cases c:m<n
 · rw[if_pos c,List.getElem?_append_left (by rw[List.length_map,List.length_take];omega),List.getElem?_map,List.getElem?_take,if_pos c,List.getElem?_eq_getElem hm]
   rfl
 · rw[if_neg c,List.getElem?_append_right (by rw[List.length_map,List.length_take];omega),List.length_map,List.length_take,List.getElem?_drop,show n+(m-min n l.length)=m by omega,List.getElem?_eq_getElem hm]
theorem zh (f:KM.Sp->KM.Sp) (l:List KM.Sp) (n:Nat) (hn:n<l.length):(mn f l n).set n (f (KM.aq l n))=mn f l (n+1):=by
 refine KM.jt KM.DN _ _ (by rw[List.length_set,kY,kY]) (fun m hm=>?_)
 rw[List.length_set,kY] at hm
 have h1:=KM.fZ (mn f l n) n m (f (KM.aq l n)) (by rw[kY];exact hn)
 have h2:=rM f l n m hm
 have h3:=rM f l (n+1) m hm
 unfold KM.aq at h1 h2 h3 ⊢
 rw[h1,h3,h2]
 by_cases c:n=m
 · subst c
   rw[if_pos rfl,if_pos (by omega)]
 · rw[if_neg c]
   by_cases d:m<n
   · rw[if_pos d,if_pos (by omega)]
   · rw[if_neg d,if_neg (by omega)]
theorem IH (f:KM.Sp->KM.Sp) (l:List KM.Sp):mn f l l.length=l.map f:=by
 unfold mn
 rw[List.take_length,List.drop_length,List.append_nil]
def cR (k:KM.Kn) (i s n:Nat):KM.Kn:={ k with frames:=k.frames.set i KM.l9,slots:=k.slots.set s ⟨(KM.aD k.frames i).data,(KM.aD k.frames i).refs⟩,aj:=mn (KM.gD i s) k.aj n }
theorem Ai {lo mb:Nat} {tt:TypeId} {X:List Value} (k:KM.Kn) (S:St) (w:World) (i:Nat) (h:Km lo mb tt X w S k) (hR:KM.aQ k) (hi:i<k.frames.length) (Zo:(KM.aD k.frames i).refs≠0) :
  Calls Tryz.prog 190 #[.pointer (some (Ad mb 0)),I (i:Int)] w (fH lo mb tt X w S (.tuple #[]) (KM.cI k i)):=by
 have hcc:=hR.c
 obtain⟨fb,cF,A⟩:=h.toKr.fr (by omega)
 obtain⟨W,hW⟩:=ex (((w.alloc (.cells #[I (i:Int)] 3)).alloc (.cells #[.string (KM.aD k.frames i).data,I (KM.aD k.frames i).refs,.bool (KM.aD k.frames i).bW,.bool (KM.aD k.frames i).seen] 40)).drew)
 have bI:Hid (Below w.heap.size w W):=by rw[hW];exact(((Below.refl w.heap.size w).alloc (Nat.le_refl _) _).alloc (by simp) _).drew
 have X0:Hid (W.heap[w.heap.size]?=some (.cells #[I (i:Int)] 3 (0,0))):=by rw[hW];exact B.alloc (B.new w _ _) _
 have F0:Hid (W.heap[w.heap.size+1]?=some (.cells #[.string (KM.aD k.frames i).data,I (KM.aD k.frames i).refs,.bool (KM.aD k.frames i).bW,.bool (KM.aD k.frames i).seen] 40 (0,0))):=by
  have:=B.new (w.alloc (.cells #[I (i:Int)] 3)) #[.string (KM.aD k.frames i).data,I (KM.aD k.frames i).refs,.bool (KM.aD k.frames i).bW,.bool (KM.aD k.frames i).seen] 40
  rw[World.size_alloc] at this
  rw[hW];exact this
 have Qx:=ai (h.below bI.o)
 have Xf:Hid (Ch S w S W):=Ch.below bI.o
 have n0:S.lab w.heap.size=.no:=h.toKr.new (Nat.le_refl _)
 have n1:S.lab (w.heap.size+1)=.no:=h.toKr.new (Nat.le_succ _)
 have vA:Hid (∀S' V,Ch S W S' V->V.heap[w.heap.size]?=some (.cells #[I (i:Int)] 3 (0,0))/\V.heap[w.heap.size+1]?=some (.cells #[.string (KM.aD k.frames i).data,I (KM.aD k.frames i).refs,.bool (KM.aD k.frames i).bW,.bool (KM.aD k.frames i).seen] 40 (0,0))):=fun S' V hV=>⟨hV.keep X0.o n0,hV.keep F0.o n1⟩
 have c1:=h.c1
 rw[A.v] at c1
 have x0:=A.x0 i hi
 have x1:=A.x1 i hi
 have x2:=A.x2 i hi
 have x3:=A.x3 i hi
 have zm:(i:Int)<(k.frames.length:Int):=by omega
 have mU:=h.lt
 have hfl:=A.lt
 have bh:Hid (∀V S' K,K=KM.cI k i->Km lo mb tt X V S' K->Ch S W S' V->fH lo mb tt X w S (.tuple #[]) (KM.cI k i) (.returned (.tuple #[])) V):=fun V S' K hK h1 h2=>⟨rfl,S',hK ▸ h1,Xf.o.trans h2⟩
 obtain⟨P,hP⟩:=ex (fH lo mb tt X w S (.tuple #[]) (KM.cI k i))
 rw[<- hP] at bh ⊢
 have Ut:=ai hW
 cases hd:(KM.aD k.frames i).bW with
 | false =>
  have hdrop:KM.cI k i=KM.ir k i k.aj.length:=by
   rw[KM.Lp hR hi]
   unfold KM.cI
   rw[hd]
   rfl
  have Gd:=ai (fun V S' h1 h2=>bh.o V S' _ hdrop.symm h1 h2)
  have QC:Hid (∀V S' n,n<k.aj.length->Km lo mb tt X V S' (KM.ir k i n)->Ch S W S' V->Calls Tryz.prog 87 #[.pointer (some (Ad mb 0)),I (n:Int),.func (.func 202) #[] #[.pointer (some (Ad w.heap.size 0))]] V (fH lo mb tt X V S' (.tuple #[]) (KM.ir k i (n+1)))):=fun V S' n hn hV hc=>by
   have hp:=KM.pA hR i n (by omega)
   refine Ff 202 [.pointer (some (Ad w.heap.size 0))] w.heap.size (.inl ⟨rfl,rfl⟩) (KM.ir k i n) S' V n (KM.iG (i:Int)) hV hp.1 (by rw[hp.2.2.2.2.2.1];exact hn) (fun U e hU=>?_)
   have hx:=(vA.out S' V hc).1
   have hno:S'.lab w.heap.size=.no:=hc.no _ (B.isLt X0.o) n0
   exact C4 (i:Int) e w.heap.size U (B.cell (hU.keep hx (fun z=>z hno)) 0 rfl)
  have FV:Hid (∀V S' n,Km lo mb tt X V S' (KM.ir k i n)->n<=k.aj.length->∃av cv,V.cell? (Ad mb 3)=some (.slice av k.aj.length cv)):=fun V S' n hV hn=>by
   have hp:=KM.pA hR i n hn
   obtain⟨pb,cP,A'⟩:=hV.toKr.sp (by rw[hp.2.2.2.2.2.1];omega)
   have:=hV.c3
   rw[A'.v,hp.2.2.2.2.2.1] at this
   exact⟨_,_,this⟩
  obtain⟨av,cv,d3⟩:=FV.o W S 0 Qx.o (by omega)
  obtain⟨np,rV⟩:=ex k.aj.length
  rw[<- rV] at d3 QC Gd
  have aew:np<=4:=by omega
  have d0:W.cell? (Ad w.heap.size 0)=some (I (i:Int)):=B.cell X0.o 0 rfl
  obtain⟨FR,zt⟩:=ex (KM.aD k.frames i)
  rw[<- zt] at x0 x1 x2 x3 Ut hd F0
  obtain⟨fd,fr,fdy,fs⟩:=FR
  simp only at x0 x1 x2 x3 Ut hd F0
  subst hd
  have d2:W.cell? (Ad (w.heap.size+1) 2)=some (.bool false):=B.cell F0.o 2 rfl
  clear hW hP hR hcc A h Zo zt rV FV bh vA hdrop hi
  go_enter Tryz.func190,Tryz.ntmps190
  go_upto_region 1 with fail
  go_region
  rw[<- Ut.o]
  go_wp2
  go_loopw [29] (fun iv wr=>∃(n:Nat) (S':St),n<=np/\iv=I (n:Int)/\Km lo mb tt X wr S' (KM.ir k i n)/\Ch S W S' wr) (fun iv _=>np-(intOf iv).toNat)
  case atStart=>exact⟨0,S,by omega,rfl,Qx.o,Ch.refl _ _⟩
  case round =>
   obtain⟨n,S',hn,rfl,fQ,hch⟩:=hrel
   by_cases hlt:n<np
   · have hni:(n:Int)<(np:Int):=by omega
     have aa7:=ai (QC.o wr S' n hlt fQ hch)
     have BC:=ai hch
     clear fQ hch Qx Xf
     go_wp2_with (go_at_call 87;refine aa7.o.mono ?_;rintro r w2 ⟨rfl,S2,hk2,hc2⟩;have jh:=ai hk2;have kv:=ai (BC.o.trans hc2);clear hk2 hc2)
     go_roundw
     case rel=>exact⟨n+1,S2,by omega,by go_num,jh.o,kv.o⟩
     case measure=>simp[intOf];omega
   · obtain rfl:n=np:=by omega
     have HX:=ai (Gd.o wr S' fQ hch)
     clear fQ hch
     go_wp2
     first
      | exact HX.o
      | (refine bodyPost_ret (v:=.tuple #[]) (by simp[results,Tryz.results190,go_sem]) rfl ?_;exact HX.o)
 | true =>
  obtain⟨s,DW,hsl,Vb⟩:=hR.slot hi Zo
  have QW:KM.cI k i=cR k i s k.aj.length:=by
   unfold KM.cI cR
   rw[hd,DW,IH]
   rfl
  have Gd:=ai (fun V S' h1 h2=>bh.o V S' _ QW.symm h1 h2)
  obtain⟨lb,cL,AL⟩:=Qx.o.toKr.sl (by omega)
  obtain⟨aL,cL',eL,_,hrL⟩:=jm bD (fun _=>rfl) KM.xY Qx.o.slots
  have c2:=Qx.o.c2
  rw[AL.v] at c2
  have eL2:aL=some (Ad lb 0):=by
   have:=eL
   rw[AL.v] at this
   injection this with e1 _ _
   exact e1.symm
  subst eL2
  have zT:Hid (Calls Tryz.prog 203 #[.slice (some (Ad lb 0)) k.slots.length cL,.func (.func 204) #[] #[]] W fun e w'=>e=.returned (I (s:Int))/\Below W.heap.size W w'):=(LV k.slots (some (Ad lb 0)) cL W hrL (by omega)).mono fun e w' ⟨hb,hh⟩=>by
   rcases hh with⟨_,hno⟩ | ⟨m,hm,he,hy,hno⟩
   · have:=hno s hsl
     have hz:=(hR.slt s hsl).zero Vb
     rw[hz] at this
     cases this
   · have:=PA hR hm hy hno
     rw[DW] at this
     injection this with this
     subst this
     exact⟨he,hb⟩
  have dr:∀V:World,Below V.heap.size V V.drew:=fun V=>(Below.refl _ _).drew
  have Nz:Hid (∀V U,Below W.heap.size W V->U=((V.setCell (Ad lb (s*2)) (.string (KM.aD k.frames i).data)).setCell (Ad lb (s*2+1)) (I (KM.aD k.frames i).refs)).drew->Km lo mb tt X U S { k with slots:=k.slots.set s ⟨(KM.aD k.frames i).data,(KM.aD k.frames i).refs⟩ }/\Ch S W S U):=fun V U hb hU=>by
   have m0:=Qx.o.below hb
   have m1:=m0.UT AL.v hsl ⟨(KM.aD k.frames i).data,(KM.aD k.frames i).refs⟩
   subst hU
   exact⟨m1.1.below (dr _),((Ch.below hb).trans m1.2).trans (Ch.below (dr _))⟩
  have DI:Hid (∀V U,Km lo mb tt X V S { k with slots:=k.slots.set s ⟨(KM.aD k.frames i).data,(KM.aD k.frames i).refs⟩ }->Ch S W S V->U=((((V.setCell (Ad fb (i*4)) (.string ⟨#[]⟩)).setCell (Ad fb (i*4+1)) (I 0)).setCell (Ad fb (i*4+2)) (.bool false)).setCell (Ad fb (i*4+3)) (.bool false)).drew->Km lo mb tt X U S (cR k i s 0)/\Ch S W S U):=fun V U hV hc hU=>by
   have m2:=hV.LP A.v (i:=i) hi KM.l9
   subst hU
   exact⟨m2.1.below (dr _),(hc.trans m2.2).trans (Ch.below (dr _))⟩
  have vr:Hid (∀V S' n,n<k.aj.length->Km lo mb tt X V S' (cR k i s n)->Ch S W S' V->∃pb cP ae ce lv ax nx cx,V.cell? (Ad pb (n*3))=some (.bool lv)/\V.cell? (Ad pb (n*3+1))=some (.slice ax nx cx)/\V.cell? (Ad pb (n*3+2))=some (.slice ae (KM.aq k.aj n).au.length ce)/\S'.vP=.slice (some (Ad pb 0)) k.aj.length cP /\
    ((cR k i s n=cR k i s (n+1)/\∀V',Below V.heap.size V V'->Calls Tryz.prog 153 #[.slice ae (KM.aq k.aj n).au.length ce,.func (.func 202) #[] #[.pointer (some (Ad w.heap.size 0))]] V' fun e w'=>e=.returned (I (-1))/\Below V'.heap.size V' w') ∨
    ∃(m eb:Nat),m<(KM.aq k.aj n).au.length/\ae=some (Ad eb 0)/\eb<V.heap.size/\∀V',Below V.heap.size V V'->Calls Tryz.prog 153 #[.slice ae (KM.aq k.aj n).au.length ce,.func (.func 202) #[] #[.pointer (some (Ad w.heap.size 0))]] V' fun e w'=>e=.returned (I (m:Int))/\Below V'.heap.size V' w'/\(∃u1 u2,w'.cell? (Ad eb (m*3+1))=some (I u1)/\w'.cell? (Ad eb (m*3+2))=some (I u2))/\w'.frozen? (Ad eb (m*3+1))=false/\w'.frozen? (Ad eb (m*3+2))=false/\(∀U,U=((w'.setCell (Ad eb (m*3+1)) (I 2)).setCell (Ad eb (m*3+2)) (I (s:Int))).drew->Km lo mb tt X U S' (cR k i s (n+1))/\Ch S' V S' U))):=fun V S' n hn hV hc=>by
   have hlen:(cR k i s n).aj.length=k.aj.length:=kY _ _ _
   have hn':n<(cR k i s n).aj.length:=by rw[hlen];exact hn
   have hat:KM.aq (cR k i s n).aj n=KM.aq k.aj n:=by
    show KM.aq (mn _ _ _) n=_
    rw[rM _ _ _ _ hn,if_neg (by omega)]
   obtain⟨pb,cP,A'⟩:=hV.toKr.sp (by omega)
   obtain⟨ae,ce,ui,hre⟩:=hV.toKr.au hn'
   rw[hat] at ui hre
   have a0:=A'.x0 n hn'
   have a1:=A'.x1 n hn'
   have a2:=A'.x2 n hn'
   rw[ui] at a2
   have hv:=A'.v
   rw[hlen] at hv
   obtain⟨ax,cx,rU,_,_⟩:=aR (hV.each n hn').aA
   rw[rU] at a1
   refine⟨pb,cP,ae,ce,_,ax,_,cx,a0,a1,a2,hv,?_⟩
   have hx:V.heap[w.heap.size]?=some (.cells #[I (i:Int)] 3 (0,0)):=(vA.out S' V hc).1
   have Jg:∀V',Below V.heap.size V V'->_:=fun V' hb'=>KW.AE 202 (.inr (.inr rfl)) (KM.iG (i:Int)) (KM.aq k.aj n).au ae ce w.heap.size V' (hre.below hb') (by have:=iI hR hn;omega) (fun U e hU=>C4 (i:Int) e w.heap.size U (B.cell (B.below (B.below hx hb' (B.isLt hx)) hU (Nat.lt_of_lt_of_le (B.isLt hx) hb'.size)) 0 rfl))
   by_cases hex:∃m,m<(KM.aq k.aj n).au.length/\KM.iG (i:Int) (KM.aJ (KM.aq k.aj n).au m)=true
   · obtain⟨m,hm,hy⟩:=hex
     obtain⟨eb,hao,Pm⟩:∃eb,ae=some (Ad eb 0)/\eb<V.heap.size:=by
      obtain⟨ao,cap,e,_,hg⟩:=aR (hV.each n hn').aB
      rw[hat,ui] at e
      rw[hat] at hg
      obtain⟨g,e2,_,hgl⟩:=hg (by omega)
      injection e with e1 _ _
      exact⟨g,by rw[e1,e2],hgl⟩
     subst hao
     refine .inr ⟨m,eb,hm,rfl,Pm,fun V' hb'=>(Jg V' hb').mono fun e w' ⟨hb,hh⟩=>?_⟩
     have hbb:Below V.heap.size V w':=hb'.trans (hb.mono hb'.size)
     have he:e=.returned (I (m:Int)):=by
      rcases hh with⟨_,hno⟩ | ⟨m',hm',he,hy',_⟩
      · have:=hno m hm;rw[hy] at this;cases this
      · have:=KM.Lq hR hi hn hm hm' hy hy'
        rw[this];exact he
     have mw:=hV.below hbb
     have hs1:m<(KM.aq (cR k i s n).aj n).au.length:=by rw[hat];exact hm
     have hrow:=(mw.each n hn').aB
     rw[hat,ui] at hrow
     have g1:=iu aI (fun _=>rfl) KM.jz hrow m 1 hm (by omega)
     have g2:=iu aI (fun _=>rfl) KM.jz hrow m 2 hm (by omega)
     refine⟨he,hb,⟨_,_,g1,g2⟩,cV hrow _,cV hrow _,fun U hU=>?_⟩
     have e1:=mw.kz hn' ui hs1 (c:=1) (by omega) (e:=⟨(KM.aJ (KM.aq k.aj n).au m).page,2,(KM.aJ (KM.aq k.aj n).au m).loc⟩) (u:=I 2) (by rw[hat];rfl)
     have hl2:n<({ cR k i s n with aj:=(cR k i s n).aj.set n (KM.dI (KM.aq (cR k i s n).aj n) ((KM.aq (cR k i s n).aj n).au.set m ⟨(KM.aJ (KM.aq k.aj n).au m).page,2,(KM.aJ (KM.aq k.aj n).au m).loc⟩)) }:KM.Kn).aj.length:=by
      show n<(List.set _ _ _).length
      rw[List.length_set];exact hn'
     have S6:KM.aq ((cR k i s n).aj.set n (KM.dI (KM.aq (cR k i s n).aj n) ((KM.aq (cR k i s n).aj n).au.set m ⟨(KM.aJ (KM.aq k.aj n).au m).page,2,(KM.aJ (KM.aq k.aj n).au m).loc⟩))) n=KM.dI (KM.aq k.aj n) ((KM.aq k.aj n).au.set m ⟨(KM.aJ (KM.aq k.aj n).au m).page,2,(KM.aJ (KM.aq k.aj n).au m).loc⟩):=by
      rw[KM.fZ _ _ _ _ hn',if_pos rfl,hat]
     have e2:=e1.1.kz hl2 ui (i:=m) (by
      show m<(KM.aq (List.set _ _ _) n).au.length
      rw[S6]
      show m<(List.set _ _ _).length
      rw[List.length_set];exact hm) (c:=2) (by omega) (e:=⟨(KM.aJ (KM.aq k.aj n).au m).page,2,(s:Int)⟩) (u:=I (s:Int)) (by
      show _=(aI (KM.aJ (KM.aq (List.set _ _ _) n).au m)).set 2 _
      rw[S6]
      show _=(aI ((List.set _ _ _).getD m KM.jz)).set 2 _
      rw[KM.bw _ _ _ _ hm]
      rfl)
     have hK:({ ({ cR k i s n with aj:=(cR k i s n).aj.set n (KM.dI (KM.aq (cR k i s n).aj n) ((KM.aq (cR k i s n).aj n).au.set m ⟨(KM.aJ (KM.aq k.aj n).au m).page,2,(KM.aJ (KM.aq k.aj n).au m).loc⟩)) }:KM.Kn) with aj:=((cR k i s n).aj.set n (KM.dI (KM.aq (cR k i s n).aj n) ((KM.aq (cR k i s n).aj n).au.set m ⟨(KM.aJ (KM.aq k.aj n).au m).page,2,(KM.aJ (KM.aq k.aj n).au m).loc⟩))).set n (KM.dI (KM.aq ((cR k i s n).aj.set n (KM.dI (KM.aq (cR k i s n).aj n) ((KM.aq (cR k i s n).aj n).au.set m ⟨(KM.aJ (KM.aq k.aj n).au m).page,2,(KM.aJ (KM.aq k.aj n).au m).loc⟩))) n) ((KM.aq ((cR k i s n).aj.set n (KM.dI (KM.aq (cR k i s n).aj n) ((KM.aq (cR k i s n).aj n).au.set m ⟨(KM.aJ (KM.aq k.aj n).au m).page,2,(KM.aJ (KM.aq k.aj n).au m).loc⟩))) n).au.set m ⟨(KM.aJ (KM.aq k.aj n).au m).page,2,(s:Int)⟩)) }:KM.Kn)=cR k i s (n+1):=by
      rw[S6,List.set_set]
      unfold cR
      simp only
      congr 1
      rw[<- zh _ _ _ hn]
      congr 1
      unfold KM.dI KM.gD
      simp only[List.set_set]
      congr 1
      exact KM.Ed _ _ _ m hm hy (fun q hq Zr=>KM.Lq hR hi hn hq hm Zr hy)
     subst hU
     have e3:=hK ▸ e2.1
     exact⟨e3.below (dr _),(((Ch.below hbb).trans e1.2).trans e2.2).trans (Ch.below (dr _))⟩
   · have hno:∀m,m<(KM.aq k.aj n).au.length->KM.iG (i:Int) (KM.aJ (KM.aq k.aj n).au m)=false:=fun m hm=>by
      cases g:KM.iG (i:Int) (KM.aJ (KM.aq k.aj n).au m) with
      | false=>rfl
      | true=>exact absurd ⟨m,hm,g⟩ hex
     refine .inl ⟨?_,fun V' hb'=>(Jg V' hb').mono fun e w' ⟨hb,hh⟩=>?_⟩
     · unfold cR
       congr 1
       rw[<- zh _ _ _ hn]
       have e1:KM.gD (i:Int) s (KM.aq k.aj n)=KM.aq (mn (KM.gD i s) k.aj n) n:=by
        rw[rM _ _ _ _ hn,if_neg (by omega)]
        unfold KM.gD
        rw[KM.H8 _ _ _ hno]
       rw[e1]
       refine(KM.jt KM.DN _ _ (by rw[List.length_set]) (fun q hq=>?_)).symm
       have:=KM.fZ (mn (KM.gD i s) k.aj n) n q (KM.aq (mn (KM.gD i s) k.aj n) n) (by rw[kY];exact hn)
       unfold KM.aq at this ⊢
       rw[this]
       by_cases z:n=q
       · rw[if_pos z,z]
       · rw[if_neg z]
     · rcases hh with⟨he,_⟩ | ⟨m',hm',_,hy',_⟩
       · exact⟨he,hb⟩
       · exact absurd ⟨m',hm',hy'⟩ hex
  obtain⟨pb,cP,AP⟩:=Qx.o.toKr.sp (by omega)
  have Zc:=AP.v
  have HVP:=ai AP.v
  have np4:k.aj.length<=4:=by omega
  have DM:=ai (fun V K (hV:Km lo mb tt X V S K) (hK:K.frames=k.frames)=>(show(∀j,V.frozen? (Ad fb j)=false)/\V.cell? (Ad fb (i*4))=some (.string (KM.aD k.frames i).data)/\V.cell? (Ad fb (i*4+1))=some (I (KM.aD k.frames i).refs)/\V.cell? (Ad fb (i*4+2))=some (.bool (KM.aD k.frames i).bW)/\V.cell? (Ad fb (i*4+3))=some (.bool (KM.aD k.frames i).seen)/\V.cell? (Ad mb 1)=some (.slice (some (Ad fb 0)) k.frames.length cF)/\V.cell? (Ad mb 3)=some (.slice (some (Ad pb 0)) k.aj.length cP) from by
   obtain⟨Tj,Ye,A'⟩:=hV.toKr.fr (by rw[hK];omega)
   have e:Tj=fb:=by
    have:=A'.v
    rw[A.v] at this
    injection this with e1 _ _
    injection e1 with e1
    injection e1 with e1 _ _
    exact e1.symm
   subst e
   have c1:=hV.c1
   have c3:=hV.c3
   rw[A.v] at c1
   rw[Zc] at c3
   have y0:=A'.x0 i (by rw[hK];exact hi)
   have y1:=A'.x1 i (by rw[hK];exact hi)
   have y2:=A'.x2 i (by rw[hK];exact hi)
   have y3:=A'.x3 i (by rw[hK];exact hi)
   rw[hK] at y0 y1 y2 y3
   exact⟨A'.fz,y0,y1,y2,y3,c1,c3⟩))
  have hx0:=AL.x0 s hsl
  have hx1:=AL.x1 s hsl
  have hz0:=AL.fz (s*2)
  have hz1:=AL.fz (s*2+1)
  have hll:=AL.lt
  have nB:=ai (fun V (hV:Km lo mb tt X V S (cR k i s 0))=>(show V.cell? (Ad mb 3)=some (.slice (some (Ad pb 0)) k.aj.length cP) from by have:=hV.c3;rw[Zc] at this;exact this))
  have q0:∀V,Below W.heap.size W V->V.cell? (Ad (w.heap.size+1) 0)=some (.string (KM.aD k.frames i).data)/\V.cell? (Ad (w.heap.size+1) 1)=some (I (KM.aD k.frames i).refs)/\V.cell? (Ad mb 2)=some (.slice (some (Ad lb 0)) k.slots.length cL)/\V.cell? (Ad lb (s*2))=some (.string (KM.bk k.slots s).data)/\V.cell? (Ad lb (s*2+1))=some (I (KM.bk k.slots s).refs)/\V.frozen? (Ad lb (s*2))=false/\V.frozen? (Ad lb (s*2+1))=false:=fun V hb=>by
   have hF:=B.below F0.o hb (B.isLt F0.o)
   have mV:=Qx.o.below hb
   obtain⟨lb',cL',A'⟩:=mV.toKr.sl (by omega)
   have e:lb'=lb:=by
    have:=A'.v
    rw[AL.v] at this
    injection this with e1 _ _
    injection e1 with e1
    injection e1 with e1 _ _
    exact e1.symm
   subst e
   have c2:=mV.c2
   rw[AL.v] at c2
   exact⟨B.cell hF 0 rfl,B.cell hF 1 rfl,c2,A'.x0 s hsl,A'.x1 s hsl,A'.fz _,A'.fz _⟩
  have HQ0:=ai q0
  have HXA:=ai (fun V (hc:Ch S W S V)=>(show V.cell? (Ad w.heap.size 0)=some (I (i:Int)) from B.cell (vA.out S V hc).1 0 rfl))
  obtain⟨FR,zt⟩:=ex (KM.aD k.frames i)
  rw[<- zt] at x0 x1 x2 x3 Ut hd F0 Nz DI DM HQ0
  obtain⟨SR,S9⟩:=ex (KM.bk k.slots s)
  rw[<- S9] at HQ0
  rw[hd] at x2 Ut F0
  have d2:W.cell? (Ad (w.heap.size+1) 2)=some (.bool true):=B.cell F0.o 2 rfl
  have Vc:(s:Int)<(k.slots.length:Int):=by omega
  have HMF:Hid (∀S' V,Ch S W S' V->S'.vP=S.vP):=fun S' V hc=>hc.eP
  have hHW:=bI.o.size
  clear hW hP hR hcc A h Zo zt bh vA hi DW Vb AL AP hrL eL q0 QW Zc S9 dr hx0 hx1 hz0 hz1
  go_enter Tryz.func190,Tryz.ntmps190
  go_upto_region 1 with fail
  go_region
  rw[<- Ut.o]
  go_upto_region 10 with(go_at_call 203;refine zT.o.mono ?_;rintro e w1 ⟨rfl,hb1⟩;have aZ:=ai hb1;clear hb1)
  obtain⟨p0,p1,p2,p3,p4,p5,p6⟩:=HQ0.o w1 aZ.o
  obtain⟨U1,Z1⟩:=ex (((w1.setCell (Ad lb (s*2)) (.string FR.data)).setCell (Ad lb (s*2+1)) (I FR.refs)).drew)
  have Qq:=ai Z1
  obtain⟨hk1,hc1⟩:=Nz.o w1 U1 aZ.o Z1
  have oC:=ai hk1
  have Rz:=ai hc1
  clear Z1 hk1 hc1
  go_region
  rw[<- Qq.o]
  obtain⟨g0,g1,g2,g3,g4,g5,g6⟩:=DM.o U1 _ oC.o rfl
  have g0a:=g0 (i*4)
  have g0b:=g0 (i*4+1)
  have g0c:=g0 (i*4+2)
  have g0d:=g0 (i*4+3)
  have g7:=HXA.o U1 Rz.o
  obtain⟨U2,Z0⟩:=ex (((((U1.setCell (Ad fb (i*4)) (.string ⟨#[]⟩)).setCell (Ad fb (i*4+1)) (I 0)).setCell (Ad fb (i*4+2)) (.bool false)).setCell (Ad fb (i*4+3)) (.bool false)).drew)
  have N0:=ai Z0
  obtain⟨hk2,hc2⟩:=DI.o U1 U2 oC.o Rz.o Z0
  have jh:=ai hk2
  have kv:=ai hc2
  have k3:=nB.o U2 hk2
  clear Z0 hk2 hc2 p0 p1 p2 p3 p4 p5 p6 g0
  go_upto_region 11 with fail
  go_region
  rw[<- N0.o]
  clear Qq N0 oC Rz aZ g0a g0b g0c g0d g1 g2 g3 g4 g5 g6 g7
  go_wp2
  go_loopw [69] (fun iv wr=>∃(n:Nat) (S':St),n<=k.aj.length/\iv=I (n:Int)/\Km lo mb tt X wr S' (cR k i s n)/\Ch S W S' wr) (fun iv _=>k.aj.length-(intOf iv).toNat)
  case atStart=>exact⟨0,S,by omega,rfl,jh.o,kv.o⟩
  case round =>
   obtain⟨n,S',hn,rfl,fQ,hch⟩:=hrel
   by_cases hlt:n<k.aj.length
   · have hni:(n:Int)<(k.aj.length:Int):=by omega
     obtain⟨OD,Yd,ae,ce,lv,ax,nx,cx,a0,a1,a2,hvp,hcs⟩:=vr.o wr S' n hlt fQ hch
     have epb:OD=pb:=by
      rw[HMF.o S' wr hch,HVP.o] at hvp
      injection hvp with e1 _ _
      injection e1 with e1
      injection e1 with e1 _ _
      exact e1.symm
     subst epb
     have Qz:=ai fQ
     have BC:=ai hch
     have HA:=ai ((Below.refl wr.heap.size wr).alloc (Nat.le_refl _) (.cells #[.bool lv,.slice ax nx cx,.slice ae (KM.aq k.aj n).au.length ce] 43))
     have BX:=ai (B.new wr #[.bool lv,.slice ax nx cx,.slice ae (KM.aq k.aj n).au.length ce] 43)
     have VF:∀eb,eb<wr.heap.size->¬wr.heap.size=eb:=fun eb h=>by omega
     have Vs:(KM.aq k.aj n).au.length<=(KM.aq k.aj n).au.length:=Nat.le_refl _
     clear fQ hch hvp jh kv
     rcases hcs with⟨hsame,hcl⟩ | ⟨m,eb,hm,NQ,Pm,hcl⟩
     · have WC:=ai hsame
       have yI:=ai hcl
       clear hsame hcl
       go_wp2_with (go_at_call 153;refine(yI.o _ HA.o).mono ?_;rintro e w2 ⟨rfl,hb2⟩;have bY:=ai (HA.o.trans (hb2.mono HA.o.size));clear hb2)
       go_roundw
       case rel=>exact⟨n+1,S',by omega,by go_num,WC.o ▸ Qz.o.below bY.o,BC.o.trans (Ch.below bY.o)⟩
       case measure=>simp[intOf];omega
     · subst NQ
       have yI:=ai hcl
       have SK:(m:Int)<((KM.aq k.aj n).au.length:Int):=by omega
       have hm0:(0:Int)<=(m:Int):=by omega
       have hne:=VF eb Pm
       clear hcl VF
       go_upto_region 17 with(go_at_call 153;refine(yI.o _ HA.o).mono ?_;rintro e w2 ⟨rfl,hb2,⟨u1,u2,t1,t2⟩,t3,t4,hfin⟩;have BG:=B.below BX.o hb2 (B.isLt BX.o);obtain⟨r0,r1,r2⟩:=B.c3 BG;have ky:=ai hfin;clear hb2 hfin BG)
       go_region
       go_wp2
       go_roundw
       case rel =>
        obtain⟨z1,z2⟩:=ky.o _ rfl
        exact⟨n+1,S',by omega,by go_num,z1,BC.o.trans z2⟩
       case measure=>simp[intOf];omega
   · obtain rfl:n=k.aj.length:=by omega
     have HX:=ai (Gd.o wr S' fQ hch)
     clear fQ hch
     go_wp2
     first
      | exact HX.o
      | (refine bodyPost_end (v:=.tuple #[]) (by simp[results,Tryz.results190,go_sem]) rfl ?_;exact HX.o)
structure Held (w:World) (S:St) (ah:Option Addr) (held:List Int):Prop where
 has:aU bQ 1 0 w ah held
 no:∀b off,ah=some (Ad b off)->S.lab b=.no
 lt:∀b off,ah=some (Ad b off)->b<w.heap.size
theorem Held.ch {w w':World} {S S':St} {ah:Option Addr} {held:List Int} (h:Held w S ah held) (hc:Ch S w S' w'):Held w' S' ah held :=
 ⟨KX.aU.kp h.has hc.kp (fun b off e z=>z (h.no b off e)),fun b off e=>hc.no b (h.lt b off e) (h.no b off e),fun b off e=>Nat.lt_of_lt_of_le (h.lt b off e) hc.kp.size⟩
theorem OE {held:List Int} {k:KM.Kn} {i:Nat} (h:(held.contains (i:Int) || (KM.aD k.frames i).seen)=false) (hi:i<k.frames.length):jo held k i=k:=by
 rw[Bool.or_eq_false_iff] at h
 unfold jo
 rw[if_neg (by rw[h.1];simp)]
 have:k.frames.set i (KM.unseen (KM.aD k.frames i))=k.frames:=by
  refine KM.jt KM.l9 _ _ List.length_set (fun m hm=>?_)
  rw[List.length_set] at hm
  by_cases c:i=m
  · subst c
    rw[KM.bw _ _ _ _ hm]
    have e:=h.2
    unfold KM.unseen
    show(⟨(KM.aD k.frames i).data,(KM.aD k.frames i).refs,(KM.aD k.frames i).bW,false⟩:KM.Fr)=KM.aD k.frames i
    rw[<- e]
  · rw[KM.getD_set_ne _ _ _ _ _ c]
 rw[this]
theorem Iu {held:List Int} {k:KM.Kn} (hh:0<=k.hand/\k.hand<k.frames.length):({ jo held k k.hand.toNat with hand:=KM.fN (jo held k k.hand.toNat) }:KM.Kn)=KM.fY held k:=by
 have e:((k.hand.toNat:Nat):Int)=k.hand:=by omega
 unfold jo KM.fY
 rw[e]
 by_cases c:held.contains k.hand=true
 · rw[if_pos c,if_pos c]
 · rw[if_neg c,if_neg c]
   unfold KM.fN
   simp only[List.length_set]
theorem A5 {lo mb:Nat} {tt:TypeId} {X:List Value} (k:KM.Kn) (S:St) (w:World) (held:List Int) (ah:Option Addr) (ch:Nat) (h:Km lo mb tt X w S k) (hR:KM.aQ k) (hl:held.length<=2) (hH:Held w S ah held) :
  Calls Tryz.prog 165 #[.pointer (some (Ad mb 0)),.slice ah held.length ch] w (fH lo mb tt X w S (I ((KM.bM k held).1:Int)) (KM.bM k held).2):=by
 have hcc:=hR.c
 obtain⟨fb,cF,A⟩:=h.toKr.fr (by omega)
 obtain⟨aF,Ye,eF,_,Zn⟩:=jm bE (fun _=>rfl) KM.l9 h.frames
 have eF2:aF=some (Ad fb 0):=by
  have:=eF
  rw[A.v] at this
  injection this with e1 _ _
  exact e1.symm
 subst eF2
 have c1:=h.c1
 rw[A.v] at c1
 have Jg:=LX k.frames (some (Ad fb 0)) cF w Zn (by omega)
 by_cases hex:∃i,i<k.frames.length/\KM.sD (KM.aD k.frames i)=true/\∀j,j<i->KM.sD (KM.aD k.frames j)=false
 · obtain⟨i,hi,hy,hno⟩:=hex
   have hf:=G5 hR hi hy hno
   have hg:KM.bM k held=(i,k):=by unfold KM.bM;rw[hf]
   have zT:Hid (Calls Tryz.prog 187 #[.slice (some (Ad fb 0)) k.frames.length cF,.func (.func 168) #[] #[]] w fun e w'=>e=.returned (I (i:Int))/\Below w.heap.size w w'):=Jg.mono fun e w' ⟨hb,hh⟩=>by
    rcases hh with⟨_,hn⟩ | ⟨m,hm,he,hy2,qK⟩
    · have:=hn i hi;rw[hy] at this;cases this
    · have:=G5 hR hm hy2 qK
      rw[hf] at this
      injection this with this
      subst this
      exact⟨he,hb⟩
   have bh:Hid (∀V,Below w.heap.size w V->fH lo mb tt X w S (I ((KM.bM k held).1:Int)) (KM.bM k held).2 (.returned (I (i:Int))) V):=fun V hb=>by
    rw[hg]
    exact⟨rfl,S,h.below hb,Ch.below hb⟩
   obtain⟨P,hP⟩:=ex (fH lo mb tt X w S (I ((KM.bM k held).1:Int)) (KM.bM k held).2)
   rw[<- hP] at bh ⊢
   have hi0:(0:Int)<=(i:Int):=by omega
   clear hP Jg hg hf hno hy h hR hcc A eF Zn hH
   go_enter Tryz.func165,Tryz.ntmps165
   go_wp2_with (go_at_call 187;refine zT.o.mono ?_;rintro e w1 ⟨rfl,hb1⟩;have aZ:=ai hb1;clear hb1)
   exact bh.o _ aZ.o
 · have hall:∀j,j<k.frames.length->KM.sD (KM.aD k.frames j)=false:=fun j=>by
    induction j using Nat.strongRecOn with
    | _ j ih =>
     intro hj
     cases g:KM.sD (KM.aD k.frames j) with
     | false=>rfl
     | true=>exact absurd ⟨j,hj,g,fun m hm=>ih m hm (by omega)⟩ hex
   obtain⟨hf,My⟩:=Pz hR hall
   obtain⟨T,hT,Ma,GR⟩:=KM.xI held hl hR My
   have pI:=KM.xH held T 69 k (by omega) Ma GR
   have hg:KM.bM k held=((KM.bj held T k).hand.toNat,{ KM.cI (KM.bj held T k) (KM.bj held T k).hand.toNat with hand:=KM.fN (KM.bj held T k) }):=by
    unfold KM.bM
    rw[hf,pI]
   have zT:Hid (Calls Tryz.prog 187 #[.slice (some (Ad fb 0)) k.frames.length cF,.func (.func 168) #[] #[]] w fun e w'=>e=.returned (I (-1))/\Below w.heap.size w w'):=Jg.mono fun e w' ⟨hb,hh⟩=>by
    rcases hh with⟨he,_⟩ | ⟨m,hm,_,hy2,_⟩
    · exact⟨he,hb⟩
    · rw[hall m hm] at hy2;cases hy2
   have TK:=KM.zZ held hR My
   have lJ:∀n,(KM.bj held n k).frames.length=k.frames.length:=fun n=>(TK n).kept.nf
   have AY:∀n,0<=(KM.bj held n k).hand/\(KM.bj held n k).hand<(KM.bj held n k).frames.length:=fun n=>(TK n).right.hand
   have HPS:Hid (∀V S' n,Km lo mb tt X V S' (KM.bj held n k)->Ch S w S' V->Calls Tryz.prog 188 #[.pointer (some (Ad mb 0)),I (KM.bj held n k).hand,.slice ah held.length ch] V (mS lo mb tt X V S' (.bool (KM.jD held (KM.bj held n k))) (jo held (KM.bj held n k) (KM.bj held n k).hand.toNat))):=fun V S' n hV hc=>by
    have e:(((KM.bj held n k).hand.toNat:Nat):Int)=(KM.bj held n k).hand:=by have:=AY n;omega
    have:=Ev (KM.bj held n k) S' V (KM.bj held n k).hand.toNat held ah ch hV (by have:=AY n;omega) (hH.ch hc).has (by omega)
    rw[e] at this
    exact this
   have HMV:Hid (∀V S' n,Km lo mb tt X V S' (jo held (KM.bj held n k) (KM.bj held n k).hand.toNat)->Calls Tryz.prog 189 #[.pointer (some (Ad mb 0))] V (mS lo mb tt X V S' (.tuple #[]) (KM.bj held (n+1) k))):=fun V S' n hV=>by
    have hpk:(jo held (KM.bj held n k) (KM.bj held n k).hand.toNat).frames.length=(KM.bj held n k).frames.length/\(jo held (KM.bj held n k) (KM.bj held n k).hand.toNat).hand=(KM.bj held n k).hand:=by
     unfold jo
     split
     · exact⟨rfl,rfl⟩
     · exact⟨List.length_set,rfl⟩
    have:=rK (jo held (KM.bj held n k) (KM.bj held n k).hand.toNat) S' V hV (by rw[hpk.1,hpk.2];exact AY n) (by rw[hpk.1,lJ];omega)
    rw[Iu (AY n)] at this
    exact this
   have HST:Hid (∀V S',Km lo mb tt X V S' (jo held (KM.bj held T k) (KM.bj held T k).hand.toNat)->Km lo mb tt X V S' (KM.bj held T k)):=fun V S' hV=>by
    have e:(((KM.bj held T k).hand.toNat:Nat):Int)=(KM.bj held T k).hand:=by have:=AY T;omega
    rw[OE (by rw[e];exact GR) (by have:=AY T;omega)] at hV
    exact hV
   have zR:Hid (∀V S',Km lo mb tt X V S' (KM.bj held T k)->Calls Tryz.prog 190 #[.pointer (some (Ad mb 0)),I (KM.bj held T k).hand] V (fH lo mb tt X V S' (.tuple #[]) (KM.cI (KM.bj held T k) (KM.bj held T k).hand.toNat))):=fun V S' hV=>by
    have e:(((KM.bj held T k).hand.toNat:Nat):Int)=(KM.bj held T k).hand:=by have:=AY T;omega
    have:=Ai (KM.bj held T k) S' V (KM.bj held T k).hand.toNat hV (TK T).right (by have:=AY T;omega) ((TK T).full _ (by have:=AY T;omega))
    rw[e] at this
    exact this
   have Pv:=KM.si (KM.bj held T k) (KM.bj held T k).hand.toNat
   have D2:Hid (∀V S',Km lo mb tt X V S' (KM.cI (KM.bj held T k) (KM.bj held T k).hand.toNat)->Calls Tryz.prog 189 #[.pointer (some (Ad mb 0))] V (mS lo mb tt X V S' (.tuple #[]) { KM.cI (KM.bj held T k) (KM.bj held T k).hand.toNat with hand:=KM.fN (KM.bj held T k) })):=fun V S' hV=>by
    have hlen:(KM.cI (KM.bj held T k) (KM.bj held T k).hand.toNat).frames.length=(KM.bj held T k).frames.length:=by rw[Pv.1,List.length_set]
    have:=rK _ S' V hV (by rw[hlen,Pv.2];exact AY T) (by rw[hlen,lJ];omega)
    have e:KM.fN (KM.cI (KM.bj held T k) (KM.bj held T k).hand.toNat)=KM.fN (KM.bj held T k):=by
     unfold KM.fN
     rw[hlen,Pv.2]
    rw[e] at this
    exact this
   have Rw:Hid (∀V S' n,Km lo mb tt X V S' (KM.bj held n k)->V.cell? (Ad mb 4)=some (I (KM.bj held n k).hand)):=fun V S' n hV=>hV.c4
   have HHI:=ai (fun n=>AY n)
   have HPP:=ai Ma
   have N1:=ai GR
   have bh:Hid (∀V S',Km lo mb tt X V S' { KM.cI (KM.bj held T k) (KM.bj held T k).hand.toNat with hand:=KM.fN (KM.bj held T k) }->Ch S w S' V->fH lo mb tt X w S (I ((KM.bM k held).1:Int)) (KM.bM k held).2 (.returned (I (KM.bj held T k).hand)) V):=fun V S' h1 h2=>by
    rw[hg]
    refine⟨?_,S',h1,h2⟩
    congr 2
    have:=AY T
    show _=(((KM.bj held T k).hand.toNat:Nat):Int)
    omega
   obtain⟨P,hP⟩:=ex (fH lo mb tt X w S (I ((KM.bM k held).1:Int)) (KM.bM k held).2)
   rw[<- hP] at bh ⊢
   have iz:=ai h
   have mU:=h.lt
   clear hP Jg hg hf hall hex h hR hcc A eF Zn hH TK lJ AY Ma GR pI My Pv hl
   go_enter Tryz.func165,Tryz.ntmps165
   go_wp2_with (go_at_call 187;refine zT.o.mono ?_;rintro e w1 ⟨rfl,hb1⟩;have aZ:=ai hb1;clear hb1)
   go_loopg [23] T (fun g _ wr=>∃(n:Nat) (S':St),n<=T/\g=T-n/\Km lo mb tt X wr S' (KM.bj held n k)/\Ch S w S' wr)
   case atStart=>exact⟨0,S,by omega,by omega,iz.o.below aZ.o,Ch.below aZ.o⟩
   case round =>
    obtain⟨n,S',hn,NP,fQ,hch⟩:=hrel
    have d4:=Rw.o wr S' n fQ
    have JL:=ai (HPS.o wr S' n fQ hch)
    have TV:=ai (fun V=>HMV.o V S' n)
    have BC:=ai hch
    have HGK:=ai NP
    clear fQ hch NP iz
    by_cases hlt:n<T
    · have hp:=HPP.o n hlt
      rw[hp] at JL
      obtain⟨hd,AY⟩:=ex ((KM.bj held n k).hand)
      rw[<- AY] at d4 JL TV
      clear hp AY
      go_wp2_with (first
       | (go_at_call 188;refine JL.o.mono ?_;rintro e w2 ⟨rfl,hk2,hc2⟩;have jh:=ai hk2;have kv:=ai (BC.o.trans hc2);clear hk2 hc2)
       | (go_at_call 189;refine(TV.o _ jh.o).mono ?_;rintro e w3 ⟨rfl,hk3,hc3⟩;have ld:=ai hk3;have nB:=ai (kv.o.trans hc3);clear hk3 hc3))
      go_roundg (T-(n+1))
      case measure=>have:=HGK.o;omega
      case rel=>exact⟨n+1,S',by omega,by omega,ld.o,nB.o⟩
    · obtain rfl:n=T:=by omega
      have hp:=N1.o
      rw[hp] at JL
      have HI:=ai (HHI.o n)
      obtain⟨IT,hIT⟩:=ex (KM.bj held n k)
      rw[<- hIT] at d4 JL HST zR D2 bh
      have aa2:Hid (∀V S',Km lo mb tt X V S' IT->V.cell? (Ad mb 4)=some (I IT.hand)):=fun V S' hV=>hV.c4
      clear hp hIT HMV TV HPS Rw HPP N1 HHI HI
      go_wp2_with (first
       | (go_at_call 188;refine JL.o.mono ?_;rintro e w2 ⟨rfl,hk2,hc2⟩;have Ph:=HST.o _ _ hk2;have jh:=ai Ph;have kv:=ai (BC.o.trans hc2);have d5:=aa2.o w2 S' Ph;have aeB:=Ph.lt;clear hk2 hc2 Ph)
       | (go_at_call 190;refine(zR.o _ _ jh.o).mono ?_;rintro e w3 ⟨rfl,S3,hk3,hc3⟩;have ld:=ai hk3;have nB:=ai (kv.o.trans hc3);clear hk3 hc3)
       | (have _:=ld;go_at_call 189;refine(D2.o _ _ ld.o).mono ?_;rintro e w4 ⟨rfl,hk4,E8⟩;have W8:=ai hk4;have Xk:=ai (nB.o.trans E8);clear hk4 E8))
      exact bh.o _ _ W8.o Xk.o
end KX
end Go.Proofs.YtpgifpeohlllfaaGreat
