import Derived.Test.YtpgifpeohlllfaaGreatGT20
set_option maxHeartbeats 20000000
set_option linter.unusedVariables false
set_option maxRecDepth 100000
set_option linter.unusedSimpArgs false
namespace Go.Proofs.YtpgifpeohlllfaaGreat
namespace KX
open Go.RowKit GK KO
open FW (ai aD)
open KW (bJ bI aK aZ fh cK aI dA bU)
open KS (Lc bw kM cD blk cJ)
theorem Fa (i:Int) (e:KM.En) (x:Nat) (w:World) (hx:w.cell? (Ad x 0)=some (I i)) :
  Calls Tryz.prog 202 #[.agg #[I e.page,I e.kind,I e.loc],.pointer (some (Ad x 0))] w fun r w'=>r=.returned (.bool (KM.jn i e))/\Below w.heap.size w w':=by
 obtain⟨pg,kd,lc⟩:=e;unfold KM.jn;simp only;have hxl:x<w.heap.size:=World.block_lt_of_cell? w _ hx;have xA:(w.alloc (.cells #[I pg,I kd,I lc] 45)).cell? (Ad x 0)=some (I i):=(Below.cell ((Below.refl w.heap.size w).alloc (Nat.le_refl _) _) (p:=(Ad x 0)) hxl).trans hx;obtain⟨A,hA⟩:=ex (decide (kd=1/\lc=i));rw[<- hA];have HA:=ai hA;clear hA;by_cases c:kd=1
 · have kb:(kd==1)=true:=by simpa using c
   obtain⟨C,hC⟩:=ex ((lc==i));have HC:=ai hC;have hC2:=hC.symm;have eQ:=ai c;clear hC c;go_enter Tryz.func202,Tryz.ntmps202;go_wp2;go_ret;refine⟨?_,(Below.refl _ _).alloc (Nat.le_refl _) _⟩;congr 2;rw[HA.o,eQ.o]
   try rw[HC.o]
   by_cases d:lc=i <;> simp[d]
 · have kb:(kd==1)=false:=by simpa using c
   have eQ:=ai c;clear c;go_enter Tryz.func202,Tryz.ntmps202;go_wp2;go_ret;refine⟨?_,(Below.refl _ _).alloc (Nat.le_refl _) _⟩;congr 2;rw[HA.o];simp[eQ.o]
theorem Hp (f:KM.Sl) (w:World):Calls Tryz.prog 204 #[.agg #[.string f.data,I f.refs]] w fun e w'=>e=.returned (.bool (KM.oI f))/\Below w.heap.size w w':=by
 obtain⟨d,r⟩:=f;unfold KM.oI;simp only;have hd:d.toList.isEmpty=decide (d.size=0):=KW.Qe d;by_cases c1:d.size=0
 · by_cases c2:r=0
   · rw[decide_eq_true (show d.size=0/\r=0 from⟨c1,c2⟩)];rw[decide_eq_true c1] at hd;have h2:(r==0)=true:=by simpa using c2
     clear c1 c2;go_enter Tryz.func204,Tryz.ntmps204;go_wp2;go_ret;exact⟨by simp,(Below.refl _ _).alloc (Nat.le_refl _) _⟩
   · rw[decide_eq_false (show ¬(d.size=0/\r=0) from fun x=>c2 x.2)];rw[decide_eq_true c1] at hd;have h2:(r==0)=false:=by simpa using c2
     clear c1 c2;go_enter Tryz.func204,Tryz.ntmps204;go_wp2;go_ret;exact⟨by simp,(Below.refl _ _).alloc (Nat.le_refl _) _⟩
 · rw[decide_eq_false (show ¬(d.size=0/\r=0) from fun x=>c1 x.1)];rw[decide_eq_false c1] at hd;clear c1;go_enter Tryz.func204,Tryz.ntmps204;go_wp2;go_ret;exact⟨by simp,(Below.refl _ _).alloc (Nat.le_refl _) _⟩
theorem OS (l:List KM.Sl) (ao:Option Addr) (cap:Nat) (w:World) (h:aZ bI 2 KM.xe w ao l) (hl:l.length<=1000000) :
  Calls Tryz.prog 203 #[.slice ao l.length cap,.func (.func 204) #[] #[]] w fun e w' =>
   Below w.heap.size w w'/\((e=.returned (I (-1))/\∀j,j<l.length->KM.oI (KM.bj l j)=false)∨∃i:Nat,i<l.length/\e=.returned (I (i:Int))/\KM.oI (KM.bj l i)=true/\∀j,j<i->KM.oI (KM.bj l j)=false):=by
 have HH:=ai h;clear h;go_enter Tryz.func203,Tryz.ntmps203;go_wp2;go_loopw [8] (fun iv wr=>∃k:Nat,k<=l.length/\iv=I (k:Int)/\(∀j,j<k->KM.oI (KM.bj l j)=false)/\Below w.heap.size w wr) (fun iv _=>l.length-(intOf iv).toNat)
 case atStart=>exact⟨0,by omega,rfl,fun j hj=>by omega,Below.refl _ _⟩
 case round =>
  obtain⟨k,hk,rfl,hno,hb⟩:=hrel;have jc:=ai hno;have HB:=ai hb;clear hno;by_cases hlt:k<l.length
  · have wj:(k:Int)<(l.length:Int):=by omega
    obtain⟨eb,eo,hao,hbl,bN⟩:=HH.o (by omega);subst hao;have y0:=(hb.cell (p:=(Ad eb (eo+k*2+0))) hbl).trans (bN k hlt 0 (by omega));have y1:=(hb.cell (p:=(Ad eb (eo+k*2+1))) hbl).trans (bN k hlt 1 (by omega));rw[Nat.add_zero] at y0;have lR:=ai (Hp (KM.bj l k) wr);obtain⟨G,hG⟩:=ex (KM.oI (KM.bj l k));rw[<- hG] at lR;have HG:=ai hG;obtain⟨E,hE⟩:=ex (KM.bj l k);have x0:wr.cell? (Ad eb (eo+k*2))=some (.string E.data):=by rw[hE];exact y0
    have x1:wr.cell? (Ad eb (eo+k*2+1))=some (I E.refs):=by rw[hE];exact y1
    rw[<- hE] at lR;clear hG hE hb y0 y1 bN;cases G with
    | true =>
     go_wp2_with (go_at_call 204;refine lR.o.mono ?_;rintro e w1 ⟨rfl,hb1⟩;have bE:=ai (HB.o.trans (hb1.mono HB.o.size));clear hb1)
     go_ret;exact⟨bE.o,.inr ⟨k,hlt,rfl,HG.o.symm,jc.o⟩⟩
    | false =>
     go_wp2_with (go_at_call 204;refine lR.o.mono ?_;rintro e w1 ⟨rfl,hb1⟩;have bE:=ai (HB.o.trans (hb1.mono HB.o.size));clear hb1)
     go_roundw
     case rel=>exact⟨k+1,by omega,by go_num,fun j hj=>by
      by_cases q:j=k
      · subst q;exact HG.o.symm
      · exact jc.o j (by omega),bE.o⟩
     case measure=>simp[intOf];omega
  · obtain rfl:k=l.length:=by omega
    clear hb;go_wp2;go_ret;exact⟨HB.o,.inl ⟨rfl,jc.o⟩⟩
theorem OT (l:List KM.Fr) (ao:Option Addr) (cap:Nat) (w:World) (h:aZ bJ 4 KM.mz w ao l) (hl:l.length<=1000000) :
  Calls Tryz.prog 187 #[.slice ao l.length cap,.func (.func 168) #[] #[]] w fun e w' =>
   Below w.heap.size w w'/\((e=.returned (I (-1))/\∀j,j<l.length->KM.uv (KM.aH l j)=false)∨∃i:Nat,i<l.length/\e=.returned (I (i:Int))/\KM.uv (KM.aH l i)=true/\∀j,j<i->KM.uv (KM.aH l j)=false):=by
 have HH:=ai h;clear h;go_enter Tryz.func187,Tryz.ntmps187;go_wp2;go_loopw [8] (fun iv wr=>∃k:Nat,k<=l.length/\iv=I (k:Int)/\(∀j,j<k->KM.uv (KM.aH l j)=false)/\Below w.heap.size w wr) (fun iv _=>l.length-(intOf iv).toNat)
 case atStart=>exact⟨0,by omega,rfl,fun j hj=>by omega,Below.refl _ _⟩
 case round =>
  obtain⟨k,hk,rfl,hno,hb⟩:=hrel;have jc:=ai hno;have HB:=ai hb;clear hno;by_cases hlt:k<l.length
  · have wj:(k:Int)<(l.length:Int):=by omega
    obtain⟨eb,eo,hao,hbl,bN⟩:=HH.o (by omega);subst hao;have y0:=(hb.cell (p:=(Ad eb (eo+k*4+0))) hbl).trans (bN k hlt 0 (by omega));have y1:=(hb.cell (p:=(Ad eb (eo+k*4+1))) hbl).trans (bN k hlt 1 (by omega));have y2:=(hb.cell (p:=(Ad eb (eo+k*4+2))) hbl).trans (bN k hlt 2 (by omega));have y3:=(hb.cell (p:=(Ad eb (eo+k*4+3))) hbl).trans (bN k hlt 3 (by omega));rw[Nat.add_zero] at y0;have lR:=ai (KW.y7 (KM.aH l k) wr);obtain⟨G,hG⟩:=ex (KM.uv (KM.aH l k));rw[<- hG] at lR;have HG:=ai hG;obtain⟨E,hE⟩:=ex (KM.aH l k);have x0:wr.cell? (Ad eb (eo+k*4))=some (.string E.data):=by rw[hE];exact y0
    have x1:wr.cell? (Ad eb (eo+k*4+1))=some (I E.refs):=by rw[hE];exact y1
    have x2:wr.cell? (Ad eb (eo+k*4+2))=some (.bool E.cj):=by rw[hE];exact y2
    have x3:wr.cell? (Ad eb (eo+k*4+3))=some (.bool E.seen):=by rw[hE];exact y3
    rw[<- hE] at lR;clear hG hE hb y0 y1 y2 y3 bN;cases G with
    | true =>
     go_wp2_with (go_at_call 168;refine lR.o.mono ?_;rintro e w1 ⟨rfl,hb1⟩;have bE:=ai (HB.o.trans (hb1.mono HB.o.size));clear hb1)
     go_ret;exact⟨bE.o,.inr ⟨k,hlt,rfl,HG.o.symm,jc.o⟩⟩
    | false =>
     go_wp2_with (go_at_call 168;refine lR.o.mono ?_;rintro e w1 ⟨rfl,hb1⟩;have bE:=ai (HB.o.trans (hb1.mono HB.o.size));clear hb1)
     go_roundw
     case rel=>exact⟨k+1,by omega,by go_num,fun j hj=>by
      by_cases q:j=k
      · subst q;exact HG.o.symm
      · exact jc.o j (by omega),bE.o⟩
     case measure=>simp[intOf];omega
  · obtain rfl:k=l.length:=by omega
    clear hb;go_wp2;go_ret;exact⟨HB.o,.inl ⟨rfl,jc.o⟩⟩
theorem TL {k:KM.Kn} (hR:KM.aQ k) {i:Nat} (hi:i<k.slots.length) (h1:KM.oI (KM.bj k.slots i)=true) (h2:∀j,j<i->KM.oI (KM.bj k.slots j)=false):KM.rN k.slots=some i:=by
 unfold KM.rN;refine List.findIdx?_eq_some_iff_getElem.2 ⟨hi,?_,fun j hj=>?_⟩
 · have:=(KM.tT _).1 h1;unfold KM.bj at this;rw[List.getD_eq_getElem?_getD,List.getElem?_eq_getElem hi] at this;have this:k.slots[i]=KM.xe:=this;rw[this];rfl
 · have hj':j<k.slots.length:=by omega
   have:=h2 j hj;have hz:¬(KM.bj k.slots j).refs=0:=fun z=>by
    have h3:=(hR.slt j hj').zero ((hR.slt j hj').nil z);rw[(KM.tT _).2 h3] at this;cases this
   unfold KM.bj at hz;rw[List.getD_eq_getElem?_getD,List.getElem?_eq_getElem hj'] at hz;simpa using hz
theorem JW {k:KM.Kn} (hR:KM.aQ k) {i:Nat} (hi:i<k.frames.length) (h1:KM.uv (KM.aH k.frames i)=true) (h2:∀j,j<i->KM.uv (KM.aH k.frames j)=false):KM.wH k.frames=some i:=by
 unfold KM.wH;refine List.findIdx?_eq_some_iff_getElem.2 ⟨hi,?_,fun j hj=>?_⟩
 · have:=(KM.tS _).1 h1;unfold KM.aH at this;rw[List.getD_eq_getElem?_getD,List.getElem?_eq_getElem hi] at this;have this:k.frames[i]=KM.mz:=this;rw[this];rfl
 · have hj':j<k.frames.length:=by omega
   have:=h2 j hj;have hz:¬(KM.aH k.frames j).refs=0:=fun z=>by
    have h3:=(hR.m7 j hj').zero ((hR.m7 j hj').nil z);rw[(KM.tS _).2 h3] at this;cases this
   unfold KM.aH at hz;rw[List.getD_eq_getElem?_getD,List.getElem?_eq_getElem hj'] at hz;simpa using hz
theorem TJ {k:KM.Kn} (hR:KM.aQ k) (h:∀j,j<k.frames.length->KM.uv (KM.aH k.frames j)=false):KM.wH k.frames=none/\KM.Full k:=by
 have hF:KM.Full k:=fun j hj z=>by
  have h3:=(hR.m7 j hj).zero ((hR.m7 j hj).nil z);have:=h j hj;rw[(KM.tS _).2 h3] at this;cases this
 refine⟨?_,hF⟩;unfold KM.wH;refine List.findIdx?_eq_none_iff.2 fun x hx=>?_
 obtain⟨j,hj,rfl⟩:=KM.fu KM.mz hx;have:=hF j hj;unfold KM.aH at this;exact decide_eq_false this
def nz (f:KM.Sp->KM.Sp) (l:List KM.Sp) (n:Nat):List KM.Sp:=(l.take n).map f++l.drop n
theorem mv (f:KM.Sp->KM.Sp) (l:List KM.Sp) (n:Nat):(nz f l n).length=l.length:=by
 unfold nz;rw[List.length_append,List.length_map,List.length_take,List.length_drop];omega
theorem tP (f:KM.Sp->KM.Sp) (l:List KM.Sp) (n m:Nat) (hm:m<l.length):KM.au (nz f l n) m=if m<n then f (KM.au l m) else KM.au l m:=by
 unfold nz KM.au;rw[List.getD_eq_getElem?_getD,List.getD_eq_getElem?_getD,List.getElem?_eq_getElem hm];by_cases c:m<n
 · rw[if_pos c,List.getElem?_append_left (by rw[List.length_map,List.length_take];omega),List.getElem?_map,List.getElem?_take,if_pos c,List.getElem?_eq_getElem hm];rfl
 · rw[if_neg c,List.getElem?_append_right (by rw[List.length_map,List.length_take];omega),List.length_map,List.length_take,List.getElem?_drop,show n+(m-min n l.length)=m by omega,List.getElem?_eq_getElem hm]
theorem Bz (f:KM.Sp->KM.Sp) (l:List KM.Sp) (n:Nat) (hn:n<l.length):(nz f l n).set n (f (KM.au l n))=nz f l (n+1):=by
 refine KM.j5 KM.uu _ _ (by rw[List.length_set,mv,mv]) (fun m hm=>?_);rw[List.length_set,mv] at hm;have h1:=KM.fR (nz f l n) n m (f (KM.au l n)) (by rw[mv];exact hn);have h2:=tP f l n m hm;have h3:=tP f l (n+1) m hm;unfold KM.au at h1 h2 h3 ⊢;rw[h1,h3,h2];by_cases c:n=m
 · subst c;rw[if_pos rfl,if_pos (by omega)]
 · rw[if_neg c];by_cases d:m<n
   · rw[if_pos d,if_pos (by omega)]
   · rw[if_neg d,if_neg (by omega)]
theorem Lm (f:KM.Sp->KM.Sp) (l:List KM.Sp):nz f l l.length=l.map f:=by
 unfold nz;rw[List.take_length,List.drop_length,List.append_nil]
def dn (k:KM.Kn) (i s n:Nat):KM.Kn:={ k with frames:=k.frames.set i KM.mz,slots:=k.slots.set s ⟨(KM.aH k.frames i).data,(KM.aH k.frames i).refs⟩,aj:=nz (KM.ie i s) k.aj n }
theorem CO {lo mb:Nat} {tt:TypeId} {X:List Value} (k:KM.Kn) (S:St) (w:World) (i:Nat) (h:Km lo mb tt X w S k) (hR:KM.aQ k) (hi:i<k.frames.length) (hr0:(KM.aH k.frames i).refs≠0) :
  Calls Tryz.prog 190 #[.pointer (some (Ad mb 0)),I (i:Int)] w (gq lo mb tt X w S (.tuple #[]) (KM.cY k i)):=by
 have hcc:=hR.c;obtain⟨fb,cF,A⟩:=h.toKr.fr (by omega);obtain⟨W,hW⟩:=ex (((w.alloc (.cells #[I (i:Int)] 3)).alloc (.cells #[.string (KM.aH k.frames i).data,I (KM.aH k.frames i).refs,.bool (KM.aH k.frames i).cj,.bool (KM.aH k.frames i).seen] 40)).drew);have bR:Hid (Below w.heap.size w W):=by rw[hW];exact(((Below.refl w.heap.size w).alloc (Nat.le_refl _) _).alloc (by simp) _).drew
 have X0:Hid (W.heap[w.heap.size]?=some (.cells #[I (i:Int)] 3 (0,0))):=by rw[hW];exact B.alloc (B.new w _ _) _
 have F0:Hid (W.heap[w.heap.size+1]?=some (.cells #[.string (KM.aH k.frames i).data,I (KM.aH k.frames i).refs,.bool (KM.aH k.frames i).cj,.bool (KM.aH k.frames i).seen] 40 (0,0))):=by
  have:=B.new (w.alloc (.cells #[I (i:Int)] 3)) #[.string (KM.aH k.frames i).data,I (KM.aH k.frames i).refs,.bool (KM.aH k.frames i).cj,.bool (KM.aH k.frames i).seen] 40;rw[World.size_alloc] at this;rw[hW];exact this
 have UF:=ai (h.below bR.o);have HCW:Hid (Ch S w S W):=Ch.below bR.o;have n0:S.lab w.heap.size=.no:=h.toKr.new (Nat.le_refl _);have n1:S.lab (w.heap.size+1)=.no:=h.toKr.new (Nat.le_succ _);have xL:Hid (∀S' V,Ch S W S' V->V.heap[w.heap.size]?=some (.cells #[I (i:Int)] 3 (0,0))/\V.heap[w.heap.size+1]?=some (.cells #[.string (KM.aH k.frames i).data,I (KM.aH k.frames i).refs,.bool (KM.aH k.frames i).cj,.bool (KM.aH k.frames i).seen] 40 (0,0))):=fun S' V hV=>⟨hV.keep X0.o n0,hV.keep F0.o n1⟩
 have c1:=h.c1;rw[A.v] at c1;have x0:=A.x0 i hi;have x1:=A.x1 i hi;have x2:=A.x2 i hi;have x3:=A.x3 i hi;have wj:(i:Int)<(k.frames.length:Int):=by omega
 have oJ:=h.lt;have hfl:=A.lt;have bB:Hid (∀V S' K,K=KM.cY k i->Km lo mb tt X V S' K->Ch S W S' V->gq lo mb tt X w S (.tuple #[]) (KM.cY k i) (.returned (.tuple #[])) V):=fun V S' K hK h1 h2=>⟨rfl,S',hK ▸ h1,HCW.o.trans h2⟩
 obtain⟨P,hP⟩:=ex (gq lo mb tt X w S (.tuple #[]) (KM.cY k i));rw[<- hP] at bB ⊢;have YN:=ai hW;cases hd:(KM.aH k.frames i).cj with
 | false =>
  have hdrop:KM.cY k i=KM.iW k i k.aj.length:=by
   rw[KM.Oa hR hi];unfold KM.cY;rw[hd];rfl
  have D3:=ai (fun V S' h1 h2=>bB.o V S' _ hdrop.symm h1 h2);have UL:Hid (∀V S' n,n<k.aj.length->Km lo mb tt X V S' (KM.iW k i n)->Ch S W S' V->Calls Tryz.prog 87 #[.pointer (some (Ad mb 0)),I (n:Int),.func (.func 202) #[] #[.pointer (some (Ad w.heap.size 0))]] V (gq lo mb tt X V S' (.tuple #[]) (KM.iW k i (n+1)))):=fun V S' n hn hV hc=>by
   have hp:=KM.qH hR i n (by omega);refine zo 202 [.pointer (some (Ad w.heap.size 0))] w.heap.size (.inl ⟨rfl,rfl⟩) (KM.iW k i n) S' V n (KM.jn (i:Int)) hV hp.1 (by rw[hp.2.2.2.2.2.1];exact hn) (fun U e hU=>?_);have hx:=(xL.out S' V hc).1;have hno:S'.lab w.heap.size=.no:=hc.no _ (B.isLt X0.o) n0;exact Fa (i:Int) e w.heap.size U (B.cell (hU.keep hx (fun z=>z hno)) 0 rfl)
  have Cu:Hid (∀V S' n,Km lo mb tt X V S' (KM.iW k i n)->n<=k.aj.length->∃av cv,V.cell? (Ad mb 3)=some (.slice av k.aj.length cv)):=fun V S' n hV hn=>by
   have hp:=KM.qH hR i n hn;obtain⟨pb,cP,A'⟩:=hV.toKr.sp (by rw[hp.2.2.2.2.2.1];omega);have:=hV.c3;rw[A'.v,hp.2.2.2.2.2.1] at this;exact⟨_,_,this⟩
  obtain⟨av,cv,d3⟩:=Cu.o W S 0 UF.o (by omega);obtain⟨np,rH⟩:=ex k.aj.length;rw[<- rH] at d3 UL D3;have ajY:np<=4:=by omega
  have d0:W.cell? (Ad w.heap.size 0)=some (I (i:Int)):=B.cell X0.o 0 rfl;obtain⟨FR,BW⟩:=ex (KM.aH k.frames i);rw[<- BW] at x0 x1 x2 x3 YN hd F0;obtain⟨fd,fr,fdy,fs⟩:=FR;simp only at x0 x1 x2 x3 YN hd F0;subst hd;have d2:W.cell? (Ad (w.heap.size+1) 2)=some (.bool false):=B.cell F0.o 2 rfl;clear hW hP hR hcc A h hr0 BW rH Cu bB xL hdrop hi;go_enter Tryz.func190,Tryz.ntmps190;go_upto_region 1 with fail;go_region;rw[<- YN.o];go_wp2;go_loopw [29] (fun iv wr=>∃(n:Nat) (S':St),n<=np/\iv=I (n:Int)/\Km lo mb tt X wr S' (KM.iW k i n)/\Ch S W S' wr) (fun iv _=>np-(intOf iv).toNat)
  case atStart=>exact⟨0,S,by omega,rfl,UF.o,Ch.refl _ _⟩
  case round =>
   obtain⟨n,S',hn,rfl,dG,hch⟩:=hrel;by_cases hlt:n<np
   · have hni:(n:Int)<(np:Int):=by omega
     have af6:=ai (UL.o wr S' n hlt dG hch);have D4:=ai hch;clear dG hch UF HCW;go_wp2_with (go_at_call 87;refine af6.o.mono ?_;rintro r w2 ⟨rfl,S2,hk2,hc2⟩;have jd:=ai hk2;have lR:=ai (D4.o.trans hc2);clear hk2 hc2)
     go_roundw
     case rel=>exact⟨n+1,S2,by omega,by go_num,jd.o,lR.o⟩
     case measure=>simp[intOf];omega
   · obtain rfl:n=np:=by omega
     have HX:=ai (D3.o wr S' dG hch);clear dG hch;go_wp2
     first
      | exact HX.o
      | (refine bodyPost_ret (v:=.tuple #[]) (by simp[results,Tryz.results190,go_sem]) rfl ?_;exact HX.o)
 | true =>
  obtain⟨s,Gk,hsl,Zt⟩:=hR.slot hi hr0;have Vc:KM.cY k i=dn k i s k.aj.length:=by
   unfold KM.cY dn;rw[hd,Gk,Lm];rfl
  have D3:=ai (fun V S' h1 h2=>bB.o V S' _ Vc.symm h1 h2);obtain⟨lb,cL,AL⟩:=UF.o.toKr.sl (by omega);obtain⟨aL,cL',eL,_,hrL⟩:=jy bI (fun _=>rfl) KM.xe UF.o.slots;have c2:=UF.o.c2;rw[AL.v] at c2;have eL2:aL=some (Ad lb 0):=by
   have:=eL;rw[AL.v] at this;injection this with e1 _ _;exact e1.symm
  subst eL2;have Cw:Hid (Calls Tryz.prog 203 #[.slice (some (Ad lb 0)) k.slots.length cL,.func (.func 204) #[] #[]] W fun e w'=>e=.returned (I (s:Int))/\Below W.heap.size W w'):=(OS k.slots (some (Ad lb 0)) cL W hrL (by omega)).mono fun e w' ⟨hb,hh⟩=>by
   rcases hh with⟨_,hno⟩ | ⟨m,hm,he,hy,hno⟩
   · have:=hno s hsl;have hz:=(hR.slt s hsl).zero Zt;rw[hz] at this;cases this
   · have:=TL hR hm hy hno;rw[Gk] at this;injection this with this;subst this;exact⟨he,hb⟩
  have dr:∀V:World,Below V.heap.size V V.drew:=fun V=>(Below.refl _ _).drew
  have QK:Hid (∀V U,Below W.heap.size W V->U=((V.setCell (Ad lb (s*2)) (.string (KM.aH k.frames i).data)).setCell (Ad lb (s*2+1)) (I (KM.aH k.frames i).refs)).drew->Km lo mb tt X U S { k with slots:=k.slots.set s ⟨(KM.aH k.frames i).data,(KM.aH k.frames i).refs⟩ }/\Ch S W S U):=fun V U hb hU=>by
   have m0:=UF.o.below hb;have m1:=m0.Wi AL.v hsl ⟨(KM.aH k.frames i).data,(KM.aH k.frames i).refs⟩;subst hU;exact⟨m1.1.below (dr _),((Ch.below hb).trans m1.2).trans (Ch.below (dr _))⟩
  have A4:Hid (∀V U,Km lo mb tt X V S { k with slots:=k.slots.set s ⟨(KM.aH k.frames i).data,(KM.aH k.frames i).refs⟩ }->Ch S W S V->U=((((V.setCell (Ad fb (i*4)) (.string ⟨#[]⟩)).setCell (Ad fb (i*4+1)) (I 0)).setCell (Ad fb (i*4+2)) (.bool false)).setCell (Ad fb (i*4+3)) (.bool false)).drew->Km lo mb tt X U S (dn k i s 0)/\Ch S W S U):=fun V U hV hc hU=>by
   have m2:=hV.Lv A.v (i:=i) hi KM.mz;subst hU;exact⟨m2.1.below (dr _),(hc.trans m2.2).trans (Ch.below (dr _))⟩
  have xG:Hid (∀V S' n,n<k.aj.length->Km lo mb tt X V S' (dn k i s n)->Ch S W S' V->∃pb cP ae ce lv ax nx cx,V.cell? (Ad pb (n*3))=some (.bool lv)/\V.cell? (Ad pb (n*3+1))=some (.slice ax nx cx)/\V.cell? (Ad pb (n*3+2))=some (.slice ae (KM.au k.aj n).aA.length ce)/\S'.vP=.slice (some (Ad pb 0)) k.aj.length cP /\
    ((dn k i s n=dn k i s (n+1)/\∀V',Below V.heap.size V V'->Calls Tryz.prog 153 #[.slice ae (KM.au k.aj n).aA.length ce,.func (.func 202) #[] #[.pointer (some (Ad w.heap.size 0))]] V' fun e w'=>e=.returned (I (-1))/\Below V'.heap.size V' w') ∨
    ∃(m eb:Nat),m<(KM.au k.aj n).aA.length/\ae=some (Ad eb 0)/\eb<V.heap.size/\∀V',Below V.heap.size V V'->Calls Tryz.prog 153 #[.slice ae (KM.au k.aj n).aA.length ce,.func (.func 202) #[] #[.pointer (some (Ad w.heap.size 0))]] V' fun e w'=>e=.returned (I (m:Int))/\Below V'.heap.size V' w'/\(∃u1 u2,w'.cell? (Ad eb (m*3+1))=some (I u1)/\w'.cell? (Ad eb (m*3+2))=some (I u2))/\w'.frozen? (Ad eb (m*3+1))=false/\w'.frozen? (Ad eb (m*3+2))=false/\(∀U,U=((w'.setCell (Ad eb (m*3+1)) (I 2)).setCell (Ad eb (m*3+2)) (I (s:Int))).drew->Km lo mb tt X U S' (dn k i s (n+1))/\Ch S' V S' U))):=fun V S' n hn hV hc=>by
   have hlen:(dn k i s n).aj.length=k.aj.length:=mv _ _ _;have hn':n<(dn k i s n).aj.length:=by rw[hlen];exact hn
   have hat:KM.au (dn k i s n).aj n=KM.au k.aj n:=by
    show KM.au (nz _ _ _) n=_;rw[tP _ _ _ _ hn,if_neg (by omega)]
   obtain⟨pb,cP,A'⟩:=hV.toKr.sp (by omega);obtain⟨ae,ce,wa,hre⟩:=hV.toKr.aA hn';rw[hat] at wa hre;have a0:=A'.x0 n hn';have a1:=A'.x1 n hn';have a2:=A'.x2 n hn';rw[wa] at a2;have hv:=A'.v;rw[hlen] at hv;obtain⟨ax,cx,sI,_,_⟩:=aN (hV.each n hn').aB;rw[sI] at a1;refine⟨pb,cP,ae,ce,_,ax,_,cx,a0,a1,a2,hv,?_⟩;have hx:V.heap[w.heap.size]?=some (.cells #[I (i:Int)] 3 (0,0)):=(xL.out S' V hc).1;have L5:∀V',Below V.heap.size V V'->_:=fun V' hb'=>KW.C5 202 (.inr (.inr rfl)) (KM.jn (i:Int)) (KM.au k.aj n).aA ae ce w.heap.size V' (hre.below hb') (by have:=jq hR hn;omega) (fun U e hU=>Fa (i:Int) e w.heap.size U (B.cell (B.below (B.below hx hb' (B.isLt hx)) hU (Nat.lt_of_lt_of_le (B.isLt hx) hb'.size)) 0 rfl))
   by_cases hex:∃m,m<(KM.au k.aj n).aA.length/\KM.jn (i:Int) (KM.aM (KM.au k.aj n).aA m)=true
   · obtain⟨m,hm,hy⟩:=hex;obtain⟨eb,hao,TB⟩:∃eb,ae=some (Ad eb 0)/\eb<V.heap.size:=by
      obtain⟨ao,cap,e,_,hg⟩:=aN (hV.each n hn').aJ;rw[hat,wa] at e;rw[hat] at hg;obtain⟨g,e2,_,hgl⟩:=hg (by omega);injection e with e1 _ _;exact⟨g,by rw[e1,e2],hgl⟩
     subst hao;refine .inr ⟨m,eb,hm,rfl,TB,fun V' hb'=>(L5 V' hb').mono fun e w' ⟨hb,hh⟩=>?_⟩;have hbb:Below V.heap.size V w':=hb'.trans (hb.mono hb'.size);have he:e=.returned (I (m:Int)):=by
      rcases hh with⟨_,hno⟩ | ⟨m',hm',he,hy',_⟩
      · have:=hno m hm;rw[hy] at this;cases this
      · have:=KM.Oc hR hi hn hm hm' hy hy';rw[this];exact he
     have mw:=hV.below hbb;have hs1:m<(KM.au (dn k i s n).aj n).aA.length:=by rw[hat];exact hm
     have hrow:=(mw.each n hn').aJ;rw[hat,wa] at hrow;have g1:=iZ aK (fun _=>rfl) KM.js hrow m 1 hm (by omega);have g2:=iZ aK (fun _=>rfl) KM.js hrow m 2 hm (by omega);refine⟨he,hb,⟨_,_,g1,g2⟩,dx hrow _,dx hrow _,fun U hU=>?_⟩;have e1:=mw.kG hn' wa hs1 (c:=1) (by omega) (e:=⟨(KM.aM (KM.au k.aj n).aA m).page,2,(KM.aM (KM.au k.aj n).aA m).loc⟩) (u:=I 2) (by rw[hat];rfl);have hl2:n<({ dn k i s n with aj:=(dn k i s n).aj.set n (KM.dU (KM.au (dn k i s n).aj n) ((KM.au (dn k i s n).aj n).aA.set m ⟨(KM.aM (KM.au k.aj n).aA m).page,2,(KM.aM (KM.au k.aj n).aA m).loc⟩)) }:KM.Kn).aj.length:=by
      show n<(List.set _ _ _).length;rw[List.length_set];exact hn'
     have WT:KM.au ((dn k i s n).aj.set n (KM.dU (KM.au (dn k i s n).aj n) ((KM.au (dn k i s n).aj n).aA.set m ⟨(KM.aM (KM.au k.aj n).aA m).page,2,(KM.aM (KM.au k.aj n).aA m).loc⟩))) n=KM.dU (KM.au k.aj n) ((KM.au k.aj n).aA.set m ⟨(KM.aM (KM.au k.aj n).aA m).page,2,(KM.aM (KM.au k.aj n).aA m).loc⟩):=by
      rw[KM.fR _ _ _ _ hn',if_pos rfl,hat]
     have e2:=e1.1.kG hl2 wa (i:=m) (by
      show m<(KM.au (List.set _ _ _) n).aA.length;rw[WT];show m<(List.set _ _ _).length;rw[List.length_set];exact hm) (c:=2) (by omega) (e:=⟨(KM.aM (KM.au k.aj n).aA m).page,2,(s:Int)⟩) (u:=I (s:Int)) (by
      show _=(aK (KM.aM (KM.au (List.set _ _ _) n).aA m)).set 2 _;rw[WT];show _=(aK ((List.set _ _ _).getD m KM.js)).set 2 _;rw[KM.bC _ _ _ _ hm];rfl)
     have hK:({ ({ dn k i s n with aj:=(dn k i s n).aj.set n (KM.dU (KM.au (dn k i s n).aj n) ((KM.au (dn k i s n).aj n).aA.set m ⟨(KM.aM (KM.au k.aj n).aA m).page,2,(KM.aM (KM.au k.aj n).aA m).loc⟩)) }:KM.Kn) with aj:=((dn k i s n).aj.set n (KM.dU (KM.au (dn k i s n).aj n) ((KM.au (dn k i s n).aj n).aA.set m ⟨(KM.aM (KM.au k.aj n).aA m).page,2,(KM.aM (KM.au k.aj n).aA m).loc⟩))).set n (KM.dU (KM.au ((dn k i s n).aj.set n (KM.dU (KM.au (dn k i s n).aj n) ((KM.au (dn k i s n).aj n).aA.set m ⟨(KM.aM (KM.au k.aj n).aA m).page,2,(KM.aM (KM.au k.aj n).aA m).loc⟩))) n) ((KM.au ((dn k i s n).aj.set n (KM.dU (KM.au (dn k i s n).aj n) ((KM.au (dn k i s n).aj n).aA.set m ⟨(KM.aM (KM.au k.aj n).aA m).page,2,(KM.aM (KM.au k.aj n).aA m).loc⟩))) n).aA.set m ⟨(KM.aM (KM.au k.aj n).aA m).page,2,(s:Int)⟩)) }:KM.Kn)=dn k i s (n+1):=by
      rw[WT,List.set_set];unfold dn;simp only;congr 1;rw[<- Bz _ _ _ hn];congr 1;unfold KM.dU KM.ie;simp only[List.set_set];congr 1;exact KM.GC _ _ _ m hm hy (fun q hq hqi=>KM.Oc hR hi hn hq hm hqi hy)
     subst hU;have e3:=hK ▸ e2.1;exact⟨e3.below (dr _),(((Ch.below hbb).trans e1.2).trans e2.2).trans (Ch.below (dr _))⟩
   · have hno:∀m,m<(KM.au k.aj n).aA.length->KM.jn (i:Int) (KM.aM (KM.au k.aj n).aA m)=false:=fun m hm=>by
      cases g:KM.jn (i:Int) (KM.aM (KM.au k.aj n).aA m) with
      | false=>rfl
      | true=>exact absurd ⟨m,hm,g⟩ hex
     refine .inl ⟨?_,fun V' hb'=>(L5 V' hb').mono fun e w' ⟨hb,hh⟩=>?_⟩
     · unfold dn;congr 1;rw[<- Bz _ _ _ hn];have e1:KM.ie (i:Int) s (KM.au k.aj n)=KM.au (nz (KM.ie i s) k.aj n) n:=by
        rw[tP _ _ _ _ hn,if_neg (by omega)];unfold KM.ie;rw[KM.KE _ _ _ hno]
       rw[e1];refine(KM.j5 KM.uu _ _ (by rw[List.length_set]) (fun q hq=>?_)).symm;have:=KM.fR (nz (KM.ie i s) k.aj n) n q (KM.au (nz (KM.ie i s) k.aj n) n) (by rw[mv];exact hn);unfold KM.au at this ⊢;rw[this];by_cases z:n=q
       · rw[if_pos z,z]
       · rw[if_neg z]
     · rcases hh with⟨he,_⟩ | ⟨m',hm',_,hy',_⟩
       · exact⟨he,hb⟩
       · exact absurd ⟨m',hm',hy'⟩ hex
  obtain⟨pb,cP,AP⟩:=UF.o.toKr.sp (by omega);have hvP:=AP.v;have HVP:=ai AP.v;have np4:k.aj.length<=4:=by omega
  have Gd:=ai (fun V K (hV:Km lo mb tt X V S K) (hK:K.frames=k.frames)=>(show(∀j,V.frozen? (Ad fb j)=false)/\V.cell? (Ad fb (i*4))=some (.string (KM.aH k.frames i).data)/\V.cell? (Ad fb (i*4+1))=some (I (KM.aH k.frames i).refs)/\V.cell? (Ad fb (i*4+2))=some (.bool (KM.aH k.frames i).cj)/\V.cell? (Ad fb (i*4+3))=some (.bool (KM.aH k.frames i).seen)/\V.cell? (Ad mb 1)=some (.slice (some (Ad fb 0)) k.frames.length cF)/\V.cell? (Ad mb 3)=some (.slice (some (Ad pb 0)) k.aj.length cP) from by
   obtain⟨P7,YC,A'⟩:=hV.toKr.fr (by rw[hK];omega);have e:P7=fb:=by
    have:=A'.v;rw[A.v] at this;injection this with e1 _ _;injection e1 with e1;injection e1 with e1 _ _;exact e1.symm
   subst e;have c1:=hV.c1;have c3:=hV.c3;rw[A.v] at c1;rw[hvP] at c3;have y0:=A'.x0 i (by rw[hK];exact hi);have y1:=A'.x1 i (by rw[hK];exact hi);have y2:=A'.x2 i (by rw[hK];exact hi);have y3:=A'.x3 i (by rw[hK];exact hi);rw[hK] at y0 y1 y2 y3;exact⟨A'.fz,y0,y1,y2,y3,c1,c3⟩))
  have hx0:=AL.x0 s hsl;have hx1:=AL.x1 s hsl;have hz0:=AL.fz (s*2);have hz1:=AL.fz (s*2+1);have hll:=AL.lt;have oN:=ai (fun V (hV:Km lo mb tt X V S (dn k i s 0))=>(show V.cell? (Ad mb 3)=some (.slice (some (Ad pb 0)) k.aj.length cP) from by have:=hV.c3;rw[hvP] at this;exact this));have q0:∀V,Below W.heap.size W V->V.cell? (Ad (w.heap.size+1) 0)=some (.string (KM.aH k.frames i).data)/\V.cell? (Ad (w.heap.size+1) 1)=some (I (KM.aH k.frames i).refs)/\V.cell? (Ad mb 2)=some (.slice (some (Ad lb 0)) k.slots.length cL)/\V.cell? (Ad lb (s*2))=some (.string (KM.bj k.slots s).data)/\V.cell? (Ad lb (s*2+1))=some (I (KM.bj k.slots s).refs)/\V.frozen? (Ad lb (s*2))=false/\V.frozen? (Ad lb (s*2+1))=false:=fun V hb=>by
   have hF:=B.below F0.o hb (B.isLt F0.o);have mV:=UF.o.below hb;obtain⟨lb',cL',A'⟩:=mV.toKr.sl (by omega);have e:lb'=lb:=by
    have:=A'.v;rw[AL.v] at this;injection this with e1 _ _;injection e1 with e1;injection e1 with e1 _ _;exact e1.symm
   subst e;have c2:=mV.c2;rw[AL.v] at c2;exact⟨B.cell hF 0 rfl,B.cell hF 1 rfl,c2,A'.x0 s hsl,A'.x1 s hsl,A'.fz _,A'.fz _⟩
  have HQ0:=ai q0;have HXA:=ai (fun V (hc:Ch S W S V)=>(show V.cell? (Ad w.heap.size 0)=some (I (i:Int)) from B.cell (xL.out S V hc).1 0 rfl));obtain⟨FR,BW⟩:=ex (KM.aH k.frames i);rw[<- BW] at x0 x1 x2 x3 YN hd F0 QK A4 Gd HQ0;obtain⟨SR,WW⟩:=ex (KM.bj k.slots s);rw[<- WW] at HQ0;rw[hd] at x2 YN F0;have d2:W.cell? (Ad (w.heap.size+1) 2)=some (.bool true):=B.cell F0.o 2 rfl;have Zu:(s:Int)<(k.slots.length:Int):=by omega
  have HMF:Hid (∀S' V,Ch S W S' V->S'.vP=S.vP):=fun S' V hc=>hc.eP
  have hHW:=bR.o.size;clear hW hP hR hcc A h hr0 BW bB xL hi Gk Zt AL AP hrL eL q0 Vc hvP WW dr hx0 hx1 hz0 hz1;go_enter Tryz.func190,Tryz.ntmps190;go_upto_region 1 with fail;go_region;rw[<- YN.o];go_upto_region 10 with(go_at_call 203;refine Cw.o.mono ?_;rintro e w1 ⟨rfl,hb1⟩;have bE:=ai hb1;clear hb1)
  obtain⟨p0,p1,p2,p3,p4,p5,p6⟩:=HQ0.o w1 bE.o;obtain⟨U1,hU1⟩:=ex (((w1.setCell (Ad lb (s*2)) (.string FR.data)).setCell (Ad lb (s*2+1)) (I FR.refs)).drew);have QE:=ai hU1;obtain⟨hk1,hc1⟩:=QK.o w1 U1 bE.o hU1;have pL:=ai hk1;have D5:=ai hc1;clear hU1 hk1 hc1;go_region;rw[<- QE.o];obtain⟨g0,g1,g2,g3,g4,g5,g6⟩:=Gd.o U1 _ pL.o rfl;have g0a:=g0 (i*4);have g0b:=g0 (i*4+1);have g0c:=g0 (i*4+2);have g0d:=g0 (i*4+3);have g7:=HXA.o U1 D5.o;obtain⟨U2,hU2⟩:=ex (((((U1.setCell (Ad fb (i*4)) (.string ⟨#[]⟩)).setCell (Ad fb (i*4+1)) (I 0)).setCell (Ad fb (i*4+2)) (.bool false)).setCell (Ad fb (i*4+3)) (.bool false)).drew);have Kc:=ai hU2;obtain⟨hk2,hc2⟩:=A4.o U1 U2 pL.o D5.o hU2;have jd:=ai hk2;have lR:=ai hc2;have k3:=oN.o U2 hk2;clear hU2 hk2 hc2 p0 p1 p2 p3 p4 p5 p6 g0;go_upto_region 11 with fail;go_region;rw[<- Kc.o];clear QE Kc pL D5 bE g0a g0b g0c g0d g1 g2 g3 g4 g5 g6 g7;go_wp2;go_loopw [69] (fun iv wr=>∃(n:Nat) (S':St),n<=k.aj.length/\iv=I (n:Int)/\Km lo mb tt X wr S' (dn k i s n)/\Ch S W S' wr) (fun iv _=>k.aj.length-(intOf iv).toNat)
  case atStart=>exact⟨0,S,by omega,rfl,jd.o,lR.o⟩
  case round =>
   obtain⟨n,S',hn,rfl,dG,hch⟩:=hrel;by_cases hlt:n<k.aj.length
   · have hni:(n:Int)<(k.aj.length:Int):=by omega
     obtain⟨SL,cP',ae,ce,lv,ax,nx,cx,a0,a1,a2,hvp,hcs⟩:=xG.o wr S' n hlt dG hch;have epb:SL=pb:=by
      rw[HMF.o S' wr hch,HVP.o] at hvp;injection hvp with e1 _ _;injection e1 with e1;injection e1 with e1 _ _;exact e1.symm
     subst epb;have wZ:=ai dG;have D4:=ai hch;have HA:=ai ((Below.refl wr.heap.size wr).alloc (Nat.le_refl _) (.cells #[.bool lv,.slice ax nx cx,.slice ae (KM.au k.aj n).aA.length ce] 43));have BX:=ai (B.new wr #[.bool lv,.slice ax nx cx,.slice ae (KM.au k.aj n).aA.length ce] 43);have ZY:∀eb,eb<wr.heap.size->¬wr.heap.size=eb:=fun eb h=>by omega
     have ZJ:(KM.au k.aj n).aA.length<=(KM.au k.aj n).aA.length:=Nat.le_refl _;clear dG hch hvp jd lR;rcases hcs with⟨hsame,hcl⟩ | ⟨m,eb,hm,RO,TB,hcl⟩
     · have RX:=ai hsame;have A5:=ai hcl;clear hsame hcl;go_wp2_with (go_at_call 153;refine(A5.o _ HA.o).mono ?_;rintro e w2 ⟨rfl,hb2⟩;have cM:=ai (HA.o.trans (hb2.mono HA.o.size));clear hb2)
       go_roundw
       case rel=>exact⟨n+1,S',by omega,by go_num,RX.o ▸ wZ.o.below cM.o,D4.o.trans (Ch.below cM.o)⟩
       case measure=>simp[intOf];omega
     · subst RO;have A5:=ai hcl;have Yv:(m:Int)<((KM.au k.aj n).aA.length:Int):=by omega
       have hm0:(0:Int)<=(m:Int):=by omega
       have hne:=ZY eb TB;clear hcl ZY;go_upto_region 17 with(go_at_call 153;refine(A5.o _ HA.o).mono ?_;rintro e w2 ⟨rfl,hb2,⟨u1,u2,t1,t2⟩,t3,t4,hfin⟩;have D7:=B.below BX.o hb2 (B.isLt BX.o);obtain⟨r0,r1,r2⟩:=B.c3 D7;have kY:=ai hfin;clear hb2 hfin D7)
       go_region;go_wp2;go_roundw
       case rel =>
        obtain⟨z1,z2⟩:=kY.o _ rfl;exact⟨n+1,S',by omega,by go_num,z1,D4.o.trans z2⟩
       case measure=>simp[intOf];omega
   · obtain rfl:n=k.aj.length:=by omega
     have HX:=ai (D3.o wr S' dG hch);clear dG hch;go_wp2
     first
      | exact HX.o
      | (refine bodyPost_end (v:=.tuple #[]) (by simp[results,Tryz.results190,go_sem]) rfl ?_;exact HX.o)
structure Held (w:World) (S:St) (ah:Option Addr) (held:List Int):Prop where
 has:aZ bU 1 0 w ah held
 no:∀b off,ah=some (Ad b off)->S.lab b=.no
 lt:∀b off,ah=some (Ad b off)->b<w.heap.size
theorem Held.ch {w w':World} {S S':St} {ah:Option Addr} {held:List Int} (h:Held w S ah held) (hc:Ch S w S' w'):Held w' S' ah held :=
 ⟨KX.aZ.kp h.has hc.kp (fun b off e z=>z (h.no b off e)),fun b off e=>hc.no b (h.lt b off e) (h.no b off e),fun b off e=>Nat.lt_of_lt_of_le (h.lt b off e) hc.kp.size⟩
theorem SM {held:List Int} {k:KM.Kn} {i:Nat} (h:(held.contains (i:Int) || (KM.aH k.frames i).seen)=false) (hi:i<k.frames.length):jW held k i=k:=by
 rw[Bool.or_eq_false_iff] at h;unfold jW;rw[if_neg (by rw[h.1];simp)];have:k.frames.set i (KM.unseen (KM.aH k.frames i))=k.frames:=by
  refine KM.j5 KM.mz _ _ List.length_set (fun m hm=>?_);rw[List.length_set] at hm;by_cases c:i=m
  · subst c;rw[KM.bC _ _ _ _ hm];have e:=h.2;unfold KM.unseen;show(⟨(KM.aH k.frames i).data,(KM.aH k.frames i).refs,(KM.aH k.frames i).cj,false⟩:KM.Fr)=KM.aH k.frames i;rw[<- e]
  · rw[KM.getD_set_ne _ _ _ _ _ c]
 rw[this]
theorem La {held:List Int} {k:KM.Kn} (hh:0<=k.hand/\k.hand<k.frames.length):({ jW held k k.hand.toNat with hand:=KM.gB (jW held k k.hand.toNat) }:KM.Kn)=KM.gL held k:=by
 have e:((k.hand.toNat:Nat):Int)=k.hand:=by omega
 unfold jW KM.gL;rw[e];by_cases c:held.contains k.hand=true
 · rw[if_pos c,if_pos c]
 · rw[if_neg c,if_neg c];unfold KM.gB;simp only[List.length_set]
theorem Dh {lo mb:Nat} {tt:TypeId} {X:List Value} (k:KM.Kn) (S:St) (w:World) (held:List Int) (ah:Option Addr) (ch:Nat) (h:Km lo mb tt X w S k) (hR:KM.aQ k) (hl:held.length<=2) (hH:Held w S ah held) :
  Calls Tryz.prog 165 #[.pointer (some (Ad mb 0)),.slice ah held.length ch] w (gq lo mb tt X w S (I ((KM.bT k held).1:Int)) (KM.bT k held).2):=by
 have hcc:=hR.c;obtain⟨fb,cF,A⟩:=h.toKr.fr (by omega);obtain⟨aF,YC,eF,_,hrF⟩:=jy bJ (fun _=>rfl) KM.mz h.frames;have eF2:aF=some (Ad fb 0):=by
  have:=eF;rw[A.v] at this;injection this with e1 _ _;exact e1.symm
 subst eF2;have c1:=h.c1;rw[A.v] at c1;have L5:=OT k.frames (some (Ad fb 0)) cF w hrF (by omega);by_cases hex:∃i,i<k.frames.length/\KM.uv (KM.aH k.frames i)=true/\∀j,j<i->KM.uv (KM.aH k.frames j)=false
 · obtain⟨i,hi,hy,hno⟩:=hex;have hf:=JW hR hi hy hno;have hg:KM.bT k held=(i,k):=by unfold KM.bT;rw[hf]
   have Cw:Hid (Calls Tryz.prog 187 #[.slice (some (Ad fb 0)) k.frames.length cF,.func (.func 168) #[] #[]] w fun e w'=>e=.returned (I (i:Int))/\Below w.heap.size w w'):=L5.mono fun e w' ⟨hb,hh⟩=>by
    rcases hh with⟨_,hn⟩ | ⟨m,hm,he,hy2,rI⟩
    · have:=hn i hi;rw[hy] at this;cases this
    · have:=JW hR hm hy2 rI;rw[hf] at this;injection this with this;subst this;exact⟨he,hb⟩
   have bB:Hid (∀V,Below w.heap.size w V->gq lo mb tt X w S (I ((KM.bT k held).1:Int)) (KM.bT k held).2 (.returned (I (i:Int))) V):=fun V hb=>by
    rw[hg];exact⟨rfl,S,h.below hb,Ch.below hb⟩
   obtain⟨P,hP⟩:=ex (gq lo mb tt X w S (I ((KM.bT k held).1:Int)) (KM.bT k held).2);rw[<- hP] at bB ⊢;have hi0:(0:Int)<=(i:Int):=by omega
   clear hP L5 hg hf hno hy h hR hcc A eF hrF hH;go_enter Tryz.func165,Tryz.ntmps165;go_wp2_with (go_at_call 187;refine Cw.o.mono ?_;rintro e w1 ⟨rfl,hb1⟩;have bE:=ai hb1;clear hb1)
   exact bB.o _ bE.o
 · have hall:∀j,j<k.frames.length->KM.uv (KM.aH k.frames j)=false:=fun j=>by
    induction j using Nat.strongRecOn with
    | _ j ih =>
     intro hj;cases g:KM.uv (KM.aH k.frames j) with
     | false=>rfl
     | true=>exact absurd ⟨j,hj,g,fun m hm=>ih m hm (by omega)⟩ hex
   obtain⟨hf,PN⟩:=TJ hR hall;obtain⟨T,hT,O9,JL⟩:=KM.zO held hl hR PN;have qT:=KM.zN held T 69 k (by omega) O9 JL;have hg:KM.bT k held=((KM.bH held T k).hand.toNat,{ KM.cY (KM.bH held T k) (KM.bH held T k).hand.toNat with hand:=KM.gB (KM.bH held T k) }):=by
    unfold KM.bT;rw[hf,qT]
   have Cw:Hid (Calls Tryz.prog 187 #[.slice (some (Ad fb 0)) k.frames.length cF,.func (.func 168) #[] #[]] w fun e w'=>e=.returned (I (-1))/\Below w.heap.size w w'):=L5.mono fun e w' ⟨hb,hh⟩=>by
    rcases hh with⟨he,_⟩ | ⟨m,hm,_,hy2,_⟩
    · exact⟨he,hb⟩
    · rw[hall m hm] at hy2;cases hy2
   have TK:=KM.CC held hR PN;have lj:∀n,(KM.bH held n k).frames.length=k.frames.length:=fun n=>(TK n).kept.nf
   have xN:∀n,0<=(KM.bH held n k).hand/\(KM.bH held n k).hand<(KM.bH held n k).frames.length:=fun n=>(TK n).right.hand
   have HPS:Hid (∀V S' n,Km lo mb tt X V S' (KM.bH held n k)->Ch S w S' V->Calls Tryz.prog 188 #[.pointer (some (Ad mb 0)),I (KM.bH held n k).hand,.slice ah held.length ch] V (mn lo mb tt X V S' (.bool (KM.ku held (KM.bH held n k))) (jW held (KM.bH held n k) (KM.bH held n k).hand.toNat))):=fun V S' n hV hc=>by
    have e:(((KM.bH held n k).hand.toNat:Nat):Int)=(KM.bH held n k).hand:=by have:=xN n;omega
    have:=G5 (KM.bH held n k) S' V (KM.bH held n k).hand.toNat held ah ch hV (by have:=xN n;omega) (hH.ch hc).has (by omega);rw[e] at this;exact this
   have HMV:Hid (∀V S' n,Km lo mb tt X V S' (jW held (KM.bH held n k) (KM.bH held n k).hand.toNat)->Calls Tryz.prog 189 #[.pointer (some (Ad mb 0))] V (mn lo mb tt X V S' (.tuple #[]) (KM.bH held (n+1) k))):=fun V S' n hV=>by
    have hpk:(jW held (KM.bH held n k) (KM.bH held n k).hand.toNat).frames.length=(KM.bH held n k).frames.length/\(jW held (KM.bH held n k) (KM.bH held n k).hand.toNat).hand=(KM.bH held n k).hand:=by
     unfold jW;split
     · exact⟨rfl,rfl⟩
     · exact⟨List.length_set,rfl⟩
    have:=tM (jW held (KM.bH held n k) (KM.bH held n k).hand.toNat) S' V hV (by rw[hpk.1,hpk.2];exact xN n) (by rw[hpk.1,lj];omega);rw[La (xN n)] at this;exact this
   have HST:Hid (∀V S',Km lo mb tt X V S' (jW held (KM.bH held T k) (KM.bH held T k).hand.toNat)->Km lo mb tt X V S' (KM.bH held T k)):=fun V S' hV=>by
    have e:(((KM.bH held T k).hand.toNat:Nat):Int)=(KM.bH held T k).hand:=by have:=xN T;omega
    rw[SM (by rw[e];exact JL) (by have:=xN T;omega)] at hV;exact hV
   have Nb:Hid (∀V S',Km lo mb tt X V S' (KM.bH held T k)->Calls Tryz.prog 190 #[.pointer (some (Ad mb 0)),I (KM.bH held T k).hand] V (gq lo mb tt X V S' (.tuple #[]) (KM.cY (KM.bH held T k) (KM.bH held T k).hand.toNat))):=fun V S' hV=>by
    have e:(((KM.bH held T k).hand.toNat:Nat):Int)=(KM.bH held T k).hand:=by have:=xN T;omega
    have:=CO (KM.bH held T k) S' V (KM.bH held T k).hand.toNat hV (TK T).right (by have:=xN T;omega) ((TK T).full _ (by have:=xN T;omega));rw[e] at this;exact this
   have TG:=KM.ui (KM.bH held T k) (KM.bH held T k).hand.toNat
   have DZ:Hid (∀V S',Km lo mb tt X V S' (KM.cY (KM.bH held T k) (KM.bH held T k).hand.toNat)->Calls Tryz.prog 189 #[.pointer (some (Ad mb 0))] V (mn lo mb tt X V S' (.tuple #[]) { KM.cY (KM.bH held T k) (KM.bH held T k).hand.toNat with hand:=KM.gB (KM.bH held T k) })):=fun V S' hV=>by
    have hlen:(KM.cY (KM.bH held T k) (KM.bH held T k).hand.toNat).frames.length=(KM.bH held T k).frames.length:=by rw[TG.1,List.length_set]
    have:=tM _ S' V hV (by rw[hlen,TG.2];exact xN T) (by rw[hlen,lj];omega);have e:KM.gB (KM.cY (KM.bH held T k) (KM.bH held T k).hand.toNat)=KM.gB (KM.bH held T k):=by
     unfold KM.gB;rw[hlen,TG.2]
    rw[e] at this;exact this
   have Ng:Hid (∀V S' n,Km lo mb tt X V S' (KM.bH held n k)->V.cell? (Ad mb 4)=some (I (KM.bH held n k).hand)):=fun V S' n hV=>hV.c4
   have HHI:=ai (fun n=>xN n);have UA:=ai O9;have MC:=ai JL;have bB:Hid (∀V S',Km lo mb tt X V S' { KM.cY (KM.bH held T k) (KM.bH held T k).hand.toNat with hand:=KM.gB (KM.bH held T k) }->Ch S w S' V->gq lo mb tt X w S (I ((KM.bT k held).1:Int)) (KM.bT k held).2 (.returned (I (KM.bH held T k).hand)) V):=fun V S' h1 h2=>by
    rw[hg];refine⟨?_,S',h1,h2⟩;congr 2;have:=xN T;show _=(((KM.bH held T k).hand.toNat:Nat):Int);omega
   obtain⟨P,hP⟩:=ex (gq lo mb tt X w S (I ((KM.bT k held).1:Int)) (KM.bT k held).2);rw[<- hP] at bB ⊢;have je:=ai h;have oJ:=h.lt;clear hP L5 hg hf hall hex h hR hcc A eF hrF hH TK lj xN O9 JL qT PN TG hl;go_enter Tryz.func165,Tryz.ntmps165;go_wp2_with (go_at_call 187;refine Cw.o.mono ?_;rintro e w1 ⟨rfl,hb1⟩;have bE:=ai hb1;clear hb1)
   go_loopg [23] T (fun g _ wr=>∃(n:Nat) (S':St),n<=T/\g=T-n/\Km lo mb tt X wr S' (KM.bH held n k)/\Ch S w S' wr)
   case atStart=>exact⟨0,S,by omega,by omega,je.o.below bE.o,Ch.below bE.o⟩
   case round =>
    obtain⟨n,S',hn,RJ,dG,hch⟩:=hrel;have d4:=Ng.o wr S' n dG;have ME:=ai (HPS.o wr S' n dG hch);have XJ:=ai (fun V=>HMV.o V S' n);have D4:=ai hch;have HGK:=ai RJ;clear dG hch RJ je;by_cases hlt:n<T
    · have hp:=UA.o n hlt;rw[hp] at ME;obtain⟨hd,xN⟩:=ex ((KM.bH held n k).hand);rw[<- xN] at d4 ME XJ;clear hp xN;go_wp2_with (first
       | (go_at_call 188;refine ME.o.mono ?_;rintro e w2 ⟨rfl,hk2,hc2⟩;have jd:=ai hk2;have lR:=ai (D4.o.trans hc2);clear hk2 hc2)
       | (go_at_call 189;refine(XJ.o _ jd.o).mono ?_;rintro e w3 ⟨rfl,hk3,hc3⟩;have mC:=ai hk3;have oN:=ai (lR.o.trans hc3);clear hk3 hc3))
      go_roundg (T-(n+1))
      case measure=>have:=HGK.o;omega
      case rel=>exact⟨n+1,S',by omega,by omega,mC.o,oN.o⟩
    · obtain rfl:n=T:=by omega
      have hp:=MC.o;rw[hp] at ME;have HI:=ai (HHI.o n);obtain⟨IT,hIT⟩:=ex (KM.bH held n k);rw[<- hIT] at d4 ME HST Nb DZ bB;have af0:Hid (∀V S',Km lo mb tt X V S' IT->V.cell? (Ad mb 4)=some (I IT.hand)):=fun V S' hV=>hV.c4
      clear hp hIT HMV XJ HPS Ng UA MC HHI HI;go_wp2_with (first
       | (go_at_call 188;refine ME.o.mono ?_;rintro e w2 ⟨rfl,hk2,hc2⟩;have TA:=HST.o _ _ hk2;have jd:=ai TA;have lR:=ai (D4.o.trans hc2);have d5:=af0.o w2 S' TA;have aj2:=TA.lt;clear hk2 hc2 TA)
       | (go_at_call 190;refine(Nb.o _ _ jd.o).mono ?_;rintro e w3 ⟨rfl,S3,hk3,hc3⟩;have mC:=ai hk3;have oN:=ai (lR.o.trans hc3);clear hk3 hc3)
       | (have _:=mC;go_at_call 189;refine(DZ.o _ _ mC.o).mono ?_;rintro e w4 ⟨rfl,hk4,H9⟩;have HK4:=ai hk4;have HC4:=ai (oN.o.trans H9);clear hk4 H9))
      exact bB.o _ _ HK4.o HC4.o
end KX
end Go.Proofs.YtpgifpeohlllfaaGreat
