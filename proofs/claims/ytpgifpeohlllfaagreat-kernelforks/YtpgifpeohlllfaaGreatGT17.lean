import Derived.Test.YtpgifpeohlllfaaGreatGT16
set_option maxHeartbeats 20000000
set_option linter.unusedVariables false
set_option maxRecDepth 100000
set_option linter.unusedSimpArgs false
namespace Go.Proofs.YtpgifpeohlllfaaGreat
namespace KM
open Go.RowKit
theorem aQ.space {k:Kn} (h:aQ k) {j:Nat} (hj:j<k.aj.length) {s:Sp} (hs:J8 k.ak k.frames.length k.slots.length s) (hn:∀kd a,dH s kd a=dH (au k.aj j) kd a) (hr:KM.room (k.aj.set j s)<=k.slots.length):aQ { k with aj:=k.aj.set j s }:=by
 have nn:∀kd a,names (k.aj.set j s) kd a=names k.aj kd a:=fun kd a=>by
  obtain⟨u,v,g1,g2⟩:=qM k.aj j s kd a hj;rw[g1,g2,hn]
 refine⟨?_,h.eJ,h.hand,?_,hr,fun i hi=>?_,fun i hi=>?_⟩
 · have:=h.counts;unfold KM.counts at this ⊢;simp only[List.length_set];exact this
 · intro x hx;rcases List.mem_or_eq_of_mem_set hx with g | rfl
   · exact h.each x g
   · exact hs
 · show vA k.ak (names (k.aj.set j s) 1 i) _;rw[nn];exact h.m7 i hi
 · show DT (names (k.aj.set j s) 2 i) _;rw[nn];exact h.slt i hi
theorem K9 (l:List Sp):∀(j:Nat) (s:Sp),j<l.length->room (l.set j s)=room l-AM.b7 (au l j).aB+AM.b7 s.aB:=fun j s hj=>by
 have:∀n,fp (l.set j s) n=fp l n+if j<n then AM.b7 s.aB-AM.b7 (au l j).aB else 0:=fun n=>by
  induction n with
  | zero=>rw[if_neg (by omega)];rfl
  | succ n ih =>
   rw[fp,fp,ih,fR l j n s hj];by_cases c:j=n
   · subst c;rw[if_pos rfl,if_neg (by omega),if_pos (by omega)];omega
   · rw[if_neg c];by_cases d:j<n
     · rw[if_pos d,if_pos (by omega)];omega
     · rw[if_neg d,if_neg (by omega)];omega
 unfold room;rw[List.length_set,this,if_pos hj];omega
def goes (l:List AM.Ar) (e:En):Bool:=!(AM.aR l e.page).2
def jM (k:Kn) (j:Nat):Kn:={ dK k j (fun _=>true) with aj:=(dK k j (fun _=>true)).aj.set j uu }
theorem zt (p:Int):(AM.aR [] p).2=false:=by
 have:=AM.wK [] rfl p.toNat
 by_cases c:0<=p
 · rw[Int.toNat_of_nonneg c] at this;rw[this.1];rfl
 · cases g:(AM.aR [] p).2 with
   | false=>rfl
   | true=>have:=iG g;omega
theorem KP (hs:List LM.Sh) (nf ns:Nat):J8 hs nf ns uu:=by
 refine⟨fun _=>⟨rfl,rfl⟩,rfl,List.Pairwise.nil,fun e he=>?_,fun p hp=>?_⟩
 · cases he
 · have hp:(AM.aR [] p).2=true:=hp;rw[zt p] at hp;cases hp
theorem LN (es:List En):iH es (fun _=>true)=[]:=by unfold iH;simp
theorem IE {k:Kn} (h:aQ k) {j:Nat} (hj:j<k.aj.length):aQ (jM k j):=by
 have hf:=ua h hj (fun _=>true);have hsp:=ll k j (fun _=>true);have hre:=lO k j (fun _=>true);have hj':j<(dK k j (fun _=>true)).aj.length:=by rw[hsp,List.length_set];exact hj
 have hat:au (dK k j (fun _=>true)).aj j=dU (au k.aj j) []:=by rw[hsp,fR _ _ _ _ hj,if_pos rfl,LN]
 have ht:0<=AM.b7 (au k.aj j).aB:=by
  have:=kP (h.sp hj);omega
 refine aQ.space hf hj' (KP _ _ _) (fun kd a=>?_) ?_
 · rw[hat];rfl
 · rw[K9 _ _ _ hj',hat,hsp,yw _ _ (dU (au k.aj j) (iH (au k.aj j).aA (fun _=>true))) hj rfl,hre.2.2.2];have:=h.room;show room k.aj-AM.b7 (au k.aj j).aB+AM.b7 []<=_;have e:AM.b7 []=0:=rfl;omega
def aV (k:Kn) (es:List En):Nat->Kn
 | 0=>k
 | n+1=>dh (aV k es n) (aM es n) 1
def fX (k:Kn) (j:Nat):Kn:={ aV k (au k.aj j).aA (au k.aj j).aA.length with aj:=(aV k (au k.aj j).aA (au k.aj j).aA.length).aj++[au k.aj j] }
def tO (f:Fr) (c:Nat):Fr:=⟨f.data,f.refs+c,f.cj,f.seen⟩
def tN (f:Sl) (c:Nat):Sl:=⟨f.data,f.refs+c⟩
theorem yT (f:Fr):tO f 0=f:=by unfold tO;simp
theorem yS (f:Sl):tN f 0=f:=by unfold tN;simp
theorem jI {k:Kn} (h:aQ k) {j:Nat} (hj:j<k.aj.length):∀m,m<=(au k.aj j).aA.length->(aV k (au k.aj j).aA m).ak=k.ak/\(aV k (au k.aj j).aA m).hand=k.hand/\(aV k (au k.aj j).aA m).aj=k.aj/\(aV k (au k.aj j).aA m).frames.length=k.frames.length/\(aV k (au k.aj j).aA m).slots.length=k.slots.length /\
  (∀n,n<k.frames.length->aH (aV k (au k.aj j).aA m).frames n=tO (aH k.frames n) (nm (au k.aj j).aB 1 n ((au k.aj j).aA.take m)).length) /\
  (∀n,n<k.slots.length->bj (aV k (au k.aj j).aA m).slots n=tN (bj k.slots n) (nm (au k.aj j).aB 2 n ((au k.aj j).aA.take m)).length)
 | 0,_=>⟨rfl,rfl,rfl,rfl,rfl,fun n _=>(yT _).symm,fun n _=>(yS _).symm⟩
 | m+1,hm=>by
  obtain⟨h1,h2,h3,h4,h5,h6,h7⟩:=jI h hj m (by omega);have hlt:m<(au k.aj j).aA.length:=by omega
  have hin:aM (au k.aj j).aA m∈(au k.aj j).aA:=dO hlt;rw[take_succ _ m hlt];obtain⟨e,he⟩:=ex (aM (au k.aj j).aA m);obtain⟨q,hq⟩:=ex (aV k (au k.aj j).aA m);rw[<- he] at hin ⊢;have hs:aV k (au k.aj j).aA (m+1)=dh q e 1:=by rw[hq,he];rfl
  rw[<- hq] at h1 h2 h3 h4 h5 h6 h7;rw[hs];have aeS:∀(f:Fr) (a b:Nat),tO (tO f a) b=tO f (a+b):=fun f a b=>by unfold tO;congr 1;show f.refs+_+_=_;omega
  have aeR:∀(f:Sl) (a b:Nat),tN (tN f a) b=tN f (a+b):=fun f a b=>by unfold tN;congr 1;show f.refs+_+_=_;omega
  rcases fN h hj hin with b | b
  · have hc:dh q e 1={ q with frames:=q.frames.set e.loc.toNat (Dr (aH q.frames e.loc.toNat) 1) }:=by unfold dh;rw[if_pos b.1]
    rw[hc];refine⟨h1,h2,h3,by show(q.frames.set _ _).length=_;rw[List.length_set];exact h4,h5,fun n hn=>?_,fun n hn=>?_⟩
    · show aH (q.frames.set _ _) n=_;rw[eW _ _ _ _ (by rw[h4];exact b.2.2),fQ,List.length_append];by_cases c:e.loc.toNat=n
      · rw[if_pos c,lT _ (show e.kind=1/\e.loc=(n:Int) by omega),<- aeS,<- h6 n hn,c];have hr:0<=(aH q.frames n).refs:=by
         rw[h6 n hn];have:=(h.m7 n hn).refs;show 0<=(aH k.frames n).refs+_;omega
        unfold Dr;rw[if_neg (by omega)];rfl
      · rw[if_neg c,jY _ (show ¬(e.kind=1/\e.loc=(n:Int)) by omega),h6 n hn];rfl
    · show bj q.slots n=_;rw[fQ,jY _ (show ¬(e.kind=2/\e.loc=(n:Int)) by omega),h7 n hn,List.append_nil]
  · have hc:dh q e 1={ q with slots:=q.slots.set e.loc.toNat (Dq (bj q.slots e.loc.toNat) 1) }:=by unfold dh;rw[if_neg (by omega)]
    rw[hc];refine⟨h1,h2,h3,h4,by show(q.slots.set _ _).length=_;rw[List.length_set];exact h5,fun n hn=>?_,fun n hn=>?_⟩
    · show aH q.frames n=_;rw[fQ,jY _ (show ¬(e.kind=1/\e.loc=(n:Int)) by omega),h6 n hn,List.append_nil]
    · show bj (q.slots.set _ _) n=_;rw[ot _ _ _ _ (by rw[h5];exact b.2.2),fQ,List.length_append];by_cases c:e.loc.toNat=n
      · rw[if_pos c,lT _ (show e.kind=2/\e.loc=(n:Int) by omega),<- aeR,<- h7 n hn,c];have hr:0<=(bj q.slots n).refs:=by
         rw[h7 n hn];have:=(h.slt n hn).refs;show 0<=(bj k.slots n).refs+_;omega
        unfold Dq;rw[if_neg (by omega)];rfl
      · rw[if_neg c,jY _ (show ¬(e.kind=2/\e.loc=(n:Int)) by omega),h7 n hn];rfl
structure Yk (k:Kn) (j:Nat) (f:Kn):Prop where
 ak:f.ak=k.ak
 hand:f.hand=k.hand
 aj:f.aj=k.aj++[au k.aj j]
 nf:f.frames.length=k.frames.length
 ns:f.slots.length=k.slots.length
 m7:∀n,n<k.frames.length->aH f.frames n=tO (aH k.frames n) (dH (au k.aj j) 1 n).length
 slt:∀n,n<k.slots.length->bj f.slots n=tN (bj k.slots n) (dH (au k.aj j) 2 n).length
theorem PX {k:Kn} (h:aQ k) {j:Nat} (hj:j<k.aj.length):Yk k j (fX k j):=by
 obtain⟨h1,h2,h3,h4,h5,h6,h7⟩:=jI h hj _ (Nat.le_refl _);rw[List.take_length] at h6 h7;exact⟨h1,h2,by show _++_=_;rw[h3],h4,h5,h6,h7⟩
theorem Il {k:Kn} (h:aQ k) {j:Nat} (hj:j<k.aj.length) (h4:k.aj.length≠4) (hr:room k.aj+AM.b7 (au k.aj j).aB<=k.slots.length):aQ (fX k j):=by
 have F:=PX h hj;have hc:=h.c;have nn:∀kd a,names (fX k j).aj kd a=names k.aj kd a++dH (au k.aj j) kd a:=fun kd a=>by
  rw[F.aj,tL,fG,Bu,List.append_nil]
 have sub:∀kd a,∀x∈dH (au k.aj j) kd a,x∈names k.aj kd a:=fun kd a x hx=>by
  obtain⟨e,he,h1,h2,h3⟩:=kJ.1 hx;exact gT.2 ⟨_,tC hj,e,he,h1,h2,h3⟩
 have both:∀kd a,∀x∈names k.aj kd a++dH (au k.aj j) kd a,x∈names k.aj kd a:=fun kd a x hx=>by
  rcases List.mem_append.1 hx with g | g
  · exact g
  · exact sub kd a x g
 have nil:∀kd a,names k.aj kd a++dH (au k.aj j) kd a=[]->names k.aj kd a=[]/\dH (au k.aj j) kd a=[]:=fun kd a e=>List.append_eq_nil_iff.1 e
 have ne:∀kd a,names k.aj kd a++dH (au k.aj j) kd a≠[]->names k.aj kd a≠[]:=fun kd a hn e=>hn (by
  rw[e];refine List.eq_nil_iff_forall_not_mem.2 fun x hx=>?_
  have hx:x∈dH (au k.aj j) kd a:=by simpa using hx
  have:=sub kd a x hx;rw[e] at this;cases this)
 refine⟨?_,by rw[F.ak];exact h.eJ,by rw[F.hand,F.nf];exact h.hand,?_,?_,fun n hn=>?_,fun n hn=>?_⟩
 · unfold KM.counts;rw[F.nf,F.ns,F.aj,F.ak,List.length_append];refine decide_eq_true ?_;simp only[List.length_cons,List.length_nil];omega
 · rw[F.ak,F.nf,F.ns,F.aj];intro s hs;rcases List.mem_append.1 hs with g | g
   · exact h.each s g
   · rw[List.mem_singleton] at g;subst g;exact h.sp hj
 · rw[F.aj,Bg,F.ns];exact hr
 · rw[F.nf] at hn;rw[F.ak,nn,F.m7 n hn];have hf:=h.m7 n hn;refine⟨?_,fun e=>?_,fun x hx y hy=>hf.one x (both 1 n x hx) y (both 1 n y hy),fun e=>hf.size (ne 1 n e),fun d x hx=>hf.fill d x (both 1 n x hx)⟩
   · show(aH k.frames n).refs+_=_;rw[List.length_append,hf.refs];omega
   · obtain⟨e1,e2⟩:=nil 1 n e;rw[e2];show tO _ 0=_;rw[yT];exact hf.zero e1
 · rw[F.ns] at hn;rw[nn,F.slt n hn];have hf:=h.slt n hn;refine⟨?_,fun e=>?_,fun x hx y hy=>hf.one x (both 2 n x hx) y (both 2 n y hy),fun e=>hf.size (ne 2 n e)⟩
   · show(bj k.slots n).refs+_=_;rw[List.length_append,hf.refs];omega
   · obtain⟨e1,e2⟩:=nil 2 n e;rw[e2];show tN _ 0=_;rw[yS];exact hf.zero e1
theorem jB {es:List En} {p:Int} {e:En} (h:bf es p=some e):e∈es:=List.mem_of_find?_eq_some h
theorem Qa {es:List En} {p:Int} {e:En} (h:bf es p=some e):e.page=p:=by
 have:=List.find?_some h;simpa using this
theorem SK {a b:Kn} {m n:Nat} {p:Int} (hE:bf (au a.aj m).aA p=bf (au b.aj n).aA p) (hd:∀x,bf (au a.aj m).aA p=some x->(x.kind=1->(aH a.frames x.loc.toNat).data=(aH b.frames x.loc.toNat).data)/\(x.kind≠1->(bj a.slots x.loc.toNat).data=(bj b.slots x.loc.toNat).data)) (hf:bf (au a.aj m).aA p=none->dY a.ak p (AM.aR (au a.aj m).aB p).1.zero=dY b.ak p (AM.aR (au b.aj n).aB p).1.zero):dD a m p=dD b n p:=by
 unfold dD;rw[<- hE];cases g:bf (au a.aj m).aA p with
 | none=>exact hf g
 | some x =>
  have:=hd x g;by_cases c:x.kind=1
  · simp only[if_pos c];exact this.1 c
  · simp only[if_neg c];exact this.2 c
theorem KN (l:List Sp) (s:Sp) (m:Nat):au (l++[s]) m=if m<l.length then au l m else if m=l.length then s else uu:=by
 unfold au;rw[List.getD_eq_getElem?_getD,List.getD_eq_getElem?_getD];by_cases h:m<l.length
 · rw[if_pos h,List.getElem?_append_left h]
 · rw[if_neg h,List.getElem?_append_right (by omega)];by_cases h2:m=l.length
   · rw[if_pos h2,h2,Nat.sub_self];rfl
   · rw[if_neg h2];obtain⟨d,hd⟩:∃d,m-l.length=d+1:=⟨m-l.length-1,by omega⟩;rw[hd];rfl
end KM
namespace KO
open Go.RowKit GK
open FW (ai aD)
open KW (bJ bI aK aZ fh cK aI)
open KS (Lc bw kM cD blk cJ)
variable {lo mb:Nat} {tt:TypeId} {X:List Value} {w:World} {S:St} {k:KM.Kn}
theorem qO (L:List Lc) (l:Lc) (k:Nat):cD (L++[l]) k=if k<L.length then cD L k else if k=L.length then l else kM:=by
 unfold cD;rw[List.getD_eq_getElem?_getD,List.getD_eq_getElem?_getD];by_cases h:k<L.length
 · rw[if_pos h,List.getElem?_append_left h]
 · rw[if_neg h,List.getElem?_append_right (by omega)];by_cases h2:k=L.length
   · rw[if_pos h2,h2,Nat.sub_self];rfl
   · rw[if_neg h2];obtain⟨d,hd⟩:∃d,k-L.length=d+1:=⟨k-L.length-1,by omega⟩;rw[hd];rfl
def qh (S:St) (v:Value) (l:Lc):Nat->Lb:=fun b=>if v.ownBlock=some b then .aj else if l.va.ownBlock=some b then .aB S.L.length else if l.vp.ownBlock=some b then .aA S.L.length else S.lab b
theorem Km.push {w2 w4:World} {v':Value} {l:Lc} {s:KM.Sp} {O:Obj} (h:Km lo mb tt X w S k) (hlo:lo<=w.heap.size) (hb2:Below w.heap.size w w2)
  (BC:cJ w.heap.size w2 l s) (hne:∀b,blk l.vp b->¬blk l.va b) (hgr:(w2.alloc O).grownBy w4 S.vP.ownBlock) (hown:w4.ownsRow lo 43 3 v' (S.L.length+1) (S.L.flatMap bw++bw l))
  (hat:v'.ownBlock=S.vP.ownBlock∨v'.ownBlock=some (w2.alloc O).heap.size) :
  Km lo mb tt X (w4.setCell (Ad mb 3) v') ⟨qh S v' l,S.vS,S.vF,S.vL,v',S.L++[l]⟩ { k with aj:=k.aj++[s] }/\(∀b,b<w.heap.size->S.lab b=.no->qh S v' l b=.no)/\Kp (fun b=>S.lab b≠.no) w (w4.setCell (Ad mb 3) v'):=by
 have s1:=hb2.size;have s2:=hgr.size;have hz:(w2.alloc O).heap.size=w2.heap.size+1:=World.size_alloc _ _;rw[hz] at s2 hat
 have kA:Kp (blk S.vP) w w2:=Kp.bc hb2;have kB:Kp (blk S.vP) w2 (w2.alloc O):=Kp.alloc _ w2 O;have kC:Kp (blk S.vP) (w2.alloc O) w4:=Kp.grown hgr (fun _ e=>e);have kD:=kA.trans (kB.trans kC (fun _ _ g=>g)) (fun _ _ g=>g);have gD:Kp (fun b=>b=mb) w4 (w4.setCell (Ad mb 3) v'):=Kp.set _ _ _ _ rfl;have eA:∀b,blk l.va b∨blk l.vp b->w.heap.size<=b/\b<w2.heap.size:=fun b hb=>by
  rcases hb with g | g
  · exact BC.aB.lt b g
  · exact BC.aJ.lt b g
 have hvb:∀b,blk S.vP b->b<w.heap.size:=fun b hb=>(h.aj.lt b hb).2
 have hv4:∀b,blk v' b->blk S.vP b∨b=w2.heap.size+1:=fun b hb=>by
  unfold blk at hb ⊢;rcases hat with e | e
  · exact .inl (by rw[<- e];exact hb)
  · right;rw[e] at hb;injection hb with hb;exact hb.symm
 have hmb:=B.isLt h.head;have old:∀b c,S.lab b=c->c≠.no->c≠.aj->qh S v' l b=c:=fun b c e h1 h2=>by
  have hb:=(h.iJ b (by rw[e];exact h1)).2;unfold qh;rw[if_neg,if_neg,if_neg,e]
  · intro x;have:=eA b (.inr x);omega
  · intro x;have:=eA b (.inl x);omega
  · intro x;rcases hv4 b x with g | g
    · exact h2 (by rw[<- e];exact h.lP b g)
    · omega
 have lsp:∀b,S.lab b=.aj->qh S v' l b=.aj:=fun b e=>by
  have hb:=(h.iJ b (by rw[e];simp)).2;unfold qh;by_cases c:v'.ownBlock=some b
  · rw[if_pos c]
  · rw[if_neg c,if_neg,if_neg,e]
    · intro x;have:=eA b (.inr x);omega
    · intro x;have:=eA b (.inl x);omega
 have zD:∀{b:Nat} {c:Lb},S.lab b=c->c≠.aj->¬blk S.vP b:=fun e hc x=>hc (by rw[<- e];exact h.lP _ x)
 have zH:∀{b:Nat} {c:Lb},S.lab b=c->c≠.head->¬b=mb:=fun e hc x=>hc (by rw[<- e,x];exact h.lH)
 have row:∀{e:TypeId} {n m:Nat} {v:Value} {xs:List Value},w.ownsRow lo e n v m xs->(∀b,blk v b->¬blk S.vP b/\¬b=mb)->(w4.setCell (Ad mb 3) v').ownsRow lo e n v m xs:=fun hr hq=>gD.row (kD.row hr (fun b hb=>(hq b hb).1)) (fun b hb=>(hq b hb).2)
 have hle:(S.L++[l]).length=S.L.length+1:=by simp
 have hlen:=h.len;refine⟨⟨⟨fun b hb=>?_,row h.ak (fun b hb=>⟨zD (h.lS b hb) (by simp),zH (h.lS b hb) (by simp)⟩),fun i hi=>row (h.bg i hi) (fun b hb=>⟨zD (h.lX i hi b hb) (by simp),zH (h.lX i hi b hb) (by simp)⟩),row h.frames (fun b hb=>⟨zD (h.lF b hb) (by simp),zH (h.lF b hb) (by simp)⟩),row h.slots (fun b hb=>⟨zD (h.lL b hb) (by simp),zH (h.lL b hb) (by simp)⟩),?_,?_,fun i hi=>?_,fun b hb=>old b _ (h.lS b hb) (by simp) (by simp),fun i hi b hb=>old b _ (h.lX i hi b hb) (by simp) (by simp),fun b hb=>old b _ (h.lF b hb) (by simp) (by simp),fun b hb=>old b _ (h.lL b hb) (by simp) (by simp),fun b hb=>if_pos hb,fun i hi b hb=>?_,fun i hi b hb=>?_⟩,?_,old mb _ h.lH (by simp) (by simp)⟩,fun b hb e=>?_,?_⟩
 · have hb:qh S v' l b≠.no:=hb;have hs4:(w4.setCell (Ad mb 3) v').heap.size=w4.heap.size:=by simp
   rw[hs4];unfold qh at hb;by_cases c:v'.ownBlock=some b
   · exact hown.lt b c
   · rw[if_neg c] at hb;by_cases d:l.va.ownBlock=some b
     · have:=eA b (.inl d);omega
     · rw[if_neg d] at hb;by_cases e:l.vp.ownBlock=some b
       · have:=eA b (.inr e);omega
       · rw[if_neg e] at hb;have:=h.iJ b hb;omega
 · show World.ownsRow _ lo _ 3 v' (S.L++[l]).length _;rw[hle,List.flatMap_append];have:w4.ownsRow lo 43 3 v' (S.L.length+1) (S.L.flatMap bw++[l].flatMap bw):=by simpa using hown
   exact gD.row this (fun b hb e=>by
    rcases hv4 b hb with g | g
    · exact zH (h.lP b g) (by simp) e
    · omega)
 · show(S.L++[l]).length=(k.aj++[s]).length;simp[hlen]
 · have hi:i<(k.aj++[s]).length:=hi;rw[List.length_append,List.length_singleton] at hi;show cJ lo _ (cD (S.L++[l]) i) (KM.au (k.aj++[s]) i);rw[qO,KM.KN,hlen];by_cases c:i<k.aj.length
   · rw[if_pos c,if_pos c];exact((h.each i c).kp kD (fun b hb=>zD (h.lA i c b hb) (by simp)) (fun b hb=>zD (h.lE i c b hb) (by simp))).kp gD (fun b hb=>zH (h.lA i c b hb) (by simp)) (fun b hb=>zH (h.lE i c b hb) (by simp))
   · have e:i=k.aj.length:=by omega
     rw[if_neg c,if_neg c,if_pos e,if_pos e];refine((BC.mono hlo).kp (kB.trans kC (fun _ _ g=>g)) (fun b hb g=>?_) (fun b hb g=>?_)).kp gD (fun b hb e=>?_) (fun b hb e=>?_)
     · have:=hvb b g;have:=eA b (.inl hb);omega
     · have:=hvb b g;have:=eA b (.inr hb);omega
     · have:=eA b (.inl hb);omega
     · have:=eA b (.inr hb);omega
 · have hi:i<(k.aj++[s]).length:=hi;rw[List.length_append,List.length_singleton] at hi;have hb:blk (cD (S.L++[l]) i).va b:=hb;rw[qO,hlen] at hb;by_cases c:i<k.aj.length
   · rw[if_pos c] at hb;exact old b _ (h.lA i c b hb) (by simp) (by simp)
   · have e:i=k.aj.length:=by omega
     rw[if_neg c,if_pos e] at hb;have hx:=eA b (.inl hb);show qh S v' l b=.aB i;unfold qh;rw[if_neg,if_pos (show l.va.ownBlock=some b from hb),e,hlen];intro x;rcases hv4 b x with g | g
     · have:=hvb b g;omega
     · omega
 · have hi:i<(k.aj++[s]).length:=hi;rw[List.length_append,List.length_singleton] at hi;have hb:blk (cD (S.L++[l]) i).vp b:=hb;rw[qO,hlen] at hb;by_cases c:i<k.aj.length
   · rw[if_pos c] at hb;exact old b _ (h.lE i c b hb) (by simp) (by simp)
   · have e:i=k.aj.length:=by omega
     rw[if_neg c,if_pos e] at hb;have hx:=eA b (.inr hb);show qh S v' l b=.aA i;unfold qh;rw[if_neg,if_neg (show ¬l.va.ownBlock=some b from hne b hb),if_pos (show l.vp.ownBlock=some b from hb),e,hlen];intro x;rcases hv4 b x with g | g
     · have:=hvb b g;omega
     · omega
 · have:w4.heap[mb]?=some (.cells ([S.vS,S.vF,S.vL,S.vP,I k.hand]++X).toArray tt (0,0)):=kD.keep h.head (fun x=>by have:=h.lP mb x;rw[h.lH] at this;simp at this);rw[B.set this 3 v'];simp
 · unfold qh;rw[if_neg,if_neg,if_neg,e]
   · intro x;have:=eA b (.inr x);omega
   · intro x;have:=eA b (.inl x);omega
   · intro x;rcases hv4 b x with g | g
     · have:=h.lP b g;rw[e] at this;simp at this
     · omega
 · exact(kD.mono (fun b _ g=>by rw[h.lP b g];simp)).trans gD (fun b _ e=>by rw[e,h.lH];simp)
theorem Km.zero (h:Km lo mb tt X w S k) {j:Nat} (hj:j<k.aj.length) {pb n cap:Nat} (hP:S.vP=.slice (some (Ad pb 0)) n cap) :
  Km lo mb tt X (((w.setCell (Ad pb (j*3)) (.bool false)).setCell (Ad pb (j*3+1)) Nl).setCell (Ad pb (j*3+2)) Nl) ⟨S.lab,S.vS,S.vF,S.vL,S.vP,S.L.set j kM⟩ { k with aj:=k.aj.set j KM.uu }/\Ch S w ⟨S.lab,S.vS,S.vF,S.vL,S.vP,S.L.set j kM⟩ (((w.setCell (Ad pb (j*3)) (.bool false)).setCell (Ad pb (j*3+1)) Nl).setCell (Ad pb (j*3+2)) Nl):=by
 have hpl:S.lab pb=.aj:=h.lP pb (by rw[hP];rfl);have hl:=h.len;have gD:Kp (fun b=>b=pb) w (((w.setCell (Ad pb (j*3)) (.bool false)).setCell (Ad pb (j*3+1)) Nl).setCell (Ad pb (j*3+2)) Nl):=nC w pb _ _ _ _ _ _ rfl;have hn:n=S.L.length:=by
  obtain⟨ao,c,e,_⟩:=aN h.aj;rw[hP] at e;injection e
 subst hn;have hr1:=h.aj;rw[hP] at hr1;have hr2:=ig hr1 (j*3) (.bool false);have Wx:j<S.L.length:=by omega
 have e1:=fE bw 3 (fun _=>rfl) kM ⟨false,(cD S.L j).va,(cD S.L j).vp⟩ 0 (.bool false) (by omega) S.L j Wx rfl;rw[Nat.add_zero] at e1;rw[<- e1] at hr2;have hr3:=ig hr2 (j*3+1) Nl;have e2:=fE bw 3 (fun _=>rfl) kM ⟨false,Nl,(cD S.L j).vp⟩ 1 Nl (by omega) (S.L.set j ⟨false,(cD S.L j).va,(cD S.L j).vp⟩) j (by simpa using Wx) (by rw[KM.bC _ _ _ _ Wx];rfl);rw[<- e2,List.set_set] at hr3;have hr4:=ig hr3 (j*3+2) Nl;have e3:=fE bw 3 (fun _=>rfl) kM kM 2 Nl (by omega) (S.L.set j ⟨false,Nl,(cD S.L j).vp⟩) j (by simpa using Wx) (by rw[KM.bC _ _ _ _ Wx];rfl);rw[<- e3,List.set_set] at hr4;refine⟨h.turn hj (l:=kM) (s:=KM.uu) (lab':=S.lab) (gD.mono (fun b _ e=>.inr (.inl (by rw[e];exact hpl)))) (by rw[hP];exact hr4) ⟨rfl,World.ownsRow_nil _ _ _ _,World.ownsRow_nil _ _ _ _⟩ (fun b hb=>⟨(h.iJ b hb).1,Nat.lt_of_lt_of_le (h.iJ b hb).2 gD.size⟩) (fun b c e _ _ _=>e) (fun b hb=>by cases hb) (fun b hb=>by cases hb),gD.mono (fun b _ e=>by rw[e,hpl];simp),fun _ _ e=>e,rfl,rfl,rfl,rfl⟩
end KO
namespace KO
open Go.RowKit GK
open FW (ai aD)
open KW (bJ bI aK aZ fh cK aI dA)
open KS (Lc bw kM cD blk cJ)
variable {lo mb:Nat} {tt:TypeId} {X:List Value} {w:World} {S:St} {k:KM.Kn}
theorem Km.c0 (h:Km lo mb tt X w S k):w.cell? (Ad mb 0)=some S.vS:=B.cell h.head 0 (by simp)
theorem Km.c1 (h:Km lo mb tt X w S k):w.cell? (Ad mb 1)=some S.vF:=B.cell h.head 1 (by simp)
theorem Km.c2 (h:Km lo mb tt X w S k):w.cell? (Ad mb 2)=some S.vL:=B.cell h.head 2 (by simp)
theorem Km.c3 (h:Km lo mb tt X w S k):w.cell? (Ad mb 3)=some S.vP:=B.cell h.head 3 (by simp)
theorem Km.c4 (h:Km lo mb tt X w S k):w.cell? (Ad mb 4)=some (I k.hand):=B.cell h.head 4 (by simp)
theorem Km.cx (h:Km lo mb tt X w S k) (n:Nat) {v:Value} (hv:X[n]?=some v):w.cell? (Ad mb (5+n))=some v:=B.cell h.head (5+n) (by
 rw[List.getElem?_toArray,List.getElem?_append_right (by simp),<- hv];congr 1;simp)
theorem Km.free (h:Km lo mb tt X w S k) (j:Nat):w.frozen? (Ad mb j)=false:=B.free h.head j
theorem Km.lt (h:Km lo mb tt X w S k):mb<w.heap.size:=B.isLt h.head
theorem Km.lo_le (h:Km lo mb tt X w S k):lo<=mb:=(h.iJ mb (by rw[h.lH];simp)).1
structure agq (w:World) (S:St) (k:KM.Kn) (fb cF:Nat):Prop where
 v:S.vF=.slice (some (Ad fb 0)) k.frames.length cF
 x0:∀i,i<k.frames.length->w.cell? (Ad fb (i*4))=some (.string (KM.aH k.frames i).data)
 x1:∀i,i<k.frames.length->w.cell? (Ad fb (i*4+1))=some (I (KM.aH k.frames i).refs)
 x2:∀i,i<k.frames.length->w.cell? (Ad fb (i*4+2))=some (.bool (KM.aH k.frames i).cj)
 x3:∀i,i<k.frames.length->w.cell? (Ad fb (i*4+3))=some (.bool (KM.aH k.frames i).seen)
 fz:∀j,w.frozen? (Ad fb j)=false
 lt:fb<w.heap.size
 lab:S.lab fb=.frames
 cap:k.frames.length<=cF
theorem Kr.fr (h:Kr lo w S k) (hn:0<k.frames.length):∃fb cF,agq w S k fb cF:=by
 obtain⟨ao,cap,e,hc,hg⟩:=aN h.frames;obtain⟨g,rfl,hg1,hg2⟩:=hg hn;have hr:=h.frames;rw[e] at hr;have at_:=fun i (hi:i<k.frames.length) j (hj:j<4)=>iZ bJ (fun _=>rfl) KM.mz hr i j hi hj
 exact⟨g,cap,e,fun i hi=>at_ i hi 0 (by omega),fun i hi=>at_ i hi 1 (by omega),fun i hi=>at_ i hi 2 (by omega),fun i hi=>at_ i hi 3 (by omega),dx hr,hg2,h.lF g (by rw[e];rfl),hc⟩
structure aeU (w:World) (S:St) (k:KM.Kn) (fb cF:Nat):Prop where
 v:S.vL=.slice (some (Ad fb 0)) k.slots.length cF
 x0:∀i,i<k.slots.length->w.cell? (Ad fb (i*2))=some (.string (KM.bj k.slots i).data)
 x1:∀i,i<k.slots.length->w.cell? (Ad fb (i*2+1))=some (I (KM.bj k.slots i).refs)
 fz:∀j,w.frozen? (Ad fb j)=false
 lt:fb<w.heap.size
 lab:S.lab fb=.slots
theorem Kr.sl (h:Kr lo w S k) (hn:0<k.slots.length):∃fb cF,aeU w S k fb cF:=by
 obtain⟨ao,cap,e,hc,hg⟩:=aN h.slots;obtain⟨g,rfl,hg1,hg2⟩:=hg hn;have hr:=h.slots;rw[e] at hr;have at_:=fun i (hi:i<k.slots.length) j (hj:j<2)=>iZ bI (fun _=>rfl) KM.xe hr i j hi hj
 exact⟨g,cap,e,fun i hi=>at_ i hi 0 (by omega),fun i hi=>at_ i hi 1 (by omega),dx hr,hg2,h.lL g (by rw[e];rfl)⟩
structure aeT (w:World) (S:St) (k:KM.Kn) (pb cP:Nat):Prop where
 v:S.vP=.slice (some (Ad pb 0)) k.aj.length cP
 x0:∀i,i<k.aj.length->w.cell? (Ad pb (i*3))=some (.bool (KM.au k.aj i).live)
 x1:∀i,i<k.aj.length->w.cell? (Ad pb (i*3+1))=some (cD S.L i).va
 x2:∀i,i<k.aj.length->w.cell? (Ad pb (i*3+2))=some (cD S.L i).vp
 fz:∀j,w.frozen? (Ad pb j)=false
 lt:pb<w.heap.size
 lab:S.lab pb=.aj
theorem Kr.sp (h:Kr lo w S k) (hn:0<k.aj.length):∃pb cP,aeT w S k pb cP:=by
 obtain⟨ao,cap,e,hc,hg⟩:=aN h.aj;have hl:=h.len;obtain⟨g,rfl,hg1,hg2⟩:=hg (by omega);have hr:=h.aj;rw[e] at hr;have at_:=fun i (hi:i<k.aj.length) j (hj:j<3)=>iZ bw (fun _=>rfl) kM hr i j (by omega) hj
 exact⟨g,cap,by rw[e,hl],fun i hi=>by rw[<- (h.each i hi).live];exact at_ i hi 0 (by omega),fun i hi=>at_ i hi 1 (by omega),fun i hi=>at_ i hi 2 (by omega),dx hr,hg2,h.lP g (by rw[e];rfl)⟩
theorem Kr.aA (h:Kr lo w S k) {i:Nat} (hi:i<k.aj.length):∃ae ce,(cD S.L i).vp=.slice ae (KM.au k.aj i).aA.length ce/\aZ aK 3 KM.js w ae (KM.au k.aj i).aA:=by
 obtain⟨ae,ce,e,_,hr⟩:=jy aK (fun _=>rfl) KM.js (h.each i hi).aJ;exact⟨ae,ce,e,hr⟩
theorem Kr.aB (h:Kr lo w S k) {i:Nat} (hi:i<k.aj.length):AW.Has w (cD S.L i).va (KM.au k.aj i).aB:=(h.each i hi).aB.has
end KO
namespace KB
open Go.RowKit
theorem Mt {s t:ByteArray} (h:∀i:Nat,s.data.toList[i]?=t.data.toList[i]?):s=t:=by
 apply ByteArray.ext;exact Array.toList_inj.1 (List.ext_getElem? h)
end KB
namespace KM
open Go.RowKit
theorem ml {k:Kn} (h:aQ k) {j j0:Nat} (hj:j<k.aj.length) (E9:j0<k.aj.length) {p q:Int} {a b:Nat} (h1:bf (au k.aj j).aA p=some ⟨p,1,a⟩) (h2:bf (au k.aj j0).aA q=some ⟨q,1,b⟩) (MR:q≠p):a≠b:=fun e=>by
 subst e;have m1:=fW hj (jB h1);have m2:=fW E9 (jB h2);have hb:=fN h hj (jB h1);have hlt:a<k.frames.length:=by
  rcases hb with b | b
  · have:=b.2.2;simpa using this
  · have:=b.1;simp at this
 have:=(h.m7 a hlt).one _ m1 _ m2;injection this with e _;exact MR e.symm
theorem xO {k:Kn} (h:aQ k) {j0:Nat} (E9:j0<k.aj.length) {q:Int} {b:Nat} (h2:bf (au k.aj j0).aA q=some ⟨q,1,b⟩):b<k.frames.length/\(aH k.frames b).refs≠0:=by
 have m2:=fW E9 (jB h2);have hb:=fN h E9 (jB h2);have hlt:b<k.frames.length:=by
  rcases hb with b | b
  · have:=b.2.2;simpa using this
  · have:=b.1;simp at this
 refine⟨hlt,fun z=>?_⟩;have:=(h.m7 b hlt).nil z;rw[this] at m2;cases m2
theorem CR {k:Kn} (h:aQ k) {j:Nat} (hj:j<k.aj.length) {p:Int} (hp:mapped k j p) {held:List Int} (hl:held.length<=2) {j0:Nat} (E9:j0<k.aj.length) {q:Int} {b:Nat} (h2:bf (au k.aj j0).aA q=some ⟨q,1,b⟩) (hin:(b:Int)∈held) (MR:q≠p):aH (cm k j p held).2.frames b=aH k.frames b:=by
 have hsp:=h.sp hj;have G:=nK h hl;have hH:=G.zk b hin (xO h E9 h2).2;unfold cm;cases g:bf (au k.aj j).aA p with
 | none =>
  dsimp only;have hent:bf (au (bT k held).2.aj j).aA p=none:=by rw[G.u9 j hj p (fun e he=>by rw[g] at he;cases he),g]
  have hj':j<(bT k held).2.aj.length:=by rw[G.kept.np];exact hj
  have m:lu (bT k held).2 j p (bT k held).1 (dY (bT k held).2.ak p (zeroAt (bT k held).2 j p)) false:=⟨G.right,hj',G.mapped hj hp,by rw[G.kept.nf];exact G.lt,G.free,u5 G.right hj' (G.mapped hj hp),fun _=>rfl⟩;rw[(iF _ _ _ _ _ _ m).2.2.2.2.2.1 b,if_neg hH.1,hent];exact hH.2
 | some e =>
  have he:=(dM hsp.eJ).1 g;dsimp only;by_cases c:e.kind=1
  · rw[if_pos c]
  · rw[if_neg c];have hb:=(fN h hj he.1).resolve_left (fun y=>c y.1);have hent:bf (au (bT k held).2.aj j).aA p=some e:=by rw[G.u9 j hj p (fun x hx=>by rw[g] at hx;injection hx with hx;subst hx;exact fun y=>c y.1),g]
    have hj':j<(bT k held).2.aj.length:=by rw[G.kept.np];exact hj
    have he':=(dM (G.right.sp hj').eJ).1 hent;have hsz:(bj (bT k held).2.slots e.loc.toNat).data.size=16:=(G.right.slt e.loc.toNat (by rw[G.kept.ns];exact hb.2.2)).size (fun z=>by
     have:=fW hj' he'.1;rw[hb.1,<- hb.2.1,z] at this;cases this)
    have m:lu (bT k held).2 j p (bT k held).1 (bj (bT k held).2.slots e.loc.toNat).data true:=⟨G.right,hj',G.mapped hj hp,by rw[G.kept.nf];exact G.lt,G.free,hsz,fun y=>by cases y⟩;rw[(iF _ _ _ _ _ _ m).2.2.2.2.2.1 b,if_neg hH.1,hent];show(if e.kind=1/\e.loc=(b:Int) then _ else _)=_;rw[if_neg (fun x=>c x.1)];exact hH.2
theorem I1 {k:Kn} (h:aQ k) {j:Nat} (hj:j<k.aj.length) {p:Int} (hp:mapped k j p) {a:Nat} (ha:bf (au k.aj j).aA p=some ⟨p,1,a⟩) {held:List Int} (hl:held.length<=1) {j0:Nat} (E9:j0<k.aj.length) {q:Int} {b:Nat} (h2:bf (au k.aj j0).aA q=some ⟨q,1,b⟩) (hin:(b:Int)∈held) (MR:q≠p):aH (ic k j p a held).2.frames b=aH k.frames b:=by
 have hab:=ml h hj E9 ha h2 MR;have hat:=(xO h hj ha).1;unfold ic;by_cases c:(aH k.frames a).refs=1
 · rw[if_pos c]
 · rw[if_neg c];have G:=nK h (held:=held++[(a:Int)]) (by rw[List.length_append,List.length_singleton];omega);have hH:=G.zk b (List.mem_append.2 (.inl hin)) (xO h E9 h2).2;obtain⟨g,hg⟩:=ex (bT k (held++[(a:Int)]));rw[<- hg] at G hH ⊢;have hent:bf (au g.2.aj j).aA p=some ⟨p,1,a⟩:=G.stay h hj ha (fun _=>List.mem_append.2 (.inr (by simp)));have hj':j<g.2.aj.length:=by rw[G.kept.np];exact hj
   have he':=(dM (G.right.sp hj').eJ).1 hent;have hsz:(aH g.2.frames a).data.size=16:=(G.right.m7 a (by rw[G.kept.nf];exact hat)).size (fun z=>by
    have:=fW hj' he'.1;rw[z] at this;cases this)
   have m:lu g.2 j p g.1 (aH g.2.frames a).data true:=⟨G.right,hj',G.mapped hj hp,by rw[G.kept.nf];exact G.lt,G.free,hsz,fun y=>by cases y⟩;show aH (cZ g.2 j p g.1 _ true).frames b=_;rw[(iF _ _ _ _ _ _ m).2.2.2.2.2.1 b,if_neg hH.1,hent];show(if (1:Int)=1/\(a:Int)=(b:Int) then _ else _)=_;rw[if_neg (fun x=>hab (by omega))];exact hH.2
theorem IP {k:Kn} (h:aQ k) {j:Nat} (hj:j<k.aj.length) {p:Int} (hp:mapped k j p) (way:Int) {held:List Int} (hl:held.length<=1) {j0:Nat} (E9:j0<k.aj.length) {q:Int} {b:Nat} (h2:bf (au k.aj j0).aA q=some ⟨q,1,b⟩) (hin:(b:Int)∈held) (MR:q≠p):aH (cI k j p way held).2.frames b=aH k.frames b:=by
 have P:=p9 h hj hp (held:=held) (by omega);have PH:=CR h hj hp (held:=held) (by omega) E9 h2 hin MR;have hT:ko k j p held (iN k j p way held)/\aH (iN k j p way held).2.frames b=aH k.frames b:=by
  unfold iN;by_cases c:way=1
  · rw[if_pos c];have A:=Cq P.right (by rw[P.kept.np];exact hj) (P.kept.mapped hj hp) P.here hl;refine⟨P.trans A.1,?_⟩;rw[I1 P.right (by rw[P.kept.np];exact hj) (P.kept.mapped hj hp) P.here hl (by rw[P.kept.np];exact E9) (P.stay j0 E9 q _ h2 rfl hin (fun x=>MR x.2)) hin MR];exact PH
  · rw[if_neg c];exact⟨P,PH⟩
 have T:=hT.1;have hne:=ml T.right (by rw[T.kept.np];exact hj) (by rw[T.kept.np];exact E9) T.here (T.stay j0 E9 q _ h2 rfl hin (fun x=>MR x.2)) MR;show aH ((iN k j p way held).2.frames.set _ _) b=_;rw[eW _ _ _ _ (by rw[T.kept.nf];exact T.lt),if_neg hne];exact hT.2
structure Alone (k:Kn) (j:Nat) (p:Int) (i:Nat):Prop where
 here:bf (au k.aj j).aA p=some ⟨p,1,i⟩
 lt:i<k.frames.length
 refs:(aH k.frames i).refs=1
 cj:(aH k.frames i).cj=true
theorem EA {k:Kn} (h:aQ k) {j:Nat} (hj:j<k.aj.length) (a n:Int) (h1:mapped k j (a/16)) (h2:mapped k j (cA a n)):Alone (aO k j a n 1).2 j (a/16) (dz k j a 1).1/\(cA a n≠a/16->Alone (aO k j a n 1).2 j (cA a n) (iO k j a n 1).1):=by
 have R:=ov h hj a n 1 h1 h2;obtain⟨A,A2⟩:=kT h hj h1 1 (held:=[]) (by simp);have A2:=A2 rfl;by_cases c:cA a n=a/16
 · have e:aO k j a n 1=([(dz k j a 1).1],(dz k j a 1).2):=by unfold aO;rw[if_pos c]
   refine⟨?_,fun x=>absurd c x⟩;rw[e];exact⟨A.here,by have:=A.kept.nf;have:=A.lt;show(cI k j (a/16) 1 []).1<(cI k j (a/16) 1 []).2.frames.length;omega,A2.1,A2.2⟩
 · have hj':j<(dz k j a 1).2.aj.length:=by have:=A.kept.np;unfold dz;omega
   have hm':=A.kept.mapped hj h2;obtain⟨B,B2⟩:=kT (k:=(dz k j a 1).2) A.right hj' hm' 1 (held:=[((dz k j a 1).1:Int)]) (by simp);have B2:=B2 rfl;have hh:=IP (k:=(dz k j a 1).2) A.right hj' hm' 1 (held:=[((dz k j a 1).1:Int)]) (by simp) hj' A.here (by simp[dz]) (fun x=>c x.symm);have e:aO k j a n 1=([(dz k j a 1).1,(iO k j a n 1).1],(iO k j a n 1).2):=by unfold aO;rw[if_neg c]
   have hB:iO k j a n 1=cI (dz k j a 1).2 j (cA a n) 1 [((dz k j a 1).1:Int)]:=rfl;have hlen:(iO k j a n 1).2.frames.length=k.frames.length:=by rw[hB,B.kept.nf];exact A.kept.nf
   rw[e];refine⟨⟨?_,?_,?_,?_⟩,fun _=>⟨?_,?_,?_,?_⟩⟩
   · exact B.stay j hj' (a/16) _ A.here rfl (by simp[dz]) (fun x=>c x.2.symm)
   · show(dz k j a 1).1<(iO k j a n 1).2.frames.length;rw[hlen];exact A.lt
   · show(aH (iO k j a n 1).2.frames (dz k j a 1).1).refs=1;rw[hB];have:aH (cI (dz k j a 1).2 j (cA a n) 1 [((dz k j a 1).1:Int)]).2.frames (dz k j a 1).1=aH (dz k j a 1).2.frames (dz k j a 1).1:=hh;rw[this];exact A2.1
   · show(aH (iO k j a n 1).2.frames (dz k j a 1).1).cj=true;rw[hB];have:aH (cI (dz k j a 1).2 j (cA a n) 1 [((dz k j a 1).1:Int)]).2.frames (dz k j a 1).1=aH (dz k j a 1).2.frames (dz k j a 1).1:=hh;rw[this];exact A2.2
   · exact B.here
   · show(iO k j a n 1).1<(iO k j a n 1).2.frames.length;rw[hlen];have:=B.lt;have:=A.kept.nf;show(cI (dz k j a 1).2 j (cA a n) 1 [((dz k j a 1).1:Int)]).1<_;unfold dz at *;omega
   · exact B2.1
   · exact B2.2
def xt (k:Kn) (i:Nat) (d:ByteArray):Kn:={ k with frames:=k.frames.set i ⟨d,(aH k.frames i).refs,(aH k.frames i).cj,(aH k.frames i).seen⟩ }
theorem sF {k:Kn} (h:aQ k) {j:Nat} (hj:j<k.aj.length) {p:Int} {i:Nat} (a:Alone k j p i) {d:ByteArray} (hd:d.size=16):aQ (xt k i d):=by
 have hf:=h.m7 i a.lt;refine h.frame ⟨hf.refs,fun e=>?_,hf.one,fun _=>hd,fun x=>?_⟩
 · have:=hf.refs;rw[e,a.refs] at this;cases this
 · have x:(aH k.frames i).cj=false:=x;rw[a.cj] at x;cases x
theorem uU {k:Kn} (h:aQ k) {j:Nat} (hj:j<k.aj.length) {p:Int} {i:Nat} (a:Alone k j p i) (d:ByteArray) {m:Nat} (hm:m<k.aj.length) (q:Int):dD (xt k i d) m q=if m=j/\q=p then d else dD k m q:=by
 have at_:∀n,aH (xt k i d).frames n=if i=n then ⟨d,(aH k.frames i).refs,(aH k.frames i).cj,(aH k.frames i).seen⟩ else aH k.frames n:=fun n=>eW _ _ _ _ a.lt
 by_cases c:m=j/\q=p
 · rw[if_pos c,c.1,c.2];unfold dD;show(match bf (au k.aj j).aA p with
    | some e=>if e.kind=1 then (aH (xt k i d).frames e.loc.toNat).data else _
    | none=>_)=d
   rw[a.here];show(if (1:Int)=1 then (aH (xt k i d).frames (i:Int).toNat).data else _)=d;rw[if_pos rfl,Int.toNat_natCast,at_,if_pos rfl]
 · rw[if_neg c];refine SK rfl (fun x hx=>⟨fun hk=>?_,fun _=>rfl⟩) (fun _=>rfl);have hx:bf (au k.aj m).aA q=some x:=hx;rw[at_];by_cases e:i=x.loc.toNat
   · exfalso;have m1:x∈(au k.aj m).aA:=jB hx;have hb:=(fN h hm m1).resolve_right (fun y=>by omega);have hxl:x.loc=(i:Int):=by omega
     have e2:x=⟨q,1,i⟩:=by
      have:=Qa hx;obtain⟨a1,a2,a3⟩:=x;simp only at this hk hxl;rw[this,hk,hxl]
     rw[e2] at hx;have MR:q=p:=by
      by_cases z:q=p
      · exact z
      · exact absurd rfl (ml h hj hm a.here hx z)
     have hmj:m≠j:=fun z=>c ⟨z,MR⟩
     have hr:=(h.m7 i a.lt).refs;rw[a.refs] at hr;have two:2<=(names k.aj 1 i).length:=by
      have key:∀(l:List Sp) (a b:Nat),a<b->b<l.length->(dH (au l a) 1 i)≠[]->(dH (au l b) 1 i)≠[]->2<=(names l 1 i).length:=fun l=>by
       induction l with
       | nil=>intro a b _ hb;simp at hb
       | cons s r ih =>
        intro a b hab hb h1 h2;rw[fG,List.length_append];cases a with
        | zero =>
         have h1':1<=(dH s 1 i).length:=List.length_pos_iff.2 h1;obtain⟨b',rfl⟩:∃b',b=b'+1:=⟨b-1,by omega⟩;have h2':dH (au r b') 1 i≠[]:=h2;have:1<=(names r 1 i).length:=by
          obtain⟨y,hy⟩:=List.exists_mem_of_ne_nil _ h2';refine List.length_pos_iff.2 fun z=>?_
          have:y∈names r 1 i:=List.mem_flatMap.2 ⟨_,tC (by simpa using hb),hy⟩;rw[z] at this;cases this
         omega
        | succ a =>
         obtain⟨b',rfl⟩:∃b',b=b'+1:=⟨b-1,by omega⟩;have:=ih a b' (by omega) (by simpa using hb) h1 h2;omega
      have n1:dH (au k.aj j) 1 i≠[]:=fun z=>by
       have:(_:Int×Bool)∈dH (au k.aj j) 1 i:=kJ.2 ⟨_,jB a.here,rfl,rfl,rfl⟩;rw[z] at this;cases this
      have n2:dH (au k.aj m) 1 i≠[]:=fun z=>by
       have:(_:Int×Bool)∈dH (au k.aj m) 1 i:=kJ.2 ⟨_,jB hx,rfl,rfl,rfl⟩;rw[z] at this;cases this
      rcases Nat.lt_or_gt_of_ne hmj with g | g
      · exact key k.aj m j g hj n2 n1
      · exact key k.aj j m g hm n1 n2
     omega
   · rw[if_neg e]
def rG (f:Int->ByteArray) (a n:Int):ByteArray:=if cA a n=a/16 then f (a/16) else f (a/16)++f (cA a n)
def laidB (f:Int->ByteArray) (a:Int) (d:ByteArray):ByteArray:=CL.over (rG f a d.size) (a%16).toNat d
def GF (f:Int->ByteArray) (a:Int) (d:ByteArray) (p:Int):ByteArray:=if p=a/16 then (laidB f a d).extract 0 16 else if p=cA a d.size then (laidB f a d).extract 16 32 else f p
def fH (fs:List Fr) (ids:List Nat):Nat->ByteArray
 | 0=>⟨#[]⟩
 | n+1=>fH fs ids n++(aH fs (ids.getD n 0)).data
def iC (k:Kn) (ids:List Nat) (s:ByteArray):Nat->Kn
 | 0=>k
 | n+1=>xt (iC k ids s n) (ids.getD n 0) (s.extract (n*16) (n*16+16))
def vU (k:Kn) (j:Nat) (a n way:Int):ByteArray:=(fH (aO k j a n way).2.frames (aO k j a n way).1 (aO k j a n way).1.length).extract (a%16).toNat ((a%16).toNat+n.toNat)
def pW (k:Kn) (j:Nat) (a:Int) (d:ByteArray):Kn:=iC (aO k j a d.size 1).2 (aO k j a d.size 1).1 (CL.over (fH (aO k j a d.size 1).2.frames (aO k j a d.size 1).1 (aO k j a d.size 1).1.length) (a%16).toNat d) (aO k j a d.size 1).1.length
theorem empty_append (d:ByteArray):(⟨#[]⟩:ByteArray)++d=d:=by
 apply KB.Mt;intro i;simp
theorem BV {k:Kn} {j:Nat} {p:Int} {i:Nat} (h:bf (au k.aj j).aA p=some ⟨p,1,i⟩):dD k j p=(aH k.frames i).data:=by
 unfold dD;rw[h];show(if (1:Int)=1 then (aH k.frames (i:Int).toNat).data else _)=_;rw[if_pos rfl,Int.toNat_natCast]
theorem si {k:Kn} (h:aQ k) {j:Nat} (hj:j<k.aj.length) (a n way:Int) (h1:mapped k j (a/16)) (h2:mapped k j (cA a n)):fH (aO k j a n way).2.frames (aO k j a n way).1 (aO k j a n way).1.length=rG (dD k j) a n:=by
 have R:=ov h hj a n way h1 h2;have p1:=R.kept.CS j hj (a/16);have p2:=R.kept.CS j hj (cA a n);rw[BV R.one.1] at p1;unfold rG;rw[<- p1,<- p2];by_cases c:cA a n=a/16
 · rw[if_pos c];have e:(aO k j a n way).1=[(dz k j a way).1]:=by unfold aO;rw[if_pos c]
   rw[e];exact empty_append _
 · rw[if_neg c,BV (R.two c).1];have e:(aO k j a n way).1=[(dz k j a way).1,(iO k j a n way).1]:=by unfold aO;rw[if_neg c]
   rw[e];show((⟨#[]⟩:ByteArray)++_)++_=_;rw[empty_append];rfl
theorem mo {k:Kn} (h:aQ k) {j:Nat} (hj:j<k.aj.length) {p:Int} (hp:mapped k j p):(dD k j p).size=16:=by
 unfold dD;cases g:bf (au k.aj j).aA p with
 | none=>exact u5 h hj hp
 | some e =>
  have hb:=fN h hj (jB g);have hn:=fW hj (jB g);dsimp only;rcases hb with b | b
  · rw[if_pos b.1];exact(h.m7 _ b.2.2).size (fun z=>by rw[b.1,<- b.2.1,z] at hn;cases hn)
  · rw[if_neg (by omega)];exact(h.slt _ b.2.2).size (fun z=>by rw[b.1,<- b.2.1,z] at hn;cases hn)
end KM
end Go.Proofs.YtpgifpeohlllfaaGreat
