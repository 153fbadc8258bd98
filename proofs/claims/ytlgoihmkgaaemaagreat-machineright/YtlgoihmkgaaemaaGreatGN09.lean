import Derived.Test.YtlgoihmkgaaemaaGreatGN07
set_option maxHeartbeats 20000000
set_option linter.unusedVariables false
set_option maxRecDepth 100000
set_option linter.unusedSimpArgs false
namespace Go.Proofs.YtlgoihmkgaaemaaGreat
open Go.RowKit
structure aD (D:Nat->Prop) (w w':World):Prop where
 os:w'.os=w.os
 tape:w'.tape=w.tape
 output:w'.output=w.output
 size:w.heap.size<=w'.heap.size
 block:∀b,b<w.heap.size->¬D b->w'.heap[b]?=w.heap[b]?
theorem aD.refl (D:Nat->Prop) (w:World):aD D w w:=⟨rfl,rfl,rfl,aI _,fun _ _ _=>rfl⟩
theorem aD.trans {D D1:Nat->Prop} {w w1 w2:World} (h:aD D w w1) (g:aD D1 w1 w2) (hd:∀b,b<w.heap.size->D1 b->D b):aD D w w2 :=
 ⟨g.os.trans h.os,g.tape.trans h.tape,g.output.trans h.output,gY h.size g.size,fun b hb hn=>(g.block b (fL hb h.size) (fun k=>hn (hd b hb k))).trans (h.block b hb hn)⟩
theorem aD.mono {D D1:Nat->Prop} {w w':World} (h:aD D w w') (hd:∀b,b<w.heap.size->D b->D1 b):aD D1 w w':=⟨h.os,h.tape,h.output,h.size,fun b hb hn=>h.block b hb (fun k=>hn (hd b hb k))⟩
theorem aD.b9 {D:Nat->Prop} {w w':World} (h:Below w.heap.size w w'):aD D w w':=⟨h.os,h.tape,h.output,h.size,fun b hb _=>h.block b hb⟩
theorem aD.below {D:Nat->Prop} {N:Nat} {w0 w w':World} (h:Below N w0 w) (g:aD D w w') (hN:N<=w.heap.size) (hd:∀b,D b->N<=b):Below N w0 w' :=
 h.trans ⟨g.os,g.tape,g.output,g.size,fun b hb=>g.block b (fL hb hN) (fun k=>by grind)⟩
theorem aD.alloc (D:Nat->Prop) (w:World) (o:Obj):aD D w (w.alloc o):=aD.b9 ((aK _ _).alloc (aI _) o)
theorem aD.drew (D:Nat->Prop) (w:World):aD D w w.drew:=aD.b9 (aK _ _).drew
theorem aD.set (D:Nat->Prop) (w:World) (a:Addr) (v:Value) (h:D a.block):aD D w (w.setCell a v):=by
 have hb:=(aK 0 w).setCell (p:=a) (uH _) v;exact⟨hb.os,hb.tape,hb.output,hb.size,fun b _ hn=>Below.heap_setCell w a v b (fun e=>hn (e ▸ h))⟩
theorem aD.grown {D:Nat->Prop} {w w':World} {row:Option Nat} (h:w.grownBy w' row) (hd:∀k,row=some k->D k):aD D w w' :=
 ⟨h.os,h.tape,h.output,h.size,fun b hb hn=>h.block b hb (fun e=>hn (hd b e.symm))⟩
theorem aD.keep {D:Nat->Prop} {w w':World} {b:Nat} {o:Obj} (h:aD D w w') (hb:w.heap[b]?=some o) (hn:¬D b):w'.heap[b]?=some o:=(h.block b (aJ hb) hn).trans hb
theorem aD.cell {D:Nat->Prop} {w w':World} {p:Addr} {v:Value} (h:aD D w w') (hp:w.cell? p=some v) (hn:¬D p.block):w'.cell? p=some v :=
 (Ha (h.block p.block (oQ w p hp) hn)).trans hp
theorem aD.row {D:Nat->Prop} {w w':World} {base:Nat} {e:TypeId} {size:Nat} {v:Value} {n:Nat} {xs:List Value} (h:aD D w w') (hr:w.ownsRow base e size v n xs) (hn:∀g,v.ownBlock=some g->¬D g):w'.ownsRow base e size v n xs:=by
 refine⟨hr.1,?_⟩;rcases hr.2 with h0 | ⟨g,cap,cur,hv,hb,hg,h1,h2,h3,h4⟩
 · grind
 · exact .inr ⟨g,cap,cur,hv,hb,h.keep hg (hn g (by rw[hv];rfl)),h1,h2,h3,h4⟩
theorem fw {w:World} {base:Nat} {e:TypeId} {size:Nat} {g n cap:Nat} {xs:List Value} (hr:w.ownsRow base e size (.slice (some (Ad g 0)) n cap) n xs) (j:Nat) (u:Value) :
  (w.setCell (Ad g j) u).ownsRow base e size (.slice (some (Ad g 0)) n cap) n (xs.set j u):=by
 refine⟨by rw[fJ];exact hr.1,?_⟩;rcases hr.2 with⟨h0,_⟩ | ⟨g',cap',cur,hv,hb,hg,h1,h2,h3,h4⟩
 · cases h0
 · injection hv with e1 e2 e3;injection e1 with e1;injection e1 with e1 _ _;subst e1 e3;refine .inr ⟨g,cap,cur.setIfInBounds j u,rfl,hb,fh hg j u,h1,h2,by grind,?_⟩;rw[Array.toList_setIfInBounds,<- h4];exact List.take_set.symm ▸ rfl
theorem iL {w:World} {base:Nat} {e:TypeId} {size:Nat} {g n cap:Nat} {xs:List Value} (hr:w.ownsRow base e size (.slice (some (Ad g 0)) n cap) n xs) (j:Nat):w.frozen? (Ad g j)=false:=by
 rcases hr.2 with⟨h0,_⟩ | ⟨g',cap',cur,hv,hb,hg,h1,h2,h3,h4⟩
 · cases h0
 grind [aR]
theorem LM {P:Program} (w:World) (t ty:TypeId) (base:Nat) (e:TypeId) (i:TypeInfo) (z:Value) (size bytes:Nat) (ht:P.underlying t=some (.slice e)) (hi:P.info? e=some i) (hz:i.zero=some z)
  (hsize:i.size=size) (hby:i.bytes=bytes) (hzs:z.cells.size=size) (hsz:0<size)
  (v:Value) (n:Nat) (xs:List Value) (hown:w.ownsRow base e size v n xs)
  (ao:Option Addr) (m c:Nat) (news:List Value) (hl:news.length=m*size) (hnews:0<m->∃ad,ao=some ad/\∀j u,news[j]?=some u->w.cell? (ad.add j)=some u) (h1:∀u∈news,u.oneCell'=true)
  (h63:n+m<=maxLen) (hbytes:(n+m)*bytes<=140737488355328) (hbase:base<=w.heap.size) :
  ∃v' w',(Builtin.append_ #[t,t] ty #[v,.slice ao m c]).run P w=.ok v' w' /\
   w'.ownsRow base e size v' (n+m) (xs++news)/\w.grownBy w' v.ownBlock/\(v'.ownBlock=v.ownBlock∨v'.ownBlock=some w.heap.size):=by
 by_cases h0:0<m
 · obtain⟨ad,rfl,hc⟩:=hnews h0;obtain⟨g,cap,w',hr,h2,h3,h4,h5⟩:=run_append_lies (P:=P) w t ty base e i z size bytes ht hi hz hsize hby hzs hsz v n xs hown ad m c news hl hc h1 h0 h63 hbytes hbase _ rfl;refine⟨_,w',hr,h2,h3,?_⟩;rcases h4 with h4 | h4
   · exact .inl h4.symm
   · exact .inr (by rw[h4];rfl)
 · obtain rfl:m=0:=by omega
   have hn:news=[]:=jY (by omega);subst hn;have hsrc:Src P i.size t (.slice ao 0 c) 0 [] w:=⟨.inl ⟨_,ht⟩,fun w'=>by rfl,by cases ao <;> simp[Builtin.firstCells,loadCells,loadCellsFrom],by cases ao <;> simp[Builtin.firstCells,loadCells,loadCellsFrom],by simp,by simp⟩;have hform:∃b cap,v=.slice b n cap/\n<=cap:=by
    rcases hown.2 with⟨h0,h1⟩ | ⟨g',cap',cur,hv,hb,hg,h1,h2,h3,h4⟩
    · grind
    grind
   grind [run_append_nothing,World.grownBy.refl]
theorem qD {P:Program} {o:Oper} {a:Act} {w:World} {K:Act->World->Prop} {Q:Exit->Act->World->Prop} (s x:Operand) (t:TypeId)
  (ho:o.op=.call { callee:=.builtin .append,args:=#[s,x],argTypes:=#[t,t] })
  (base:Nat) (e:TypeId) (i:TypeInfo) (z:Value) (size bytes:Nat) (ht:P.underlying t=some (.slice e)) (hi:P.info? e=some i) (hz:i.zero=some z)
  (hsize:i.size=size) (hby:i.bytes=bytes) (hzs:z.cells.size=size) (hsz:0<size)
  (v:Value) (n:Nat) (xs:List Value) (hs:a.eval s=v) (hown:w.ownsRow base e size v n xs)
  (ao:Option Addr) (m c:Nat) (news:List Value) (hx:a.eval x=.slice ao m c) (hl:news.length=m*size) (hnews:0<m->∃ad,ao=some ad/\∀j u,news[j]?=some u->w.cell? (ad.add j)=some u) (h1:∀u∈news,u.oneCell'=true)
  (h63:n+m<=maxLen) (hbytes:(n+m)*bytes<=140737488355328) (hbase:base<=w.heap.size)
  (h:∀v' w',w'.ownsRow base e size v' (n+m) (xs++news)->w.grownBy w' v.ownBlock->(v'.ownBlock=v.ownBlock∨v'.ownBlock=some w.heap.size)->K (a.put o.dst v') w'):o.wp P a w K Q:=by
 obtain⟨v',w',hr,h2,h3,h4⟩:=LM (P:=P) w t o.type base e i z size bytes ht hi hz hsize hby hzs hsz v n xs hown ao m c news hl hnews h1 h63 hbytes hbase;unfold Oper.wp execOp;simp only[ho,resolve,invoke,builtin,Sem.run_bind,Sem.run_pure,UN,List.map_toArray,yZ,List.map_nil,hs,hx,hr];exact h v' w' h2 h3 h4
theorem fB {P:Program} {ops:Array Oper} {rest:List Oper} {o:Oper} {a:Act} {w:World} {Q:Exit->Act->World->Prop} (hgd:o.guard=none) (s x:Operand) (t:TypeId)
  (ho:o.op=.call { callee:=.builtin .append,args:=#[s,x],argTypes:=#[t,t] })
  (base:Nat) (e:TypeId) (i:TypeInfo) (z:Value) (size bytes:Nat) (ht:P.underlying t=some (.slice e)) (hi:P.info? e=some i) (hz:i.zero=some z)
  (hsize:i.size=size) (hby:i.bytes=bytes) (hzs:z.cells.size=size) (hsz:0<size)
  (v:Value) (n:Nat) (xs:List Value) (hs:a.eval s=v) (hown:w.ownsRow base e size v n xs)
  (ao:Option Addr) (m c:Nat) (news:List Value) (hx:a.eval x=.slice ao m c) (hl:news.length=m*size) (hnews:0<m->∃ad,ao=some ad/\∀j u,news[j]?=some u->w.cell? (ad.add j)=some u) (h1:∀u∈news,u.oneCell'=true)
  (h63:n+m<=maxLen) (hbytes:(n+m)*bytes<=140737488355328) (hbase:base<=w.heap.size)
  (h:∀v' w',w'.ownsRow base e size v' (n+m) (xs++news)->w.grownBy w' v.ownBlock->(v'.ownBlock=v.ownBlock∨v'.ownBlock=some w.heap.size)->wpList P ops Q rest (a.put o.dst v') w'):wpList P ops Q (o::rest) a w :=
 wpList_plain hgd fun _ hK=>qD s x t ho base e i z size bytes ht hi hz hsize hby hzs hsz v n xs hs hown ao m c news hx hl hnews h1 h63 hbytes hbase fun v' w' h2 h3 h4=>hK _ _ (h v' w' h2 h3 h4)
theorem Ak {P:Program} {ops:Array Oper} {o:Oper} {a:Act} {w:World} {K:Act->World->Prop} {Q:Exit->Act->World->Prop} {E:Prop} (hgd:o.guard=none) (s x:Operand) (t:TypeId)
  (ho:o.op=.call { callee:=.builtin .append,args:=#[s,x],argTypes:=#[t,t] })
  (base:Nat) (e:TypeId) (i:TypeInfo) (z:Value) (size bytes:Nat) (ht:P.underlying t=some (.slice e)) (hi:P.info? e=some i) (hz:i.zero=some z)
  (hsize:i.size=size) (hby:i.bytes=bytes) (hzs:z.cells.size=size) (hsz:0<size)
  (v:Value) (n:Nat) (xs:List Value) (hs:a.eval s=v) (hown:w.ownsRow base e size v n xs)
  (ao:Option Addr) (m c:Nat) (news:List Value) (hx:a.eval x=.slice ao m c) (hl:news.length=m*size) (hnews:0<m->∃ad,ao=some ad/\∀j u,news[j]?=some u->w.cell? (ad.add j)=some u) (h1:∀u∈news,u.oneCell'=true)
  (h63:n+m<=maxLen) (hbytes:(n+m)*bytes<=140737488355328) (hbase:base<=w.heap.size)
  (h:∀v' w',w'.ownsRow base e size v' (n+m) (xs++news)->w.grownBy w' v.ownBlock->(v'.ownBlock=v.ownBlock∨v'.ownBlock=some w.heap.size)->K (a.put o.dst v') w') :
  if Region.wanted o (yielded ops a.tmps)=true then Oper.wp P o a w K Q else E:=by
 have hw:Region.wanted o (yielded ops a.tmps)=true:=by simp[Region.wanted,hgd]
 rw[aC hw];exact qD s x t ho base e i z size bytes ht hi hz hsize hby hzs hsz v n xs hs hown ao m c news hx hl hnews h1 h63 hbytes hbase h
theorem fY {α:Type} (f:α->List Value) (k:Nat) (hf:∀x,(f x).length=k):∀l:List α,(l.flatMap f).length=l.length*k
 | []=>by simp
 | a::r=>by rw[nW,fK,hf,fY f k hf r,xM,Nat.succ_mul,Nat.add_comm]
theorem yF {α:Type} (f:α->List Value) (k:Nat) (hf:∀x,(f x).length=k) (d:α):∀(l:List α) (i j:Nat),i<l.length->j<k->(l.flatMap f)[i*k+j]?=(f (l.getD i d))[j]?
 | [],i,j,hi,hj=>by grind
 | a::r,0,j,hi,hj=>by
  grind
 | a::r,i+1,j,hi,hj=>by
  rw[nW,ze (by grind),hf,show(i+1)*k+j-k=i*k+j by grind];exact yF f k hf d r i j (by grind) hj
theorem kI {α:Type} (f:α->List Value) (k:Nat) (hf:∀x,(f x).length=k) (d:α) (x:α) (j:Nat) (v:Value) (hj:j<k):∀(l:List α) (i:Nat),i<l.length->f x=(f (l.getD i d)).set j v->(l.set i x).flatMap f=(l.flatMap f).set (i*k+j) v
 | [],i,hi,_=>by rfl
 | a::r,0,hi,e=>by
  grind
 | a::r,i+1,hi,e=>by
  rw[dw,nW,nW,AO _ _ (by grind),hf,show(i+1)*k+j-k=i*k+j by grind,kI f k hf d x j v hj r i (by grind) e]
theorem kj {α:Type} {w:World} {base:Nat} {e:TypeId} {k g cap:Nat} (f:α->List Value) (hf:∀x,(f x).length=k) (d:α) {l:List α} (hr:w.ownsRow base e k (.slice (some (Ad g 0)) l.length cap) l.length (l.flatMap f)) (i j:Nat) (hi:i<l.length) (hj:j<k):w.cell? (Ad g (i*k+j))=(f (l.getD i d))[j]?:=by
 have:i*k+j<l.length*k:=by
  have:=Nat.mul_le_mul_right k (show i+1<=l.length from hi)
  grind
 exact(hr.cellAt _ this).trans (yF f k hf d l i j hi hj)
theorem bj {w:World} {base:Nat} {e:TypeId} {size:Nat} {v:Value} {n:Nat} {xs:List Value} (h:w.ownsRow base e size v n xs):∃ao cap,v=.slice ao n cap/\n<=cap/\(0<n->∃g,ao=some (Ad g 0)/\base<=g/\g<w.heap.size):=by
 rcases h.2 with⟨h0,h1⟩ | ⟨g',cap',cur,hv,hb,hg,h1,h2,h3,h4⟩
 · grind
 grind
theorem oh {w:World} {base base':Nat} {e:TypeId} {size:Nat} {v:Value} {n:Nat} {xs:List Value} (h:w.ownsRow base e size v n xs) (hb:∀g,v.ownBlock=some g->base'<=g):w.ownsRow base' e size v n xs:=by
 refine⟨h.1,?_⟩;rcases h.2 with h0 | ⟨g,cap,cur,hv,_,hg,h1,h2,h3,h4⟩
 · grind
 · exact .inr ⟨g,cap,cur,hv,hb g (by rw[hv];rfl),hg,h1,h2,h3,h4⟩
theorem cu (w:World) (g j b o:Nat) (v:Value) (h:b≠g):(w.setCell (Ad g j) v).cell? (Ad b o)=w.cell? (Ad b o):=Ha (Below.heap_setCell w (Ad g j) v b h)
theorem xB {D:Nat->Prop} (w:World) (g:Nat) (j0 j1 j2:Nat) (v0 v1 v2:Value) (h:D g):aD D w (((w.setCell (Ad g j0) v0).setCell (Ad g j1) v1).setCell (Ad g j2) v2) :=
 ((aD.set D w (Ad g j0) v0 h).trans (aD.set D _ (Ad g j1) v1 h) (fun _ _ k=>k)).trans (aD.set D _ (Ad g j2) v2 h) (fun _ _ k=>k)
open Go.RowKit
def mR (w:World) (ao:Option Addr) (m:Nat) (news:List Value):Prop:=0<m->∃ad,ao=some ad/\∀j u,news[j]?=some u->w.cell? (ad.add j)=some u
theorem mR.below {w w':World} {ao:Option Addr} {m:Nat} {news:List Value} (h:mR w ao m news) (hb:Below w.heap.size w w'):mR w' ao m news:=fun hm=>by
 obtain⟨ad,e,hc⟩:=h hm
 grind [World.block_lt_of_cell?,Below.cell]
theorem aeJ:(Tryz.prog.info? 139).map (fun i=>(i.zero,i.size,i.bytes))=some (some (.agg #[I 0,I 0,I 0,.bool false]),4,32):=by rfl
theorem acy (ao:Option Addr) (n c:Nat) (xs:List Value) (w:World) (hl:xs.length=n*4) (h:mR w ao n xs) (h1:∀u∈xs,u.oneCell'=true) (hn:n<=1000000) :
  Calls Tryz.prog 71 #[.slice ao n c] w fun e w'=>∃v,e=.returned v/\w'.ownsRow w.heap.size 139 4 v n xs/\Below w.heap.size w w':=by
 have HH:=ai h;have HL:=ai hl;have H1:=ai h1;clear h hl h1;have q:∀(w:World) (a:Option Addr) (n c n' c':Nat),(binOp .eql 22 (.slice a n c) (.slice none n' c')).run Tryz.prog w=.ok (.bool a.isNone) w:=fun w a n c n' c'=>za w _ _ a n c n' c' Tryz.underlying22
 obtain⟨i0,hin,hz0,hz1,hz2⟩:=ju aeJ;cases ao with
 | none =>
  have h0:n=0:=by
   by_cases g:0<n
   · obtain⟨ad,e,_⟩:=HH.o g;cases e
   · omega
  subst h0;have hx:xs=[]:=jY (by rw[HL.o]);subst hx;clear HH HL H1 hin hz0 hz1 hz2;go_enter Tryz.func71,Tryz.ntmps71;go_wp2;go_ret;exact⟨_,rfl,mE _ _ _ _,aK _ _⟩
 | some ad =>
  have Eo:=ai hin;have Hu:=ai hz0;have Gf:=ai hz1;have yV:=ai hz2;clear hin hz0 hz1 hz2;go_enter Tryz.func71,Tryz.ntmps71;go_wp2_with (at_builtin;refine fB (P:=Tryz.prog) rfl _ _ 22 rfl w.heap.size 139 i0 (.agg #[I 0,I 0,I 0,.bool false]) 4 32 Tryz.underlying22 Eo.o Hu.o Gf.o yV.o rfl (by decide) (.slice (some (Ad w.heap.size 0)) 0 0) 0 [] (by rfl) (y9 w #[] 0 (aI _) (by omega) (by simp)) (some ad) n c xs (by rfl) HL.o ((HH.o.below ((aK _ _).alloc (aI _) _))) H1.o (by grind [maxLen]) (by omega) (by simp) ?_;intro v' w' hown hgr hat;have HOWN:=ai hown;have MH:=ai hgr;clear hown hgr hat)
  go_ret;have hown:=HOWN.o;have hgr:=MH.o;rw[lU] at hown;exact⟨_,rfl,hown,((aK _ _).alloc (aI _) _).grown hgr (by simp) (fun k hk=>by grind [Value.ownBlock])⟩
theorem Hp:(Tryz.prog.info? 174).map (fun i=>(i.zero,i.size,i.bytes))=some (some (.agg #[I 0,I 0,I 0]),3,24):=by rfl
theorem acx (ao:Option Addr) (n c:Nat) (xs:List Value) (w:World) (hl:xs.length=n*3) (h:mR w ao n xs) (h1:∀u∈xs,u.oneCell'=true) (hn:n<=1000000) :
  Calls Tryz.prog 188 #[.slice ao n c] w fun e w'=>∃v,e=.returned v/\w'.ownsRow w.heap.size 174 3 v n xs/\Below w.heap.size w w':=by
 have HH:=ai h;have HL:=ai hl;have H1:=ai h1;clear h hl h1;have q:∀(w:World) (a:Option Addr) (n c n' c':Nat),(binOp .eql 97 (.slice a n c) (.slice none n' c')).run Tryz.prog w=.ok (.bool a.isNone) w:=fun w a n c n' c'=>za w _ _ a n c n' c' Tryz.underlying97
 obtain⟨i0,hin,hz0,hz1,hz2⟩:=ju Hp;cases ao with
 | none =>
  have h0:n=0:=by
   by_cases g:0<n
   · obtain⟨ad,e,_⟩:=HH.o g;cases e
   · omega
  subst h0;have hx:xs=[]:=jY (by rw[HL.o]);subst hx;clear HH HL H1 hin hz0 hz1 hz2;go_enter Tryz.func188,Tryz.ntmps188;go_wp2;go_ret;exact⟨_,rfl,mE _ _ _ _,aK _ _⟩
 | some ad =>
  have Eo:=ai hin;have Hu:=ai hz0;have Gf:=ai hz1;have yV:=ai hz2;clear hin hz0 hz1 hz2;go_enter Tryz.func188,Tryz.ntmps188;go_wp2_with (at_builtin;refine fB (P:=Tryz.prog) rfl _ _ 97 rfl w.heap.size 174 i0 (.agg #[I 0,I 0,I 0]) 3 24 Tryz.underlying97 Eo.o Hu.o Gf.o yV.o rfl (by decide) (.slice (some (Ad w.heap.size 0)) 0 0) 0 [] (by rfl) (y9 w #[] 0 (aI _) (by omega) (by simp)) (some ad) n c xs (by rfl) HL.o ((HH.o.below ((aK _ _).alloc (aI _) _))) H1.o (by grind [maxLen]) (by omega) (by simp) ?_;intro v' w' hown hgr hat;have HOWN:=ai hown;have MH:=ai hgr;clear hown hgr hat)
  go_ret;have hown:=HOWN.o;have hgr:=MH.o;rw[lU] at hown;exact⟨_,rfl,hown,((aK _ _).alloc (aI _) _).grown hgr (by simp) (fun k hk=>by grind [Value.ownBlock])⟩
theorem aeI:(Tryz.prog.info? 169).map (fun i=>(i.zero,i.size,i.bytes))=some (some (.agg #[.string ⟨#[]⟩,I 0,.bool false,.bool false]),4,32):=by rfl
theorem acw (ao:Option Addr) (n c:Nat) (xs:List Value) (w:World) (hl:xs.length=n*4) (h:mR w ao n xs) (h1:∀u∈xs,u.oneCell'=true) (hn:n<=1000000) :
  Calls Tryz.prog 132 #[.slice ao n c] w fun e w'=>∃v,e=.returned v/\w'.ownsRow w.heap.size 169 4 v n xs/\Below w.heap.size w w':=by
 have HH:=ai h;have HL:=ai hl;have H1:=ai h1;clear h hl h1;have q:∀(w:World) (a:Option Addr) (n c n' c':Nat),(binOp .eql 26 (.slice a n c) (.slice none n' c')).run Tryz.prog w=.ok (.bool a.isNone) w:=fun w a n c n' c'=>za w _ _ a n c n' c' Tryz.underlying26
 obtain⟨i0,hin,hz0,hz1,hz2⟩:=ju aeI;cases ao with
 | none =>
  have h0:n=0:=by
   by_cases g:0<n
   · obtain⟨ad,e,_⟩:=HH.o g;cases e
   · omega
  subst h0;have hx:xs=[]:=jY (by rw[HL.o]);subst hx;clear HH HL H1 hin hz0 hz1 hz2;go_enter Tryz.func132,Tryz.ntmps132;go_wp2;go_ret;exact⟨_,rfl,mE _ _ _ _,aK _ _⟩
 | some ad =>
  have Eo:=ai hin;have Hu:=ai hz0;have Gf:=ai hz1;have yV:=ai hz2;clear hin hz0 hz1 hz2;go_enter Tryz.func132,Tryz.ntmps132;go_wp2_with (at_builtin;refine fB (P:=Tryz.prog) rfl _ _ 26 rfl w.heap.size 169 i0 (.agg #[.string ⟨#[]⟩,I 0,.bool false,.bool false]) 4 32 Tryz.underlying26 Eo.o Hu.o Gf.o yV.o rfl (by decide) (.slice (some (Ad w.heap.size 0)) 0 0) 0 [] (by rfl) (y9 w #[] 0 (aI _) (by omega) (by simp)) (some ad) n c xs (by rfl) HL.o ((HH.o.below ((aK _ _).alloc (aI _) _))) H1.o (by grind [maxLen]) (by omega) (by simp) ?_;intro v' w' hown hgr hat;have HOWN:=ai hown;have MH:=ai hgr;clear hown hgr hat)
  go_ret;have hown:=HOWN.o;have hgr:=MH.o;rw[lU] at hown;exact⟨_,rfl,hown,((aK _ _).alloc (aI _) _).grown hgr (by simp) (fun k hk=>by grind [Value.ownBlock])⟩
theorem aeF:(Tryz.prog.info? 171).map (fun i=>(i.zero,i.size,i.bytes))=some (some (.agg #[.string ⟨#[]⟩,I 0]),2,24):=by rfl
theorem acp (ao:Option Addr) (n c:Nat) (xs:List Value) (w:World) (hl:xs.length=n*2) (h:mR w ao n xs) (h1:∀u∈xs,u.oneCell'=true) (hn:n<=1000000) :
  Calls Tryz.prog 133 #[.slice ao n c] w fun e w'=>∃v,e=.returned v/\w'.ownsRow w.heap.size 171 2 v n xs/\Below w.heap.size w w':=by
 have HH:=ai h;have HL:=ai hl;have H1:=ai h1;clear h hl h1;have q:∀(w:World) (a:Option Addr) (n c n' c':Nat),(binOp .eql 27 (.slice a n c) (.slice none n' c')).run Tryz.prog w=.ok (.bool a.isNone) w:=fun w a n c n' c'=>za w _ _ a n c n' c' Tryz.underlying27
 obtain⟨i0,hin,hz0,hz1,hz2⟩:=ju aeF;cases ao with
 | none =>
  have h0:n=0:=by
   by_cases g:0<n
   · obtain⟨ad,e,_⟩:=HH.o g;cases e
   · omega
  subst h0;have hx:xs=[]:=jY (by rw[HL.o]);subst hx;clear HH HL H1 hin hz0 hz1 hz2;go_enter Tryz.func133,Tryz.ntmps133;go_wp2;go_ret;exact⟨_,rfl,mE _ _ _ _,aK _ _⟩
 | some ad =>
  have Eo:=ai hin;have Hu:=ai hz0;have Gf:=ai hz1;have yV:=ai hz2;clear hin hz0 hz1 hz2;go_enter Tryz.func133,Tryz.ntmps133;go_wp2_with (at_builtin;refine fB (P:=Tryz.prog) rfl _ _ 27 rfl w.heap.size 171 i0 (.agg #[.string ⟨#[]⟩,I 0]) 2 24 Tryz.underlying27 Eo.o Hu.o Gf.o yV.o rfl (by decide) (.slice (some (Ad w.heap.size 0)) 0 0) 0 [] (by rfl) (y9 w #[] 0 (aI _) (by omega) (by simp)) (some ad) n c xs (by rfl) HL.o ((HH.o.below ((aK _ _).alloc (aI _) _))) H1.o (by grind [maxLen]) (by omega) (by simp) ?_;intro v' w' hown hgr hat;have HOWN:=ai hown;have MH:=ai hgr;clear hown hgr hat)
  go_ret;have hown:=HOWN.o;have hgr:=MH.o;rw[lU] at hown;exact⟨_,rfl,hown,((aK _ _).alloc (aI _) _).grown hgr (by simp) (fun k hk=>by grind [Value.ownBlock])⟩
theorem aeG:(Tryz.prog.info? 145).map (fun i=>(i.zero,i.size,i.bytes))=some (some (.agg #[I 0,.string ⟨#[]⟩,Nl]),3,48):=by rfl
theorem acr (ao:Option Addr) (n c:Nat) (xs:List Value) (w:World) (hl:xs.length=n*3) (h:mR w ao n xs) (h1:∀u∈xs,u.oneCell'=true) (hn:n<=1000000) :
  Calls Tryz.prog 131 #[.slice ao n c] w fun e w'=>∃v,e=.returned v/\w'.ownsRow w.heap.size 145 3 v n xs/\Below w.heap.size w w':=by
 have HH:=ai h;have HL:=ai hl;have H1:=ai h1;clear h hl h1;have q:∀(w:World) (a:Option Addr) (n c n' c':Nat),(binOp .eql 23 (.slice a n c) (.slice none n' c')).run Tryz.prog w=.ok (.bool a.isNone) w:=fun w a n c n' c'=>za w _ _ a n c n' c' Tryz.underlying23
 obtain⟨i0,hin,hz0,hz1,hz2⟩:=ju aeG;cases ao with
 | none =>
  have h0:n=0:=by
   by_cases g:0<n
   · obtain⟨ad,e,_⟩:=HH.o g;cases e
   · omega
  subst h0;have hx:xs=[]:=jY (by rw[HL.o]);subst hx;clear HH HL H1 hin hz0 hz1 hz2;go_enter Tryz.func131,Tryz.ntmps131;go_wp2;go_ret;exact⟨_,rfl,mE _ _ _ _,aK _ _⟩
 | some ad =>
  have Eo:=ai hin;have Hu:=ai hz0;have Gf:=ai hz1;have yV:=ai hz2;clear hin hz0 hz1 hz2;go_enter Tryz.func131,Tryz.ntmps131;go_wp2_with (at_builtin;refine fB (P:=Tryz.prog) rfl _ _ 23 rfl w.heap.size 145 i0 (.agg #[I 0,.string ⟨#[]⟩,Nl]) 3 48 Tryz.underlying23 Eo.o Hu.o Gf.o yV.o rfl (by decide) (.slice (some (Ad w.heap.size 0)) 0 0) 0 [] (by rfl) (y9 w #[] 0 (aI _) (by omega) (by simp)) (some ad) n c xs (by rfl) HL.o ((HH.o.below ((aK _ _).alloc (aI _) _))) H1.o (by grind [maxLen]) (by omega) (by simp) ?_;intro v' w' hown hgr hat;have HOWN:=ai hown;have MH:=ai hgr;clear hown hgr hat)
  go_ret;have hown:=HOWN.o;have hgr:=MH.o;rw[lU] at hown;exact⟨_,rfl,hown,((aK _ _).alloc (aI _) _).grown hgr (by simp) (fun k hk=>by grind [Value.ownBlock])⟩
theorem aeH:(Tryz.prog.info? 226).map (fun i=>(i.zero,i.size,i.bytes))=some (some (.agg #[I 0,.string ⟨#[]⟩]),2,24):=by rfl
theorem acv (ao:Option Addr) (n c:Nat) (xs:List Value) (w:World) (hl:xs.length=n*2) (h:mR w ao n xs) (h1:∀u∈xs,u.oneCell'=true) (hn:n<=1000000) :
  Calls Tryz.prog 134 #[.slice ao n c] w fun e w'=>∃v,e=.returned v/\w'.ownsRow w.heap.size 226 2 v n xs/\Below w.heap.size w w':=by
 have HH:=ai h;have HL:=ai hl;have H1:=ai h1;clear h hl h1;have q:∀(w:World) (a:Option Addr) (n c n' c':Nat),(binOp .eql 143 (.slice a n c) (.slice none n' c')).run Tryz.prog w=.ok (.bool a.isNone) w:=fun w a n c n' c'=>za w _ _ a n c n' c' Tryz.underlying143
 obtain⟨i0,hin,hz0,hz1,hz2⟩:=ju aeH;cases ao with
 | none =>
  have h0:n=0:=by
   by_cases g:0<n
   · obtain⟨ad,e,_⟩:=HH.o g;cases e
   · omega
  subst h0;have hx:xs=[]:=jY (by rw[HL.o]);subst hx;clear HH HL H1 hin hz0 hz1 hz2;go_enter Tryz.func134,Tryz.ntmps134;go_wp2;go_ret;exact⟨_,rfl,mE _ _ _ _,aK _ _⟩
 | some ad =>
  have Eo:=ai hin;have Hu:=ai hz0;have Gf:=ai hz1;have yV:=ai hz2;clear hin hz0 hz1 hz2;go_enter Tryz.func134,Tryz.ntmps134;go_wp2_with (at_builtin;refine fB (P:=Tryz.prog) rfl _ _ 143 rfl w.heap.size 226 i0 (.agg #[I 0,.string ⟨#[]⟩]) 2 24 Tryz.underlying143 Eo.o Hu.o Gf.o yV.o rfl (by decide) (.slice (some (Ad w.heap.size 0)) 0 0) 0 [] (by rfl) (y9 w #[] 0 (aI _) (by omega) (by simp)) (some ad) n c xs (by rfl) HL.o ((HH.o.below ((aK _ _).alloc (aI _) _))) H1.o (by grind [maxLen]) (by omega) (by simp) ?_;intro v' w' hown hgr hat;have HOWN:=ai hown;have MH:=ai hgr;clear hown hgr hat)
  go_ret;have hown:=HOWN.o;have hgr:=MH.o;rw[lU] at hown;exact⟨_,rfl,hown,((aK _ _).alloc (aI _) _).grown hgr (by simp) (fun k hk=>by grind [Value.ownBlock])⟩
theorem MK:(Tryz.prog.info? 3).map (fun i=>(i.zero,i.size,i.bytes))=some (some (I 0),1,8):=by rfl
theorem acu (ao:Option Addr) (n c:Nat) (xs:List Value) (w:World) (hl:xs.length=n*1) (h:mR w ao n xs) (h1:∀u∈xs,u.oneCell'=true) (hn:n<=1000000) :
  Calls Tryz.prog 294 #[.slice ao n c] w fun e w'=>∃v,e=.returned v/\w'.ownsRow w.heap.size 3 1 v n xs/\Below w.heap.size w w':=by
 have HH:=ai h;have HL:=ai hl;have H1:=ai h1;clear h hl h1;have q:∀(w:World) (a:Option Addr) (n c n' c':Nat),(binOp .eql 48 (.slice a n c) (.slice none n' c')).run Tryz.prog w=.ok (.bool a.isNone) w:=fun w a n c n' c'=>za w _ _ a n c n' c' Tryz.underlying48
 obtain⟨i0,hin,hz0,hz1,hz2⟩:=ju MK;cases ao with
 | none =>
  have h0:n=0:=by
   by_cases g:0<n
   · obtain⟨ad,e,_⟩:=HH.o g;cases e
   · omega
  subst h0;have hx:xs=[]:=jY (by rw[HL.o]);subst hx;clear HH HL H1 hin hz0 hz1 hz2;go_enter Tryz.func294,Tryz.ntmps294;go_wp2;go_ret;exact⟨_,rfl,mE _ _ _ _,aK _ _⟩
 | some ad =>
  have Eo:=ai hin;have Hu:=ai hz0;have Gf:=ai hz1;have yV:=ai hz2;clear hin hz0 hz1 hz2;go_enter Tryz.func294,Tryz.ntmps294;go_wp2_with (at_builtin;refine fB (P:=Tryz.prog) rfl _ _ 48 rfl w.heap.size 3 i0 (I 0) 1 8 Tryz.underlying48 Eo.o Hu.o Gf.o yV.o rfl (by decide) (.slice (some (Ad w.heap.size 0)) 0 0) 0 [] (by rfl) (y9 w #[] 0 (aI _) (by omega) (by simp)) (some ad) n c xs (by rfl) HL.o ((HH.o.below ((aK _ _).alloc (aI _) _))) H1.o (by grind [maxLen]) (by omega) (by simp) ?_;intro v' w' hown hgr hat;have HOWN:=ai hown;have MH:=ai hgr;clear hown hgr hat)
  go_ret;have hown:=HOWN.o;have hgr:=MH.o;rw[lU] at hown;exact⟨_,rfl,hown,((aK _ _).alloc (aI _) _).grown hgr (by simp) (fun k hk=>by grind [Value.ownBlock])⟩
open Go.RowKit
theorem kz {a b:Bool} (h:a=b):Ending.returned (.bool a)=.returned (.bool b):=by rw[h]
theorem A0 (s:bJ) (w:World) (h:pA w s.ao s.dZ) (hf:DI s) :
  Calls Tryz.prog 122 #[.agg (vh s)] w fun e w'=>e=.returned (.bool (di s))/\Below w.heap.size w w':=by
 obtain⟨f1,f2,f3,f4⟩:=hf;obtain⟨pg,dt,fs,ao,cap⟩:=s;simp only at f1 f2 f3 f4;unfold cO at f1;unfold cB at f2 f3;simp only[vh];have F4:=aB f4;have HH:=aB h;clear f4 h;have HB:=aB ((aK w.heap.size w).alloc (aI _) (.cells #[I pg,.string dt,.slice ao fs.length cap] 145));by_cases h1:pg<1
 · have e:di ⟨pg,dt,fs,ao,cap⟩=false:=by
    grind [di,pq]
   rw[e];go_enter Tryz.func122,Tryz.ntmps122;go_wp2;go_ret;exact⟨rfl,HB.o⟩
 by_cases h2:255<pg
 · have e:di ⟨pg,dt,fs,ao,cap⟩=false:=by
    grind [di,pq]
   rw[e];go_enter Tryz.func122,Tryz.ntmps122;go_wp2;go_ret;exact⟨rfl,HB.o⟩
 by_cases h3:dt.size=16
 · have h3':(dt.size:Int)=16:=by omega
   have e:pq ⟨pg,dt,fs,ao,cap⟩=true:=by
    grind [pq]
   have E:Hid (di ⟨pg,dt,fs,ao,cap⟩=fQ fs fs.length):=by
    show _=_
    grind [di]
   clear e h3;go_enter Tryz.func122,Tryz.ntmps122;go_wp2;go_loopw [23,3] (fun i en wr=>∃k:Nat,k<=fs.length/\i=I k/\en=I (rB fs k)/\fQ fs k=true/\Below w.heap.size w wr) (fun i _ _=>fs.length-(intOf i).toNat)
   case atStart=>exact⟨0,by omega,rfl,rfl,rfl,HB.o⟩
   case round =>
    obtain⟨k,hk,rfl,rfl,hg,hb⟩:=hrel;have HG:=aB hg;have zJ:=aB hb;clear hg;by_cases hlt:k<fs.length
    · obtain⟨b,off,hao,hbl,eY⟩:=(HH.o.below hb) (by omega);subst hao;obtain⟨c0,c1⟩:=eY k hlt;obtain⟨g1,g2⟩:=F4.o k hlt;have hed:=sQ fs k HG.o;obtain⟨f,hfe⟩:=ex (ng fs k);rw[<- hfe] at c0 c1 g1 g2;unfold cO at g1;unfold cB at g2;have OG:=aB hfe;clear hfe eY hb;obtain⟨en,hen⟩:=ex (rB fs k);rw[<- hen] at hed;have Az:=aB hen;rw[<- hen];clear hen;have jV:=aB (zJ.o.alloc zJ.o.size (.cells #[I f.off,.string f.bytes] 226));by_cases q1:f.off<en
      · have HX:Hid (fQ fs fs.length=false):=zj fs k hlt (by rw[<- OG.o,<- Az.o];exact DC (by omega));go_wp2;go_ret;exact⟨kz (by rw[E.o,HX.o]),jV.o⟩
      by_cases q2:16<f.off
      · have HX:Hid (fQ fs fs.length=false):=zj fs k hlt (by rw[<- OG.o,<- Az.o];exact DC (by omega));go_wp2;go_ret;exact⟨kz (by rw[E.o,HX.o]),jV.o⟩
      by_cases q3:(f.bytes.size:Int)<1
      · have HX:Hid (fQ fs fs.length=false):=zj fs k hlt (by rw[<- OG.o,<- Az.o];exact DC (by omega));go_wp2;go_ret;exact⟨kz (by rw[E.o,HX.o]),jV.o⟩
      by_cases q4:16-f.off<(f.bytes.size:Int)
      · have HX:Hid (fQ fs fs.length=false):=zj fs k hlt (by rw[<- OG.o,<- Az.o];exact DC (by omega));go_wp2;go_ret;exact⟨kz (by rw[E.o,HX.o]),jV.o⟩
      · have HX:Hid (fQ fs (k+1)=true):=by
         show _=_;simp only[fQ,eQ];exact⟨HG.o,by rw[<- OG.o,<- Az.o];exact(A6 _ _).2 (by omega)⟩
        have HY:Hid (rB fs (k+1)=f.off+(f.bytes.size:Int)):=by show _=_;simp only[rB];rw[<- OG.o]
        go_wp2;go_roundw
        case rel=>exact⟨k+1,by omega,by go_num,by rw[HY.o],HX.o,jV.o⟩
        case measure=>simp[intOf];omega
    · obtain rfl:k=fs.length:=by omega
      go_wp2;go_ret;exact⟨kz (by rw[E.o,HG.o]),zJ.o⟩
 · have e:di ⟨pg,dt,fs,ao,cap⟩=false:=by
    grind [di,pq]
   have h3':((dt.size:Int)==16)=false:=by grind
   rw[e];go_enter Tryz.func122,Tryz.ntmps122;go_wp2;go_ret;exact⟨rfl,HB.o⟩
open Go.RowKit
theorem JE {k:IntKind} {a b:Int} (h:a=b):Value.int k a=.int k b:=by rw[h]
theorem C7 (n:Int) (w:World) (h1:1<=n) (h2:n<=8) :
  Calls Tryz.prog 203 #[I n] w fun e w'=>e=.returned (.bool true)/\w=w':=by
 go_enter Tryz.func203,Tryz.ntmps203;go_wp2;go_ret
 simp_all
theorem OO (n:Int) (w:World) (h1:n<1∨8<n) :
  Calls Tryz.prog 203 #[I n] w fun e w'=>e=.returned (.bool false)/\w=w':=by
 rcases h1 with h | h
 · go_enter Tryz.func203,Tryz.ntmps203;go_wp2;go_ret
   simp_all
 · have h':1<=n:=by omega
   have h'':decide (n<=8)=false:=by grind
   go_enter Tryz.func203,Tryz.ntmps203;go_wp2;go_ret
   simp_all
theorem aeQ (s:ByteArray) (w:World) (hs:s.size<=maxLen) (h1:(s.size:Int)<1∨8<(s.size:Int)) :
  Calls Tryz.prog 195 #[.string s] w fun e w'=>e=.returned (.tuple #[I 0,I 3])/\w=w':=by
 unfold maxLen at hs;go_enter Tryz.func195,Tryz.ntmps195;go_wp2_with (go_at_call 203;refine(OO _ _ h1).mono ?_;rintro e w' ⟨rfl,rfl⟩)
 go_ret2
 exact⟨rfl,rfl⟩
theorem RG (s:ByteArray) (w:World) (h1:1<=s.size) (h2:s.size<=8) :
  Calls Tryz.prog 195 #[.string s] w fun e w'=>e=.returned (.tuple #[I (wrap64 (Lib.leNat s.data.toList)),I 0])/\w=w':=by
 go_enter Tryz.func195,Tryz.ntmps195;go_wp2_with (go_at_call 203;refine(C7 _ _ (by omega) (by omega)).mono ?_;rintro e w' ⟨rfl,rfl⟩)
 go_loop [4,5] (fun n i=>∃k:Nat,k<=s.size/\i=I ((k:Int)-1)/\n=.int .u64 (Lib.leNat (s.data.toList.drop k))) (fun _ i=>(intOf i+1).toNat)
 case atStart=>exact⟨s.size,aI _,rfl,by rw[List.drop_of_length_le (by rw[<- Lib.size_eq];exact aI _)];rfl⟩
 case round =>
  obtain⟨k,hk,rfl,rfl⟩:=hrel;by_cases hlt:0<k
  · go_wp2
    go_round
    case rel =>
     refine⟨k-1,by omega,JE (by omega),JE ?_⟩;have hb:s[k-1].toNat<256:=s[k-1].toNat_lt;rw[TQ s k hlt hk,aeR _ _ (by omega) (by have:=Xy (s.data.toList.drop k) (by rw[y8,<- Lib.size_eq];omega);omega) (by omega) (by omega)]
    case measure=>simp[intOf];omega
  · obtain rfl:k=0:=by omega
    go_wp2
    go_ret2
    exact⟨rfl,rfl⟩
open Go.RowKit
theorem LU (n:Int) (size:Nat) (w:World) (h2:size<=8) :
  Calls Tryz.prog 58 #[I n,I size] w fun e w'=>e=.returned (.string ⟨(Lib.leBytes size (mD n)).toArray⟩)/\Below w.heap.size w w':=by
 go_enter Tryz.func58,Tryz.ntmps58;go_wp2;go_loopw [0,5,6] (fun t s i wr=>∃k:Nat,k<=size/\i=I k/\t=I (yR n k)/\s=.string ⟨(Lib.leBytes k (mD n)).toArray⟩/\Below w.heap.size w wr) (fun _ _ i _=>size-(intOf i).toNat)
 case atStart=>exact⟨0,by omega,rfl,by rw[aar],rfl,aK _ _⟩
 case round =>
  obtain⟨k,hk,rfl,rfl,rfl,hb⟩:=hrel;by_cases hlt:k<size
  · have hcv:(convert 203 9 (.slice (some (Ad wr.heap.size 0)) 1 1)).run Tryz.prog (wr.alloc (.cells #[.int .u8 (yR n k%256)] 5))=.ok (.string ⟨#[(mD n/256 ^ k%256).toUInt8]⟩) (wr.alloc (.cells #[.int .u8 (yR n k%256)] 5)):=by
     rw[<- LV n k (by omega)];refine Pj _ 203 5 Tryz.underlying203 Tryz.underlying5 _ 0 1 1 [yR n k%256] rfl ?_ 9 Tryz.underlying9
     simp_all
    have hl:(Lib.leBytes k (mD n)).length=k:=Lib.leBytes_length _ _;have HN:Hid (Lib.leBytes (k+1) (mD n)=Lib.leBytes k (mD n)++[(mD n/256 ^ k%256).toUInt8]):=yS _ _;go_wp2;go_roundw
    case rel=>grind [aas,Xx,Hid.o,Below.alloc,Below.size]
    grind [intOf]
  · obtain rfl:k=size:=by omega
    go_wp2;go_ret
    simp_all
open Go.RowKit
theorem RD:(Tryz.prog.info? 5).map (fun i=>(i.zero,i.size,i.bytes))=some (some (.int .u8 0),1,1):=by rfl
theorem acG (n:Int) (size:Nat) (w:World) (h1:1<=size) (h2:size<=8) :
  Calls Tryz.prog 169 #[I n,I size] w fun e w'=>e=.returned (.tuple #[.string ⟨(Lib.leBytes size (mD n)).toArray⟩,I 0])/\Below w.heap.size w w':=by
 obtain⟨i0,hi,hz0,hz1,hz2⟩:=ju RD;obtain⟨w1,hmk,hown1,aqn⟩:=run_make_full (P:=Tryz.prog) w w.heap.size 203 5 i0 (.int .u8 0) 1 Tryz.underlying203 hi hz0 hz1 .i64 .i64 size (by grind) (by grind [maxLen]) (aI _);have hb1:Below w.heap.size w w1:=(aK _ _).grown aqn (aI _) (by grind);rw[OW,show(Value.int .u8 0).cells=#[Value.int .u8 0] from rfl,toList_madeCells_one,<- aau size (mD n)] at hown1;go_enter Tryz.func169,Tryz.ntmps169;go_wp2_with (go_at_call 203;refine(C7 _ _ (by omega) (by omega)).mono ?_;rintro e w' ⟨rfl,rfl⟩)
 go_loopw [6,18] (fun r i wr=>∃k:Nat,k<=size/\i=I k/\r=.int .u64 ((mD n/256 ^ k:Nat):Int)/\wr.ownsRow w.heap.size 5 1 (.slice (some (Ad w.heap.size 0)) size size) size (CB size k (mD n))/\Below w.heap.size w wr) (fun _ i _=>size-(intOf i).toNat)
 case atStart=>grind [acI]
 case round =>
  obtain⟨k,hk,rfl,rfl,hown,hb⟩:=hrel;by_cases hlt:k<size
  · have hc:wr.cell? (Ad w.heap.size k)=some (.int .u8 0):=(hown.cellAt k (by omega)).trans (acK _ _ _ hlt);have hf:wr.frozen? (Ad w.heap.size k)=false:=hown.frozenAt k;have HS:Hid ((wr.setCell (Ad w.heap.size k) (.int .u8 (((mD n/256 ^ k:Nat):Int)%256))).ownsRow w.heap.size 5 1 (.slice (some (Ad w.heap.size 0)) size size) size (CB size (k+1) (mD n))/\Below w.heap.size w (wr.setCell (Ad w.heap.size k) (.int .u8 (((mD n/256 ^ k:Nat):Int)%256)))):=by
     have h:=hown.stored k (.int .u8 (((mD n/256 ^ k:Nat):Int)%256));rw[acJ _ _ _ hlt] at h;exact⟨h.1,hb.setCell (aI _) _⟩
    go_wp2;go_roundw
    case rel=>exact⟨k+1,by omega,by go_num,JE (acL n k),HS.o.1,HS.o.2⟩
    case measure=>simp[intOf];omega
  · obtain rfl:k=size:=by omega
    have hcv:(convert 203 9 (.slice (some (Ad w.heap.size 0)) k k)).run Tryz.prog wr=.ok (.string ⟨(Lib.leBytes k (mD n)).toArray⟩) wr:=by
     rw[<- vd];refine Pj _ 203 5 Tryz.underlying203 Tryz.underlying5 _ 0 k k _ (by simp[Lib.leBytes_length]) ?_ 9 Tryz.underlying9;intro i hi;rw[lU,hown.cellAt i (by omega),aav];exact C8 _ i (by rw[Lib.leBytes_length];exact hi)
    go_wp2
    go_ret2
    exact⟨rfl,hb⟩
open Go.RowKit
theorem acH (s:ByteArray) (w:World) (hlim:s.size<=281474976710656) :
  Calls Tryz.prog 177 #[.string s] w fun e w'=>e=.returned (.string s)/\Below w.heap.size w w':=by
 by_cases h0:s.size=0
 · have hs:s=⟨#[]⟩:=by
    apply ByteArray.ext
    simp_all
   subst hs;go_enter Tryz.func177,Tryz.ntmps177;go_wp2;go_ret;exact⟨rfl,aK _ _⟩
 · obtain⟨i0,hi,hz0,hz1,hz2⟩:=ju RD;have hinfo:(Tryz.prog.info? 5).map (·.size)=some 1:=by rfl
   have hco:Tryz.prog.cellsOf 5=1:=by rfl
   obtain⟨M,hM⟩:=ex (madeCells (Value.int .u8 0).cells (((s.size:Nat):Int).toNat*i0.size));have hMs:M.size=s.size:=by grind [size_madeCells]
   have hmk:∀W:World,(Instr.makeSlice 203 (I (s.size:Int)) (I (s.size:Int))).run Tryz.prog W=.ok (.slice (some (Ad W.heap.size 0)) s.size s.size) (W.alloc (.cells M 5)):=fun W=>by
    grind [run_make,Tryz.underlying203]
   clear hM;have E8:=Lib.run_copy_row_string (P:=Tryz.prog) (w.alloc (.cells M 5)) 203 9 3 5 w.heap.size 0 s.size s.size s M 5 Tryz.underlying203 hinfo (O4 w _) (aI _) (by omega);obtain⟨Y,hY⟩:=ex ((M.toList.take 0++Lib.byteCells s.data.toList++M.toList.drop (0+s.size)).toArray);rw[<- hY] at E8;have hYl:Y.toList=Lib.byteCells s.data.toList:=by
    simp_all
   have hYs:Y.size=s.size:=by grind [Lib.byteCells_length,Lib.size_eq]
   have hgY:((w.alloc (.cells M 5)).setRow w.heap.size Y).heap[w.heap.size]?=some (.cells Y 5 (0,0)):=tJ _ _ M _ 5 (0,0) (O4 w _);have hne:s.data.toList≠[]:=fun e=>h0 (by grind [Lib.size_eq])
   have hUS:=Lib.run_unsafeString_row (P:=Tryz.prog) ((w.alloc (.cells M 5)).setRow w.heap.size Y) 336 3 9 5 Tryz.underlying336 hco w.heap.size Y.size (by grind [World.shape?]) s.data.toList hne (by simp_all) (by grind [Lib.size_eq])
    (fun j x hx=>Lib.cells_of_row hgY Y.size j _ (by grind [Lib.byteCells]))
   rw[<- Lib.size_eq] at hUS;clear hY;go_enter Tryz.func177,Tryz.ntmps177;go_wp2;go_ret;have hb1:Below w.heap.size w (w.alloc (.cells M 5)):=(aK _ w).alloc (aI _) _;have hb2:Below w.heap.size (w.alloc (.cells M 5)) ((w.alloc (.cells M 5)).setRow w.heap.size Y):=⟨rfl,rfl,rfl,by simp,fun k hk=>setRow_other _ _ _ _ (by omega)⟩;exact⟨rfl,Lib.below_freeze (hb1.trans hb2) (p:=(Ad w.heap.size 0)) (aI _) _⟩
theorem RI (s:ByteArray) (w:World) (hlim:s.size<=281474976710656) :
  Calls Tryz.prog 123 #[.string s] w fun e w'=>e=.returned (.string s)/\Below w.heap.size w w':=by
 go_enter Tryz.func123,Tryz.ntmps123;go_wp2_with (go_at_call 177;refine(acH _ _ hlim).mono ?_;rintro e w' ⟨rfl,hb⟩)
 go_ret
 simp_all
theorem CA (l o n:Int) (w:World) (h1:0<=o) (h2:0<=n) (h3:o<=l) (h4:n<=l-o) (h5:l<=9223372036854775807) :
  Calls Tryz.prog 178 #[I l,I o,I n] w fun e w'=>e=.returned (.bool true)/\w=w':=by
 go_enter Tryz.func178,Tryz.ntmps178;go_wp2;go_ret
 simp_all
theorem GH (s:ByteArray) (o n:Nat) (w:World) (hs:s.size<=140737488351232) (h:o+n<=s.size) :
  Calls Tryz.prog 171 #[.string s,I o,I n] w fun e w'=>e=.returned (.tuple #[.string (s.extract o (o+n)),I 0])/\Below w.heap.size w w':=by
 go_enter Tryz.func171,Tryz.ntmps171;go_wp2_with (first | (go_at_call 178;refine(CA _ _ _ _ (by omega) (by omega) (by omega) (by omega) (by omega)).mono ?_;rintro e w' ⟨rfl,rfl⟩) | (go_at_call 123;refine(RI _ _ (by simp;omega)).mono ?_;rintro e w' ⟨rfl,hb⟩))
 go_ret2
 simp_all
theorem JF (s t:ByteArray) (o:Nat) (w:World) (hs:s.size<=140737488351232) (h:o+t.size<=s.size) :
  Calls Tryz.prog 124 #[.string s,I o,.string t] w fun e w'=>e=.returned (.tuple #[.string (iC s o t),I 0])/\Below w.heap.size w w':=by
 obtain⟨i0,hi,hz0,hz1,hz2⟩:=ju RD;have hinfo:(Tryz.prog.info? 5).map (·.size)=some 1:=by rfl
 obtain⟨c,hc⟩:∃c,grownCap w s.size 0 5=c:=⟨_,rfl⟩;have hcs:s.size<=c:=by grind [grownCap_ge]
 have hcv:=run_bytes_of_string (P:=Tryz.prog) w 9 203 5 s Tryz.underlying9 Tryz.underlying203 Tryz.underlying5;rw[hc] at hcv;clear hc;have hRs:(bytesRow s c).size=c:=by grind [MQ]
 have hov:=TR s o t c h;obtain⟨R,hR⟩:=ex (bytesRow s c);rw[<- hR] at hcv hRs hov;clear hR;rw[hRs] at hcv;have hgR:((w.alloc (.cells R 5 (c,c+1))).drew).heap[w.heap.size]?=some (.cells R 5 (c,c+1)):=O4 w _;by_cases h0:t.size=0
 · have E8:=fun W d l c=>Lib.run_copy_empty_string (P:=Tryz.prog) W 203 9 3 5 d l c t Tryz.underlying203 (by rfl) h0
   rw[aaw s o t h0] at hov ⊢;have hcb:(convert 203 9 (.slice (some (Ad w.heap.size 0)) s.size c)).run Tryz.prog ((w.alloc (.cells R 5 (c,c+1))).drew)=.ok (.string s) ((w.alloc (.cells R 5 (c,c+1))).drew):=by
    have es:strOfNums (s.data.toList.map fun b=>(b.toNat:Int))=s:=(vd _).trans (Lib.mk_data s);refine Eq.trans ?_ (dI (fun x=>Result.ok (Value.string x) ((w.alloc (.cells R 5 (c,c+1))).drew)) es);refine Pj _ 203 5 Tryz.underlying203 Tryz.underlying5 _ 0 s.size c _ (by simp_all) ?_ 9 Tryz.underlying9;intro i hi;have ht:t.data.toList=[]:=jY (by simp_all);have e:=hov i hi;rw[ht,h0] at e;rw[lU,UG _ _ _ _ _ _ hgR]
    simp_all [Lib.byteCells]
   go_enter Tryz.func124,Tryz.ntmps124;go_wp2_with (first | (go_at_call 178;refine(CA _ _ _ _ (by omega) (by omega) (by omega) (by omega) (by omega)).mono ?_;rintro e w' ⟨rfl,rfl⟩))
   all_goals go_ret2
   all_goals exact⟨rfl,((aK _ _).alloc (aI _) _).drew⟩
 · have hno:¬c=o:=by omega
   have E8:=RO (P:=Tryz.prog) ((w.alloc (.cells R 5 (c,c+1))).drew) 203 9 3 5 w.heap.size o (s.size-o) (c-o) t R 5 c (c+1) Tryz.underlying203 hinfo hgR (by omega) (by omega) (by omega);obtain⟨Y,hY⟩:=ex ((R.toList.take o++Lib.byteCells t.data.toList++R.toList.drop (o+t.size)).toArray);rw[<- hY] at E8;have hgY:(((w.alloc (.cells R 5 (c,c+1))).drew).setRow w.heap.size Y).heap[w.heap.size]?=some (.cells Y 5 (c,c+1)):=tJ _ _ R _ 5 (c,c+1) hgR;have hcb:(convert 203 9 (.slice (some (Ad w.heap.size 0)) s.size c)).run Tryz.prog (((w.alloc (.cells R 5 (c,c+1))).drew).setRow w.heap.size Y)=.ok (.string (iC s o t)) (((w.alloc (.cells R 5 (c,c+1))).drew).setRow w.heap.size Y):=by
    rw[<- Lib.mk_data (iC s o t),<- vd];refine Pj _ 203 5 Tryz.underlying203 Tryz.underlying5 _ 0 s.size c _ (by grind [LW]) ?_ 9 Tryz.underlying9;intro i hi;rw[lU,UG _ _ _ _ _ _ hgY,hY]
    grind
   clear hov hY;go_enter Tryz.func124,Tryz.ntmps124;go_wp2_with (first | (go_at_call 178;refine(CA _ _ _ _ (by omega) (by omega) (by omega) (by omega) (by omega)).mono ?_;rintro e w' ⟨rfl,rfl⟩))
   go_ret2
   exact⟨rfl,below_setRow ((aK _ _).alloc (aI _) _).drew (aI _) _⟩
end Go.Proofs.YtlgoihmkgaaemaaGreat
