import Derived.Test.YtpgifpeohlllfaaGreatGR36
set_option maxHeartbeats 20000000
set_option linter.unusedVariables false
set_option maxRecDepth 100000
set_option linter.unusedSimpArgs false
namespace Go.Proofs.YtpgifpeohlllfaaGreat
open Go.RowKit
theorem Y7:(Tryz.prog.info? 151).map (fun i=>(i.zero,i.size,i.bytes))=some (some (.agg #[.string ⟨#[]⟩,Nl,Nl,Nl,Nl,I 0]),6,120):=by rfl
theorem Tt {w:World} {b off:Nat} {l:List gT} (h:F8 w b off l):∀j u,(l.flatMap om)[j]?=some u->w.cell? (((Ad b off):Addr).add j)=some u:=fun j u hj=>by
 obtain⟨k,r,hr,rfl⟩:∃k r,r<6/\j=k*6+r:=⟨j/6,j%6,by omega,by omega⟩;have hlen:∀l:List gT,(l.flatMap om).length=l.length*6:=fun l=>by
  induction l with
  | nil=>rfl
  | cons a r ih=>rw[mS,fk,ih,xC];show 6+_=_;omega
 have hk:k<l.length:=by
  grind
 rw[rN om 6 (fun _=>rfl) VT l k r hk hr] at hj;obtain⟨⟨c0,c1,c2,c3,c4,c5⟩,_⟩:=h k hk;rw[rY,<- Kb]
 match r,hr with
 | 0,_=>exact c0.trans hj
 | 1,_=>exact c1.trans hj
 | 2,_=>exact c2.trans hj
 | 3,_=>exact c3.trans hj
 | 4,_=>exact c4.trans hj
 | 5,_=>exact c5.trans hj
theorem Y3 {w:World} {base:Nat} {g cap:Nat} {l:List gT} (h:w.ownsRow base 151 6 (.slice (some (Ad g 0)) l.length cap) l.length (l.flatMap om)) (hg:g<w.heap.size) (hi:∀k,k<l.length->od w (cB l k).a (cB l k).i) :
  zO w (some (Ad g 0)) l:=fun hl=>by
 refine⟨g,0,rfl,hg,fun k hk=>?_⟩;rw[gM];have hh:∀j,j<6->w.cell? (Ad g (k*6+j))=(om (cB l k))[j]?:=fun j hj=>(h.cellAt _ (by omega)).trans (rN om 6 (fun _=>rfl) VT l k j hk hj)
 exact⟨⟨hh 0 (by omega),hh 1 (by omega),hh 2 (by omega),hh 3 (by omega),hh 4 (by omega),hh 5 (by omega)⟩,hi k hk⟩
theorem Be {ops:Array Oper} {rest:List Oper} {o:Oper} {a:Act} {w:World} {Q:Exit->Act->World->Prop} (hgd:o.guard=none) (s x:Operand)
  (ho:o.op=.call { callee:=.builtin .append,args:=#[s,x],argTypes:=#[187,187] })
  (base:Nat) (p:gT) (g0:Nat) (hs:a.eval s=.slice (some (Ad g0 0)) 1 1) (hown:w.ownsRow base 151 6 (.slice (some (Ad g0 0)) 1 1) 1 (om p))
  (ao:Option Addr) (c:Nat) (libs:List gT) (hx:a.eval x=.slice ao libs.length c) (eI:zO w ao libs) (h6:libs.length<=6) (hbase:base<=w.heap.size)
  (h:∀g cap w',w'.ownsRow base 151 6 (.slice (some (Ad g 0)) (libs.length+1) cap) (libs.length+1) ((p::libs).flatMap om)->w.grownBy w' (some g0)->g<w'.heap.size->wpList Tryz.prog ops Q rest (a.put o.dst (.slice (some (Ad g 0)) (libs.length+1) cap)) w'):wpList Tryz.prog ops Q (o::rest) a w:=by
 obtain⟨i0,hin,hz0,hz1,hz2⟩:=gm Y7;by_cases h0:0<libs.length
 · obtain⟨b,off,rfl,hb,hl⟩:=eI h0;have hlen:∀l:List gT,(l.flatMap om).length=l.length*6:=fun l=>by
    induction l with
    | nil=>rfl
    | cons a r ih=>rw[mS,fk,ih,xC];show 6+_=_;omega
   have hone:∀u∈libs.flatMap om,u.oneCell'=true:=fun u hu=>by
    obtain⟨y,_,hy⟩:=ua.1 hu;simp only[om,iW] at hy;simp at hy;rcases hy with rfl | rfl | rfl | rfl | rfl | rfl <;> rfl
   refine E4 w hgd s x 187 ho base 151 i0 (.agg #[.string ⟨#[]⟩,Nl,Nl,Nl,Nl,I 0]) 6 120 Tryz.underlying187 hin hz0 hz1 hz2 rfl (by decide) _ 1 _ hs hown (Ad b off) libs.length c (libs.flatMap om) hx (hlen _) (Tt hl) hone h0 (by grind [maxLen]) (by omega) hbase _ rfl ?_;intro g cap w' h2 h3 _ h5;have e:1+libs.length=libs.length+1:=Nat.add_comm _ _;rw[e] at h2 ⊢;exact h g cap w' h2 h3 h5
 · have e0:libs=[]:=iT (by omega);subst e0;have hg0:g0<w.heap.size:=(hown.lt g0 rfl).2;refine wpList_plain hgd fun K hK=>?_
   have hsrc:Src Tryz.prog i0.size 187 (.slice ao 0 c) 0 [] w:=⟨.inl ⟨_,Tryz.underlying187⟩,fun w'=>by rfl,by cases ao <;> simp[Builtin.firstCells,loadCells,loadCellsFrom],by cases ao <;> simp[Builtin.firstCells,loadCells,loadCellsFrom],by simp,by simp⟩;have hr:=run_append_nothing (P:=Tryz.prog) w 187 187 o.type 151 i0 Tryz.underlying187 hin (some (Ad g0 0)) 1 1 (aI _) (.slice ao 0 c) hsrc;have hx':a.eval x=.slice ao 0 c:=hx;unfold Oper.wp execOp;simp only[ho,resolve,invoke,builtin,Sem.run_bind,Sem.run_pure,PV,List.map_toArray,CV,List.map_nil,hs,hx',hr];refine hK _ _ (h g0 1 w ?_ ⟨rfl,rfl,rfl,aI _,fun _ _ _=>rfl⟩ hg0)
   grind
open Go.RowKit Go.WideMaps Go.Maps
def Yl (all:List gT) (w:World) (e:Ending) (w':World):Prop:=Below w.heap.size w w' /\
 if kv all=0 then ∃(ix:List Nat) (E:List Bz) (r:Value) (hs:List bR) (ao:Option Addr) (cap:Nat),Hv all all.length 0 [0]=some ix/\pP (eJ all 1 ix)=some E/\hs.map dB=E /\
  e=.returned (.tuple #[.agg #[r,.slice ao hs.length cap,I (uF (dA (eJ all 1 ix) 0) (cB all 0).i.entry)],I 0])/\gQ w.heap.size w' r (py (eJ all 1 ix))/\fX w' ao hs/\hs.length<=cap
 else e=.returned (.tuple #[.agg #[Nl,Nl,I 0],I (kv all)])
theorem qi (V:World) (rb b j:Nat) (u0 u1 u2:Value) (h:b≠rb):(((V.setCell (Ad rb 0) u0).setCell (Ad rb 1) u1).setCell (Ad rb 2) u2).cell? (Ad b j)=V.cell? (Ad b j):=by
 grind [World.cell?_setCell_far]
def Fy (V:World) (rb:Nat) (u0 u1 u2:Value):World:=((V.setCell (Ad rb 0) u0).setCell (Ad rb 1) u1).setCell (Ad rb 2) u2
theorem Fx (V:World) (rb:Nat) (u0 u1 u2:Value):(Fy V rb u0 u1 u2).heap.size=V.heap.size:=by simp[Fy]
theorem Tq {V:World} {rb b off:Nat} {t:TypeId} {x:Int} {y:ByteArray} (h:V.heap[rb]?=some (.cells #[Nl,Nl,I 0] t (0,0))) (c0:V.cell? (Ad b off)=some (I x)) (c1:V.cell? (Ad b (off+1))=some (.string y)):b≠rb:=fun e=>by
 grind [World.cell?]
theorem Qm {V:World} {rb:Nat} {t:TypeId} (h:V.heap[rb]?=some (.cells #[Nl,Nl,I 0] t (0,0))) {ao:Option Addr} {l:List kW} (g:kQ V ao l) (u0 u1 u2:Value):kQ (Fy V rb u0 u1 u2) ao l:=fun hl=>by
 obtain⟨b,off,e,hb,eI⟩:=g hl;obtain⟨c0,c1⟩:=eI 0 hl;have hne:=Tq h c0 c1;refine⟨b,off,e,by grind [Fx],fun k hk=>?_⟩;obtain⟨d0,d1⟩:=eI k hk;exact⟨(qi V rb b _ u0 u1 u2 hne).trans d0,(qi V rb b _ u0 u1 u2 hne).trans d1⟩
theorem Ql {V:World} {rb:Nat} {t:TypeId} (h:V.heap[rb]?=some (.cells #[Nl,Nl,I 0] t (0,0))) {ao:Option Addr} {l:List bR} (g:fX V ao l) (u0 u1 u2:Value):fX (Fy V rb u0 u1 u2) ao l:=fun hl=>by
 obtain⟨b,off,e,hb,eI⟩:=g hl;obtain⟨c0,c1,_,_⟩:=eI 0 hl;have hne:=Tq h c0 c1;refine⟨b,off,e,by grind [Fx],fun k hk=>?_⟩;obtain⟨d0,d1,d2,d3⟩:=eI k hk;exact⟨(qi V rb b _ u0 u1 u2 hne).trans d0,(qi V rb b _ u0 u1 u2 hne).trans d1,(qi V rb b _ u0 u1 u2 hne).trans d2,Qm h d3 u0 u1 u2⟩
theorem Tp {V:World} {rb lo:Nat} {v:Value} {l:List aZ} (h:gQ lo V v l) (hlt:rb<lo) (u0 u1 u2:Value):gQ lo (Fy V rb u0 u1 u2) v l :=
 CY (CY (CY h hlt _) hlt _) hlt _
open Go.RowKit Go.WideMaps Go.Maps
theorem Lc (l:List gT) (ao:Option Addr) (cap:Nat) (w:World) (h:zO w ao l) (hf:Yn l) (C6:∀k,k<l.length->∀V,Below w.heap.size w V->Calls Tryz.prog 158 #[.agg (iW (cB l k).a (cB l k).i)] V fun e w'=>e=.returned (I (kY (cB l k).i))/\Below V.heap.size V w'):Calls Tryz.prog 132 #[.slice ao l.length cap] w (acL l w):=by
 have HH:=aA h;have HF:=aA hf;have Pv:=aA C6;have hn:l.length<=140737488351232:=hf.1;clear h hf C6;have hmm:=@run_makeMap Tryz.prog;go_enter Tryz.func132,Tryz.ntmps132;go_wp2;go_loopw [12] (fun i wr=>∃k:Nat,k<=l.length/\i=I k/\mJ l k=0/\Below w.heap.size w wr) (fun i _=>l.length-(intOf i).toNat)
 case atStart=>exact⟨0,by omega,rfl,rfl,aK _ _⟩
 case round =>
  obtain⟨k,hk,rfl,hz,hb⟩:=hrel;have HZ:=aA hz;have qL:=aA hb;clear hz;by_cases hlt:k<l.length
  · obtain⟨b,off,hao,hbl,eI⟩:=(HH.o.below hb) (by omega);subst hao;obtain⟨⟨c0,c1,c2,c3,c4,c5⟩,hi⟩:=eI k hlt;have Dx:=HF.o.2 k hlt;have gq:=aA (Pv.o k hlt);have HE:Hid (mJ l (k+1)=kY (cB l k).i):=by
     show _=_;simp only[mJ];rw[aR HZ.o]
    have Xx:Hid (kY (cB l k).i≠0->mK l=kY (cB l k).i):=fun g=>by
     have e1:mJ l (k+1)≠0:=by rw[HE.o];exact g
     have e2:=Bv l (k+1) e1 l.length (by omega);unfold mK;rw[e2,bf e1,HE.o]
    obtain⟨x,hx⟩:=ex (cB l k);rw[<- hx] at c0 c1 c2 c3 c4 c5 hi Dx HE Xx gq;clear hx eI hb;obtain⟨⟨nm,ns,gs,ys,rs,en⟩,⟨an,cn,ag,cg,ay,cy,ar,cr⟩⟩:=x;simp only at c0 c1 c2 c3 c4 c5;have fV:=aA (qL.o.alloc qL.o.size (.cells #[.string nm,.slice an ns.length cn,.slice ag gs.length cg,.slice ay ys.length cy,.slice ar rs.length cr,I en] 151));have HC:Hid (∀W,Below wr.heap.size wr W->Calls Tryz.prog 158 #[.agg #[.string nm,.slice an ns.length cn,.slice ag gs.length cg,.slice ay ys.length cy,.slice ar rs.length cr,I en]] W fun e w'=>e=.returned (I (kY ⟨nm,ns,gs,ys,rs,en⟩))/\Below W.heap.size W w'):=fun V hb=>gq.o V (qL.o.trans (hb.mono qL.o.size))
    clear hi Dx gq Pv;obtain⟨c,hc⟩:=ex (kY ⟨nm,ns,gs,ys,rs,en⟩);simp only at HE Xx;rw[<- hc] at HC HE Xx;clear hc;by_cases hcz:c=0
    · subst hcz;clear Xx;go_wp2_with (go_at_call 158;refine(HC.o _ ((aK _ _).alloc (aI _) _)).mono ?_;rintro e w1 ⟨rfl,hb⟩;have fV:=aA (fV.o.trans (hb.mono fV.o.size));clear hb)
      go_roundw
      case rel=>exact⟨k+1,by omega,by go_num,HE.o,fV.o⟩
      case measure=>simp[intOf];omega
    · have J0:=aA (Xx.o hcz);have asB:(c==0)=false:=by grind
      clear Xx HE;go_wp2_with (go_at_call 158;refine(HC.o _ ((aK _ _).alloc (aI _) _)).mono ?_;rintro e w1 ⟨rfl,hb⟩;have fV:=aA (fV.o.trans (hb.mono fV.o.size));clear hb)
      go_ret2
      refine⟨fV.o,?_⟩;rw[J0.o,bf hcz];rfl
  · obtain rfl:k=l.length:=by omega
    clear hb;obtain⟨m,hm⟩:=ex wr.heap.size;have hsm:w.heap.size<=m:=by rw[hm];exact qL.o.size
    have HM0:Hid ((wr.alloc (.map #[] 0)).ownsMap Tryz.prog 9 TA m 0 (.map [])):=by
     rw[hm];exact World.ownsMap_made _ _ _ _
    have HM:=aA hm;clear hm;go_wp2;rw[<- HM.o];go_loopw [25] (fun i wi=>∃(k:Nat) (D:DataW Value),k<=l.length/\i=I k/\wi.ownsMap Tryz.prog 9 TA m k D/\FY l k D/\Below w.heap.size w wi) (fun i _=>l.length-(intOf i).toNat)
    case atStart=>exact⟨0,.map [],oO _,rfl,HM0.o,VQ l,qL.o.alloc qL.o.size _⟩
    case round =>
     obtain⟨k,D,hk,rfl,hown,Hd,hb⟩:=hrel;have HW:=aA hown;have HN:=aA Hd;have UL:=aA hb;by_cases hlt:k<l.length
     · obtain⟨b,off,hao,hbl,eI⟩:=(HH.o.below hb) (by omega);subst hao;obtain⟨⟨c0,c1,c2,c3,c4,c5⟩,hi⟩:=eI k hlt;have Dx:=(HF.o.2 k hlt).name;have HNS:=aA (VR hlt hown.isMap (hown.tidy KZ) Hd);obtain⟨x,hx⟩:=ex (cB l k);rw[<- hx] at c0 c1 c2 c3 c4 c5 Dx HNS;clear hx eI hb hi hown Hd;obtain⟨⟨nm,ns,gs,ys,rs,en⟩,⟨an,cn,ag,cg,ay,cy,ar,cr⟩⟩:=x;simp only at c0 c1 c2 c3 c4 c5 Dx;have hkey:=OO Dx;have iU:k<maxLen:=by unfold maxLen;omega
       have fV:=aA (UL.o.alloc UL.o.size (.cells #[.string nm,.slice an ns.length cn,.slice ag gs.length cg,.slice ay ys.length cy,.slice ar rs.length cr,I en] 151));have lI:=aA (HW.o.alloc (.cells #[.string nm,.slice an ns.length cn,.slice ag gs.length cg,.slice ay ys.length cy,.slice ar rs.length cr,I en] 151));go_wp2_with (first | (at_mapUpdate;refine PX _ rfl _ _ _ 188 rfl 9 151 KZ Tryz.underlying188 TA m k D rfl lI.o iU _ _ _ rfl rfl hkey _ [] rfl ?_;intro w1 hown1 hgrow1;have CG:=aA hown1;have dz:=aA (fV.o.grown hgrow1 fV.o.size (fun j hj=>by cases hj;exact hsm));clear hown1 hgrow1) | go_in)
       go_roundw
       case rel=>exact⟨k+1,_,by omega,by go_num,CG.o,HNS.o,dz.o⟩
       case measure=>simp[intOf];omega
     · obtain rfl:k=l.length:=by omega
       have hlen:=hown.len Tryz.underlying188 3;have HE0:=aA HZ.o;by_cases ho:mG (jo l) l.length=true
       · have hsz:=Hd.all.2 ho;have J0:Hid (mK l=0):=by
          show _=_;unfold mK ud;rw[aR HE0.o,qj,ho];rfl
         rw[hsz] at hlen;clear hown Hd hb hsz ho;go_wp2
         go_ret2
         refine⟨UL.o,?_⟩;rw[J0.o,aR rfl];exact⟨_,D,rfl,HW.o,HN.o⟩
       · have hsz:Maps.size D<l.length:=by
          have h1:=Hd.le;have h2:=Hd.all;rcases EW (Maps.size D) l.length with g | g
          · exact g
          · exact(ho (h2.1 (by omega))).elim
         have J0:Hid (mK l=5):=by
          show _=_;unfold mK ud;rw[aR HE0.o,qj,bf ho]
         obtain⟨z,hz⟩:=ex (Maps.size D);rw[<- hz] at hlen hsz;have hsz':(z:Int)<(l.length:Int):=by omega
         clear hown Hd hb ho hz;go_wp2
         go_ret2
         refine⟨UL.o,?_⟩;rw[J0.o,bf (by decide)];rfl
open Go.RowKit
theorem Hq (l:List jt) (ao:Option Addr) (cap:Nat) (w:World) (h:Lh l ao w) (hl7:l.length<=7) (hpx:∀k,k<l.length->∀V,Below w.heap.size w V->Calls Tryz.prog 161 #[.agg (mY (dA l k)),.slice ao l.length cap] V (yZ (r9 l (dA l k)) V)):Calls Tryz.prog 135 #[.slice ao l.length cap] w (FE (pP l) w):=by
 have HO:=aA h;have HPX:=aA hpx;clear h hpx;obtain⟨R,hR⟩:=ex (pP l);have HR:Hid (R=qO l l.length):=hR;rw[<- hR];clear hR;obtain⟨i0,hin,hz0,hz1,hz2⟩:=gm OS;go_enter Tryz.func135,Tryz.ntmps135;go_wp2;go_loopw [15,4] (fun i v wr=>∃(a:Nat) (E:List Bz) (hs:List bR),a<=l.length/\i=I a/\qO l a=some E/\hs.map dB=E/\hs.length<=a*1600/\xK w.heap.size wr v hs/\Below w.heap.size w wr) (fun i _ _=>l.length-(intOf i).toNat)
 case atStart=>exact⟨0,[],[],by omega,rfl,rfl,rfl,by simp,xK.nil _ _,aK _ _⟩
 case round =>
  obtain⟨a,E,hs,hal,rfl,hE,hmE,hlen,hrs,hb⟩:=hrel;have HE:=aA hE;have HME:=aA hmE;have JW:=aA hrs;have qL:=aA hb;by_cases hlt:a<l.length
  · have HOr:=aA (HO.o.below hb);obtain⟨b,off,hao,hbl,eI⟩:=HOr.o.has (by omega);obtain⟨⟨c0,c1,c2,c3,c4,c5,c6⟩,him⟩:=eI a hlt;have hbs:=HO.o.base a hlt;have C6:=HO.o.chk a hlt;have YA:Hid (∀V,Below wr.heap.size wr V->Calls Tryz.prog 161 #[.agg (mY (dA l a)),.slice ao l.length cap] V (yZ (r9 l (dA l a)) V)):=fun V hb=>HPX.o a hlt V (qL.o.trans (hb.mono qL.o.size))
    have gu:Hid (r9 l (dA l a)=none->R=none):=fun g=>by
     rw[HR.o];refine DA (k:=a+1) ?_ l.length (by omega);simp only[qO,HE.o,g]
    have jP:Hid (∀ps,r9 l (dA l a)=some ps->qO l (a+1)=some (E++uE (dA l a) ps (dA l a).i.iV.length)):=fun ps g=>by simp only[qO,HE.o,g]
    have A3:Hid (∀ps,r9 l (dA l a)=some ps->ps.length<=16/\∀j,j<ps.length->Qx (ug ps j)):=fun ps g=>by
     have h1:=FQ g;have h2:=(sD C6).2.2.2.2;exact⟨by omega,Ll C6 hbs.1 hbs.2 _ ps (aI _) g⟩
    obtain⟨b2,SL,aaz,YX,SX⟩:=HO.o.has (by omega);have Qa:=(SX a hlt).2;obtain⟨o,ho⟩:=ex (dA l a);rw[<- ho] at Qa;rw[<- ho] at c0 c1 c2 c3 c4 c5 c6 him hbs C6 YA gu jP A3;have hcn:=sD C6;have Dj:=aA (ue C6);simp only[mY] at YA;obtain⟨bs,SK,hag,aeW,YT⟩:=Qa.iV (by omega);have HLG:=aA YT;rw[hag] at YA c2;clear ho eI hb hE hmE hrs him YT hag Qa SX aaz YX;subst hao;have fV:=aA (qL.o.alloc qL.o.size (.cells #[.string o.i.name,.slice o.a.an o.i.needs.length o.a.cn,.slice (some (Ad bs SK)) o.i.iV.length o.a.cg,.slice o.a.ay o.i.syms.length o.a.cy,.slice o.a.ar o.i.n7.length o.a.cr,I o.i.entry,I o.base] 195));have Dt:=aA ((aK wr.heap.size wr).alloc (aI _) (.cells #[.string o.i.name,.slice o.a.an o.i.needs.length o.a.cn,.slice (some (Ad bs SK)) o.i.iV.length o.a.cg,.slice o.a.ay o.i.syms.length o.a.cy,.slice o.a.ar o.i.n7.length o.a.cr,I o.i.entry,I o.base] 195));have BO:=aA (bO wr #[.string o.i.name,.slice o.a.an o.i.needs.length o.a.cn,.slice (some (Ad bs SK)) o.i.iV.length o.a.cg,.slice o.a.ay o.i.syms.length o.a.cy,.slice o.a.ar o.i.n7.length o.a.cr,I o.i.entry,I o.base] 195);have ES:=aA (YA.o _ Dt.o);cases e:r9 l o with
    | none =>
     have HRN:=aA (gu.o e);rw[e] at ES;clear e gu jP A3;go_wp2_with (go_at_call 161;refine ES.o.mono ?_;rintro e w1 ⟨hb,rfl⟩;have dz:=aA (fV.o.trans (hb.mono fV.o.size));clear hb)
     go_ret2
     show FE R w _ _;rw[HRN.o];exact⟨dz.o,rfl⟩
    | some ps =>
     have amX:=aA (jP.o ps e);obtain⟨hps,hfp⟩:=A3.o ps e;have anK:=aA hfp;rw[e] at ES;clear e gu jP A3 hfp;have Ya:∀q,u4.ownBlock=some q->q<wr.heap.size:=fun q hq=>(JW.o.row.lt q hq).2
     have abm:=aA Ya;clear Ya;go_wp2_with (go_at_call 161;refine ES.o.mono ?_;rintro e w1 ⟨hb,v7,rfl,Ve⟩;have dz:=aA (fV.o.trans (hb.mono fV.o.size));have CG:=aA (Dt.o.trans (hb.mono Dt.o.size));have Dk:=aA Ve;have BO1:=aA (aQ BO.o hb (aT BO.o));have g2:=aB BO1.o 2 rfl;clear hb Ve)
     obtain⟨ap,cp,hv7,hpn⟩:=VE Dk.o u4.ownBlock (fun q hq=>by have:=abm.o q hq;simp;omega);subst hv7;have HPN:=aA hpn;have aiC:=aA (JW.o.below CG.o);have alD:=qL.o.size;obtain⟨rb,Ya⟩:=ex u4.ownBlock;have Ip:=aA Ya;rw[<- Ya] at HPN abm;clear hpn Dk ES YA Dt fV JW CG g2 BO c0 c1 c2 c3 c4 c5 c6 Ya HOr hbl;obtain⟨ob,hob⟩:=ex wr.heap.size;rw[<- hob] at BO1 abm alD;rw[<- hob];have HNE:Hid (some ob≠rb):=fun e=>by have:=abm.o ob e.symm;omega
     clear hob qL abm;go_loopw [31,4] (fun i v wm=>∃(k:Nat) (hs':List bR),k<=o.i.iV.length/\i=I k/\hs'.map dB=E++uE o ps k/\hs'.length<=a*1600+k*255/\xK w.heap.size wm v hs'/\Below w.heap.size w wm/\qF w1 rb wm v.ownBlock) (fun i _ _=>o.i.iV.length-(intOf i).toNat)
     case atStart=>exact⟨0,hs,by omega,rfl,by rw[HME.o];simp[uE],by omega,aiC.o,dz.o,by rw[Ip.o];exact qF.refl _ _⟩
     case round =>
      obtain⟨k,hs',hk,rfl,hmE,hlen',hrs,hb,Nb⟩:=hrel;have Vo:=aA hmE;have Hh:=aA hrs;have HBm:=aA hb;have HFm:=aA Nb;clear aiC Ip hlen HME;by_cases hlk:k<o.i.iV.length
      · obtain⟨c0,c1,c2,c3,c4⟩:=wH hb aeW HLG.o k hlk;have Bi:=Dj.o k hlk;have qH:Hid (uE o ps (k+1)=uE o ps k++wJ o ps (dX o.i.iV k) (dX o.i.iV k).bC.toNat):=rfl;obtain⟨s,XZ⟩:=ex (dX o.i.iV k);rw[<- XZ] at c0 c1 c2 c3 c4 Bi qH;clear XZ;obtain⟨P,hP⟩:∃P:Nat,s.bC=(P:Int):=⟨s.bC.toNat,by omega⟩;obtain⟨pg,pn,dt,wb,qZ0⟩:=s;simp only at c0 c1 c2 c3 c4 Bi qH hP;subst hP;rw[jn] at qH;have hvb:∀q,u4.ownBlock=some q->q<wr.heap.size:=fun q hq=>(Hh.o.row.lt q hq).2
        have HVB:=aA hvb;have fV:=aA (HBm.o.alloc HBm.o.size (.cells #[I pg,I P,.string dt,.bool wb,.bool qZ0] 145));have Dt:=aA ((aK wr.heap.size wr).alloc (aI _) (.cells #[I pg,I P,.string dt,.bool wb,.bool qZ0] 145));have BS:=aA (bO wr #[I pg,I P,.string dt,.bool wb,.bool qZ0] 145);have xx:=aA (HFm.o.trans (qF.cH Dt.o u4.ownBlock));have afD:=aA (Hh.o.below Dt.o);clear hvb hmE hrs hb Nb;go_wp2;obtain⟨vb,hvb⟩:=ex u4.ownBlock;have HVE:=aA hvb;rw[<- hvb] at HVB;obtain⟨WA,jG⟩:=ex (wr.alloc (.cells #[I pg,I P,.string dt,.bool wb,.bool qZ0] 145));rw[<- jG] at fV Dt BS xx afD;rw[<- jG];obtain⟨sb,Vu⟩:=ex wr.heap.size;rw[<- Vu] at BS HVB;rw[<- Vu];have HNS:Hid (some sb≠vb):=fun e=>by have:=HVB.o sb e.symm;omega
        clear hvb jG Vu Dt HVB Hh HBm HFm c0 c1 c2 c3 c4;have hpb:∀n:Nat,n<P->0<=o.base+pg+(n:Int)/\o.base+pg+(n:Int)<=3000:=fun n hn=>by omega
        have HPB:=aA hpb;have Oj:Hid (∀n:Nat,n<P->∀V,Calls Tryz.prog 162 #[.agg #[I pg,I (P:Int),.string dt,.bool wb,.bool qZ0],I n] V fun e w'=>e=.returned (.string (su ⟨pg,P,dt,wb,qZ0⟩ n))/\Below V.heap.size V w'):=fun n hn V=>Nj ⟨pg,P,dt,wb,qZ0⟩ n V (by omega) (by show dt.size<=100000;omega)
        clear hpb;go_loopw [37,4] (fun i v wi=>∃(n:Nat) (hs2:List bR),n<=P/\i=I n/\hs2.map dB=(E++uE o ps k)++wJ o ps ⟨pg,P,dt,wb,qZ0⟩ n/\hs2.length<=a*1600+k*255+n/\xK w.heap.size wi v hs2/\Below w.heap.size w wi/\qF w1 rb wi v.ownBlock/\qF WA vb wi v.ownBlock) (fun i _ _=>P-(intOf i).toNat)
        case atStart=>exact⟨0,hs',by omega,rfl,by rw[Vo.o];simp[wJ],by omega,afD.o,fV.o,xx.o,by rw[HVE.o];exact qF.refl _ _⟩
        case round =>
         obtain⟨n,hs2,hn,rfl,hm3,KT,hrs,hb,Nb,Qc⟩:=hrel;have YC:=aA hm3;have JY:=aA hrs;have UL:=aA hb;have HFi:=aA Nb;have HFs:=aA Qc;have acz:=hb.size;clear afD fV xx HVE Vo hlen' hm3 hrs hb;by_cases YQ:n<P
         · have BOi:=aA (Nb.keep BO1.o HNE.o);have BSi:=aA (Qc.keep BS.o HNS.o);have y6:=aB BOi.o 6 rfl;have z0:=aB BSi.o 0 rfl;have z1:=aB BSi.o 1 rfl;have z2:=aB BSi.o 2 rfl;have z3:=aB BSi.o 3 rfl;have z4:=aB BSi.o 4 rfl;have HPi:=aA (HPN.o.fr Nb);have hpb:=HPB.o n YQ;have HNP:=aA (Ns o ps ⟨pg,P,dt,wb,qZ0⟩ n);have HG2:=aA (Oj.o n YQ);have Xt:Hid (∀V,Below wr.heap.size wr V->Calls Tryz.prog 163 #[I (o.base+pg+(n:Int)),.slice ap ps.length cp] V fun e w'=>(∃v,e=.returned v/\w'.ownsRow V.heap.size 52 2 v (jI (o.base+pg+(n:Int)) ps).length ((jI (o.base+pg+(n:Int)) ps).flatMap y9))/\Below V.heap.size V w'):=fun V hb=>La _ ps ap cp V hpb.1 hpb.2 (HPi.o.below hb) (by omega) anK.o
           have uT:Hid (VP o ps ⟨pg,P,dt,wb,qZ0⟩ n=⟨o.base+pg+(n:Int),su ⟨pg,P,dt,wb,qZ0⟩ n,jI (o.base+pg+(n:Int)) ps⟩):=rfl;obtain⟨F,hF⟩:=ex (jI (o.base+pg+(n:Int)) ps);obtain⟨D,hD⟩:=ex (su ⟨pg,P,dt,wb,qZ0⟩ n);rw[<- hF] at Xt uT;rw[<- hD] at HG2 uT;have hl3:hs2.length<=100000:=by omega
           have hrow:=JY.o.row.lt;have Mv:=aA hrow;clear hF hD Nb Qc hrow;obtain⟨i0,hin,hz0,hz1,hz2⟩:=gm OS;go_wp2_with (first
            | (go_at_call 162;refine(HG2.o _).mono ?_;rintro e w2 ⟨rfl,hb⟩;have Mt:=aA hb;clear hb)
            | (go_at_call 163;refine(Xt.o _ Mt.o).mono ?_;rintro e w3 ⟨⟨v8,rfl,YM⟩,hb⟩;obtain⟨af,cf,hvf,hfn⟩:=Y4 YM u4.ownBlock (fun q hq=>by have:=(Mv.o q hq).2;have:=Mt.o.size;omega);subst hvf;have KM:=aA hfn;have HW3:=aA (Mt.o.trans (hb.mono Mt.o.size));have Al:=aA (HW3.o.alloc HW3.o.size (.cells #[I (o.base+pg+(n:Int)),.string D,.slice af F.length cf] 50));have HR4:=aA (JY.o.below Al.o);have anN:=aA (KM.o.below ((aK w3.heap.size w3).alloc (aI _) (.cells #[I (o.base+pg+(n:Int)),.string D,.slice af F.length cf] 50)));have HN3:=aA (bO w3 #[I (o.base+pg+(n:Int)),.string D,.slice af F.length cf] 50);have alk:w.heap.size<=w3.heap.size:=gy acz HW3.o.size;clear hb YM hfn)
            | (at_builtin;refine E4 _ rfl _ _ 22 rfl w.heap.size 50 i0 (.agg #[I 0,.string ⟨#[]⟩,Nl]) 3 48 Tryz.underlying22 hin hz0 hz1 hz2 rfl (by decide) _ _ _ rfl HR4.o.row (Ad w3.heap.size 0) 1 1 [I (o.base+pg+(n:Int)),.string D,.slice af F.length cf] rfl rfl (tT HN3.o) (by intro u hu;simp at hu;rcases hu with rfl | rfl | rfl <;> rfl) (by decide) (by unfold maxLen;omega) (by omega) (by simp;omega) (w3.heap.size+1) (by simp) ?_;intro gg aim w4 adL hgrow acB ar1;have amV:=aA adL;have R4:=aA hgrow;have Z4:=aA acB;clear adL hgrow acB))
           have ahP:u4.ownBlock=some gg∨gg=(w3.alloc (.cells #[I (o.base+pg+(n:Int)),.string D,.slice af F.length cf] 50)).heap.size:=by rw[ig];exact Z4.o
           have HF4:=aA ((qF.cH Al.o u4.ownBlock).trans (qF.ab7 R4.o R4.o.size ahP));go_roundw
           case rel=>exact⟨n+1,hs2++[⟨o.base+pg+(n:Int),D,F,af,cf⟩],by omega,by go_num,by rw[HNP.o,uT.o,List.map_append,YC.o,rW];rfl,by rw[fk];simp;omega,(xK.more (x:=⟨o.base+pg+(n:Int),D,F,af,cf⟩) HR4.o.fix anN.o amV.o R4.o R4.o.size ahP),((UL.o.trans (Al.o.mono UL.o.size)).grown R4.o (by simp;omega) (fun q hq=>by have:=(Mv.o q hq).1;omega)),HFi.o.trans HF4.o,HFs.o.trans HF4.o⟩
           case measure=>simp[intOf];omega
         · obtain rfl:n=P:=by omega
           clear Nb Qc;go_wp2;go_roundw
           case rel=>exact⟨k+1,hs2,by omega,by go_num,by rw[qH.o,YC.o,rW],by omega,JY.o,UL.o,HFi.o⟩
           case measure=>simp[intOf];omega
      · obtain rfl:k=o.i.iV.length:=by omega
        clear hmE hrs hb Nb;go_wp2;go_roundw
        case rel=>exact⟨a+1,_,hs',by omega,by go_num,amX.o,Vo.o,by omega,Hh.o,HBm.o⟩
        case measure=>simp[intOf];omega
  · obtain rfl:a=l.length:=by omega
    have HX:Hid (R=some E):=by rw[HR.o];omega
    obtain⟨ah,ch,hv,hh,hc⟩:=JW.o.has;subst hv;have HHH:=aA hh;clear hE hmE hrs hb hh;go_wp2
    go_ret2
    show FE R w _ _;rw[HX.o];exact⟨qL.o,hs,ah,ch,HME.o,rfl,HHH.o,hc⟩
open Go.RowKit Go.WideMaps Go.Maps
theorem Qk (p:gT) (libs:List gT) (ao:Option Addr) (cap:Nat) (w:World) (hp:od w p.a p.i) (h:zO w ao libs) (hfp:Fs p.i) (hf:Yn libs)
  (C6:∀k,k<(p::libs).length->∀V,Below w.heap.size w V->Calls Tryz.prog 158 #[.agg (iW (cB (p::libs) k).a (cB (p::libs) k).i)] V fun e w'=>e=.returned (I (kY (cB (p::libs) k).i))/\Below V.heap.size V w')
  (hga:∀m D V,aec (p::libs) m D V->Calls Tryz.prog 133 #[xN (cB (p::libs) 0),.map (some m)] V (KH (p::libs) (Hv (p::libs) (p::libs).length 0 [0]) V))
  (hpx:∀ix ao cap k V,k<(eJ (p::libs) 1 ix).length->Calls Tryz.prog 161 #[.agg (mY (dA (eJ (p::libs) 1 ix) k)),.slice ao (eJ (p::libs) 1 ix).length cap] V (yZ (r9 (eJ (p::libs) 1 ix) (dA (eJ (p::libs) 1 ix) k)) V)) :
  Calls Tryz.prog 93 #[xN p,.slice ao libs.length cap] w (Yl (p::libs) w):=by
 have hsl:libs.length<=140737488351232:=hf.1;have ajd:=aA C6;have ai2:=aA hga;have aiF:=aA hpx;have HL:=aA h;have HIM:Hid (∀V,Below w.heap.size w V->∀k,k<(p::libs).length->od V (cB (p::libs) k).a (cB (p::libs) k).i):=fun V hb k hk=>by
  cases k with
  | zero=>exact hp.below hb
  | succ k =>
   have hk':k<libs.length:=by grind
   obtain⟨b,off,_,_,hl⟩:=h (by omega);exact(hl k hk').2.below hb
 have xx:Hid (∀k,k<(p::libs).length->Fs (cB (p::libs) k).i):=fun k hk=>by
  cases k with
  | zero=>exact hfp
  | succ k=>exact hf.2 k (by grind)
 clear hp h hfp hf C6 hga hpx;have SJ:=aA (((aK w.heap.size w).alloc (aI _) (.cells (iW p.a p.i) 151)).alloc (by simp) (.cells #[Nl,Nl,I 0] 30));have BM:=aA (bM (bO w (iW p.a p.i) 151) (.cells #[Nl,Nl,I 0] 30));have BR0:=bO (w.alloc (.cells (iW p.a p.i) 151)) #[Nl,Nl,I 0] 30;rw[ig] at BR0;have BR:=aA BR0;clear BR0;unfold xN;go_enter Tryz.func93,Tryz.ntmps93;by_cases h6:6<libs.length
 · have HE:Hid (kv (p::libs)=2):=by
    show _=_
    grind [kv]
   clear BM BR;simp only[iW] at SJ ⊢;go_wp2;exact cm (v:=.tuple #[.agg #[Nl,Nl,I 0],I 2]) (by simp[results,Tryz.results93,go_sem]) rfl ⟨SJ.o,by rw[HE.o];simp⟩
 · have h7:(p::libs).length<=7:=by grind
   have afI:Hid ((((w.alloc (.cells (iW p.a p.i) 151)).alloc (.cells #[Nl,Nl,I 0] 30)).alloc (.cells (iW p.a p.i) 151)).ownsRow (w.heap.size+2) 151 6 (.slice (some (Ad (w.heap.size+2) 0)) 1 1) 1 (om p)):=by
    have h:=World.ownsRow_lit (base:=w.heap.size+2) (e:=151) (size:=6) ((w.alloc (.cells (iW p.a p.i) 151)).alloc (.cells #[Nl,Nl,I 0] 30)) (iW p.a p.i) 1 (by simp) (by decide) rfl;have e:((w.alloc (.cells (iW p.a p.i) 151)).alloc (.cells #[Nl,Nl,I 0] 30)).heap.size=w.heap.size+2:=by simp
    rw[e] at h;exact h
   have kJ:=aA (SJ.o.alloc (by simp;omega) (.cells (iW p.a p.i) 151));have BM3:=aA (bM BM.o (.cells (iW p.a p.i) 151));have Vs:=aA (bM BR.o (.cells (iW p.a p.i) 151));clear BM BR SJ;simp only[iW] at afI kJ BM3 Vs ⊢;go_wp2_with (at_builtin;refine Be rfl _ _ rfl (w.heap.size+2) p (w.heap.size+2) (by rfl) afI.o ao cap libs rfl (HL.o.below kJ.o) (by omega) (by simp) ?_;intro gg aim w1 hown hgrow hlt;have dz:=aA (kJ.o.grown hgrow (by simp;omega) (fun q hq=>by grind));have BM1:=aA (G7 BM3.o hgrow (by simp));have BR1:=aA (G7 Vs.o hgrow (by simp));have HI1:=aA (Y3 (l:=p::libs) hown hlt (HIM.o _ dz.o));clear hown hgrow hlt)
   obtain⟨all,hall⟩:=ex (p::libs);have HLI:Hid (cB all 0=p):=by rw[hall];rfl
   have hlen:libs.length+1=all.length:=by grind
   rw[<- hall] at HI1 HIM xx h7 ajd ai2 aiF;rw[<- hall,hlen];clear afI kJ BM3 Vs HL;have anY:=aA hall;clear hall;refine(Lc all _ _ _ HI1.o ⟨by grind [bT],xx.o⟩ (fun k hk V hV=>ajd.o k hk V (dz.o.trans (hV.mono dz.o.size)))).mono ?_;rintro e w2 ⟨hb,hout⟩;have gj:=aA (dz.o.trans (hb.mono dz.o.size));have BM2:=aA (aQ BM1.o hb (aT BM1.o));have BR2:=aA (aQ BR1.o hb (aT BR1.o));clear hb BM1 BR1 dz HI1;by_cases hby:mK all=0
   · rw[aR hby] at hout;obtain⟨m,D,rfl,hmap,Hd⟩:=hout;obtain⟨C6,SS⟩:=Nz hby;have HGI:Hid (aec all m D w2):=⟨by omega,h7,C6,xx.o,SS,HIM.o _ gj.o,hmap,Hd⟩;have Ir:=aA C6;clear hmap Hd SS C6;have m0:=aB BM2.o 0 rfl;have m1:=aB BM2.o 1 rfl;have m2:=aB BM2.o 2 rfl;have m3:=aB BM2.o 3 rfl;have m4:=aB BM2.o 4 rfl;have m5:=aB BM2.o 5 rfl;have Xx:=aA hby;clear hby;go_wp2_with fail
     have HGA:=aA (ai2.o m D w2 HGI.o);rw[HLI.o] at HGA;refine Calls.mono (P:=Tryz.prog) HGA.o ?_;rintro e w3 ⟨hb,hout⟩;have kJ:=aA (gj.o.trans (hb.mono gj.o.size));have BM3:=aA (aQ BM2.o hb (aT BM2.o));have Vs:=aA (aQ BR2.o hb (aT BR2.o));clear hb BM2 BR2 HGA m0 m1 m2 m3 m4 m5;have r0:=aB Vs.o 0 rfl;have r1:=aB Vs.o 1 rfl;have r2:=aB Vs.o 2 rfl;have rf:=aO Vs.o;have rl:=aT Vs.o;cases eg:Hv all all.length 0 [0] with
     | none =>
      rw[eg] at hout;obtain rfl:=hout;have HE:Hid (kv all=6):=by
       grind [kv,Hid.o]
      clear eg;go_wp2;exact cm (v:=.tuple #[.agg #[Nl,Nl,I 0],I 6]) (by simp[results,Tryz.results93,go_sem,r0,r1,r2]) rfl ⟨((kJ.o.setCell (by simp) _).setCell (by simp) _).setCell (by simp) _,by grind [Hid.o]⟩
     | some ix =>
      rw[eg] at hout;obtain⟨hok,ao2,cap2,rfl,hO⟩:=hout;have hpos:=hok.pos;have hle:=hok.le;have HLE:Hid (ui (dA (eJ all 1 ix) (ix.length-1))=iY all 1 ix):=JJ all ix 1 hpos;have HOI:Hid (Lh (eJ all 1 ix) ao2 w3):=by
       refine⟨hO,by grind [jB],fun k hk=>?_,fun k hk=>?_,Tz Ir.o h7 hok⟩
       · grind [jB,qP,Hid.o,Da.lt]
       grind [jB,qP,Hid.o,Da.lt]
      have hxl:ix.length=(eJ all 1 ix).length:=(jB all ix 1).symm;have aby:Hid (kv all=if 256<iY all 1 ix then 3 else match pP (eJ all 1 ix) with
        | none=>7
        | some _=>0):=by
       grind [kv,Hid.o]
      have HEG:=aA eg;obtain⟨EN,hEN⟩:=ex (iY all 1 ix);rw[<- hEN] at HLE aby;have aiG:=aA (aiF.o ix);obtain⟨OI,aeF⟩:=ex (eJ all 1 ix);rw[<- aeF] at HOI aby HLE hO hxl aiG;have HOB:=aA aeF;rw[hxl] at HLE hpos hle;rw[hxl];clear hEN aeF eg hok hxl HGI Xx;obtain⟨b,off,aaz,hbl,eI⟩:=hO hpos;subst aaz;obtain⟨k1,hk1⟩:=ex (OI.length-1);have aao:k1<OI.length:=by omega
      rw[<- hk1] at HLE;obtain⟨⟨c0,c1,c2,c3,c4,c5,c6⟩,him⟩:=eI k1 aao;have oD:=aA (fun V hb=>VH (dA OI k1) V (him.below hb) (HOI.o.chk k1 aao) (by have:=HOI.o.base k1 aao;omega) (by have:=HOI.o.base k1 aao;omega));obtain⟨o,ho⟩:=ex (dA OI k1);rw[<- ho] at c0 c1 c2 c3 c4 c5 c6 oD HLE;simp only[mY] at oD;rw[HLE.o] at oD;have hwr:IntKind.i64.wrap ((OI.length:Int)-1)=(k1:Int):=by grind [IntWalk.i64_in]
      clear ho eI hO him HLE hk1 hlen HIM xx;by_cases as1:256<EN
      · have HE:Hid (kv all=3):=by
         grind
        clear aby;go_wp2_with (go_at_call 134;refine(oD.o _ (aK _ _)).mono ?_;rintro e w4 ⟨rfl,hb⟩;have pZ:=aA (kJ.o.trans (hb.mono kJ.o.size));have BR4:=aA (aQ Vs.o hb (aT Vs.o));have s0:=aB BR4.o 0 rfl;have s1:=aB BR4.o 1 rfl;have s2:=aB BR4.o 2 rfl;have sf:=aO BR4.o;clear hb)
        exact cm (v:=.tuple #[.agg #[Nl,Nl,I 0],I 3]) (by simp[results,Tryz.results93,go_sem,s0,s1,s2]) rfl ⟨((pZ.o.setCell (by simp) _).setCell (by simp) _).setCell (by simp) _,by grind [Hid.o]⟩
      · have SF:Hid (∀V,Lh OI (some (Ad b off)) V->Calls Tryz.prog 135 #[.slice (some (Ad b off)) OI.length cap2] V (FE (pP OI) V)):=fun V hV=>Hq OI _ cap2 V hV (by omega) (fun k hk V' hV'=>aiG.o _ cap2 k V' hk)
        cases es:pP OI with
        | none =>
         have HE:Hid (kv all=7):=by
          grind
         rw[es] at SF;clear aby es;go_wp2_with (first
          | (go_at_call 134;refine(oD.o _ (aK _ _)).mono ?_;rintro e w4 ⟨rfl,hb⟩;have pZ:=aA (kJ.o.trans (hb.mono kJ.o.size));have BR4:=aA (aQ Vs.o hb (aT Vs.o));have abq:=aA (HOI.o.below hb);clear hb)
          | (go_at_call 135;refine(SF.o _ abq.o).mono ?_;rintro e w5 ⟨hb,rfl⟩;have EJ:=aA (pZ.o.trans (hb.mono pZ.o.size));have BR5:=aA (aQ BR4.o hb (aT BR4.o));have s0:=aB BR5.o 0 rfl;have s1:=aB BR5.o 1 rfl;have s2:=aB BR5.o 2 rfl;have sf:=aO BR5.o;clear hb))
         exact cm (v:=.tuple #[.agg #[Nl,Nl,I 0],I 7]) (by simp[results,Tryz.results93,go_sem,s0,s1,s2]) rfl ⟨((EJ.o.setCell (by simp) _).setCell (by simp) _).setCell (by simp) _,by grind [Hid.o]⟩
        | some E =>
         have HE:Hid (kv all=0):=by
          grind
         have HES:=aA es;rw[es] at SF;clear aby es;go_wp2_with (first
          | (go_at_call 134;refine(oD.o _ (aK _ _)).mono ?_;rintro e w4 ⟨rfl,hb⟩;have pZ:=aA (kJ.o.trans (hb.mono kJ.o.size));have BR4:=aA (aQ Vs.o hb (aT Vs.o));have BM4:=aA (aQ BM3.o hb (aT BM3.o));have abq:=aA (HOI.o.below hb);clear hb)
          | (go_at_call 135;refine(SF.o _ abq.o).mono ?_;rintro e w5 ⟨hb,hs,ah,ch,hme,rfl,hhh,hcc⟩;have EJ:=aA (pZ.o.trans (hb.mono pZ.o.size));have BR5:=aA (aQ BR4.o hb (aT BR4.o));have BM5:=aA (aQ BM4.o hb (aT BM4.o));have afM:=aA (abq.o.below hb);have HME:=aA hme;have HHH:=aA hhh;clear hb hme hhh))
         clear SF oD HOI abq Vs BR4 BM3 BM4 kJ r0 r1 r2 rf rl c0 c1 c2 c3 c4 c5 c6 hwr hbl aao;obtain⟨b5,ak3,hbe,Tb,adR⟩:=afM.o.has hpos;obtain⟨⟨d0,d1,d2,d3,d4,d5,d6⟩,dim⟩:=adR 0 hpos;have aeX:b=b5:=by grind
         have ahJ:off=ak3:=by grind
         rw[<- aeX,<- ahJ] at d0 d1 d2 d3 d4 d5 d6;rw[<- aeX] at Tb;simp only[Nat.zero_mul,fW] at d0 d1 d2 d3 d4 d5 d6;have asF:=afM.o.base 0 hpos;have hen:0<=p.i.entry/\p.i.entry<4080:=by
          have h:=JL (Ir.o 0 (by omega))
          grind [Hid.o]
         have SI:Hid ((cB all 0).i.entry=p.i.entry):=by rw[HLI.o];rfl
         have HAR:Hid (∀V,Below w5.heap.size w5 V->Calls Tryz.prog 136 #[.slice (some (Ad b off)) OI.length cap2] V fun e w'=>∃r,e=.returned r/\gQ V.heap.size w' r (py OI)/\Below V.heap.size V w'):=fun V hb=>Ld OI _ cap2 V (afM.o.below hb) (by omega)
         have HAD:=aA (fun V=>Lg (dA OI 0) p.i.entry V (by omega) (by omega) hen.1 (by omega));obtain⟨o0,ho0⟩:=ex (dA OI 0);have HO0:=aA ho0;rw[<- ho0] at d0 d1 d2 d3 d4 d5 d6 HAD;simp only[mY] at HAD;have hne:b≠w.heap.size+1:=fun e=>by
          rw[e] at d6;have h:=BR5.o
          grind [World.cell?]
         have HS:Hid (∀V,Below w5.heap.size w5 V->V.cell? (Ad b off)=some (.string o0.i.name)/\V.cell? (Ad b (off+1))=some (.slice o0.a.an o0.i.needs.length o0.a.cn)/\V.cell? (Ad b (off+2))=some (.slice o0.a.ag o0.i.iV.length o0.a.cg)/\V.cell? (Ad b (off+3))=some (.slice o0.a.ay o0.i.syms.length o0.a.cy)/\V.cell? (Ad b (off+4))=some (.slice o0.a.ar o0.i.n7.length o0.a.cr)/\V.cell? (Ad b (off+5))=some (I o0.i.entry)/\V.cell? (Ad b (off+6))=some (I o0.base)/\V.cell? (Ad w.heap.size 5)=some (I p.i.entry)):=fun V hb=>⟨(fF hb Tb).trans d0,(fF hb Tb).trans d1,(fF hb Tb).trans d2,(fF hb Tb).trans d3,(fF hb Tb).trans d4,(fF hb Tb).trans d5,(fF hb Tb).trans d6,aB (aQ BM5.o hb (aT BM5.o)) 5 rfl⟩
         obtain⟨AD,hAD⟩:=ex (uF o0 p.i.entry);rw[<- hAD] at HAD;have auy:=aA hAD;clear ho0 hAD d0 d1 d2 d3 d4 d5 d6 dim adR hbe aeX ahJ;have pL:=aA (aK w5.heap.size w5).drew;have gu:=aA (HS.o _ pL.o)
         go_region_held3 (fun V=>V.cell? (Ad b off)=some (.string o0.i.name)/\V.cell? (Ad b (off+1))=some (.slice o0.a.an o0.i.needs.length o0.a.cn)/\V.cell? (Ad b (off+2))=some (.slice o0.a.ag o0.i.iV.length o0.a.cg)/\V.cell? (Ad b (off+3))=some (.slice o0.a.ay o0.i.syms.length o0.a.cy)/\V.cell? (Ad b (off+4))=some (.slice o0.a.ar o0.i.n7.length o0.a.cr)/\V.cell? (Ad b (off+5))=some (I o0.i.entry)/\V.cell? (Ad b (off+6))=some (I o0.base)/\V.cell? (Ad w.heap.size 5)=some (I p.i.entry)) (first | exact HS7.o | exact EG.o | exact gu.o | grind [Hid.o])
          (first
           | (go_at_call 136;refine(HAR.o _ pL.o).mono ?_;rintro e w6 ⟨v8,rfl,YM,hb⟩;obtain⟨ar,cr,hrv,hrg⟩:=zL YM;subst hrv;have SG:=aA YM;have ZB:=aA (pL.o.trans (hb.mono pL.o.size));have EG:=aA (HS.o _ ZB.o);clear hb YM hrg)
           | (go_at_call 137;refine(HAD.o _).mono ?_;rintro e w7 ⟨rfl,hb⟩;have HK7:=aA (ZB.o.trans (hb.mono ZB.o.size));have HS7:=aA (HS.o _ HK7.o);have amO:=aA (vA SG.o hb);have BR7:=aA (aQ BR5.o HK7.o (aT BR5.o));have s0:=aB BR7.o 0 rfl;have s1:=aB BR7.o 1 rfl;have s2:=aB BR7.o 2 rfl;have sf:=aO BR7.o;have HSX:Hid (∀u0 u1 u2,(fun V:World=>V.cell? (Ad b off)=some (.string o0.i.name)/\V.cell? (Ad b (off+1))=some (.slice o0.a.an o0.i.needs.length o0.a.cn)/\V.cell? (Ad b (off+2))=some (.slice o0.a.ag o0.i.iV.length o0.a.cg)/\V.cell? (Ad b (off+3))=some (.slice o0.a.ay o0.i.syms.length o0.a.cy)/\V.cell? (Ad b (off+4))=some (.slice o0.a.ar o0.i.n7.length o0.a.cr)/\V.cell? (Ad b (off+5))=some (I o0.i.entry)/\V.cell? (Ad b (off+6))=some (I o0.base)/\V.cell? (Ad w.heap.size 5)=some (I p.i.entry)) (((w7.setCell (Ad (w.heap.size+1) 0) u0).setCell (Ad (w.heap.size+1) 1) u1).setCell (Ad (w.heap.size+1) 2) u2)):=(fun u0 u1 u2=>by grind [qi,Hid.o]);clear hb))
         have anD:=aA (Ql BR7.o (HHH.o.below HK7.o) (.slice ar (py OI).length cr) (.slice ah hs.length ch) (I AD));have aiK:=aA (Tp (rb:=w.heap.size+1) amO.o (iH (aT BR5.o) pL.o.size) (.slice ar (py OI).length cr) (.slice ah hs.length ch) (I AD));have Pw:=aA ((((EJ.o.trans (HK7.o.mono EJ.o.size)).setCell (p:=(Ad (w.heap.size+1) 0)) (by simp) (.slice ar (py OI).length cr)).setCell (p:=(Ad (w.heap.size+1) 1)) (by simp) (.slice ah hs.length ch)).setCell (p:=(Ad (w.heap.size+1) 2)) (by simp) (I AD));go_wp2;refine cm (v:=.tuple #[.agg #[.slice ar (py OI).length cr,.slice ah hs.length ch,I AD],I 0]) (by simp[results,Tryz.results93,go_sem,s0,s1,s2]) rfl ⟨Pw.o,?_⟩;rw[<- anY.o,HE.o,aR rfl];refine⟨ix,E,.slice ar (py OI).length cr,hs,ah,ch,HEG.o,by grind [Hid.o],HME.o,?_,?_,anD.o,hcc⟩
         · grind [Hid.o]
         · rw[<- HOB.o];exact aiK.o.mono (gy EJ.o.size pL.o.size)
   · rw[bf hby] at hout;subst hout;have HE:Hid (kv all=mK all):=by
      show _=_
      grind [kv]
     obtain⟨er,her⟩:=ex (mK all);rw[<- her] at HE hby;rw[<- her];have hbz:(er==0)=false:=by grind
     have r0:=aB BR2.o 0 rfl;have r1:=aB BR2.o 1 rfl;have r2:=aB BR2.o 2 rfl;have rf:=aO BR2.o;clear her;go_wp2;exact cm (v:=.tuple #[.agg #[Nl,Nl,I 0],I er]) (by simp[results,Tryz.results93,go_sem,r0,r1,r2]) rfl ⟨((gj.o.setCell (by simp) _).setCell (by simp) _).setCell (by simp) _,by grind [Hid.o]⟩
end Go.Proofs.YtpgifpeohlllfaaGreat
