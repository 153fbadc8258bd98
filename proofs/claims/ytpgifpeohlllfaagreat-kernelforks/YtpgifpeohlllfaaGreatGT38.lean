import Derived.Test.YtpgifpeohlllfaaGreatGT37
set_option maxHeartbeats 20000000
set_option linter.unusedVariables false
set_option maxRecDepth 100000
set_option linter.unusedSimpArgs false
namespace Go.Proofs.YtpgifpeohlllfaaGreat
namespace LW
open Go.RowKit
open W (ai)
theorem qF {lo:Nat} {w w':World} {v:Value} {l:List AM.Ar} (h:AW.Own lo w v l) (hb:Below w.heap.size w w'):AW.Own lo w' v l:=uK h hb
theorem uN {lo:Nat} {w:World} {v:Value} {l:List AM.Ar} (h:AW.Own lo w v l):∃ao cap,v=.slice ao l.length cap/\(0<l.length->∃g,ao=some (Ad g 0)):=by
 rcases h.2 with⟨hv,h0⟩ | ⟨g,cap,cur,hv,_⟩
 · exact⟨none,0,by rw[hv,h0],fun hl=>by omega⟩
 · exact⟨_,cap,hv,fun _=>⟨g,rfl⟩⟩
theorem qy (l:List LM.Ob) (ao:Option Addr) (cap:Nat) (w:World) (h:Oi l ao w) (hl7:l.length<=7) :
  Calls Tryz.prog 136 #[.slice ao l.length cap] w fun e w'=>∃r,e=.returned r/\AW.Own w.heap.size w' r (LM.oa l)/\Below w.heap.size w w':=by
 have HO:=ai h;clear h;go_enter Tryz.func136,Tryz.ntmps136;go_wp2;go_loopw [11,3] (fun i v wr=>∃(a:Nat),a<=l.length/\i=I a/\AW.Own w.heap.size wr v (LM.RR l a)/\Below w.heap.size w wr) (fun i _ _=>l.length-(intOf i).toNat)
 case atStart=>exact⟨0,by omega,rfl,AW.Own.nil _ _,Below.refl _ _⟩
 case round =>
  obtain⟨a,hal,rfl,hown,hb⟩:=hrel;have HOW:=ai hown;have iY:=ai hb;by_cases hlt:a<l.length
  · have HOr:=ai (HO.o.below hb);obtain⟨b,off,hao,hbl,bN⟩:=HOr.o.has (by omega);obtain⟨⟨c0,c1,c2,c3,c4,c5,c6⟩,him⟩:=bN a hlt;have hbs:=HO.o.base a hlt;have qT:=HO.o.chk a hlt;obtain⟨b2,EM,PE,L6,E8⟩:=HO.o.has (by omega);have Dc:=(E8 a hlt).2;have ju:Hid (LM.RR l (a+1)=LM.Vx (LM.eu l a) (LM.RR l a) (LM.eu l a).i.dw.length):=rfl;obtain⟨o,ho⟩:=ex (LM.eu l a);rw[<- ho] at c0 c1 c2 c3 c4 c5 c6 Dc hbs qT ju;have om:=ai (LM.Dj l a);obtain⟨L,hL⟩:=ex (LM.RR l a);rw[<- hL] at HOW ju om;have hcn:=LM.counts_of qT;have DW:=ai (LM.oV qT);obtain⟨bs,EL,hag,Pz,L1⟩:=Dc.dw (by omega);have HLG:=ai L1;rw[hag] at c2;clear ho hL bN hb hown him L1 hag Dc E8 PE L6 qT;subst hao;have cQ:=ai (iY.o.alloc iY.o.size (.cells #[.string o.i.name,.slice o.a.an o.i.needs.length o.a.cn,.slice (some (Ad bs EL)) o.i.dw.length o.a.cg,.slice o.a.ay o.i.syms.length o.a.cy,.slice o.a.ar o.i.fV.length o.a.cr,I o.i.entry,I o.base] 195));have sZ:=ai ((Below.refl wr.heap.size wr).alloc (Nat.le_refl _) (.cells #[.string o.i.name,.slice o.a.an o.i.needs.length o.a.cn,.slice (some (Ad bs EL)) o.i.dw.length o.a.cg,.slice o.a.ay o.i.syms.length o.a.cy,.slice o.a.ar o.i.fV.length o.a.cr,I o.i.entry,I o.base] 195));have BO:=ai (B.new wr #[.string o.i.name,.slice o.a.an o.i.needs.length o.a.cn,.slice (some (Ad bs EL)) o.i.dw.length o.a.cg,.slice o.a.ay o.i.syms.length o.a.cy,.slice o.a.ar o.i.fV.length o.a.cr,I o.i.entry,I o.base] 195);have XG:=ai (qF HOW.o sZ.o);go_wp2;obtain⟨W1,hW1⟩:=ex (wr.alloc (.cells #[.string o.i.name,.slice o.a.an o.i.needs.length o.a.cn,.slice (some (Ad bs EL)) o.i.dw.length o.a.cg,.slice o.a.ay o.i.syms.length o.a.cy,.slice o.a.ar o.i.fV.length o.a.cr,I o.i.entry,I o.base] 195));rw[<- hW1] at cQ sZ BO XG;rw[<- hW1];obtain⟨ob,Ws⟩:=ex wr.heap.size;rw[<- Ws] at BO;rw[<- Ws];clear hW1 Ws sZ HOW iY HOr c0 c1 c2 c3 c4 c5 c6 hbl;go_loopw [19,3] (fun i v wm=>∃(k:Nat),k<=o.i.dw.length/\i=I k/\AW.Own w.heap.size wm v (LM.Vx o L k)/\Below w.heap.size w wm/\Below W1.heap.size W1 wm) (fun i _ _=>o.i.dw.length-(intOf i).toNat)
    case atStart=>exact⟨0,by omega,rfl,XG.o,cQ.o,Below.refl _ _⟩
    case round =>
     obtain⟨k,hk,rfl,hown,hb,hb1⟩:=hrel;have HOW:=ai hown;have UT:=ai hb;have bE:=ai hb1;clear XG cQ;by_cases hlk:k<o.i.dw.length
     · obtain⟨c0,c1,c2,c3,c4⟩:=M.yV hb Pz HLG.o k hlk;have pC:=DW.o k hlk;have Py:bs<wr.heap.size:=Nat.lt_of_lt_of_le Pz hb.size;have Sa:=ai (LM.J0 o L om.o k);have HKX:Hid (LM.Vx o L (k+1)=LM.Hg o (LM.Vx o L k) (M.dN o.i.dw k)):=rfl;obtain⟨s,JM⟩:=ex (M.dN o.i.dw k);rw[<- JM] at c0 c1 c2 c3 c4 pC HKX;clear JM;obtain⟨L2,hL2⟩:=ex (LM.Vx o L k);rw[<- hL2] at HOW Sa HKX;clear hL2;obtain⟨pg,pn,dt,wb,qZ0⟩:=s;simp only at c0 c1 c2 c3 c4 pC;have cQ:=ai (UT.o.alloc UT.o.size (.cells #[I pg,I pn,.string dt,.bool wb,.bool qZ0] 145));have sZ:=ai ((Below.refl wr.heap.size wr).alloc (Nat.le_refl _) (.cells #[I pg,I pn,.string dt,.bool wb,.bool qZ0] 145));have BS:=ai (B.new wr #[I pg,I pn,.string dt,.bool wb,.bool qZ0] 145);have BOA:=ai (B.alloc (B.below BO.o bE.o (B.isLt BO.o)) (.cells #[I pg,I pn,.string dt,.bool wb,.bool qZ0] 145));have Yh:=ai (bE.o.alloc bE.o.size (.cells #[I pg,I pn,.string dt,.bool wb,.bool qZ0] 145));have aa7:=ai (qF HOW.o sZ.o);clear hown hb hb1;go_wp2;obtain⟨WA,di⟩:=ex (wr.alloc (.cells #[I pg,I pn,.string dt,.bool wb,.bool qZ0] 145));rw[<- di] at cQ BS BOA Yh aa7;rw[<- di];obtain⟨sb,Hx⟩:=ex wr.heap.size;rw[<- Hx] at BS;rw[<- Hx];clear di Hx sZ HOW UT bE c0 c1 c2 c3 c4 Py;have HS:Hid (∀V,Below WA.heap.size WA V->V.cell? (Ad ob 6)=some (I o.base)/\V.cell? (Ad sb 0)=some (I pg)/\V.cell? (Ad sb 1)=some (I pn)/\V.cell? (Ad sb 2)=some (.string dt)/\V.cell? (Ad sb 3)=some (.bool wb)/\V.cell? (Ad sb 4)=some (.bool qZ0)):=fun V hb=>by
        have h1:=B.below BOA.o hb (B.isLt BOA.o);have h2:=B.below BS.o hb (B.isLt BS.o);exact⟨B.cell h1 6 rfl,B.cell h2 0 rfl,B.cell h2 1 rfl,B.cell h2 2 rfl,B.cell h2 3 rfl,B.cell h2 4 rfl⟩
       have s7:Hid (∀V,Calls Tryz.prog 164 #[.agg #[I pg,I pn,.string dt,.bool wb,.bool qZ0]] V fun e w'=>e=.returned (I (LM.tE ⟨pg,pn,dt,wb,qZ0⟩))/\Below V.heap.size V w'):=fun V=>N0 ⟨pg,pn,dt,wb,qZ0⟩ V
       have VF:Hid (∀V,Below WA.heap.size WA V->Calls Tryz.prog 74 #[u3,I (o.base+pg),I pn,I (LM.tE ⟨pg,pn,dt,wb,qZ0⟩)] V fun e w'=>∃r,e=.returned (.tuple #[r,I (AW.o5 L2 (o.base+pg) pn (LM.tE ⟨pg,pn,dt,wb,qZ0⟩)).2])/\AW.Own V.heap.size w' r (AW.o5 L2 (o.base+pg) pn (LM.tE ⟨pg,pn,dt,wb,qZ0⟩)).1/\Below V.heap.size V w'):=fun V hb=>AW.Tb L2 u3 (o.base+pg) pn _ V (qF aa7.o hb).has Sa.o (by unfold AW.gu;omega) (by unfold AW.gu;omega)
       have HMS:Hid (LM.Hg o L2 ⟨pg,pn,dt,wb,qZ0⟩=(AW.o5 L2 (o.base+pg) pn (LM.tE ⟨pg,pn,dt,wb,qZ0⟩)).1):=rfl;obtain⟨PR,PL⟩:=ex (LM.tE ⟨pg,pn,dt,wb,qZ0⟩);rw[<- PL] at s7 VF HMS;obtain⟨MN,hMN⟩:=ex (AW.o5 L2 (o.base+pg) pn PR);rw[<- hMN] at VF HMS;clear PL hMN;have hwr:IntKind.i64.wrap (o.base+pg)=o.base+pg:=IntWalk.i64_in _ (by omega);have je:=ai (Below.refl WA.heap.size WA).drew;have gG:=ai (HS.o _ je.o)
       go_region_held3 (fun V=>V.cell? (Ad ob 6)=some (I o.base)/\V.cell? (Ad sb 0)=some (I pg)/\V.cell? (Ad sb 1)=some (I pn)/\V.cell? (Ad sb 2)=some (.string dt)/\V.cell? (Ad sb 3)=some (.bool wb)/\V.cell? (Ad sb 4)=some (.bool qZ0)) (first | exact ky.o | exact iM.o | exact gG.o)
        (first
         | (go_at_call 164;refine(s7.o _).mono ?_;rintro e w2 ⟨rfl,hb⟩;have jd:=ai (je.o.trans (hb.mono je.o.size));have iM:=ai (HS.o _ jd.o);clear hb)
         | (go_at_call 74;refine(VF.o _ jd.o).mono ?_;rintro e w3 ⟨v8,rfl,Gf,hb⟩;have mC:=ai (jd.o.trans (hb.mono jd.o.size));have ky:=ai (HS.o _ mC.o);have Gq:=ai Gf;clear hb Gf))
       go_wp2;go_roundw
       case rel=>exact⟨k+1,by omega,by go_num,by rw[HKX.o,HMS.o];exact Gq.o.mono (Nat.le_trans cQ.o.size jd.o.size),cQ.o.trans (mC.o.mono cQ.o.size),Yh.o.trans (mC.o.mono Yh.o.size)⟩
       case measure=>simp[intOf];omega
     · obtain rfl:k=o.i.dw.length:=by omega
       clear hown hb hb1;go_wp2;go_roundw
       case rel=>exact⟨a+1,by omega,by go_num,by rw[ju.o];exact HOW.o,UT.o⟩
       case measure=>simp[intOf];omega
  · obtain rfl:a=l.length:=by omega
    have Nj:Hid (LM.oa l=LM.l7 (LM.RR l l.length) (LM.RR l l.length).length):=(LM.Mq _).symm;have om:=ai (LM.Dj l l.length);obtain⟨L,hL⟩:=ex (LM.RR l l.length);rw[<- hL] at HOW Nj om;have hll:=om.o.2;obtain⟨ar,cr,hv,hg⟩:=uN HOW.o;subst hv;have HG:=ai hg;clear hown hb hL hg om;go_wp2;go_loopw [41] (fun i wr=>∃(k:Nat),k<=L.length/\i=I k/\AW.Own w.heap.size wr (.slice ar L.length cr) (LM.l7 L k)/\Below w.heap.size w wr) (fun i _=>L.length-(intOf i).toNat)
    case atStart=>exact⟨0,by omega,rfl,HOW.o,iY.o⟩
    case round =>
     obtain⟨k,hk,rfl,hown,hb⟩:=hrel;have UC:=ai hown;have abA:=ai hb;clear HOW iY hown hb;by_cases hlt:k<L.length
     · obtain⟨g,hg⟩:=HG.o (by omega);subst hg;have Gj:=LM.mj L k;have XH:Hid (wr.ownsRow w.heap.size 47 4 (.slice (some (Ad g 0)) L.length cr) L.length (AM.bk (LM.l7 L k))):=by
        have h:=UC.o;unfold AW.Own at h;rw[Gj] at h;exact h
       have HST:=ai (XH.o.stored (k*4+3) (.bool false));have ju:Hid (AM.bk (LM.l7 L (k+1))=(AM.bk (LM.l7 L k)).set (k*4+3) (.bool false)):=(LM.gX false (LM.l7 L k) k (by omega)).symm;have hlx:=LM.mj L (k+1);have HLX:=ai hlx;have hgl:=XH.o.lt g rfl;have q3:=(XH.o.cellAt (k*4+3) (by omega)).trans (AM.fC (LM.l7 L k) k 3 (by omega) (by omega));have qf:=XH.o.frozenAt (k*4+3);clear Gj hlx;go_wp2;go_roundw
       case rel=>exact⟨k+1,by omega,by go_num,by unfold AW.Own;rw[HLX.o,ju.o];exact HST.o.1,abA.o.setCell (by simp;omega) _⟩
       case measure=>simp[intOf];omega
     · obtain rfl:k=L.length:=by omega
       go_wp2;go_ret;exact⟨_,rfl,by rw[Nj.o];exact UC.o,abA.o⟩
theorem Wm:(Tryz.prog.info? 151).map (fun i=>(i.zero,i.size,i.bytes))=some (some (.agg #[.string ⟨#[]⟩,Nl,Nl,Nl,Nl,I 0]),6,120):=by kernel_rfl
theorem OD {w:World} {b off:Nat} {l:List LM.Li} (h:LM.Qz w b off l):∀j u,(l.flatMap LM.bU)[j]?=some u->w.cell? (((Ad b off):Addr).add j)=some u:=fun j u hj=>by
 obtain⟨k,r,hr,rfl⟩:∃k r,r<6/\j=k*6+r:=⟨j/6,j%6,by omega,by omega⟩;have hlen:∀l:List LM.Li,(l.flatMap LM.bU).length=l.length*6:=fun l=>by
  induction l with
  | nil=>rfl
  | cons a r ih=>rw[List.flatMap_cons,List.length_append,ih,List.length_cons];show 6+_=_;omega
 have hk:k<l.length:=by
  obtain⟨hlt,_⟩:=List.getElem?_eq_some_iff.1 hj;rw[hlen] at hlt;omega
 rw[flat_get LM.bU 6 (fun _=>rfl) LM.li0 l k r hk hr] at hj;obtain⟨⟨c0,c1,c2,c3,c4,c5⟩,_⟩:=h k hk;rw[Addr.add_lit,<- Nat.add_assoc]
 match r,hr with
 | 0,_=>exact c0.trans hj
 | 1,_=>exact c1.trans hj
 | 2,_=>exact c2.trans hj
 | 3,_=>exact c3.trans hj
 | 4,_=>exact c4.trans hj
 | 5,_=>exact c5.trans hj
theorem VZ {w:World} {base:Nat} {g cap:Nat} {l:List LM.Li} (h:w.ownsRow base 151 6 (.slice (some (Ad g 0)) l.length cap) l.length (l.flatMap LM.bU)) (hg:g<w.heap.size) (hi:∀k,k<l.length->M.nX w (LM.cO l k).a (LM.cO l k).i) :
  LM.I4 w (some (Ad g 0)) l:=fun hl=>by
 refine⟨g,0,rfl,hg,fun k hk=>?_⟩;rw[Nat.zero_add];have hh:∀j,j<6->w.cell? (Ad g (k*6+j))=(LM.bU (LM.cO l k))[j]?:=fun j hj=>(h.cellAt _ (by omega)).trans (flat_get LM.bU 6 (fun _=>rfl) LM.li0 l k j hk hj)
 exact⟨⟨hh 0 (by omega),hh 1 (by omega),hh 2 (by omega),hh 3 (by omega),hh 4 (by omega),hh 5 (by omega)⟩,hi k hk⟩
theorem rR {ops:Array Oper} {rest:List Oper} {o:Oper} {a:Act} {w:World} {Q:Exit->Act->World->Prop} (hgd:o.guard=none) (s x:Operand)
  (ho:o.op=.call { callee:=.builtin .append,args:=#[s,x],argTypes:=#[187,187] })
  (base:Nat) (p:LM.Li) (g0:Nat) (hs:a.eval s=.slice (some (Ad g0 0)) 1 1) (hown:w.ownsRow base 151 6 (.slice (some (Ad g0 0)) 1 1) 1 (LM.bU p))
  (ao:Option Addr) (c:Nat) (libs:List LM.Li) (hx:a.eval x=.slice ao libs.length c) (bN:LM.I4 w ao libs) (h6:libs.length<=6) (hbase:base<=w.heap.size)
  (h:∀g cap w',w'.ownsRow base 151 6 (.slice (some (Ad g 0)) (libs.length+1) cap) (libs.length+1) ((p::libs).flatMap LM.bU)->w.grownBy w' (some g0)->g<w'.heap.size->wpList Tryz.prog ops Q rest (a.put o.dst (.slice (some (Ad g 0)) (libs.length+1) cap)) w'):wpList Tryz.prog ops Q (o::rest) a w:=by
 obtain⟨i0,hin,hz0,hz1,hz2⟩:=info_parts Wm;by_cases h0:0<libs.length
 · obtain⟨b,off,rfl,hb,hl⟩:=bN h0;have hlen:∀l:List LM.Li,(l.flatMap LM.bU).length=l.length*6:=fun l=>by
    induction l with
    | nil=>rfl
    | cons a r ih=>rw[List.flatMap_cons,List.length_append,ih,List.length_cons];show 6+_=_;omega
   have hone:∀u∈libs.flatMap LM.bU,u.oneCell'=true:=fun u hu=>by
    obtain⟨y,_,hy⟩:=List.mem_flatMap.1 hu;simp only[LM.bU,M.fK] at hy;simp at hy;rcases hy with rfl | rfl | rfl | rfl | rfl | rfl <;> rfl
   refine wpList_append_lies w hgd s x 187 ho base 151 i0 (.agg #[.string ⟨#[]⟩,Nl,Nl,Nl,Nl,I 0]) 6 120 Tryz.underlying187 hin hz0 hz1 hz2 rfl (by decide) _ 1 _ hs hown (Ad b off) libs.length c (libs.flatMap LM.bU) hx (hlen _) (OD hl) hone h0 (by unfold maxLen;omega) (by omega) hbase _ rfl ?_;intro g cap w' h2 h3 _ h5;have e:1+libs.length=libs.length+1:=Nat.add_comm _ _;rw[e] at h2 ⊢;exact h g cap w' h2 h3 h5
 · have e0:libs=[]:=List.eq_nil_of_length_eq_zero (by omega);subst e0;have hg0:g0<w.heap.size:=(hown.lt g0 rfl).2;refine wpList_plain hgd fun K hK=>?_
   have hsrc:Src Tryz.prog i0.size 187 (.slice ao 0 c) 0 [] w:=⟨.inl ⟨_,Tryz.underlying187⟩,fun w'=>by simp[Builtin.lenOf],by cases ao <;> simp[Builtin.firstCells,loadCells,loadCellsFrom],by cases ao <;> simp[Builtin.firstCells,loadCells,loadCellsFrom],by simp,by simp⟩;have hr:=run_append_nothing (P:=Tryz.prog) w 187 187 o.type 151 i0 Tryz.underlying187 hin (some (Ad g0 0)) 1 1 (Nat.le_refl _) (.slice ao 0 c) hsrc;have hx':a.eval x=.slice ao 0 c:=hx;unfold Oper.wp execOp;simp only[ho,resolve,invoke,builtin,Sem.run_bind,Sem.run_pure,Result.andThen_ok,List.map_toArray,List.map_cons,List.map_nil,hs,hx',hr];refine hK _ _ (h g0 1 w ?_ ⟨rfl,rfl,rfl,Nat.le_refl _,fun _ _ _=>rfl⟩ hg0);have e:([p].flatMap LM.bU)=LM.bU p:=by simp
   rw[e];exact hown
end LW
namespace LW
open Go.RowKit Go.WideMaps Go.Maps
open W (ai)
def aaN (all:List LM.Li) (w:World) (e:Ending) (w':World):Prop:=Below w.heap.size w w' /\
 if LM.il all=0 then ∃(ix:List Nat) (E:List LM.Sp) (r:Value) (hs:List LM.Sh) (ao:Option Addr) (cap:Nat),LM.YB all all.length 0 [0]=some ix/\LM.ma (LM.cT all 1 ix)=some E/\hs.map LM.plain=E /\
  e=.returned (.tuple #[.agg #[r,.slice ao hs.length cap,I (LM.wV (LM.eu (LM.cT all 1 ix) 0) (LM.cO all 0).i.entry)],I 0])/\AW.Own w.heap.size w' r (LM.oa (LM.cT all 1 ix))/\LM.jb w' ao hs/\hs.length<=cap
 else e=.returned (.tuple #[.agg #[Nl,Nl,I 0],I (LM.il all)])
theorem kS (V:World) (rb b j:Nat) (u0 u1 u2:Value) (h:b≠rb):(((V.setCell (Ad rb 0) u0).setCell (Ad rb 1) u1).setCell (Ad rb 2) u2).cell? (Ad b j)=V.cell? (Ad b j):=by
 rw[World.cell?_setCell_far _ (Ad rb 2) (Ad b j) u2 (Ne.symm h),World.cell?_setCell_far _ (Ad rb 1) (Ad b j) u1 (Ne.symm h),World.cell?_setCell_far _ (Ad rb 0) (Ad b j) u0 (Ne.symm h)]
def NQ (V:World) (rb:Nat) (u0 u1 u2:Value):World:=((V.setCell (Ad rb 0) u0).setCell (Ad rb 1) u1).setCell (Ad rb 2) u2
theorem Be (V:World) (rb:Nat) (u0 u1 u2:Value):(NQ V rb u0 u1 u2).heap.size=V.heap.size:=by simp[NQ]
theorem U9 {V:World} {rb b off:Nat} {t:TypeId} {x:Int} {y:ByteArray} (h:V.heap[rb]?=some (.cells #[Nl,Nl,I 0] t (0,0))) (c0:V.cell? (Ad b off)=some (I x)) (c1:V.cell? (Ad b (off+1))=some (.string y)):b≠rb:=fun e=>by
 rw[e] at c0 c1;simp only[World.cell?,h] at c0 c1
 match off with
 | 0=>simp at c0
 | 1=>simp at c0
 | 2=>simp at c1
 | n+3=>simp at c0
theorem Ma {V:World} {rb:Nat} {t:TypeId} (h:V.heap[rb]?=some (.cells #[Nl,Nl,I 0] t (0,0))) {ao:Option Addr} {l:List LM.Fx} (g:LM.oc V ao l) (u0 u1 u2:Value):LM.oc (NQ V rb u0 u1 u2) ao l:=fun hl=>by
 obtain⟨b,off,e,hb,bN⟩:=g hl;obtain⟨c0,c1⟩:=bN 0 hl;have hne:=U9 h c0 c1;refine⟨b,off,e,by rw[Be];exact hb,fun k hk=>?_⟩;obtain⟨d0,d1⟩:=bN k hk;exact⟨(kS V rb b _ u0 u1 u2 hne).trans d0,(kS V rb b _ u0 u1 u2 hne).trans d1⟩
theorem L9 {V:World} {rb:Nat} {t:TypeId} (h:V.heap[rb]?=some (.cells #[Nl,Nl,I 0] t (0,0))) {ao:Option Addr} {l:List LM.Sh} (g:LM.jb V ao l) (u0 u1 u2:Value):LM.jb (NQ V rb u0 u1 u2) ao l:=fun hl=>by
 obtain⟨b,off,e,hb,bN⟩:=g hl;obtain⟨c0,c1,_,_⟩:=bN 0 hl;have hne:=U9 h c0 c1;refine⟨b,off,e,by rw[Be];exact hb,fun k hk=>?_⟩;obtain⟨d0,d1,d2,d3⟩:=bN k hk;exact⟨(kS V rb b _ u0 u1 u2 hne).trans d0,(kS V rb b _ u0 u1 u2 hne).trans d1,(kS V rb b _ u0 u1 u2 hne).trans d2,Ma h d3 u0 u1 u2⟩
theorem N4 {V:World} {rb lo:Nat} {v:Value} {l:List AM.Ar} (h:AW.Own lo V v l) (hlt:rb<lo) (u0 u1 u2:Value):AW.Own lo (NQ V rb u0 u1 u2) v l :=
 ownsRow_setCell_below (ownsRow_setCell_below (ownsRow_setCell_below h hlt _) hlt _) hlt _
theorem FE (l:List LM.Li) (ao:Option Addr) (cap:Nat) (w:World) (h:LM.I4 w ao l) (hf:LM.abE l) (qT:∀k,k<l.length->∀V,Below w.heap.size w V->Calls Tryz.prog 158 #[.agg (M.fK (LM.cO l k).a (LM.cO l k).i)] V fun e w'=>e=.returned (I (M.kq (LM.cO l k).i))/\Below V.heap.size V w'):Calls Tryz.prog 132 #[.slice ao l.length cap] w (aeX l w):=by
 have HH:=ai h;have HF:=ai hf;have D4:=ai qT;have hn:l.length<=140737488351232:=hf.1;clear h hf qT;have hmm:=@run_makeMap Tryz.prog;go_enter Tryz.func132,Tryz.ntmps132;go_wp2;go_loopw [12] (fun i wr=>∃k:Nat,k<=l.length/\i=I k/\LM.lZ l k=0/\Below w.heap.size w wr) (fun i _=>l.length-(intOf i).toNat)
 case atStart=>exact⟨0,by omega,rfl,rfl,Below.refl _ _⟩
 case round =>
  obtain⟨k,hk,rfl,hz,hb⟩:=hrel;have HZ:=ai hz;have iY:=ai hb;clear hz;by_cases hlt:k<l.length
  · obtain⟨b,off,hao,hbl,bN⟩:=(HH.o.below hb) (by omega);subst hao;obtain⟨⟨c0,c1,c2,c3,c4,c5⟩,hi⟩:=bN k hlt;have rJ:=HF.o.2 k hlt;have eQ:=ai (D4.o k hlt);have HE:Hid (LM.lZ l (k+1)=M.kq (LM.cO l k).i):=by
     show _=_;simp only[LM.lZ];rw[if_pos HZ.o]
    have Gb:Hid (M.kq (LM.cO l k).i≠0->LM.mX l=M.kq (LM.cO l k).i):=fun g=>by
     have e1:LM.lZ l (k+1)≠0:=by rw[HE.o];exact g
     have e2:=LM.wP l (k+1) e1 l.length (by omega);unfold LM.mX;rw[e2,if_neg e1,HE.o]
    obtain⟨x,hx⟩:=ex (LM.cO l k);rw[<- hx] at c0 c1 c2 c3 c4 c5 hi rJ HE Gb eQ;clear hx bN hb;obtain⟨⟨nm,ns,gs,ys,rs,en⟩,⟨an,cn,ag,cg,ay,cy,ar,cr⟩⟩:=x;simp only at c0 c1 c2 c3 c4 c5;have cQ:=ai (iY.o.alloc iY.o.size (.cells #[.string nm,.slice an ns.length cn,.slice ag gs.length cg,.slice ay ys.length cy,.slice ar rs.length cr,I en] 151));have HC:Hid (∀W,Below wr.heap.size wr W->Calls Tryz.prog 158 #[.agg #[.string nm,.slice an ns.length cn,.slice ag gs.length cg,.slice ay ys.length cy,.slice ar rs.length cr,I en]] W fun e w'=>e=.returned (I (M.kq ⟨nm,ns,gs,ys,rs,en⟩))/\Below W.heap.size W w'):=fun V hb=>eQ.o V (iY.o.trans (hb.mono iY.o.size))
    clear hi rJ eQ D4;obtain⟨c,hc⟩:=ex (M.kq ⟨nm,ns,gs,ys,rs,en⟩);simp only at HE Gb;rw[<- hc] at HC HE Gb;clear hc;by_cases hcz:c=0
    · subst hcz;clear Gb;go_wp2_with (go_at_call 158;refine(HC.o _ ((Below.refl _ _).alloc (Nat.le_refl _) _)).mono ?_;rintro e w1 ⟨rfl,hb⟩;have cQ:=ai (cQ.o.trans (hb.mono cQ.o.size));clear hb)
      go_roundw
      case rel=>exact⟨k+1,by omega,by go_num,HE.o,cQ.o⟩
      case measure=>simp[intOf];omega
    · have Sm:=ai (Gb.o hcz);have aku:(c==0)=false:=by simpa using hcz
      clear Gb HE;go_wp2_with (go_at_call 158;refine(HC.o _ ((Below.refl _ _).alloc (Nat.le_refl _) _)).mono ?_;rintro e w1 ⟨rfl,hb⟩;have cQ:=ai (cQ.o.trans (hb.mono cQ.o.size));clear hb)
      go_ret2
      refine⟨cQ.o,?_⟩;rw[Sm.o,if_neg hcz];rfl
  · obtain rfl:k=l.length:=by omega
    clear hb;obtain⟨m,hm⟩:=ex wr.heap.size;have hsm:w.heap.size<=m:=by rw[hm];exact iY.o.size
    have HM0:Hid ((wr.alloc (.map #[] 0)).ownsMap Tryz.prog 9 LM.Rv m 0 (.map [])):=by
     rw[hm];exact World.ownsMap_made _ _ _ _
    have HM:=ai hm;clear hm;go_wp2;rw[<- HM.o];go_loopw [25] (fun i wi=>∃(k:Nat) (D:DataW Value),k<=l.length/\i=I k/\wi.ownsMap Tryz.prog 9 LM.Rv m k D/\LM.Nm l k D/\Below w.heap.size w wi) (fun i _=>l.length-(intOf i).toNat)
    case atStart=>exact⟨0,.map [],Nat.zero_le _,rfl,HM0.o,LM.SY l,iY.o.alloc iY.o.size _⟩
    case round =>
     obtain⟨k,D,hk,rfl,hown,pO,hb⟩:=hrel;have HW:=ai hown;have HN:=ai pO;have Ga:=ai hb;by_cases hlt:k<l.length
     · obtain⟨b,off,hao,hbl,bN⟩:=(HH.o.below hb) (by omega);subst hao;obtain⟨⟨c0,c1,c2,c3,c4,c5⟩,hi⟩:=bN k hlt;have rJ:=(HF.o.2 k hlt).name;have VE:=ai (LM.SZ hlt hown.isMap (hown.tidy W.law) pO);obtain⟨x,hx⟩:=ex (LM.cO l k);rw[<- hx] at c0 c1 c2 c3 c4 c5 rJ VE;clear hx bN hb hi hown pO;obtain⟨⟨nm,ns,gs,ys,rs,en⟩,⟨an,cn,ag,cg,ay,cy,ar,cr⟩⟩:=x;simp only at c0 c1 c2 c3 c4 c5 rJ;have hkey:=W.JI rJ;have dG:k<maxLen:=by unfold maxLen;omega
       have cQ:=ai (Ga.o.alloc Ga.o.size (.cells #[.string nm,.slice an ns.length cn,.slice ag gs.length cg,.slice ay ys.length cy,.slice ar rs.length cr,I en] 151));have eZ:=ai (HW.o.alloc (.cells #[.string nm,.slice an ns.length cn,.slice ag gs.length cg,.slice ay ys.length cy,.slice ar rs.length cr,I en] 151));go_wp2_with (first | (at_mapUpdate;refine wpList_mapUpdate_own _ rfl _ _ _ 188 rfl 9 151 W.law Tryz.underlying188 LM.Rv m k D rfl eZ.o dG _ _ _ rfl rfl hkey _ [] rfl ?_;intro w1 hown1 hgrow1;have uA:=ai hown1;have bE:=ai (cQ.o.grown hgrow1 cQ.o.size (fun j hj=>by cases hj;exact hsm));clear hown1 hgrow1) | go_in)
       go_roundw
       case rel=>exact⟨k+1,_,by omega,by go_num,uA.o,VE.o,bE.o⟩
       case measure=>simp[intOf];omega
     · obtain rfl:k=l.length:=by omega
       have hlen:=hown.len Tryz.underlying188 3;have HE0:=ai HZ.o;by_cases ho:M.jE (LM.gh l) l.length=true
       · have hsz:=pO.all.2 ho;have Sm:Hid (LM.mX l=0):=by
          show _=_;unfold LM.mX M.qg;rw[if_pos HE0.o,LM.ji,ho];rfl
         rw[hsz] at hlen;clear hown pO hb hsz ho;go_wp2
         go_ret2
         refine⟨Ga.o,?_⟩;rw[Sm.o,if_pos rfl];exact⟨_,D,rfl,HW.o,HN.o⟩
       · have hsz:Maps.size D<l.length:=by
          have h1:=pO.le;have h2:=pO.all;rcases Nat.lt_or_ge (Maps.size D) l.length with g | g
          · exact g
          · exact(ho (h2.1 (by omega))).elim
         have Sm:Hid (LM.mX l=5):=by
          show _=_;unfold LM.mX M.qg;rw[if_pos HE0.o,LM.ji,if_neg ho]
         obtain⟨z,hz⟩:=ex (Maps.size D);rw[<- hz] at hlen hsz;have hsz':(z:Int)<(l.length:Int):=by omega
         clear hown pO hb ho hz;go_wp2
         go_ret2
         refine⟨Ga.o,?_⟩;rw[Sm.o,if_neg (by decide)];rfl
end LW
namespace LW
open Go.RowKit
open W (ai)
theorem Aq (l:List LM.Ob) (ao:Option Addr) (cap:Nat) (w:World) (h:Oi l ao w) (hl7:l.length<=7) (hpx:∀k,k<l.length->∀V,Below w.heap.size w V->Calls Tryz.prog 161 #[.agg (LM.lV (LM.eu l k)),.slice ao l.length cap] V (Cr (LM.yH l (LM.eu l k)) V)):Calls Tryz.prog 135 #[.slice ao l.length cap] w (J9 (LM.ma l) w):=by
 have HO:=ai h;have HPX:=ai hpx;clear h hpx;obtain⟨R,hR⟩:=ex (LM.ma l);have HR:Hid (R=LM.rD l l.length):=hR;rw[<- hR];clear hR;obtain⟨i0,hin,hz0,hz1,hz2⟩:=info_parts y8;go_enter Tryz.func135,Tryz.ntmps135;go_wp2;go_loopw [15,4] (fun i v wr=>∃(a:Nat) (E:List LM.Sp) (hs:List LM.Sh),a<=l.length/\i=I a/\LM.rD l a=some E/\hs.map LM.plain=E/\hs.length<=a*1600/\Rs w.heap.size wr v hs/\Below w.heap.size w wr) (fun i _ _=>l.length-(intOf i).toNat)
 case atStart=>exact⟨0,[],[],by omega,rfl,rfl,rfl,by simp,Rs.nil _ _,Below.refl _ _⟩
 case round =>
  obtain⟨a,E,hs,hal,rfl,hE,Wv,hlen,hrs,hb⟩:=hrel;have HE:=ai hE;have HME:=ai Wv;have xE:=ai hrs;have iY:=ai hb;by_cases hlt:a<l.length
  · have HOr:=ai (HO.o.below hb);obtain⟨b,off,hao,hbl,bN⟩:=HOr.o.has (by omega);obtain⟨⟨c0,c1,c2,c3,c4,c5,c6⟩,him⟩:=bN a hlt;have hbs:=HO.o.base a hlt;have qT:=HO.o.chk a hlt;have Nb:Hid (∀V,Below wr.heap.size wr V->Calls Tryz.prog 161 #[.agg (LM.lV (LM.eu l a)),.slice ao l.length cap] V (Cr (LM.yH l (LM.eu l a)) V)):=fun V hb=>HPX.o a hlt V (iY.o.trans (hb.mono iY.o.size))
    have gG:Hid (LM.yH l (LM.eu l a)=none->R=none):=fun g=>by
     rw[HR.o];refine LM.yN (k:=a+1) ?_ l.length (by omega);simp only[LM.rD,HE.o,g]
    have kr:Hid (∀ps,LM.yH l (LM.eu l a)=some ps->LM.rD l (a+1)=some (E++LM.vK (LM.eu l a) ps (LM.eu l a).i.dw.length)):=fun ps g=>by simp only[LM.rD,HE.o,g]
    have pG:Hid (∀ps,LM.yH l (LM.eu l a)=some ps->ps.length<=16/\∀j,j<ps.length->LM.Yl (LM.Ay ps j)):=fun ps g=>by
     have h1:=LM.Bp g;have h2:=(LM.counts_of qT).2.2.2.2;exact⟨by omega,LM.Jo qT hbs.1 hbs.2 _ ps (Nat.le_refl _) g⟩
    obtain⟨b2,EM,PE,L6,E8⟩:=HO.o.has (by omega);have Dc:=(E8 a hlt).2;obtain⟨o,ho⟩:=ex (LM.eu l a);rw[<- ho] at Dc;rw[<- ho] at c0 c1 c2 c3 c4 c5 c6 him hbs qT Nb gG kr pG;have hcn:=LM.counts_of qT;have DW:=ai (LM.oV qT);have YM:=ai him;simp only[LM.lV] at Nb;obtain⟨bs,EL,hag,Pz,L1⟩:=Dc.dw (by omega);have HLG:=ai L1;rw[hag] at Nb c2;clear ho bN hb hE Wv hrs him L1 hag Dc E8 PE L6 YM;subst hao;have cQ:=ai (iY.o.alloc iY.o.size (.cells #[.string o.i.name,.slice o.a.an o.i.needs.length o.a.cn,.slice (some (Ad bs EL)) o.i.dw.length o.a.cg,.slice o.a.ay o.i.syms.length o.a.cy,.slice o.a.ar o.i.fV.length o.a.cr,I o.i.entry,I o.base] 195));have sZ:=ai ((Below.refl wr.heap.size wr).alloc (Nat.le_refl _) (.cells #[.string o.i.name,.slice o.a.an o.i.needs.length o.a.cn,.slice (some (Ad bs EL)) o.i.dw.length o.a.cg,.slice o.a.ay o.i.syms.length o.a.cy,.slice o.a.ar o.i.fV.length o.a.cr,I o.i.entry,I o.base] 195));have BO:=ai (B.new wr #[.string o.i.name,.slice o.a.an o.i.needs.length o.a.cn,.slice (some (Ad bs EL)) o.i.dw.length o.a.cg,.slice o.a.ay o.i.syms.length o.a.cy,.slice o.a.ar o.i.fV.length o.a.cr,I o.i.entry,I o.base] 195);have s8:=ai (Nb.o _ sZ.o);cases e:LM.yH l o with
    | none =>
     have HRN:=ai (gG.o e);rw[e] at s8;clear e gG kr pG;go_wp2_with (go_at_call 161;refine s8.o.mono ?_;rintro e w1 ⟨hb,rfl⟩;have bE:=ai (cQ.o.trans (hb.mono cQ.o.size));clear hb)
     go_ret2
     show J9 R w _ _;rw[HRN.o];exact⟨bE.o,rfl⟩
    | some ps =>
     have afn:=ai (kr.o ps e);obtain⟨hps,ZW⟩:=pG.o ps e;have af5:=ai ZW;rw[e] at s8;clear e gG kr pG ZW;have Gg:∀q,u4.ownBlock=some q->q<wr.heap.size:=fun q hq=>(xE.o.row.lt q hq).2
     have QI:=ai Gg;clear Gg;go_wp2_with (go_at_call 161;refine s8.o.mono ?_;rintro e w1 ⟨hb,v7,rfl,Hy⟩;have bE:=ai (cQ.o.trans (hb.mono cQ.o.size));have uA:=ai (sZ.o.trans (hb.mono sZ.o.size));have s7:=ai Hy;have BO1:=ai (B.below BO.o hb (B.isLt BO.o));have g2:=B.cell BO1.o 2 rfl;clear hb Hy)
     obtain⟨ap,cp,hv7,hpn⟩:=SJ s7.o u4.ownBlock (fun q hq=>by have:=QI.o q hq;simp;omega);subst hv7;have HPN:=ai hpn;have aa0:=ai (xE.o.below uA.o);have adP:=iY.o.size;obtain⟨rb,Gg⟩:=ex u4.ownBlock;have vt:=ai Gg;rw[<- Gg] at HPN QI;clear hpn s7 s8 Nb sZ cQ xE uA g2 BO c0 c1 c2 c3 c4 c5 c6 Gg HOr hbl;obtain⟨ob,Ws⟩:=ex wr.heap.size;rw[<- Ws] at BO1 QI adP;rw[<- Ws];have HNE:Hid (some ob≠rb):=fun e=>by have:=QI.o ob e.symm;omega
     clear Ws iY QI;go_loopw [31,4] (fun i v wm=>∃(k:Nat) (hs':List LM.Sh),k<=o.i.dw.length/\i=I k/\hs'.map LM.plain=E++LM.vK o ps k/\hs'.length<=a*1600+k*255/\Rs w.heap.size wm v hs'/\Below w.heap.size w wm/\Fr w1 rb wm v.ownBlock) (fun i _ _=>o.i.dw.length-(intOf i).toNat)
     case atStart=>exact⟨0,hs,by omega,rfl,by rw[HME.o];simp[LM.vK],by omega,aa0.o,bE.o,by rw[vt.o];exact Fr.refl _ _⟩
     case round =>
      obtain⟨k,hs',hk,rfl,Wv,hlen',hrs,hb,MT⟩:=hrel;have DZ:=ai Wv;have Aa:=ai hrs;have UT:=ai hb;have HFm:=ai MT;clear aa0 vt hlen HME;by_cases hlk:k<o.i.dw.length
      · obtain⟨c0,c1,c2,c3,c4⟩:=M.yV hb Pz HLG.o k hlk;have pC:=DW.o k hlk;have Py:bs<wr.heap.size:=Nat.lt_of_lt_of_le Pz hb.size;have ju:Hid (LM.vK o ps (k+1)=LM.vK o ps k++LM.yG o ps (M.dN o.i.dw k) (M.dN o.i.dw k).aJ.toNat):=rfl;obtain⟨s,JM⟩:=ex (M.dN o.i.dw k);rw[<- JM] at c0 c1 c2 c3 c4 pC ju;clear JM;obtain⟨P,hP⟩:∃P:Nat,s.aJ=(P:Int):=⟨s.aJ.toNat,by omega⟩;obtain⟨pg,pn,dt,wb,qZ0⟩:=s;simp only at c0 c1 c2 c3 c4 pC ju hP;subst hP;rw[Int.toNat_natCast] at ju;have hvb:∀q,u4.ownBlock=some q->q<wr.heap.size:=fun q hq=>(Aa.o.row.lt q hq).2
        have HVB:=ai hvb;have cQ:=ai (UT.o.alloc UT.o.size (.cells #[I pg,I P,.string dt,.bool wb,.bool qZ0] 145));have sZ:=ai ((Below.refl wr.heap.size wr).alloc (Nat.le_refl _) (.cells #[I pg,I P,.string dt,.bool wb,.bool qZ0] 145));have BS:=ai (B.new wr #[I pg,I P,.string dt,.bool wb,.bool qZ0] 145);have om:=ai (HFm.o.trans (Fr.bc sZ.o u4.ownBlock));have Xw:=ai (Aa.o.below sZ.o);clear hvb Wv hrs hb MT;go_wp2;obtain⟨vb,hvb⟩:=ex u4.ownBlock;have HVE:=ai hvb;rw[<- hvb] at HVB;obtain⟨WA,di⟩:=ex (wr.alloc (.cells #[I pg,I P,.string dt,.bool wb,.bool qZ0] 145));rw[<- di] at cQ sZ BS om Xw;rw[<- di];obtain⟨sb,Hx⟩:=ex wr.heap.size;rw[<- Hx] at BS HVB;rw[<- Hx];have VE:Hid (some sb≠vb):=fun e=>by have:=HVB.o sb e.symm;omega
        clear hvb di Hx sZ HVB Aa UT HFm c0 c1 c2 c3 c4 Py;have hpb:∀n:Nat,n<P->0<=o.base+pg+(n:Int)/\o.base+pg+(n:Int)<=3000:=fun n hn=>by omega
        have HPB:=ai hpb;have vw:Hid (∀n:Nat,n<P->∀V,Calls Tryz.prog 162 #[.agg #[I pg,I (P:Int),.string dt,.bool wb,.bool qZ0],I n] V fun e w'=>e=.returned (.string (LM.tI ⟨pg,P,dt,wb,qZ0⟩ n))/\Below V.heap.size V w'):=fun n hn V=>G8 ⟨pg,P,dt,wb,qZ0⟩ n V (by omega) (by show dt.size<=100000;omega)
        clear hpb;go_loopw [37,4] (fun i v wi=>∃(n:Nat) (hs2:List LM.Sh),n<=P/\i=I n/\hs2.map LM.plain=(E++LM.vK o ps k)++LM.yG o ps ⟨pg,P,dt,wb,qZ0⟩ n/\hs2.length<=a*1600+k*255+n/\Rs w.heap.size wi v hs2/\Below w.heap.size w wi/\Fr w1 rb wi v.ownBlock/\Fr WA vb wi v.ownBlock) (fun i _ _=>P-(intOf i).toNat)
        case atStart=>exact⟨0,hs',by omega,rfl,by rw[DZ.o];simp[LM.yG],by omega,Xw.o,cQ.o,om.o,by rw[HVE.o];exact Fr.refl _ _⟩
        case round =>
         obtain⟨n,hs2,hn,rfl,hm3,zh,hrs,hb,MT,Gk⟩:=hrel;have Ki:=ai hm3;have Gq:=ai hrs;have Ga:=ai hb;have HFi:=ai MT;have HFs:=ai Gk;have TD:=hb.size;clear Xw cQ om HVE DZ hlen' hm3 hrs hb;by_cases AJ:n<P
         · have BOi:=ai (MT.keep BO1.o HNE.o);have BSi:=ai (Gk.keep BS.o VE.o);have y6:=B.cell BOi.o 6 rfl;have z0:=B.cell BSi.o 0 rfl;have z1:=B.cell BSi.o 1 rfl;have z2:=B.cell BSi.o 2 rfl;have z3:=B.cell BSi.o 3 rfl;have z4:=B.cell BSi.o 4 rfl;have HPi:=ai (HPN.o.fr MT);have hpb:=HPB.o n AJ;have UD:=ai (LM.G0 o ps ⟨pg,P,dt,wb,qZ0⟩ n);have HG2:=ai (vw.o n AJ);have I9:Hid (∀V,Below wr.heap.size wr V->Calls Tryz.prog 163 #[I (o.base+pg+(n:Int)),.slice ap ps.length cp] V fun e w'=>(∃v,e=.returned v/\w'.ownsRow V.heap.size 52 2 v (LM.gZ (o.base+pg+(n:Int)) ps).length ((LM.gZ (o.base+pg+(n:Int)) ps).flatMap LM.Cn))/\Below V.heap.size V w'):=fun V hb=>Fk _ ps ap cp V hpb.1 hpb.2 (HPi.o.below hb) (by omega) af5.o
           have wW:Hid (LM.pgN o ps ⟨pg,P,dt,wb,qZ0⟩ n=⟨o.base+pg+(n:Int),LM.tI ⟨pg,P,dt,wb,qZ0⟩ n,LM.gZ (o.base+pg+(n:Int)) ps⟩):=rfl;obtain⟨F,hF⟩:=ex (LM.gZ (o.base+pg+(n:Int)) ps);obtain⟨D,hD⟩:=ex (LM.tI ⟨pg,P,dt,wb,qZ0⟩ n);rw[<- hF] at I9 wW;rw[<- hD] at HG2 wW;have hl3:hs2.length<=100000:=by omega
           have hrow:=Gq.o.row.lt;have Dw:=ai hrow;clear hF hD MT Gk hrow;obtain⟨i0,hin,hz0,hz1,hz2⟩:=info_parts y8;go_wp2_with (first
            | (go_at_call 162;refine(HG2.o _).mono ?_;rintro e w2 ⟨rfl,hb⟩;have Gn:=ai hb;clear hb)
            | (go_at_call 163;refine(I9.o _ Gn.o).mono ?_;rintro e w3 ⟨⟨v8,rfl,Gf⟩,hb⟩;obtain⟨af,cf,hvf,hfn⟩:=V5 Gf u4.ownBlock (fun q hq=>by have:=(Dw.o q hq).2;have:=Gn.o.size;omega);subst hvf;have FY:=ai hfn;have VB:=ai (Gn.o.trans (hb.mono Gn.o.size));have pR:=ai (VB.o.alloc VB.o.size (.cells #[I (o.base+pg+(n:Int)),.string D,.slice af F.length cf] 50));have HR4:=ai (Gq.o.below pR.o);have af7:=ai (FY.o.below ((Below.refl w3.heap.size w3).alloc (Nat.le_refl _) (.cells #[I (o.base+pg+(n:Int)),.string D,.slice af F.length cf] 50)));have HN3:=ai (B.new w3 #[I (o.base+pg+(n:Int)),.string D,.slice af F.length cf] 50);have adA:w.heap.size<=w3.heap.size:=Nat.le_trans TD VB.o.size;clear hb Gf hfn)
            | (at_builtin;refine wpList_append_lies _ rfl _ _ 22 rfl w.heap.size 50 i0 (.agg #[I 0,.string ⟨#[]⟩,Nl]) 3 48 Tryz.underlying22 hin hz0 hz1 hz2 rfl (by decide) _ _ _ rfl HR4.o.row (Ad w3.heap.size 0) 1 1 [I (o.base+pg+(n:Int)),.string D,.slice af F.length cf] rfl rfl (B.news HN3.o) (by intro u hu;simp at hu;rcases hu with rfl | rfl | rfl <;> rfl) (by decide) (by unfold maxLen;omega) (by omega) (by simp;omega) (w3.heap.size+1) (by simp) ?_;intro gg aaI w4 Vd hgrow TF aj7;have afi:=ai Vd;have Dz:=ai hgrow;have VL:=ai TF;clear Vd hgrow TF))
           have aaj:u4.ownBlock=some gg∨gg=(w3.alloc (.cells #[I (o.base+pg+(n:Int)),.string D,.slice af F.length cf] 50)).heap.size:=by rw[World.size_alloc];exact VL.o
           have HF4:=ai ((Fr.bc pR.o u4.ownBlock).trans (Fr.SX Dz.o Dz.o.size aaj));go_roundw
           case rel=>exact⟨n+1,hs2++[⟨o.base+pg+(n:Int),D,F,af,cf⟩],by omega,by go_num,by rw[UD.o,wW.o,List.map_append,Ki.o,List.append_assoc];rfl,by rw[List.length_append];simp;omega,(Rs.more (x:=⟨o.base+pg+(n:Int),D,F,af,cf⟩) HR4.o.fix af7.o afi.o Dz.o Dz.o.size aaj),((Ga.o.trans (pR.o.mono Ga.o.size)).grown Dz.o (by simp;omega) (fun q hq=>by have:=(Dw.o q hq).1;omega)),HFi.o.trans HF4.o,HFs.o.trans HF4.o⟩
           case measure=>simp[intOf];omega
         · obtain rfl:n=P:=by omega
           clear MT Gk;go_wp2;go_roundw
           case rel=>exact⟨k+1,hs2,by omega,by go_num,by rw[ju.o,Ki.o,List.append_assoc],by omega,Gq.o,Ga.o,HFi.o⟩
           case measure=>simp[intOf];omega
      · obtain rfl:k=o.i.dw.length:=by omega
        clear Wv hrs hb MT;go_wp2;go_roundw
        case rel=>exact⟨a+1,_,hs',by omega,by go_num,afn.o,DZ.o,by omega,Aa.o,UT.o⟩
        case measure=>simp[intOf];omega
  · obtain rfl:a=l.length:=by omega
    have HX:Hid (R=some E):=by rw[HR.o];exact HE.o
    obtain⟨ah,ch,hv,hh,hc⟩:=xE.o.has;subst hv;have HHH:=ai hh;clear hE Wv hrs hb hh;go_wp2
    go_ret2
    show J9 R w _ _;rw[HX.o];exact⟨iY.o,hs,ah,ch,HME.o,rfl,HHH.o,hc⟩
end LW
end Go.Proofs.YtpgifpeohlllfaaGreat
