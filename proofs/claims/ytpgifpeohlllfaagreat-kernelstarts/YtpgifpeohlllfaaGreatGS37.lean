import Derived.Test.YtpgifpeohlllfaaGreatGS36
set_option maxHeartbeats 20000000
set_option linter.unusedVariables false
set_option maxRecDepth 100000
set_option linter.unusedSimpArgs false
namespace Go.Proofs.YtpgifpeohlllfaaGreat
namespace LW
open Go.RowKit
open W (ai)
theorem qh {lo:Nat} {w w':World} {v:Value} {l:List AM.Ar} (h:AW.Own lo w v l) (hb:Below w.heap.size w w'):AW.Own lo w' v l:=uk h hb
theorem uq {lo:Nat} {w:World} {v:Value} {l:List AM.Ar} (h:AW.Own lo w v l):∃ao cap,v=.slice ao l.length cap/\(0<l.length->∃g,ao=some (Ad g 0)):=by
 rcases h.2 with⟨hv,h0⟩ | ⟨g,cap,cur,hv,_⟩
 · exact⟨none,0,by rw[hv,h0],fun hl=>by omega⟩
 · exact⟨_,cap,hv,fun _=>⟨g,rfl⟩⟩
theorem p9 (l:List LM.Ob) (ao:Option Addr) (cap:Nat) (w:World) (h:Oi l ao w) (hl7:l.length<=7) :
  Calls Tryz.prog 136 #[.slice ao l.length cap] w fun e w'=>∃r,e=.returned r/\AW.Own w.heap.size w' r (LM.nC l)/\Below w.heap.size w w':=by
 have HO:=ai h
 clear h
 go_enter Tryz.func136,Tryz.ntmps136
 go_wp2
 go_loopw [11,3] (fun i v wr=>∃(a:Nat),a<=l.length/\i=I a/\AW.Own w.heap.size wr v (LM.P9 l a)/\Below w.heap.size w wr) (fun i _ _=>l.length-(intOf i).toNat)
 case atStart=>exact⟨0,by omega,rfl,AW.Own.nil _ _,Below.refl _ _⟩
 case round =>
  obtain⟨a,hal,rfl,hown,hb⟩:=hrel
  have HOW:=ai hown
  have fw:=ai hb
  by_cases hlt:a<l.length
  · have HOr:=ai (HO.o.below hb)
    obtain⟨b,off,hao,hbl,bM⟩:=HOr.o.has (by omega)
    obtain⟨⟨c0,c1,c2,c3,c4,c5,c6⟩,him⟩:=bM a hlt
    have hbs:=HO.o.base a hlt
    have qz:=HO.o.Zg a hlt
    obtain⟨b2,Ee,OE,Le,Ez⟩:=HO.o.has (by omega)
    have CI:=(Ez a hlt).2
    have ji:Hid (LM.P9 l (a+1)=LM.TX (LM.ek l a) (LM.P9 l a) (LM.ek l a).i.dm.length):=rfl
    obtain⟨o,ho⟩:=ex (LM.ek l a)
    rw[<- ho] at c0 c1 c2 c3 c4 c5 c6 CI hbs qz ji
    have nJ:=ai (LM.CS l a)
    obtain⟨L,hL⟩:=ex (LM.P9 l a)
    rw[<- hL] at HOW ji nJ
    have hcn:=LM.counts_of qz
    have FJ:=ai (LM.ot qz)
    obtain⟨bs,Ed,hag,Oy,K9⟩:=CI.dm (by omega)
    have HLG:=ai K9
    rw[hag] at c2
    clear ho hL bM hb hown him K9 hag CI Ez OE Le qz
    subst hao
    have cJ:=ai (fw.o.alloc fw.o.size (.cells #[.string o.i.name,.slice o.a.an o.i.needs.length o.a.cn,.slice (some (Ad bs Ed)) o.i.dm.length o.a.cg,.slice o.a.ay o.i.syms.length o.a.cy,.slice o.a.ar o.i.fN.length o.a.cr,I o.i.entry,I o.base] 195))
    have sI:=ai ((Below.refl wr.heap.size wr).alloc (Nat.le_refl _) (.cells #[.string o.i.name,.slice o.a.an o.i.needs.length o.a.cn,.slice (some (Ad bs Ed)) o.i.dm.length o.a.cg,.slice o.a.ay o.i.syms.length o.a.cy,.slice o.a.ar o.i.fN.length o.a.cr,I o.i.entry,I o.base] 195))
    have BO:=ai (B.new wr #[.string o.i.name,.slice o.a.an o.i.needs.length o.a.cn,.slice (some (Ad bs Ed)) o.i.dm.length o.a.cg,.slice o.a.ay o.i.syms.length o.a.cy,.slice o.a.ar o.i.fN.length o.a.cr,I o.i.entry,I o.base] 195)
    have V5:=ai (qh HOW.o sI.o)
    go_wp2
    obtain⟨W1,hW1⟩:=ex (wr.alloc (.cells #[.string o.i.name,.slice o.a.an o.i.needs.length o.a.cn,.slice (some (Ad bs Ed)) o.i.dm.length o.a.cg,.slice o.a.ay o.i.syms.length o.a.cy,.slice o.a.ar o.i.fN.length o.a.cr,I o.i.entry,I o.base] 195))
    rw[<- hW1] at cJ sI BO V5
    rw[<- hW1]
    obtain⟨ob,UY⟩:=ex wr.heap.size
    rw[<- UY] at BO
    rw[<- UY]
    clear hW1 UY sI HOW fw HOr c0 c1 c2 c3 c4 c5 c6 hbl
    go_loopw [19,3] (fun i v wm=>∃(k:Nat),k<=o.i.dm.length/\i=I k/\AW.Own w.heap.size wm v (LM.TX o L k)/\Below w.heap.size w wm/\Below W1.heap.size W1 wm) (fun i _ _=>o.i.dm.length-(intOf i).toNat)
    case atStart=>exact⟨0,by omega,rfl,V5.o,cJ.o,Below.refl _ _⟩
    case round =>
     obtain⟨k,hk,rfl,hown,hb,hb1⟩:=hrel
     have HOW:=ai hown
     have Ti:=ai hb
     have bI:=ai hb1
     clear V5 cJ
     by_cases hlk:k<o.i.dm.length
     · obtain⟨c0,c1,c2,c3,c4⟩:=M.yx hb Oy HLG.o k hlk
       have pR:=FJ.o k hlk
       have Ox:bs<wr.heap.size:=Nat.lt_of_lt_of_le Oy hb.size
       have Ub:=ai (LM.Jk o L nJ.o k)
       have HKX:Hid (LM.TX o L (k+1)=LM.GG o (LM.TX o L k) (M.dI o.i.dm k)):=rfl
       obtain⟨s,Ja⟩:=ex (M.dI o.i.dm k)
       rw[<- Ja] at c0 c1 c2 c3 c4 pR HKX
       clear Ja
       obtain⟨L2,hL2⟩:=ex (LM.TX o L k)
       rw[<- hL2] at HOW Ub HKX
       clear hL2
       obtain⟨pg,pn,dt,wb,qZ0⟩:=s
       simp only at c0 c1 c2 c3 c4 pR
       have cJ:=ai (Ti.o.alloc Ti.o.size (.cells #[I pg,I pn,.string dt,.bool wb,.bool qZ0] 145))
       have sI:=ai ((Below.refl wr.heap.size wr).alloc (Nat.le_refl _) (.cells #[I pg,I pn,.string dt,.bool wb,.bool qZ0] 145))
       have BS:=ai (B.new wr #[I pg,I pn,.string dt,.bool wb,.bool qZ0] 145)
       have BOA:=ai (B.alloc (B.below BO.o bI.o (B.isLt BO.o)) (.cells #[I pg,I pn,.string dt,.bool wb,.bool qZ0] 145))
       have Wy:=ai (bI.o.alloc bI.o.size (.cells #[I pg,I pn,.string dt,.bool wb,.bool qZ0] 145))
       have ZG:=ai (qh HOW.o sI.o)
       clear hown hb hb1
       go_wp2
       obtain⟨WA,dK⟩:=ex (wr.alloc (.cells #[I pg,I pn,.string dt,.bool wb,.bool qZ0] 145))
       rw[<- dK] at cJ BS BOA Wy ZG
       rw[<- dK]
       obtain⟨sb,G5⟩:=ex wr.heap.size
       rw[<- G5] at BS
       rw[<- G5]
       clear dK G5 sI HOW Ti bI c0 c1 c2 c3 c4 Ox
       have HS:Hid (∀V,Below WA.heap.size WA V->V.cell? (Ad ob 6)=some (I o.base)/\V.cell? (Ad sb 0)=some (I pg)/\V.cell? (Ad sb 1)=some (I pn)/\V.cell? (Ad sb 2)=some (.string dt)/\V.cell? (Ad sb 3)=some (.bool wb)/\V.cell? (Ad sb 4)=some (.bool qZ0)):=fun V hb=>by
        have h1:=B.below BOA.o hb (B.isLt BOA.o)
        have h2:=B.below BS.o hb (B.isLt BS.o)
        exact⟨B.cell h1 6 rfl,B.cell h2 0 rfl,B.cell h2 1 rfl,B.cell h2 2 rfl,B.cell h2 3 rfl,B.cell h2 4 rfl⟩
       have qH:Hid (∀V,Calls Tryz.prog 164 #[.agg #[I pg,I pn,.string dt,.bool wb,.bool qZ0]] V fun e w'=>e=.returned (I (LM.sX ⟨pg,pn,dt,wb,qZ0⟩))/\Below V.heap.size V w'):=fun V=>M5 ⟨pg,pn,dt,wb,qZ0⟩ V
       have T8:Hid (∀V,Below WA.heap.size WA V->Calls Tryz.prog 74 #[u3,I (o.base+pg),I pn,I (LM.sX ⟨pg,pn,dt,wb,qZ0⟩)] V fun e w'=>∃r,e=.returned (.tuple #[r,I (AW.oF L2 (o.base+pg) pn (LM.sX ⟨pg,pn,dt,wb,qZ0⟩)).2])/\AW.Own V.heap.size w' r (AW.oF L2 (o.base+pg) pn (LM.sX ⟨pg,pn,dt,wb,qZ0⟩)).1/\Below V.heap.size V w'):=fun V hb=>AW.QX L2 u3 (o.base+pg) pn _ V (qh ZG.o hb).has Ub.o (by unfold AW.gj;omega) (by unfold AW.gj;omega)
       have HMS:Hid (LM.GG o L2 ⟨pg,pn,dt,wb,qZ0⟩=(AW.oF L2 (o.base+pg) pn (LM.sX ⟨pg,pn,dt,wb,qZ0⟩)).1):=rfl
       obtain⟨PR,OJ⟩:=ex (LM.sX ⟨pg,pn,dt,wb,qZ0⟩)
       rw[<- OJ] at qH T8 HMS
       obtain⟨MN,hMN⟩:=ex (AW.oF L2 (o.base+pg) pn PR)
       rw[<- hMN] at T8 HMS
       clear OJ hMN
       have hwr:IntKind.i64.wrap (o.base+pg)=o.base+pg:=IntWalk.i64_in _ (by omega)
       have iW:=ai (Below.refl WA.heap.size WA).drew
       have eX:=ai (HS.o _ iW.o)
       go_region_held3 (fun V=>V.cell? (Ad ob 6)=some (I o.base)/\V.cell? (Ad sb 0)=some (I pg)/\V.cell? (Ad sb 1)=some (I pn)/\V.cell? (Ad sb 2)=some (.string dt)/\V.cell? (Ad sb 3)=some (.bool wb)/\V.cell? (Ad sb 4)=some (.bool qZ0)) (first | exact gH.o | exact eD.o | exact eX.o)
        (first
         | (go_at_call 164;refine(qH.o _).mono ?_;rintro e w2 ⟨rfl,hb⟩;have jJ:=ai (iW.o.trans (hb.mono iW.o.size));have eD:=ai (HS.o _ jJ.o);clear hb)
         | (go_at_call 74;refine(T8.o _ jJ.o).mono ?_;rintro e w3 ⟨v8,rfl,KU,hb⟩;have l8:=ai (jJ.o.trans (hb.mono jJ.o.size));have gH:=ai (HS.o _ l8.o);have FN:=ai KU;clear hb KU))
       go_wp2
       go_roundw
       case rel=>exact⟨k+1,by omega,by go_num,by rw[HKX.o,HMS.o];exact FN.o.mono (Nat.le_trans cJ.o.size jJ.o.size),cJ.o.trans (l8.o.mono cJ.o.size),Wy.o.trans (l8.o.mono Wy.o.size)⟩
       case measure=>simp[intOf];omega
     · obtain rfl:k=o.i.dm.length:=by omega
       clear hown hb hb1
       go_wp2
       go_roundw
       case rel=>exact⟨a+1,by omega,by go_num,by rw[ji.o];exact HOW.o,Ti.o⟩
       case measure=>simp[intOf];omega
  · obtain rfl:a=l.length:=by omega
    have Mp:Hid (LM.nC l=LM.lG (LM.P9 l l.length) (LM.P9 l l.length).length):=(LM.LA _).symm
    have nJ:=ai (LM.CS l l.length)
    obtain⟨L,hL⟩:=ex (LM.P9 l l.length)
    rw[<- hL] at HOW Mp nJ
    have hll:=nJ.o.2
    obtain⟨ar,cr,hv,hg⟩:=uq HOW.o
    subst hv
    have HG:=ai hg
    clear hown hb hL hg nJ
    go_wp2
    go_loopw [41] (fun i wr=>∃(k:Nat),k<=L.length/\i=I k/\AW.Own w.heap.size wr (.slice ar L.length cr) (LM.lG L k)/\Below w.heap.size w wr) (fun i _=>L.length-(intOf i).toNat)
    case atStart=>exact⟨0,by omega,rfl,HOW.o,fw.o⟩
    case round =>
     obtain⟨k,hk,rfl,hown,hb⟩:=hrel
     have SS:=ai hown
     have Z6:=ai hb
     clear HOW fw hown hb
     by_cases hlt:k<L.length
     · obtain⟨g,hg⟩:=HG.o (by omega)
       subst hg
       have FC:=LM.lR L k
       have V6:Hid (wr.ownsRow w.heap.size 47 4 (.slice (some (Ad g 0)) L.length cr) L.length (AM.bj (LM.lG L k))):=by
        have h:=SS.o
        unfold AW.Own at h
        rw[FC] at h
        exact h
       have HST:=ai (V6.o.stored (k*4+3) (.bool false))
       have ji:Hid (AM.bj (LM.lG L (k+1))=(AM.bj (LM.lG L k)).set (k*4+3) (.bool false)):=(LM.gW false (LM.lG L k) k (by omega)).symm
       have hlx:=LM.lR L (k+1)
       have HLX:=ai hlx
       have hgl:=V6.o.lt g rfl
       have q3:=(V6.o.cellAt (k*4+3) (by omega)).trans (AM.ft (LM.lG L k) k 3 (by omega) (by omega))
       have qf:=V6.o.frozenAt (k*4+3)
       clear FC hlx
       go_wp2
       go_roundw
       case rel=>exact⟨k+1,by omega,by go_num,by unfold AW.Own;rw[HLX.o,ji.o];exact HST.o.1,Z6.o.setCell (by simp;omega) _⟩
       case measure=>simp[intOf];omega
     · obtain rfl:k=L.length:=by omega
       go_wp2
       go_ret
       exact⟨_,rfl,by rw[Mp.o];exact SS.o,Z6.o⟩
theorem UM:(Tryz.prog.info? 151).map (fun i=>(i.zero,i.size,i.bytes))=some (some (.agg #[.string ⟨#[]⟩,Nl,Nl,Nl,Nl,I 0]),6,120):=by kernel_rfl
theorem NH {w:World} {b off:Nat} {l:List LM.Li} (h:LM.Px w b off l):∀j u,(l.flatMap LM.bT)[j]?=some u->w.cell? (((Ad b off):Addr).add j)=some u:=fun j u hj=>by
 obtain⟨k,r,hr,rfl⟩:∃k r,r<6/\j=k*6+r:=⟨j/6,j%6,by omega,by omega⟩
 have hlen:∀l:List LM.Li,(l.flatMap LM.bT).length=l.length*6:=fun l=>by
  induction l with
  | nil=>rfl
  | cons a r ih=>rw[List.flatMap_cons,List.length_append,ih,List.length_cons];show 6+_=_;omega
 have hk:k<l.length:=by
  obtain⟨hlt,_⟩:=List.getElem?_eq_some_iff.1 hj
  rw[hlen] at hlt
  omega
 rw[flat_get LM.bT 6 (fun _=>rfl) LM.li0 l k r hk hr] at hj
 obtain⟨⟨c0,c1,c2,c3,c4,c5⟩,_⟩:=h k hk
 rw[Addr.add_lit,<- Nat.add_assoc]
 match r,hr with
 | 0,_=>exact c0.trans hj
 | 1,_=>exact c1.trans hj
 | 2,_=>exact c2.trans hj
 | 3,_=>exact c3.trans hj
 | 4,_=>exact c4.trans hj
 | 5,_=>exact c5.trans hj
theorem Ux {w:World} {base:Nat} {g cap:Nat} {l:List LM.Li} (h:w.ownsRow base 151 6 (.slice (some (Ad g 0)) l.length cap) l.length (l.flatMap LM.bT)) (hg:g<w.heap.size) (hi:∀k,k<l.length->M.nt w (LM.cD l k).a (LM.cD l k).i) :
  LM.Ic w (some (Ad g 0)) l:=fun hl=>by
 refine⟨g,0,rfl,hg,fun k hk=>?_⟩
 rw[Nat.zero_add]
 have hh:∀j,j<6->w.cell? (Ad g (k*6+j))=(LM.bT (LM.cD l k))[j]?:=fun j hj=>(h.cellAt _ (by omega)).trans (flat_get LM.bT 6 (fun _=>rfl) LM.li0 l k j hk hj)
 exact⟨⟨hh 0 (by omega),hh 1 (by omega),hh 2 (by omega),hh 3 (by omega),hh 4 (by omega),hh 5 (by omega)⟩,hi k hk⟩
theorem rD {ops:Array Oper} {rest:List Oper} {o:Oper} {a:Act} {w:World} {Q:Exit->Act->World->Prop} (hgd:o.guard=none) (s x:Operand)
  (ho:o.op=.call { callee:=.builtin .append,args:=#[s,x],argTypes:=#[187,187] })
  (base:Nat) (p:LM.Li) (g0:Nat) (hs:a.eval s=.slice (some (Ad g0 0)) 1 1) (hown:w.ownsRow base 151 6 (.slice (some (Ad g0 0)) 1 1) 1 (LM.bT p))
  (ao:Option Addr) (c:Nat) (libs:List LM.Li) (hx:a.eval x=.slice ao libs.length c) (bM:LM.Ic w ao libs) (h6:libs.length<=6) (hbase:base<=w.heap.size)
  (h:∀g cap w',w'.ownsRow base 151 6 (.slice (some (Ad g 0)) (libs.length+1) cap) (libs.length+1) ((p::libs).flatMap LM.bT)->w.grownBy w' (some g0)->g<w'.heap.size->wpList Tryz.prog ops Q rest (a.put o.dst (.slice (some (Ad g 0)) (libs.length+1) cap)) w'):wpList Tryz.prog ops Q (o::rest) a w:=by
 obtain⟨i0,hin,hz0,hz1,hz2⟩:=info_parts UM
 by_cases h0:0<libs.length
 · obtain⟨b,off,rfl,hb,hl⟩:=bM h0
   have hlen:∀l:List LM.Li,(l.flatMap LM.bT).length=l.length*6:=fun l=>by
    induction l with
    | nil=>rfl
    | cons a r ih=>rw[List.flatMap_cons,List.length_append,ih,List.length_cons];show 6+_=_;omega
   have hone:∀u∈libs.flatMap LM.bT,u.oneCell'=true:=fun u hu=>by
    obtain⟨y,_,hy⟩:=List.mem_flatMap.1 hu
    simp only[LM.bT,M.fD] at hy
    simp at hy
    rcases hy with rfl | rfl | rfl | rfl | rfl | rfl <;> rfl
   refine wpList_append_lies w hgd s x 187 ho base 151 i0 (.agg #[.string ⟨#[]⟩,Nl,Nl,Nl,Nl,I 0]) 6 120 Tryz.underlying187 hin hz0 hz1 hz2 rfl (by decide) _ 1 _ hs hown (Ad b off) libs.length c (libs.flatMap LM.bT) hx (hlen _) (NH hl) hone h0 (by unfold maxLen;omega) (by omega) hbase _ rfl ?_
   intro g cap w' h2 h3 _ h5
   have e:1+libs.length=libs.length+1:=Nat.add_comm _ _
   rw[e] at h2 ⊢
   exact h g cap w' h2 h3 h5
 · have e0:libs=[]:=List.eq_nil_of_length_eq_zero (by omega)
   subst e0
   have hg0:g0<w.heap.size:=(hown.lt g0 rfl).2
   refine wpList_plain hgd fun K hK=>?_
   have hsrc:Src Tryz.prog i0.size 187 (.slice ao 0 c) 0 [] w:=⟨.inl ⟨_,Tryz.underlying187⟩,fun w'=>by simp[Builtin.lenOf],by cases ao <;> simp[Builtin.firstCells,loadCells,loadCellsFrom],by cases ao <;> simp[Builtin.firstCells,loadCells,loadCellsFrom],by simp,by simp⟩
   have hr:=run_append_nothing (P:=Tryz.prog) w 187 187 o.type 151 i0 Tryz.underlying187 hin (some (Ad g0 0)) 1 1 (Nat.le_refl _) (.slice ao 0 c) hsrc
   have hx':a.eval x=.slice ao 0 c:=hx
   unfold Oper.wp execOp
   simp only[ho,resolve,invoke,builtin,Sem.run_bind,Sem.run_pure,Result.andThen_ok,List.map_toArray,List.map_cons,List.map_nil,hs,hx',hr]
   refine hK _ _ (h g0 1 w ?_ ⟨rfl,rfl,rfl,Nat.le_refl _,fun _ _ _=>rfl⟩ hg0)
   have e:([p].flatMap LM.bT)=LM.bT p:=by simp
   rw[e]
   exact hown
end LW
namespace LW
open Go.RowKit Go.WideMaps Go.Maps
open W (ai)
def Zm (all:List LM.Li) (w:World) (e:Ending) (w':World):Prop:=Below w.heap.size w w' /\
 if LM.ij all=0 then ∃(ix:List Nat) (E:List LM.Sp) (r:Value) (hs:List LM.Sh) (ao:Option Addr) (cap:Nat),LM.W7 all all.length 0 [0]=some ix/\LM.lM (LM.cM all 1 ix)=some E/\hs.map LM.plain=E /\
  e=.returned (.tuple #[.agg #[r,.slice ao hs.length cap,I (LM.wh (LM.ek (LM.cM all 1 ix) 0) (LM.cD all 0).i.entry)],I 0])/\AW.Own w.heap.size w' r (LM.nC (LM.cM all 1 ix))/\LM.gT w' ao hs/\hs.length<=cap
 else e=.returned (.tuple #[.agg #[Nl,Nl,I 0],I (LM.ij all)])
theorem kE (V:World) (rb b j:Nat) (u0 u1 u2:Value) (h:b≠rb):(((V.setCell (Ad rb 0) u0).setCell (Ad rb 1) u1).setCell (Ad rb 2) u2).cell? (Ad b j)=V.cell? (Ad b j):=by
 rw[World.cell?_setCell_far _ (Ad rb 2) (Ad b j) u2 (Ne.symm h),World.cell?_setCell_far _ (Ad rb 1) (Ad b j) u1 (Ne.symm h),World.cell?_setCell_far _ (Ad rb 0) (Ad b j) u0 (Ne.symm h)]
def MT (V:World) (rb:Nat) (u0 u1 u2:Value):World:=((V.setCell (Ad rb 0) u0).setCell (Ad rb 1) u1).setCell (Ad rb 2) u2
theorem Ay (V:World) (rb:Nat) (u0 u1 u2:Value):(MT V rb u0 u1 u2).heap.size=V.heap.size:=by simp[MT]
theorem Tw {V:World} {rb b off:Nat} {t:TypeId} {x:Int} {y:ByteArray} (h:V.heap[rb]?=some (.cells #[Nl,Nl,I 0] t (0,0))) (c0:V.cell? (Ad b off)=some (I x)) (c1:V.cell? (Ad b (off+1))=some (.string y)):b≠rb:=fun e=>by
 rw[e] at c0 c1
 simp only[World.cell?,h] at c0 c1
 match off with
 | 0=>simp at c0
 | 1=>simp at c0
 | 2=>simp at c1
 | n+3=>simp at c0
theorem Lj {V:World} {rb:Nat} {t:TypeId} (h:V.heap[rb]?=some (.cells #[Nl,Nl,I 0] t (0,0))) {ao:Option Addr} {l:List LM.Fx} (g:LM.nE V ao l) (u0 u1 u2:Value):LM.nE (MT V rb u0 u1 u2) ao l:=fun hl=>by
 obtain⟨b,off,e,hb,bM⟩:=g hl
 obtain⟨c0,c1⟩:=bM 0 hl
 have hne:=Tw h c0 c1
 refine⟨b,off,e,by rw[Ay];exact hb,fun k hk=>?_⟩
 obtain⟨d0,d1⟩:=bM k hk
 exact⟨(kE V rb b _ u0 u1 u2 hne).trans d0,(kE V rb b _ u0 u1 u2 hne).trans d1⟩
theorem Lh {V:World} {rb:Nat} {t:TypeId} (h:V.heap[rb]?=some (.cells #[Nl,Nl,I 0] t (0,0))) {ao:Option Addr} {l:List LM.Sh} (g:LM.gT V ao l) (u0 u1 u2:Value):LM.gT (MT V rb u0 u1 u2) ao l:=fun hl=>by
 obtain⟨b,off,e,hb,bM⟩:=g hl
 obtain⟨c0,c1,_,_⟩:=bM 0 hl
 have hne:=Tw h c0 c1
 refine⟨b,off,e,by rw[Ay];exact hb,fun k hk=>?_⟩
 obtain⟨d0,d1,d2,d3⟩:=bM k hk
 exact⟨(kE V rb b _ u0 u1 u2 hne).trans d0,(kE V rb b _ u0 u1 u2 hne).trans d1,(kE V rb b _ u0 u1 u2 hne).trans d2,Lj h d3 u0 u1 u2⟩
theorem M9 {V:World} {rb lo:Nat} {v:Value} {l:List AM.Ar} (h:AW.Own lo V v l) (hlt:rb<lo) (u0 u1 u2:Value):AW.Own lo (MT V rb u0 u1 u2) v l :=
 ownsRow_setCell_below (ownsRow_setCell_below (ownsRow_setCell_below h hlt _) hlt _) hlt _
theorem E5 (l:List LM.Li) (ao:Option Addr) (cap:Nat) (w:World) (h:LM.Ic w ao l) (hf:LM.aaa l) (qz:∀k,k<l.length->∀V,Below w.heap.size w V->Calls Tryz.prog 158 #[.agg (M.fD (LM.cD l k).a (LM.cD l k).i)] V fun e w'=>e=.returned (I (M.j5 (LM.cD l k).i))/\Below V.heap.size V w'):Calls Tryz.prog 132 #[.slice ao l.length cap] w (ade l w):=by
 have HH:=ai h
 have HF:=ai hf
 have Dr:=ai qz
 have hn:l.length<=140737488351232:=hf.1
 clear h hf qz
 have hmm:=@run_makeMap Tryz.prog
 go_enter Tryz.func132,Tryz.ntmps132
 go_wp2
 go_loopw [12] (fun i wr=>∃k:Nat,k<=l.length/\i=I k/\LM.lC l k=0/\Below w.heap.size w wr) (fun i _=>l.length-(intOf i).toNat)
 case atStart=>exact⟨0,by omega,rfl,rfl,Below.refl _ _⟩
 case round =>
  obtain⟨k,hk,rfl,hz,hb⟩:=hrel
  have HZ:=ai hz
  have fw:=ai hb
  clear hz
  by_cases hlt:k<l.length
  · obtain⟨b,off,hao,hbl,bM⟩:=(HH.o.below hb) (by omega)
    subst hao
    obtain⟨⟨c0,c1,c2,c3,c4,c5⟩,hi⟩:=bM k hlt
    have ra:=HF.o.2 k hlt
    have cA:=ai (Dr.o k hlt)
    have HE:Hid (LM.lC l (k+1)=M.j5 (LM.cD l k).i):=by
     show _=_
     simp only[LM.lC]
     rw[if_pos HZ.o]
    have Fu:Hid (M.j5 (LM.cD l k).i≠0->LM.mG l=M.j5 (LM.cD l k).i):=fun g=>by
     have e1:LM.lC l (k+1)≠0:=by rw[HE.o];exact g
     have e2:=LM.vU l (k+1) e1 l.length (by omega)
     unfold LM.mG
     rw[e2,if_neg e1,HE.o]
    obtain⟨x,hx⟩:=ex (LM.cD l k)
    rw[<- hx] at c0 c1 c2 c3 c4 c5 hi ra HE Fu cA
    clear hx bM hb
    obtain⟨⟨nm,ns,gs,ys,rs,en⟩,⟨an,cn,ag,cg,ay,cy,ar,cr⟩⟩:=x
    simp only at c0 c1 c2 c3 c4 c5
    have cJ:=ai (fw.o.alloc fw.o.size (.cells #[.string nm,.slice an ns.length cn,.slice ag gs.length cg,.slice ay ys.length cy,.slice ar rs.length cr,I en] 151))
    have HC:Hid (∀W,Below wr.heap.size wr W->Calls Tryz.prog 158 #[.agg #[.string nm,.slice an ns.length cn,.slice ag gs.length cg,.slice ay ys.length cy,.slice ar rs.length cr,I en]] W fun e w'=>e=.returned (I (M.j5 ⟨nm,ns,gs,ys,rs,en⟩))/\Below W.heap.size W w'):=fun V hb=>cA.o V (fw.o.trans (hb.mono fw.o.size))
    clear hi ra cA Dr
    obtain⟨c,hc⟩:=ex (M.j5 ⟨nm,ns,gs,ys,rs,en⟩)
    simp only at HE Fu
    rw[<- hc] at HC HE Fu
    clear hc
    by_cases hcz:c=0
    · subst hcz
      clear Fu
      go_wp2_with (go_at_call 158;refine(HC.o _ ((Below.refl _ _).alloc (Nat.le_refl _) _)).mono ?_;rintro e w1 ⟨rfl,hb⟩;have cJ:=ai (cJ.o.trans (hb.mono cJ.o.size));clear hb)
      go_roundw
      case rel=>exact⟨k+1,by omega,by go_num,HE.o,cJ.o⟩
      case measure=>simp[intOf];omega
    · have Qr:=ai (Fu.o hcz)
      have aiI:(c==0)=false:=by simpa using hcz
      clear Fu HE
      go_wp2_with (go_at_call 158;refine(HC.o _ ((Below.refl _ _).alloc (Nat.le_refl _) _)).mono ?_;rintro e w1 ⟨rfl,hb⟩;have cJ:=ai (cJ.o.trans (hb.mono cJ.o.size));clear hb)
      go_ret2
      refine⟨cJ.o,?_⟩
      rw[Qr.o,if_neg hcz]
      rfl
  · obtain rfl:k=l.length:=by omega
    clear hb
    obtain⟨m,hm⟩:=ex wr.heap.size
    have hsm:w.heap.size<=m:=by rw[hm];exact fw.o.size
    have HM0:Hid ((wr.alloc (.map #[] 0)).ownsMap Tryz.prog 9 LM.Rv m 0 (.map [])):=by
     rw[hm]
     exact World.ownsMap_made _ _ _ _
    have HM:=ai hm
    clear hm
    go_wp2
    rw[<- HM.o]
    go_loopw [25] (fun i wi=>∃(k:Nat) (D:DataW Value),k<=l.length/\i=I k/\wi.ownsMap Tryz.prog 9 LM.Rv m k D/\LM.Nm l k D/\Below w.heap.size w wi) (fun i _=>l.length-(intOf i).toNat)
    case atStart=>exact⟨0,.map [],Nat.zero_le _,rfl,HM0.o,LM.QS l,fw.o.alloc fw.o.size _⟩
    case round =>
     obtain⟨k,D,hk,rfl,hown,qy,hb⟩:=hrel
     have HW:=ai hown
     have HN:=ai qy
     have Fs:=ai hb
     by_cases hlt:k<l.length
     · obtain⟨b,off,hao,hbl,bM⟩:=(HH.o.below hb) (by omega)
       subst hao
       obtain⟨⟨c0,c1,c2,c3,c4,c5⟩,hi⟩:=bM k hlt
       have ra:=(HF.o.2 k hlt).name
       have T7:=ai (LM.QT hlt hown.isMap (hown.tidy W.law) qy)
       obtain⟨x,hx⟩:=ex (LM.cD l k)
       rw[<- hx] at c0 c1 c2 c3 c4 c5 ra T7
       clear hx bM hb hi hown qy
       obtain⟨⟨nm,ns,gs,ys,rs,en⟩,⟨an,cn,ag,cg,ay,cy,ar,cr⟩⟩:=x
       simp only at c0 c1 c2 c3 c4 c5 ra
       have hkey:=W.I6 ra
       have dM:k<maxLen:=by unfold maxLen;omega
       have cJ:=ai (Fs.o.alloc Fs.o.size (.cells #[.string nm,.slice an ns.length cn,.slice ag gs.length cg,.slice ay ys.length cy,.slice ar rs.length cr,I en] 151))
       have gp:=ai (HW.o.alloc (.cells #[.string nm,.slice an ns.length cn,.slice ag gs.length cg,.slice ay ys.length cy,.slice ar rs.length cr,I en] 151))
       go_wp2_with (first | (at_mapUpdate;refine wpList_mapUpdate_own _ rfl _ _ _ 188 rfl 9 151 W.law Tryz.underlying188 LM.Rv m k D rfl gp.o dM _ _ _ rfl rfl hkey _ [] rfl ?_;intro w1 hown1 hgrow1;have tY:=ai hown1;have bI:=ai (cJ.o.grown hgrow1 cJ.o.size (fun j hj=>by cases hj;exact hsm));clear hown1 hgrow1) | go_in)
       go_roundw
       case rel=>exact⟨k+1,_,by omega,by go_num,tY.o,T7.o,bI.o⟩
       case measure=>simp[intOf];omega
     · obtain rfl:k=l.length:=by omega
       have hlen:=hown.len Tryz.underlying188 3
       have HE0:=ai HZ.o
       by_cases ho:M.js (LM.fU l) l.length=true
       · have hsz:=qy.all.2 ho
         have Qr:Hid (LM.mG l=0):=by
          show _=_
          unfold LM.mG M.pQ
          rw[if_pos HE0.o,LM.ja,ho]
          rfl
         rw[hsz] at hlen
         clear hown qy hb hsz ho
         go_wp2
         go_ret2
         refine⟨Fs.o,?_⟩
         rw[Qr.o,if_pos rfl]
         exact⟨_,D,rfl,HW.o,HN.o⟩
       · have hsz:Maps.size D<l.length:=by
          have h1:=qy.le
          have h2:=qy.all
          rcases Nat.lt_or_ge (Maps.size D) l.length with g | g
          · exact g
          · exact(ho (h2.1 (by omega))).elim
         have Qr:Hid (LM.mG l=5):=by
          show _=_
          unfold LM.mG M.pQ
          rw[if_pos HE0.o,LM.ja,if_neg ho]
         obtain⟨z,hz⟩:=ex (Maps.size D)
         rw[<- hz] at hlen hsz
         have hsz':(z:Int)<(l.length:Int):=by omega
         clear hown qy hb ho hz
         go_wp2
         go_ret2
         refine⟨Fs.o,?_⟩
         rw[Qr.o,if_neg (by decide)]
         rfl
end LW
namespace LW
open Go.RowKit
open W (ai)
theorem zQ (l:List LM.Ob) (ao:Option Addr) (cap:Nat) (w:World) (h:Oi l ao w) (hl7:l.length<=7) (hpx:∀k,k<l.length->∀V,Below w.heap.size w V->Calls Tryz.prog 161 #[.agg (LM.lj (LM.ek l k)),.slice ao l.length cap] V (Bw (LM.ye l (LM.ek l k)) V)):Calls Tryz.prog 135 #[.slice ao l.length cap] w (Jt (LM.lM l) w):=by
 have HO:=ai h
 have HPX:=ai hpx
 clear h hpx
 obtain⟨R,hR⟩:=ex (LM.lM l)
 have HR:Hid (R=LM.qX l l.length):=hR
 rw[<- hR]
 clear hR
 obtain⟨i0,hin,hz0,hz1,hz2⟩:=info_parts yE
 go_enter Tryz.func135,Tryz.ntmps135
 go_wp2
 go_loopw [15,4] (fun i v wr=>∃(a:Nat) (E:List LM.Sp) (hs:List LM.Sh),a<=l.length/\i=I a/\LM.qX l a=some E/\hs.map LM.plain=E/\hs.length<=a*1600/\Rs w.heap.size wr v hs/\Below w.heap.size w wr) (fun i _ _=>l.length-(intOf i).toNat)
 case atStart=>exact⟨0,[],[],by omega,rfl,rfl,rfl,by simp,Rs.nil _ _,Below.refl _ _⟩
 case round =>
  obtain⟨a,E,hs,hal,rfl,hE,U3,hlen,hrs,hb⟩:=hrel
  have HE:=ai hE
  have ZM:=ai U3
  have wU:=ai hrs
  have fw:=ai hb
  by_cases hlt:a<l.length
  · have HOr:=ai (HO.o.below hb)
    obtain⟨b,off,hao,hbl,bM⟩:=HOr.o.has (by omega)
    obtain⟨⟨c0,c1,c2,c3,c4,c5,c6⟩,him⟩:=bM a hlt
    have hbs:=HO.o.base a hlt
    have qz:=HO.o.Zg a hlt
    have Mi:Hid (∀V,Below wr.heap.size wr V->Calls Tryz.prog 161 #[.agg (LM.lj (LM.ek l a)),.slice ao l.length cap] V (Bw (LM.ye l (LM.ek l a)) V)):=fun V hb=>HPX.o a hlt V (fw.o.trans (hb.mono fw.o.size))
    have eX:Hid (LM.ye l (LM.ek l a)=none->R=none):=fun g=>by
     rw[HR.o]
     refine LM.yo (k:=a+1) ?_ l.length (by omega)
     simp only[LM.qX,HE.o,g]
    have gm:Hid (∀ps,LM.ye l (LM.ek l a)=some ps->LM.qX l (a+1)=some (E++LM.uY (LM.ek l a) ps (LM.ek l a).i.dm.length)):=fun ps g=>by simp only[LM.qX,HE.o,g]
    have pk:Hid (∀ps,LM.ye l (LM.ek l a)=some ps->ps.length<=16/\∀j,j<ps.length->LM.WE (LM.zV ps j)):=fun ps g=>by
     have h1:=LM.AU g
     have h2:=(LM.counts_of qz).2.2.2.2
     exact⟨by omega,LM.IH qz hbs.1 hbs.2 _ ps (Nat.le_refl _) g⟩
    obtain⟨b2,Ee,OE,Le,Ez⟩:=HO.o.has (by omega)
    have CI:=(Ez a hlt).2
    obtain⟨o,ho⟩:=ex (LM.ek l a)
    rw[<- ho] at CI
    rw[<- ho] at c0 c1 c2 c3 c4 c5 c6 him hbs qz Mi eX gm pk
    have hcn:=LM.counts_of qz
    have FJ:=ai (LM.ot qz)
    have Xj:=ai him
    simp only[LM.lj] at Mi
    obtain⟨bs,Ed,hag,Oy,K9⟩:=CI.dm (by omega)
    have HLG:=ai K9
    rw[hag] at Mi c2
    clear ho bM hb hE U3 hrs him K9 hag CI Ez OE Le Xj
    subst hao
    have cJ:=ai (fw.o.alloc fw.o.size (.cells #[.string o.i.name,.slice o.a.an o.i.needs.length o.a.cn,.slice (some (Ad bs Ed)) o.i.dm.length o.a.cg,.slice o.a.ay o.i.syms.length o.a.cy,.slice o.a.ar o.i.fN.length o.a.cr,I o.i.entry,I o.base] 195))
    have sI:=ai ((Below.refl wr.heap.size wr).alloc (Nat.le_refl _) (.cells #[.string o.i.name,.slice o.a.an o.i.needs.length o.a.cn,.slice (some (Ad bs Ed)) o.i.dm.length o.a.cg,.slice o.a.ay o.i.syms.length o.a.cy,.slice o.a.ar o.i.fN.length o.a.cr,I o.i.entry,I o.base] 195))
    have BO:=ai (B.new wr #[.string o.i.name,.slice o.a.an o.i.needs.length o.a.cn,.slice (some (Ad bs Ed)) o.i.dm.length o.a.cg,.slice o.a.ay o.i.syms.length o.a.cy,.slice o.a.ar o.i.fN.length o.a.cr,I o.i.entry,I o.base] 195)
    have o9:=ai (Mi.o _ sI.o)
    cases e:LM.ye l o with
    | none =>
     have HRN:=ai (eX.o e)
     rw[e] at o9
     clear e eX gm pk
     go_wp2_with (go_at_call 161;refine o9.o.mono ?_;rintro e w1 ⟨hb,rfl⟩;have bI:=ai (cJ.o.trans (hb.mono cJ.o.size));clear hb)
     go_ret2
     show Jt R w _ _
     rw[HRN.o]
     exact⟨bI.o,rfl⟩
    | some ps =>
     have ady:=ai (gm.o ps e)
     obtain⟨hps,YD⟩:=pk.o ps e
     have aec:=ai YD
     rw[e] at o9
     clear e eX gm pk YD
     have zK:∀q,u4.ownBlock=some q->q<wr.heap.size:=fun q hq=>(wU.o.row.lt q hq).2
     have PI:=ai zK
     clear zK
     go_wp2_with (go_at_call 161;refine o9.o.mono ?_;rintro e w1 ⟨hb,v7,rfl,Ew⟩;have bI:=ai (cJ.o.trans (hb.mono cJ.o.size));have tY:=ai (sI.o.trans (hb.mono sI.o.size));have qH:=ai Ew;have BO1:=ai (B.below BO.o hb (B.isLt BO.o));have g2:=B.cell BO1.o 2 rfl;clear hb Ew)
     obtain⟨ap,cp,hv7,hpn⟩:=QI qH.o u4.ownBlock (fun q hq=>by have:=PI.o q hq;simp;omega)
     subst hv7
     have HPN:=ai hpn
     have Zy:=ai (wU.o.below tY.o)
     have aca:=fw.o.size
     obtain⟨rb,zK⟩:=ex u4.ownBlock
     have uQ:=ai zK
     rw[<- zK] at HPN PI
     clear hpn qH o9 Mi sI cJ wU tY g2 BO c0 c1 c2 c3 c4 c5 c6 zK HOr hbl
     obtain⟨ob,UY⟩:=ex wr.heap.size
     rw[<- UY] at BO1 PI aca
     rw[<- UY]
     have SX:Hid (some ob≠rb):=fun e=>by have:=PI.o ob e.symm;omega
     clear UY fw PI
     go_loopw [31,4] (fun i v wm=>∃(k:Nat) (hs':List LM.Sh),k<=o.i.dm.length/\i=I k/\hs'.map LM.plain=E++LM.uY o ps k/\hs'.length<=a*1600+k*255/\Rs w.heap.size wm v hs'/\Below w.heap.size w wm/\Fr w1 rb wm v.ownBlock) (fun i _ _=>o.i.dm.length-(intOf i).toNat)
     case atStart=>exact⟨0,hs,by omega,rfl,by rw[ZM.o];simp[LM.uY],by omega,Zy.o,bI.o,by rw[uQ.o];exact Fr.refl _ _⟩
     case round =>
      obtain⟨k,hs',hk,rfl,U3,hlen',hrs,hb,L9⟩:=hrel
      have FO:=ai U3
      have zC:=ai hrs
      have Ti:=ai hb
      have HFm:=ai L9
      clear Zy uQ hlen ZM
      by_cases hlk:k<o.i.dm.length
      · obtain⟨c0,c1,c2,c3,c4⟩:=M.yx hb Oy HLG.o k hlk
        have pR:=FJ.o k hlk
        have Ox:bs<wr.heap.size:=Nat.lt_of_lt_of_le Oy hb.size
        have ji:Hid (LM.uY o ps (k+1)=LM.uY o ps k++LM.yc o ps (M.dI o.i.dm k) (M.dI o.i.dm k).aH.toNat):=rfl
        obtain⟨s,Ja⟩:=ex (M.dI o.i.dm k)
        rw[<- Ja] at c0 c1 c2 c3 c4 pR ji
        clear Ja
        obtain⟨P,hP⟩:∃P:Nat,s.aH=(P:Int):=⟨s.aH.toNat,by omega⟩
        obtain⟨pg,pn,dt,wb,qZ0⟩:=s
        simp only at c0 c1 c2 c3 c4 pR ji hP
        subst hP
        rw[Int.toNat_natCast] at ji
        have hvb:∀q,u4.ownBlock=some q->q<wr.heap.size:=fun q hq=>(zC.o.row.lt q hq).2
        have HVB:=ai hvb
        have cJ:=ai (Ti.o.alloc Ti.o.size (.cells #[I pg,I P,.string dt,.bool wb,.bool qZ0] 145))
        have sI:=ai ((Below.refl wr.heap.size wr).alloc (Nat.le_refl _) (.cells #[I pg,I P,.string dt,.bool wb,.bool qZ0] 145))
        have BS:=ai (B.new wr #[I pg,I P,.string dt,.bool wb,.bool qZ0] 145)
        have nJ:=ai (HFm.o.trans (Fr.aY sI.o u4.ownBlock))
        have VP:=ai (zC.o.below sI.o)
        clear hvb U3 hrs hb L9
        go_wp2
        obtain⟨vb,hvb⟩:=ex u4.ownBlock
        have HVE:=ai hvb
        rw[<- hvb] at HVB
        obtain⟨WA,dK⟩:=ex (wr.alloc (.cells #[I pg,I P,.string dt,.bool wb,.bool qZ0] 145))
        rw[<- dK] at cJ sI BS nJ VP
        rw[<- dK]
        obtain⟨sb,G5⟩:=ex wr.heap.size
        rw[<- G5] at BS HVB
        rw[<- G5]
        have T7:Hid (some sb≠vb):=fun e=>by have:=HVB.o sb e.symm;omega
        clear hvb dK G5 sI HVB zC Ti HFm c0 c1 c2 c3 c4 Ox
        have hpb:∀n:Nat,n<P->0<=o.base+pg+(n:Int)/\o.base+pg+(n:Int)<=3000:=fun n hn=>by omega
        have HPB:=ai hpb
        have wY:Hid (∀n:Nat,n<P->∀V,Calls Tryz.prog 162 #[.agg #[I pg,I (P:Int),.string dt,.bool wb,.bool qZ0],I n] V fun e w'=>e=.returned (.string (LM.s7 ⟨pg,P,dt,wb,qZ0⟩ n))/\Below V.heap.size V w'):=fun n hn V=>Gw ⟨pg,P,dt,wb,qZ0⟩ n V (by omega) (by show dt.size<=100000;omega)
        clear hpb
        go_loopw [37,4] (fun i v wi=>∃(n:Nat) (hs2:List LM.Sh),n<=P/\i=I n/\hs2.map LM.plain=(E++LM.uY o ps k)++LM.yc o ps ⟨pg,P,dt,wb,qZ0⟩ n/\hs2.length<=a*1600+k*255+n/\Rs w.heap.size wi v hs2/\Below w.heap.size w wi/\Fr w1 rb wi v.ownBlock/\Fr WA vb wi v.ownBlock) (fun i _ _=>P-(intOf i).toNat)
        case atStart=>exact⟨0,hs',by omega,rfl,by rw[FO.o];simp[LM.yc],by omega,VP.o,cJ.o,nJ.o,by rw[HVE.o];exact Fr.refl _ _⟩
        case round =>
         obtain⟨n,hs2,hn,rfl,hm3,yJ,hrs,hb,L9,yL⟩:=hrel
         have Jy:=ai hm3
         have FN:=ai hrs
         have Fs:=ai hb
         have HFi:=ai L9
         have HFs:=ai yL
         have Rn:=hb.size
         clear VP cJ nJ HVE FO hlen' hm3 hrs hb
         by_cases K6:n<P
         · have BOi:=ai (L9.keep BO1.o SX.o)
           have BSi:=ai (yL.keep BS.o T7.o)
           have y6:=B.cell BOi.o 6 rfl
           have z0:=B.cell BSi.o 0 rfl
           have z1:=B.cell BSi.o 1 rfl
           have z2:=B.cell BSi.o 2 rfl
           have z3:=B.cell BSi.o 3 rfl
           have z4:=B.cell BSi.o 4 rfl
           have HPi:=ai (HPN.o.fr L9)
           have hpb:=HPB.o n K6
           have V8:=ai (LM.Gq o ps ⟨pg,P,dt,wb,qZ0⟩ n)
           have HG2:=ai (wY.o n K6)
           have Ik:Hid (∀V,Below wr.heap.size wr V->Calls Tryz.prog 163 #[I (o.base+pg+(n:Int)),.slice ap ps.length cp] V fun e w'=>(∃v,e=.returned v/\w'.ownsRow V.heap.size 52 2 v (LM.gZ (o.base+pg+(n:Int)) ps).length ((LM.gZ (o.base+pg+(n:Int)) ps).flatMap LM.Bt))/\Below V.heap.size V w'):=fun V hb=>EJ _ ps ap cp V hpb.1 hpb.2 (HPi.o.below hb) (by omega) aec.o
           have Ai:Hid (LM.pgN o ps ⟨pg,P,dt,wb,qZ0⟩ n=⟨o.base+pg+(n:Int),LM.s7 ⟨pg,P,dt,wb,qZ0⟩ n,LM.gZ (o.base+pg+(n:Int)) ps⟩):=rfl
           obtain⟨F,hF⟩:=ex (LM.gZ (o.base+pg+(n:Int)) ps)
           obtain⟨D,hD⟩:=ex (LM.s7 ⟨pg,P,dt,wb,qZ0⟩ n)
           rw[<- hF] at Ik Ai
           rw[<- hD] at HG2 Ai
           have hl3:hs2.length<=100000:=by omega
           have hrow:=FN.o.row.lt
           have C4:=ai hrow
           clear hF hD L9 yL hrow
           obtain⟨i0,hin,hz0,hz1,hz2⟩:=info_parts yE
           go_wp2_with (first
            | (go_at_call 162;refine(HG2.o _).mono ?_;rintro e w2 ⟨rfl,hb⟩;have FH:=ai hb;clear hb)
            | (go_at_call 163;refine(Ik.o _ FH.o).mono ?_;rintro e w3 ⟨⟨v8,rfl,KU⟩,hb⟩;obtain⟨af,cf,hvf,hfn⟩:=Uy KU u4.ownBlock (fun q hq=>by have:=(C4.o q hq).2;have:=FH.o.size;omega);subst hvf;have Al:=ai hfn;have T5:=ai (FH.o.trans (hb.mono FH.o.size));have pF:=ai (T5.o.alloc T5.o.size (.cells #[I (o.base+pg+(n:Int)),.string D,.slice af F.length cf] 50));have HR4:=ai (FN.o.below pF.o);have aee:=ai (Al.o.below ((Below.refl w3.heap.size w3).alloc (Nat.le_refl _) (.cells #[I (o.base+pg+(n:Int)),.string D,.slice af F.length cf] 50)));have HN3:=ai (B.new w3 #[I (o.base+pg+(n:Int)),.string D,.slice af F.length cf] 50);have abU:w.heap.size<=w3.heap.size:=Nat.le_trans Rn T5.o.size;clear hb KU hfn)
            | (at_builtin;refine wpList_append_lies _ rfl _ _ 22 rfl w.heap.size 50 i0 (.agg #[I 0,.string ⟨#[]⟩,Nl]) 3 48 Tryz.underlying22 hin hz0 hz1 hz2 rfl (by decide) _ _ _ rfl HR4.o.row (Ad w3.heap.size 0) 1 1 [I (o.base+pg+(n:Int)),.string D,.slice af F.length cf] rfl rfl (B.news HN3.o) (by intro u hu;simp at hu;rcases hu with rfl | rfl | rfl <;> rfl) (by decide) (by unfold maxLen;omega) (by omega) (by simp;omega) (w3.heap.size+1) (by simp) ?_;intro gg Zh w4 TB hgrow Rp aik;have adt:=ai TB;have C8:=ai hgrow;have Uh:=ai Rp;clear TB hgrow Rp))
           have YU:u4.ownBlock=some gg∨gg=(w3.alloc (.cells #[I (o.base+pg+(n:Int)),.string D,.slice af F.length cf] 50)).heap.size:=by rw[World.size_alloc];exact Uh.o
           have HF4:=ai ((Fr.aY pF.o u4.ownBlock).trans (Fr.QR C8.o C8.o.size YU))
           go_roundw
           case rel=>exact⟨n+1,hs2++[⟨o.base+pg+(n:Int),D,F,af,cf⟩],by omega,by go_num,by rw[V8.o,Ai.o,List.map_append,Jy.o,List.append_assoc];rfl,by rw[List.length_append];simp;omega,(Rs.more (x:=⟨o.base+pg+(n:Int),D,F,af,cf⟩) HR4.o.fix aee.o adt.o C8.o C8.o.size YU),((Fs.o.trans (pF.o.mono Fs.o.size)).grown C8.o (by simp;omega) (fun q hq=>by have:=(C4.o q hq).1;omega)),HFi.o.trans HF4.o,HFs.o.trans HF4.o⟩
           case measure=>simp[intOf];omega
         · obtain rfl:n=P:=by omega
           clear L9 yL
           go_wp2
           go_roundw
           case rel=>exact⟨k+1,hs2,by omega,by go_num,by rw[ji.o,Jy.o,List.append_assoc],by omega,FN.o,Fs.o,HFi.o⟩
           case measure=>simp[intOf];omega
      · obtain rfl:k=o.i.dm.length:=by omega
        clear U3 hrs hb L9
        go_wp2
        go_roundw
        case rel=>exact⟨a+1,_,hs',by omega,by go_num,ady.o,FO.o,by omega,zC.o,Ti.o⟩
        case measure=>simp[intOf];omega
  · obtain rfl:a=l.length:=by omega
    have HX:Hid (R=some E):=by rw[HR.o];exact HE.o
    obtain⟨ah,ch,hv,hh,hc⟩:=wU.o.has
    subst hv
    have HHH:=ai hh
    clear hE U3 hrs hb hh
    go_wp2
    go_ret2
    show Jt R w _ _
    rw[HX.o]
    exact⟨fw.o,hs,ah,ch,ZM.o,rfl,HHH.o,hc⟩
end LW
end Go.Proofs.YtpgifpeohlllfaaGreat
