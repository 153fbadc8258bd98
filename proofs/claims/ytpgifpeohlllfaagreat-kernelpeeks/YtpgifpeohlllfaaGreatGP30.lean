import Derived.Test.YtpgifpeohlllfaaGreatGP00
import Derived.Test.YtpgifpeohlllfaaGreatGP29
import Derived.Deep.RegionHeld3
import Derived.Deep.Upon
import Derived.Test.YtpgifpeohlllfaaGreatGP09
set_option maxHeartbeats 20000000
set_option linter.unusedVariables false
set_option maxRecDepth 100000
set_option linter.unusedSimpArgs false
namespace Go.Proofs.YtpgifpeohlllfaaGreat
namespace LW
open Go.RowKit
open W (ai)
theorem py {lo:Nat} {w w':World} {v:Value} {l:List AM.Ar} (h:AW.Own lo w v l) (hb:Below w.heap.size w w'):AW.Own lo w' v l:=sU h hb
theorem sX {lo:Nat} {w:World} {v:Value} {l:List AM.Ar} (h:AW.Own lo w v l):∃ao cap,v=.slice ao l.length cap/\(0<l.length->∃g,ao=some (Ad g 0)):=by
 rcases h.2 with⟨hv,h0⟩ | ⟨g,cap,cur,hv,_⟩
 · exact⟨none,0,by rw[hv,h0],fun hl=>by omega⟩
 · exact⟨_,cap,hv,fun _=>⟨g,rfl⟩⟩
theorem o8 (l:List LM.Ob) (ao:Option Addr) (cap:Nat) (w:World) (h:Oi l ao w) (hl7:l.length<=7) :
  Calls Tryz.prog 136 #[.slice ao l.length cap] w fun e w'=>∃r,e=.returned r/\AW.Own w.heap.size w' r (LM.mR l)/\Below w.heap.size w w':=by
 have HO:=ai h
 clear h
 go_enter Tryz.func136,Tryz.ntmps136
 go_wp2
 go_loopw [11,3] (fun i v wr=>∃(a:Nat),a<=l.length/\i=I a/\AW.Own w.heap.size wr v (LM.NV l a)/\Below w.heap.size w wr) (fun i _ _=>l.length-(intOf i).toNat)
 case atStart=>exact⟨0,by omega,rfl,AW.Own.nil _ _,Below.refl _ _⟩
 case round =>
  obtain⟨a,hal,rfl,hown,hb⟩:=hrel
  have HOW:=ai hown
  have iM:=ai hb
  by_cases hlt:a<l.length
  · have HOr:=ai (HO.o.below hb)
    obtain⟨b,off,hao,hbl,bC⟩:=HOr.o.has (by omega)
    obtain⟨⟨c0,c1,c2,c3,c4,c5,c6⟩,him⟩:=bC a hlt
    have hbs:=HO.o.base a hlt
    have pI:=HO.o.Wm a hlt
    obtain⟨b2,CG,Mt,Jh,C2⟩:=HO.o.has (by omega)
    have AV:=(C2 a hlt).2
    have iL:Hid (LM.NV l (a+1)=LM.Rj (LM.dK l a) (LM.NV l a) (LM.dK l a).i.cU.length):=rfl
    obtain⟨o,ho⟩:=ex (LM.dK l a)
    rw[<- ho] at c0 c1 c2 c3 c4 c5 c6 AV hbs pI iL
    have oo:=ai (LM.A8 l a)
    obtain⟨L,hL⟩:=ex (LM.NV l a)
    rw[<- hL] at HOW iL oo
    have hcn:=LM.counts_of pI
    have DY:=ai (LM.nH pI)
    obtain⟨bs,CF,hag,Mp,NN⟩:=AV.cU (by omega)
    have HLG:=ai NN
    rw[hag] at c2
    clear ho hL bC hb hown him NN hag AV C2 Mt Jh pI
    subst hao
    have cj:=ai (iM.o.alloc iM.o.size (.cells #[.string o.i.name,.slice o.a.an o.i.needs.length o.a.cn,.slice (some (Ad bs CF)) o.i.cU.length o.a.cg,.slice o.a.ay o.i.syms.length o.a.cy,.slice o.a.ar o.i.fu.length o.a.cr,I o.i.entry,I o.base] 195))
    have qW:=ai ((Below.refl wr.heap.size wr).alloc (Nat.le_refl _) (.cells #[.string o.i.name,.slice o.a.an o.i.needs.length o.a.cn,.slice (some (Ad bs CF)) o.i.cU.length o.a.cg,.slice o.a.ay o.i.syms.length o.a.cy,.slice o.a.ar o.i.fu.length o.a.cr,I o.i.entry,I o.base] 195))
    have BO:=ai (B.new wr #[.string o.i.name,.slice o.a.an o.i.needs.length o.a.cn,.slice (some (Ad bs CF)) o.i.cU.length o.a.cg,.slice o.a.ay o.i.syms.length o.a.cy,.slice o.a.ar o.i.fu.length o.a.cr,I o.i.entry,I o.base] 195)
    have HOA:=ai (py HOW.o qW.o)
    go_wp2
    obtain⟨W1,hW1⟩:=ex (wr.alloc (.cells #[.string o.i.name,.slice o.a.an o.i.needs.length o.a.cn,.slice (some (Ad bs CF)) o.i.cU.length o.a.cg,.slice o.a.ay o.i.syms.length o.a.cy,.slice o.a.ar o.i.fu.length o.a.cr,I o.i.entry,I o.base] 195))
    rw[<- hW1] at cj qW BO HOA
    rw[<- hW1]
    obtain⟨ob,SI⟩:=ex wr.heap.size
    rw[<- SI] at BO
    rw[<- SI]
    clear hW1 SI qW HOW iM HOr c0 c1 c2 c3 c4 c5 c6 hbl
    go_loopw [19,3] (fun i v wm=>∃(k:Nat),k<=o.i.cU.length/\i=I k/\AW.Own w.heap.size wm v (LM.Rj o L k)/\Below w.heap.size w wm/\Below W1.heap.size W1 wm) (fun i _ _=>o.i.cU.length-(intOf i).toNat)
    case atStart=>exact⟨0,by omega,rfl,HOA.o,cj.o,Below.refl _ _⟩
    case round =>
     obtain⟨k,hk,rfl,hown,hb,hb1⟩:=hrel
     have HOW:=ai hown
     have QJ:=ai hb
     have aZ:=ai hb1
     clear HOA cj
     by_cases hlk:k<o.i.cU.length
     · obtain⟨c0,c1,c2,c3,c4⟩:=M.wV hb Mp HLG.o k hlk
       have oU:=DY.o k hlk
       have Mo:bs<wr.heap.size:=Nat.lt_of_lt_of_le Mp hb.size
       have Yy:=ai (LM.G8 o L oo.o k)
       have HKX:Hid (LM.Rj o L (k+1)=LM.EI o (LM.Rj o L k) (M.dn o.i.cU k)):=rfl
       obtain⟨s,L8⟩:=ex (M.dn o.i.cU k)
       rw[<- L8] at c0 c1 c2 c3 c4 oU HKX
       clear L8
       obtain⟨L2,hL2⟩:=ex (LM.Rj o L k)
       rw[<- hL2] at HOW Yy HKX
       clear hL2
       obtain⟨pg,pn,dt,wb,qZ0⟩:=s
       simp only at c0 c1 c2 c3 c4 oU
       have cj:=ai (QJ.o.alloc QJ.o.size (.cells #[I pg,I pn,.string dt,.bool wb,.bool qZ0] 145))
       have qW:=ai ((Below.refl wr.heap.size wr).alloc (Nat.le_refl _) (.cells #[I pg,I pn,.string dt,.bool wb,.bool qZ0] 145))
       have BS:=ai (B.new wr #[I pg,I pn,.string dt,.bool wb,.bool qZ0] 145)
       have BOA:=ai (B.alloc (B.below BO.o aZ.o (B.isLt BO.o)) (.cells #[I pg,I pn,.string dt,.bool wb,.bool qZ0] 145))
       have T6:=ai (aZ.o.alloc aZ.o.size (.cells #[I pg,I pn,.string dt,.bool wb,.bool qZ0] 145))
       have WQ:=ai (py HOW.o qW.o)
       clear hown hb hb1
       go_wp2
       obtain⟨WA,dx⟩:=ex (wr.alloc (.cells #[I pg,I pn,.string dt,.bool wb,.bool qZ0] 145))
       rw[<- dx] at cj BS BOA T6 WQ
       rw[<- dx]
       obtain⟨sb,E2⟩:=ex wr.heap.size
       rw[<- E2] at BS
       rw[<- E2]
       clear dx E2 qW HOW QJ aZ c0 c1 c2 c3 c4 Mo
       have HS:Hid (∀V,Below WA.heap.size WA V->V.cell? (Ad ob 6)=some (I o.base)/\V.cell? (Ad sb 0)=some (I pg)/\V.cell? (Ad sb 1)=some (I pn)/\V.cell? (Ad sb 2)=some (.string dt)/\V.cell? (Ad sb 3)=some (.bool wb)/\V.cell? (Ad sb 4)=some (.bool qZ0)):=fun V hb=>by
        have h1:=B.below BOA.o hb (B.isLt BOA.o)
        have h2:=B.below BS.o hb (B.isLt BS.o)
        exact⟨B.cell h1 6 rfl,B.cell h2 0 rfl,B.cell h2 1 rfl,B.cell h2 2 rfl,B.cell h2 3 rfl,B.cell h2 4 rfl⟩
       have qZ:Hid (∀V,Calls Tryz.prog 164 #[.agg #[I pg,I pn,.string dt,.bool wb,.bool qZ0]] V fun e w'=>e=.returned (I (LM.rB ⟨pg,pn,dt,wb,qZ0⟩))/\Below V.heap.size V w'):=fun V=>Ld ⟨pg,pn,dt,wb,qZ0⟩ V
       have Ru:Hid (∀V,Below WA.heap.size WA V->Calls Tryz.prog 74 #[u3,I (o.base+pg),I pn,I (LM.rB ⟨pg,pn,dt,wb,qZ0⟩)] V fun e w'=>∃r,e=.returned (.tuple #[r,I (AW.nN L2 (o.base+pg) pn (LM.rB ⟨pg,pn,dt,wb,qZ0⟩)).2])/\AW.Own V.heap.size w' r (AW.nN L2 (o.base+pg) pn (LM.rB ⟨pg,pn,dt,wb,qZ0⟩)).1/\Below V.heap.size V w'):=fun V hb=>AW.OX L2 u3 (o.base+pg) pn _ V (py WQ.o hb).has Yy.o (by unfold AW.fR;omega) (by unfold AW.fR;omega)
       have HMS:Hid (LM.EI o L2 ⟨pg,pn,dt,wb,qZ0⟩=(AW.nN L2 (o.base+pg) pn (LM.rB ⟨pg,pn,dt,wb,qZ0⟩)).1):=rfl
       obtain⟨PR,Mw⟩:=ex (LM.rB ⟨pg,pn,dt,wb,qZ0⟩)
       rw[<- Mw] at qZ Ru HMS
       obtain⟨MN,hMN⟩:=ex (AW.nN L2 (o.base+pg) pn PR)
       rw[<- hMN] at Ru HMS
       clear Mw hMN
       have hwr:IntKind.i64.wrap (o.base+pg)=o.base+pg:=IntWalk.i64_in _ (by omega)
       have iz:=ai (Below.refl WA.heap.size WA).drew
       have gL:=ai (HS.o _ iz.o)
       go_region_held3 (fun V=>V.cell? (Ad ob 6)=some (I o.base)/\V.cell? (Ad sb 0)=some (I pg)/\V.cell? (Ad sb 1)=some (I pn)/\V.cell? (Ad sb 2)=some (.string dt)/\V.cell? (Ad sb 3)=some (.bool wb)/\V.cell? (Ad sb 4)=some (.bool qZ0)) (first | exact jF.o | exact iy.o | exact gL.o)
        (first
         | (go_at_call 164;refine(qZ.o _).mono ?_;rintro e w2 ⟨rfl,hb⟩;have jh:=ai (iz.o.trans (hb.mono iz.o.size));have iy:=ai (HS.o _ jh.o);clear hb)
         | (go_at_call 74;refine(Ru.o _ jh.o).mono ?_;rintro e w3 ⟨v8,rfl,Jb,hb⟩;have ld:=ai (jh.o.trans (hb.mono jh.o.size));have jF:=ai (HS.o _ ld.o);have DZ:=ai Jb;clear hb Jb))
       go_wp2
       go_roundw
       case rel=>exact⟨k+1,by omega,by go_num,by rw[HKX.o,HMS.o];exact DZ.o.mono (Nat.le_trans cj.o.size jh.o.size),cj.o.trans (ld.o.mono cj.o.size),T6.o.trans (ld.o.mono T6.o.size)⟩
       case measure=>simp[intOf];omega
     · obtain rfl:k=o.i.cU.length:=by omega
       clear hown hb hb1
       go_wp2
       go_roundw
       case rel=>exact⟨a+1,by omega,by go_num,by rw[iL.o];exact HOW.o,QJ.o⟩
       case measure=>simp[intOf];omega
  · obtain rfl:a=l.length:=by omega
    have Kj:Hid (LM.mR l=LM.kO (LM.NV l l.length) (LM.NV l l.length).length):=(LM.Jx _).symm
    have oo:=ai (LM.A8 l l.length)
    obtain⟨L,hL⟩:=ex (LM.NV l l.length)
    rw[<- hL] at HOW Kj oo
    have hll:=oo.o.2
    obtain⟨ar,cr,hv,hg⟩:=sX HOW.o
    subst hv
    have HG:=ai hg
    clear hown hb hL hg oo
    go_wp2
    go_loopw [41] (fun i wr=>∃(k:Nat),k<=L.length/\i=I k/\AW.Own w.heap.size wr (.slice ar L.length cr) (LM.kO L k)/\Below w.heap.size w wr) (fun i _=>L.length-(intOf i).toNat)
    case atStart=>exact⟨0,by omega,rfl,HOW.o,iM.o⟩
    case round =>
     obtain⟨k,hk,rfl,hown,hb⟩:=hrel
     have Qu:=ai hown
     have Xl:=ai hb
     clear HOW iM hown hb
     by_cases hlt:k<L.length
     · obtain⟨g,hg⟩:=HG.o (by omega)
       subst hg
       have DV:=LM.kT L k
       have TT:Hid (wr.ownsRow w.heap.size 47 4 (.slice (some (Ad g 0)) L.length cr) L.length (AM.bf (LM.kO L k))):=by
        have h:=Qu.o
        unfold AW.Own at h
        rw[DV] at h
        exact h
       have HST:=ai (TT.o.stored (k*4+3) (.bool false))
       have iL:Hid (AM.bf (LM.kO L (k+1))=(AM.bf (LM.kO L k)).set (k*4+3) (.bool false)):=(LM.gy false (LM.kO L k) k (by omega)).symm
       have hlx:=LM.kT L (k+1)
       have HLX:=ai hlx
       have hgl:=TT.o.lt g rfl
       have q3:=(TT.o.cellAt (k*4+3) (by omega)).trans (AM.eI (LM.kO L k) k 3 (by omega) (by omega))
       have qf:=TT.o.frozenAt (k*4+3)
       clear DV hlx
       go_wp2
       go_roundw
       case rel=>exact⟨k+1,by omega,by go_num,by unfold AW.Own;rw[HLX.o,iL.o];exact HST.o.1,Xl.o.setCell (by simp;omega) _⟩
       case measure=>simp[intOf];omega
     · obtain rfl:k=L.length:=by omega
       go_wp2
       go_ret
       exact⟨_,rfl,by rw[Kj.o];exact Qu.o,Xl.o⟩
theorem Sv:(Tryz.prog.info? 151).map (fun i=>(i.zero,i.size,i.bytes))=some (some (.agg #[.string ⟨#[]⟩,Nl,Nl,Nl,Nl,I 0]),6,120):=by kernel_rfl
theorem LO {w:World} {b off:Nat} {l:List LM.Li} (h:LM.Nk w b off l):∀j u,(l.flatMap LM.bQ)[j]?=some u->w.cell? (((Ad b off):Addr).add j)=some u:=fun j u hj=>by
 obtain⟨k,r,hr,rfl⟩:∃k r,r<6/\j=k*6+r:=⟨j/6,j%6,by omega,by omega⟩
 have hlen:∀l:List LM.Li,(l.flatMap LM.bQ).length=l.length*6:=fun l=>by
  induction l with
  | nil=>rfl
  | cons a r ih=>rw[List.flatMap_cons,List.length_append,ih,List.length_cons];show 6+_=_;omega
 have hk:k<l.length:=by
  obtain⟨hlt,_⟩:=List.getElem?_eq_some_iff.1 hj
  rw[hlen] at hlt
  omega
 rw[flat_get LM.bQ 6 (fun _=>rfl) LM.YZ l k r hk hr] at hj
 obtain⟨⟨c0,c1,c2,c3,c4,c5⟩,_⟩:=h k hk
 rw[Addr.add_lit,<- Nat.add_assoc]
 match r,hr with
 | 0,_=>exact c0.trans hj
 | 1,_=>exact c1.trans hj
 | 2,_=>exact c2.trans hj
 | 3,_=>exact c3.trans hj
 | 4,_=>exact c4.trans hj
 | 5,_=>exact c5.trans hj
theorem R9 {w:World} {base:Nat} {g cap:Nat} {l:List LM.Li} (h:w.ownsRow base 151 6 (.slice (some (Ad g 0)) l.length cap) l.length (l.flatMap LM.bQ)) (hg:g<w.heap.size) (hi:∀k,k<l.length->M.mK w (LM.b9 l k).a (LM.b9 l k).i) :
  LM.FT w (some (Ad g 0)) l:=fun hl=>by
 refine⟨g,0,rfl,hg,fun k hk=>?_⟩
 rw[Nat.zero_add]
 have hh:∀j,j<6->w.cell? (Ad g (k*6+j))=(LM.bQ (LM.b9 l k))[j]?:=fun j hj=>(h.cellAt _ (by omega)).trans (flat_get LM.bQ 6 (fun _=>rfl) LM.YZ l k j hk hj)
 exact⟨⟨hh 0 (by omega),hh 1 (by omega),hh 2 (by omega),hh 3 (by omega),hh 4 (by omega),hh 5 (by omega)⟩,hi k hk⟩
theorem qo {ops:Array Oper} {rest:List Oper} {o:Oper} {a:Act} {w:World} {Q:Exit->Act->World->Prop} (hgd:o.guard=none) (s x:Operand)
  (ho:o.op=.call { callee:=.builtin .append,args:=#[s,x],argTypes:=#[187,187] })
  (base:Nat) (p:LM.Li) (g0:Nat) (hs:a.eval s=.slice (some (Ad g0 0)) 1 1) (hown:w.ownsRow base 151 6 (.slice (some (Ad g0 0)) 1 1) 1 (LM.bQ p))
  (ao:Option Addr) (c:Nat) (libs:List LM.Li) (hx:a.eval x=.slice ao libs.length c) (bC:LM.FT w ao libs) (h6:libs.length<=6) (hbase:base<=w.heap.size)
  (h:∀g cap w',w'.ownsRow base 151 6 (.slice (some (Ad g 0)) (libs.length+1) cap) (libs.length+1) ((p::libs).flatMap LM.bQ)->w.grownBy w' (some g0)->g<w'.heap.size->wpList Tryz.prog ops Q rest (a.put o.dst (.slice (some (Ad g 0)) (libs.length+1) cap)) w'):wpList Tryz.prog ops Q (o::rest) a w:=by
 obtain⟨i0,hin,hz0,hz1,hz2⟩:=info_parts Sv
 by_cases h0:0<libs.length
 · obtain⟨b,off,rfl,hb,hl⟩:=bC h0
   have hlen:∀l:List LM.Li,(l.flatMap LM.bQ).length=l.length*6:=fun l=>by
    induction l with
    | nil=>rfl
    | cons a r ih=>rw[List.flatMap_cons,List.length_append,ih,List.length_cons];show 6+_=_;omega
   have hone:∀u∈libs.flatMap LM.bQ,u.oneCell'=true:=fun u hu=>by
    obtain⟨y,_,hy⟩:=List.mem_flatMap.1 hu
    simp only[LM.bQ,M.eO] at hy
    simp at hy
    rcases hy with rfl | rfl | rfl | rfl | rfl | rfl <;> rfl
   refine wpList_append_lies w hgd s x 187 ho base 151 i0 (.agg #[.string ⟨#[]⟩,Nl,Nl,Nl,Nl,I 0]) 6 120 Tryz.underlying187 hin hz0 hz1 hz2 rfl (by decide) _ 1 _ hs hown (Ad b off) libs.length c (libs.flatMap LM.bQ) hx (hlen _) (LO hl) hone h0 (by unfold maxLen;omega) (by omega) hbase _ rfl ?_
   intro g cap w' h2 h3 _ h5
   have e:1+libs.length=libs.length+1:=Nat.add_comm _ _
   rw[e] at h2 ⊢
   exact h g cap w' h2 h3 h5
 · have e0:libs=[]:=List.eq_nil_of_length_eq_zero (by omega)
   subst e0
   have hg0:g0<w.heap.size:=(hown.lt g0 rfl).2
   refine wpList_plain hgd fun K hK=>?_
   have hsrc:Src Tryz.prog i0.size 187 (.slice ao 0 c) 0 [] w:=⟨.inl ⟨_,Tryz.underlying187⟩,fun w'=>by simp[Builtin.lenOf],by cases ao <;> simp[Builtin.firstCells,loadCells,loadCellsFrom],by cases ao <;> simp[Builtin.firstCells,loadCells,loadCellsFrom],by simp,by simp⟩
   have hr:=run_append_nothing (P:=Tryz.prog) w 187 187 o.type 151 i0 Tryz.underlying187 hin (some (Ad g0 0)) 1 1 (Nat.le_refl _) (.slice ao 0 c) hsrc
   have hx':a.eval x=.slice ao 0 c:=hx
   unfold Oper.wp execOp
   simp only[ho,resolve,invoke,builtin,Sem.run_bind,Sem.run_pure,Result.andThen_ok,List.map_toArray,List.map_cons,List.map_nil,hs,hx',hr]
   refine hK _ _ (h g0 1 w ?_ ⟨rfl,rfl,rfl,Nat.le_refl _,fun _ _ _=>rfl⟩ hg0)
   have e:([p].flatMap LM.bQ)=LM.bQ p:=by simp
   rw[e]
   exact hown
end LW
namespace LW
open Go.RowKit Go.WideMaps Go.Maps
open W (ai)
def Ws (all:List LM.Li) (w:World) (e:Ending) (w':World):Prop:=Below w.heap.size w w' /\
 if LM.gH all=0 then ∃(ix:List Nat) (E:List LM.Sp) (r:Value) (hs:List LM.Sh) (ao:Option Addr) (cap:Nat),LM.Uf all all.length 0 [0]=some ix/\LM.kQ (LM.cu all 1 ix)=some E/\hs.map LM.plain=E /\
  e=.returned (.tuple #[.agg #[r,.slice ao hs.length cap,I (LM.uN (LM.dK (LM.cu all 1 ix) 0) (LM.b9 all 0).i.entry)],I 0])/\AW.Own w.heap.size w' r (LM.mR (LM.cu all 1 ix))/\LM.jg w' ao hs/\hs.length<=cap
 else e=.returned (.tuple #[.agg #[Nl,Nl,I 0],I (LM.gH all)])
theorem jQ (V:World) (rb b j:Nat) (u0 u1 u2:Value) (h:b≠rb):(((V.setCell (Ad rb 0) u0).setCell (Ad rb 1) u1).setCell (Ad rb 2) u2).cell? (Ad b j)=V.cell? (Ad b j):=by
 rw[World.cell?_setCell_far _ (Ad rb 2) (Ad b j) u2 (Ne.symm h),World.cell?_setCell_far _ (Ad rb 1) (Ad b j) u1 (Ne.symm h),World.cell?_setCell_far _ (Ad rb 0) (Ad b j) u0 (Ne.symm h)]
def K0 (V:World) (rb:Nat) (u0 u1 u2:Value):World:=((V.setCell (Ad rb 0) u0).setCell (Ad rb 1) u1).setCell (Ad rb 2) u2
theorem yP (V:World) (rb:Nat) (u0 u1 u2:Value):(K0 V rb u0 u1 u2).heap.size=V.heap.size:=by simp[K0]
theorem QT {V:World} {rb b off:Nat} {t:TypeId} {x:Int} {y:ByteArray} (h:V.heap[rb]?=some (.cells #[Nl,Nl,I 0] t (0,0))) (c0:V.cell? (Ad b off)=some (I x)) (c1:V.cell? (Ad b (off+1))=some (.string y)):b≠rb:=fun e=>by
 rw[e] at c0 c1
 simp only[World.cell?,h] at c0 c1
 match off with
 | 0=>simp at c0
 | 1=>simp at c0
 | 2=>simp at c1
 | n+3=>simp at c0
theorem Jk {V:World} {rb:Nat} {t:TypeId} (h:V.heap[rb]?=some (.cells #[Nl,Nl,I 0] t (0,0))) {ao:Option Addr} {l:List LM.Fx} (g:LM.ou V ao l) (u0 u1 u2:Value):LM.ou (K0 V rb u0 u1 u2) ao l:=fun hl=>by
 obtain⟨b,off,e,hb,bC⟩:=g hl
 obtain⟨c0,c1⟩:=bC 0 hl
 have hne:=QT h c0 c1
 refine⟨b,off,e,by rw[yP];exact hb,fun k hk=>?_⟩
 obtain⟨d0,d1⟩:=bC k hk
 exact⟨(jQ V rb b _ u0 u1 u2 hne).trans d0,(jQ V rb b _ u0 u1 u2 hne).trans d1⟩
theorem Jj {V:World} {rb:Nat} {t:TypeId} (h:V.heap[rb]?=some (.cells #[Nl,Nl,I 0] t (0,0))) {ao:Option Addr} {l:List LM.Sh} (g:LM.jg V ao l) (u0 u1 u2:Value):LM.jg (K0 V rb u0 u1 u2) ao l:=fun hl=>by
 obtain⟨b,off,e,hb,bC⟩:=g hl
 obtain⟨c0,c1,_,_⟩:=bC 0 hl
 have hne:=QT h c0 c1
 refine⟨b,off,e,by rw[yP];exact hb,fun k hk=>?_⟩
 obtain⟨d0,d1,d2,d3⟩:=bC k hk
 exact⟨(jQ V rb b _ u0 u1 u2 hne).trans d0,(jQ V rb b _ u0 u1 u2 hne).trans d1,(jQ V rb b _ u0 u1 u2 hne).trans d2,Jk h d3 u0 u1 u2⟩
theorem Lg {V:World} {rb lo:Nat} {v:Value} {l:List AM.Ar} (h:AW.Own lo V v l) (hlt:rb<lo) (u0 u1 u2:Value):AW.Own lo (K0 V rb u0 u1 u2) v l :=
 ownsRow_setCell_below (ownsRow_setCell_below (ownsRow_setCell_below h hlt _) hlt _) hlt _
theorem Ds (l:List LM.Li) (ao:Option Addr) (cap:Nat) (w:World) (h:LM.FT w ao l) (hf:LM.Xq l) (pI:∀k,k<l.length->∀V,Below w.heap.size w V->Calls Tryz.prog 158 #[.agg (M.eO (LM.b9 l k).a (LM.b9 l k).i)] V fun e w'=>e=.returned (I (M.jB (LM.b9 l k).i))/\Below V.heap.size V w'):Calls Tryz.prog 132 #[.slice ao l.length cap] w (aat l w):=by
 have HH:=ai h
 have HF:=ai hf
 have BC:=ai pI
 have hn:l.length<=140737488351232:=hf.1
 clear h hf pI
 have hmm:=@run_makeMap Tryz.prog
 go_enter Tryz.func132,Tryz.ntmps132
 go_wp2
 go_loopw [12] (fun i wr=>∃k:Nat,k<=l.length/\i=I k/\LM.kM l k=0/\Below w.heap.size w wr) (fun i _=>l.length-(intOf i).toNat)
 case atStart=>exact⟨0,by omega,rfl,rfl,Below.refl _ _⟩
 case round =>
  obtain⟨k,hk,rfl,hz,hb⟩:=hrel
  have HZ:=ai hz
  have iM:=ai hb
  clear hz
  by_cases hlt:k<l.length
  · obtain⟨b,off,hao,hbl,bC⟩:=(HH.o.below hb) (by omega)
    subst hao
    obtain⟨⟨c0,c1,c2,c3,c4,c5⟩,hi⟩:=bC k hlt
    have sF:=HF.o.2 k hlt
    have fh:=ai (BC.o k hlt)
    have HE:Hid (LM.kM l (k+1)=M.jB (LM.b9 l k).i):=by
     show _=_
     simp only[LM.kM]
     rw[if_pos HZ.o]
    have DL:Hid (M.jB (LM.b9 l k).i≠0->LM.lV l=M.jB (LM.b9 l k).i):=fun g=>by
     have e1:LM.kM l (k+1)≠0:=by rw[HE.o];exact g
     have e2:=LM.uH l (k+1) e1 l.length (by omega)
     unfold LM.lV
     rw[e2,if_neg e1,HE.o]
    obtain⟨x,hx⟩:=ex (LM.b9 l k)
    rw[<- hx] at c0 c1 c2 c3 c4 c5 hi sF HE DL fh
    clear hx bC hb
    obtain⟨⟨nm,ns,gs,ys,rs,en⟩,⟨an,cn,ag,cg,ay,cy,ar,cr⟩⟩:=x
    simp only at c0 c1 c2 c3 c4 c5
    have cj:=ai (iM.o.alloc iM.o.size (.cells #[.string nm,.slice an ns.length cn,.slice ag gs.length cg,.slice ay ys.length cy,.slice ar rs.length cr,I en] 151))
    have HC:Hid (∀W,Below wr.heap.size wr W->Calls Tryz.prog 158 #[.agg #[.string nm,.slice an ns.length cn,.slice ag gs.length cg,.slice ay ys.length cy,.slice ar rs.length cr,I en]] W fun e w'=>e=.returned (I (M.jB ⟨nm,ns,gs,ys,rs,en⟩))/\Below W.heap.size W w'):=fun V hb=>fh.o V (iM.o.trans (hb.mono iM.o.size))
    clear hi sF fh BC
    obtain⟨c,hc⟩:=ex (M.jB ⟨nm,ns,gs,ys,rs,en⟩)
    simp only at HE DL
    rw[<- hc] at HC HE DL
    clear hc
    by_cases hcz:c=0
    · subst hcz
      clear DL
      go_wp2_with (go_at_call 158;refine(HC.o _ ((Below.refl _ _).alloc (Nat.le_refl _) _)).mono ?_;rintro e w1 ⟨rfl,hb⟩;have cj:=ai (cj.o.trans (hb.mono cj.o.size));clear hb)
      go_roundw
      case rel=>exact⟨k+1,by omega,by go_num,HE.o,cj.o⟩
      case measure=>simp[intOf];omega
    · have RA:=ai (DL.o hcz)
      have ae3:(c==0)=false:=by simpa using hcz
      clear DL HE
      go_wp2_with (go_at_call 158;refine(HC.o _ ((Below.refl _ _).alloc (Nat.le_refl _) _)).mono ?_;rintro e w1 ⟨rfl,hb⟩;have cj:=ai (cj.o.trans (hb.mono cj.o.size));clear hb)
      go_ret2
      refine⟨cj.o,?_⟩
      rw[RA.o,if_neg hcz]
      rfl
  · obtain rfl:k=l.length:=by omega
    clear hb
    obtain⟨m,hm⟩:=ex wr.heap.size
    have hsm:w.heap.size<=m:=by rw[hm];exact iM.o.size
    have HM0:Hid ((wr.alloc (.map #[] 0)).ownsMap Tryz.prog 9 LM.Rv m 0 (.map [])):=by
     rw[hm]
     exact World.ownsMap_made _ _ _ _
    have HM:=ai hm
    clear hm
    go_wp2
    rw[<- HM.o]
    go_loopw [25] (fun i wi=>∃(k:Nat) (D:DataW Value),k<=l.length/\i=I k/\wi.ownsMap Tryz.prog 9 LM.Rv m k D/\LM.Nm l k D/\Below w.heap.size w wi) (fun i _=>l.length-(intOf i).toNat)
    case atStart=>exact⟨0,.map [],Nat.zero_le _,rfl,HM0.o,LM.OO l,iM.o.alloc iM.o.size _⟩
    case round =>
     obtain⟨k,D,hk,rfl,hown,pH,hb⟩:=hrel
     have HW:=ai hown
     have HN:=ai pH
     have Hp:=ai hb
     by_cases hlt:k<l.length
     · obtain⟨b,off,hao,hbl,bC⟩:=(HH.o.below hb) (by omega)
       subst hao
       obtain⟨⟨c0,c1,c2,c3,c4,c5⟩,hi⟩:=bC k hlt
       have sF:=(HF.o.2 k hlt).name
       have Rt:=ai (LM.OP hlt hown.isMap (hown.tidy W.law) pH)
       obtain⟨x,hx⟩:=ex (LM.b9 l k)
       rw[<- hx] at c0 c1 c2 c3 c4 c5 sF Rt
       clear hx bC hb hi hown pH
       obtain⟨⟨nm,ns,gs,ys,rs,en⟩,⟨an,cn,ag,cg,ay,cy,ar,cr⟩⟩:=x
       simp only at c0 c1 c2 c3 c4 c5 sF
       have hkey:=W.GL sF
       have fQ:k<maxLen:=by unfold maxLen;omega
       have cj:=ai (Hp.o.alloc Hp.o.size (.cells #[.string nm,.slice an ns.length cn,.slice ag gs.length cg,.slice ay ys.length cy,.slice ar rs.length cr,I en] 151))
       have eV:=ai (HW.o.alloc (.cells #[.string nm,.slice an ns.length cn,.slice ag gs.length cg,.slice ay ys.length cy,.slice ar rs.length cr,I en] 151))
       go_wp2_with (first | (at_mapUpdate;refine wpList_mapUpdate_own _ rfl _ _ _ 188 rfl 9 151 W.law Tryz.underlying188 LM.Rv m k D rfl eV.o fQ _ _ _ rfl rfl hkey _ [] rfl ?_;intro w1 hown1 hgrow1;have pj:=ai hown1;have aZ:=ai (cj.o.grown hgrow1 cj.o.size (fun j hj=>by cases hj;exact hsm));clear hown1 hgrow1) | go_in)
       go_roundw
       case rel=>exact⟨k+1,_,by omega,by go_num,pj.o,Rt.o,aZ.o⟩
       case measure=>simp[intOf];omega
     · obtain rfl:k=l.length:=by omega
       have hlen:=hown.len Tryz.underlying188 3
       have HE0:=ai HZ.o
       by_cases ho:M.iU (LM.fD l) l.length=true
       · have hsz:=pH.all.2 ho
         have RA:Hid (LM.lV l=0):=by
          show _=_
          unfold LM.lV M.oQ
          rw[if_pos HE0.o,LM.iE,ho]
          rfl
         rw[hsz] at hlen
         clear hown pH hb hsz ho
         go_wp2
         go_ret2
         refine⟨Hp.o,?_⟩
         rw[RA.o,if_pos rfl]
         exact⟨_,D,rfl,HW.o,HN.o⟩
       · have hsz:Maps.size D<l.length:=by
          have h1:=pH.le
          have h2:=pH.all
          rcases Nat.lt_or_ge (Maps.size D) l.length with g | g
          · exact g
          · exact(ho (h2.1 (by omega))).elim
         have RA:Hid (LM.lV l=5):=by
          show _=_
          unfold LM.lV M.oQ
          rw[if_pos HE0.o,LM.iE,if_neg ho]
         obtain⟨z,hz⟩:=ex (Maps.size D)
         rw[<- hz] at hlen hsz
         have hsz':(z:Int)<(l.length:Int):=by omega
         clear hown pH hb ho hz
         go_wp2
         go_ret2
         refine⟨Hp.o,?_⟩
         rw[RA.o,if_neg (by decide)]
         rfl
end LW
namespace LW
open Go.RowKit
open W (ai)
theorem ye (l:List LM.Ob) (ao:Option Addr) (cap:Nat) (w:World) (h:Oi l ao w) (hl7:l.length<=7) (hpx:∀k,k<l.length->∀V,Below w.heap.size w V->Calls Tryz.prog 161 #[.agg (LM.kI (LM.dK l k)),.slice ao l.length cap] V (zO (LM.wK l (LM.dK l k)) V)):Calls Tryz.prog 135 #[.slice ao l.length cap] w (Hg (LM.kQ l) w):=by
 have HO:=ai h
 have HPX:=ai hpx
 clear h hpx
 obtain⟨R,hR⟩:=ex (LM.kQ l)
 have HR:Hid (R=LM.pZ l l.length):=hR
 rw[<- hR]
 clear hR
 obtain⟨i0,hin,hz0,hz1,hz2⟩:=info_parts AH
 go_enter Tryz.func135,Tryz.ntmps135
 go_wp2
 go_loopw [15,4] (fun i v wr=>∃(a:Nat) (E:List LM.Sp) (hs:List LM.Sh),a<=l.length/\i=I a/\LM.pZ l a=some E/\hs.map LM.plain=E/\hs.length<=a*1600/\Rs w.heap.size wr v hs/\Below w.heap.size w wr) (fun i _ _=>l.length-(intOf i).toNat)
 case atStart=>exact⟨0,[],[],by omega,rfl,rfl,rfl,by simp,Rs.nil _ _,Below.refl _ _⟩
 case round =>
  obtain⟨a,E,hs,hal,rfl,hE,SM,hlen,hrs,hb⟩:=hrel
  have HE:=ai hE
  have WW:=ai SM
  have vo:=ai hrs
  have iM:=ai hb
  by_cases hlt:a<l.length
  · have HOr:=ai (HO.o.below hb)
    obtain⟨b,off,hao,hbl,bC⟩:=HOr.o.has (by omega)
    obtain⟨⟨c0,c1,c2,c3,c4,c5,c6⟩,him⟩:=bC a hlt
    have hbs:=HO.o.base a hlt
    have pI:=HO.o.Wm a hlt
    have zR:Hid (∀V,Below wr.heap.size wr V->Calls Tryz.prog 161 #[.agg (LM.kI (LM.dK l a)),.slice ao l.length cap] V (zO (LM.wK l (LM.dK l a)) V)):=fun V hb=>HPX.o a hlt V (iM.o.trans (hb.mono iM.o.size))
    have gL:Hid (LM.wK l (LM.dK l a)=none->R=none):=fun g=>by
     rw[HR.o]
     refine LM.wP (k:=a+1) ?_ l.length (by omega)
     simp only[LM.pZ,HE.o,g]
    have jC:Hid (∀ps,LM.wK l (LM.dK l a)=some ps->LM.pZ l (a+1)=some (E++LM.tT (LM.dK l a) ps (LM.dK l a).i.cU.length)):=fun ps g=>by simp only[LM.pZ,HE.o,g]
    have pQ:Hid (∀ps,LM.wK l (LM.dK l a)=some ps->ps.length<=16/\∀j,j<ps.length->LM.T7 (LM.yl ps j)):=fun ps g=>by
     have h1:=LM.yZ g
     have h2:=(LM.counts_of pI).2.2.2.2
     exact⟨by omega,LM.Gr pI hbs.1 hbs.2 _ ps (Nat.le_refl _) g⟩
    obtain⟨b2,CG,Mt,Jh,C2⟩:=HO.o.has (by omega)
    have AV:=(C2 a hlt).2
    obtain⟨o,ho⟩:=ex (LM.dK l a)
    rw[<- ho] at AV
    rw[<- ho] at c0 c1 c2 c3 c4 c5 c6 him hbs pI zR gL jC pQ
    have hcn:=LM.counts_of pI
    have DY:=ai (LM.nH pI)
    have Uq:=ai him
    simp only[LM.kI] at zR
    obtain⟨bs,CF,hag,Mp,NN⟩:=AV.cU (by omega)
    have HLG:=ai NN
    rw[hag] at zR c2
    clear ho bC hb hE SM hrs him NN hag AV C2 Mt Jh Uq
    subst hao
    have cj:=ai (iM.o.alloc iM.o.size (.cells #[.string o.i.name,.slice o.a.an o.i.needs.length o.a.cn,.slice (some (Ad bs CF)) o.i.cU.length o.a.cg,.slice o.a.ay o.i.syms.length o.a.cy,.slice o.a.ar o.i.fu.length o.a.cr,I o.i.entry,I o.base] 195))
    have qW:=ai ((Below.refl wr.heap.size wr).alloc (Nat.le_refl _) (.cells #[.string o.i.name,.slice o.a.an o.i.needs.length o.a.cn,.slice (some (Ad bs CF)) o.i.cU.length o.a.cg,.slice o.a.ay o.i.syms.length o.a.cy,.slice o.a.ar o.i.fu.length o.a.cr,I o.i.entry,I o.base] 195))
    have BO:=ai (B.new wr #[.string o.i.name,.slice o.a.an o.i.needs.length o.a.cn,.slice (some (Ad bs CF)) o.i.cU.length o.a.cg,.slice o.a.ay o.i.syms.length o.a.cy,.slice o.a.ar o.i.fu.length o.a.cr,I o.i.entry,I o.base] 195)
    have zS:=ai (zR.o _ qW.o)
    cases e:LM.wK l o with
    | none =>
     have HRN:=ai (gL.o e)
     rw[e] at zS
     clear e gL jC pQ
     go_wp2_with (go_at_call 161;refine zS.o.mono ?_;rintro e w1 ⟨hb,rfl⟩;have aZ:=ai (cj.o.trans (hb.mono cj.o.size));clear hb)
     go_ret2
     show Hg R w _ _
     rw[HRN.o]
     exact⟨aZ.o,rfl⟩
    | some ps =>
     have aaM:=ai (jC.o ps e)
     obtain⟨hps,VD⟩:=pQ.o ps e
     have aa6:=ai VD
     rw[e] at zS
     clear e gL jC pQ VD
     have DT:∀q,u4.ownBlock=some q->q<wr.heap.size:=fun q hq=>(vo.o.row.lt q hq).2
     have Nu:=ai DT
     clear DT
     go_wp2_with (go_at_call 161;refine zS.o.mono ?_;rintro e w1 ⟨hb,v7,rfl,E3⟩;have aZ:=ai (cj.o.trans (hb.mono cj.o.size));have pj:=ai (qW.o.trans (hb.mono qW.o.size));have qZ:=ai E3;have BO1:=ai (B.below BO.o hb (B.isLt BO.o));have g2:=B.cell BO1.o 2 rfl;clear hb E3)
     obtain⟨ap,cp,hv7,Zu⟩:=Oz qZ.o u4.ownBlock (fun q hq=>by have:=Nu.o q hq;simp;omega)
     subst hv7
     have Yq:=ai Zu
     have WH:=ai (vo.o.below pj.o)
     have Zv:=iM.o.size
     obtain⟨rb,DT⟩:=ex u4.ownBlock
     have vt:=ai DT
     rw[<- DT] at Yq Nu
     clear Zu qZ zS zR qW cj vo pj g2 BO c0 c1 c2 c3 c4 c5 c6 DT HOr hbl
     obtain⟨ob,SI⟩:=ex wr.heap.size
     rw[<- SI] at BO1 Nu Zv
     rw[<- SI]
     have WU:Hid (some ob≠rb):=fun e=>by have:=Nu.o ob e.symm;omega
     clear SI iM Nu
     go_loopw [31,4] (fun i v wm=>∃(k:Nat) (hs':List LM.Sh),k<=o.i.cU.length/\i=I k/\hs'.map LM.plain=E++LM.tT o ps k/\hs'.length<=a*1600+k*255/\Rs w.heap.size wm v hs'/\Below w.heap.size w wm/\Fr w1 rb wm v.ownBlock) (fun i _ _=>o.i.cU.length-(intOf i).toNat)
     case atStart=>exact⟨0,hs,by omega,rfl,by rw[WW.o];simp[LM.tT],by omega,WH.o,aZ.o,by rw[vt.o];exact Fr.refl _ _⟩
     case round =>
      obtain⟨k,hs',hk,rfl,SM,hlen',hrs,hb,J2⟩:=hrel
      have D2:=ai SM
      have xU:=ai hrs
      have QJ:=ai hb
      have HFm:=ai J2
      clear WH vt hlen WW
      by_cases hlk:k<o.i.cU.length
      · obtain⟨c0,c1,c2,c3,c4⟩:=M.wV hb Mp HLG.o k hlk
        have oU:=DY.o k hlk
        have Mo:bs<wr.heap.size:=Nat.lt_of_lt_of_le Mp hb.size
        have iL:Hid (LM.tT o ps (k+1)=LM.tT o ps k++LM.wJ o ps (M.dn o.i.cU k) (M.dn o.i.cU k).aB.toNat):=rfl
        obtain⟨s,L8⟩:=ex (M.dn o.i.cU k)
        rw[<- L8] at c0 c1 c2 c3 c4 oU iL
        clear L8
        obtain⟨P,hP⟩:∃P:Nat,s.aB=(P:Int):=⟨s.aB.toNat,by omega⟩
        obtain⟨pg,pn,dt,wb,qZ0⟩:=s
        simp only at c0 c1 c2 c3 c4 oU iL hP
        subst hP
        rw[Int.toNat_natCast] at iL
        have hvb:∀q,u4.ownBlock=some q->q<wr.heap.size:=fun q hq=>(xU.o.row.lt q hq).2
        have Yn:=ai hvb
        have cj:=ai (QJ.o.alloc QJ.o.size (.cells #[I pg,I P,.string dt,.bool wb,.bool qZ0] 145))
        have qW:=ai ((Below.refl wr.heap.size wr).alloc (Nat.le_refl _) (.cells #[I pg,I P,.string dt,.bool wb,.bool qZ0] 145))
        have BS:=ai (B.new wr #[I pg,I P,.string dt,.bool wb,.bool qZ0] 145)
        have oo:=ai (HFm.o.trans (Fr.aW qW.o u4.ownBlock))
        have TH:=ai (xU.o.below qW.o)
        clear hvb SM hrs hb J2
        go_wp2
        obtain⟨vb,hvb⟩:=ex u4.ownBlock
        have HVE:=ai hvb
        rw[<- hvb] at Yn
        obtain⟨WA,dx⟩:=ex (wr.alloc (.cells #[I pg,I P,.string dt,.bool wb,.bool qZ0] 145))
        rw[<- dx] at cj qW BS oo TH
        rw[<- dx]
        obtain⟨sb,E2⟩:=ex wr.heap.size
        rw[<- E2] at BS Yn
        rw[<- E2]
        have Rt:Hid (some sb≠vb):=fun e=>by have:=Yn.o sb e.symm;omega
        clear hvb dx E2 qW Yn xU QJ HFm c0 c1 c2 c3 c4 Mo
        have hpb:∀n:Nat,n<P->0<=o.base+pg+(n:Int)/\o.base+pg+(n:Int)<=3000:=fun n hn=>by omega
        have HPB:=ai hpb
        have yG:Hid (∀n:Nat,n<P->∀V,Calls Tryz.prog 162 #[.agg #[I pg,I (P:Int),.string dt,.bool wb,.bool qZ0],I n] V fun e w'=>e=.returned (.string (LM.rG ⟨pg,P,dt,wb,qZ0⟩ n))/\Below V.heap.size V w'):=fun n hn V=>Ey ⟨pg,P,dt,wb,qZ0⟩ n V (by omega) (by show dt.size<=100000;omega)
        clear hpb
        go_loopw [37,4] (fun i v wi=>∃(n:Nat) (hs2:List LM.Sh),n<=P/\i=I n/\hs2.map LM.plain=(E++LM.tT o ps k)++LM.wJ o ps ⟨pg,P,dt,wb,qZ0⟩ n/\hs2.length<=a*1600+k*255+n/\Rs w.heap.size wi v hs2/\Below w.heap.size w wi/\Fr w1 rb wi v.ownBlock/\Fr WA vb wi v.ownBlock) (fun i _ _=>P-(intOf i).toNat)
        case atStart=>exact⟨0,hs',by omega,rfl,by rw[D2.o];simp[LM.wJ],by omega,TH.o,cj.o,oo.o,by rw[HVE.o];exact Fr.refl _ _⟩
        case round =>
         obtain⟨n,hs2,hn,rfl,hm3,xe,hrs,hb,J2,DW⟩:=hrel
         have Hn:=ai hm3
         have DZ:=ai hrs
         have Hp:=ai hb
         have HFi:=ai J2
         have HFs:=ai DW
         have Pp:=hb.size
         clear TH cj oo HVE D2 hlen' hm3 hrs hb
         by_cases Je:n<P
         · have BOi:=ai (J2.keep BO1.o WU.o)
           have Xx:=ai (DW.keep BS.o Rt.o)
           have y6:=B.cell BOi.o 6 rfl
           have z0:=B.cell Xx.o 0 rfl
           have z1:=B.cell Xx.o 1 rfl
           have z2:=B.cell Xx.o 2 rfl
           have z3:=B.cell Xx.o 3 rfl
           have z4:=B.cell Xx.o 4 rfl
           have HPi:=ai (Yq.o.fr J2)
           have hpb:=HPB.o n Je
           have HNP:=ai (LM.Er o ps ⟨pg,P,dt,wb,qZ0⟩ n)
           have HG2:=ai (yG.o n Je)
           have Ke:Hid (∀V,Below wr.heap.size wr V->Calls Tryz.prog 163 #[I (o.base+pg+(n:Int)),.slice ap ps.length cp] V fun e w'=>(∃v,e=.returned v/\w'.ownsRow V.heap.size 52 2 v (LM.gA (o.base+pg+(n:Int)) ps).length ((LM.gA (o.base+pg+(n:Int)) ps).flatMap LM.zL))/\Below V.heap.size V w'):=fun V hb=>Db _ ps ap cp V hpb.1 hpb.2 (HPi.o.below hb) (by omega) aa6.o
           have uO:Hid (LM.YS o ps ⟨pg,P,dt,wb,qZ0⟩ n=⟨o.base+pg+(n:Int),LM.rG ⟨pg,P,dt,wb,qZ0⟩ n,LM.gA (o.base+pg+(n:Int)) ps⟩):=rfl
           obtain⟨F,hF⟩:=ex (LM.gA (o.base+pg+(n:Int)) ps)
           obtain⟨D,hD⟩:=ex (LM.rG ⟨pg,P,dt,wb,qZ0⟩ n)
           rw[<- hF] at Ke uO
           rw[<- hD] at HG2 uO
           have ZA:hs2.length<=100000:=by omega
           have hrow:=DZ.o.row.lt
           have Bi:=ai hrow
           clear hF hD J2 DW hrow
           obtain⟨i0,hin,hz0,hz1,hz2⟩:=info_parts AH
           go_wp2_with (first
            | (go_at_call 162;refine(HG2.o _).mono ?_;rintro e w2 ⟨rfl,hb⟩;have xR:=ai hb;clear hb)
            | (go_at_call 163;refine(Ke.o _ xR.o).mono ?_;rintro e w3 ⟨⟨v8,rfl,Jb⟩,hb⟩;obtain⟨af,cf,hvf,hfn⟩:=Sa Jb u4.ownBlock (fun q hq=>by have:=(Bi.o q hq).2;have:=xR.o.size;omega);subst hvf;have Gb:=ai hfn;have Ro:=ai (xR.o.trans (hb.mono xR.o.size));have oF:=ai (Ro.o.alloc Ro.o.size (.cells #[I (o.base+pg+(n:Int)),.string D,.slice af F.length cf] 50));have HR4:=ai (DZ.o.below oF.o);have aa8:=ai (Gb.o.below ((Below.refl w3.heap.size w3).alloc (Nat.le_refl _) (.cells #[I (o.base+pg+(n:Int)),.string D,.slice af F.length cf] 50)));have HN3:=ai (B.new w3 #[I (o.base+pg+(n:Int)),.string D,.slice af F.length cf] 50);have Ze:w.heap.size<=w3.heap.size:=Nat.le_trans Pp Ro.o.size;clear hb Jb hfn)
            | (at_builtin;refine wpList_append_lies _ rfl _ _ 22 rfl w.heap.size 50 i0 (.agg #[I 0,.string ⟨#[]⟩,Nl]) 3 48 Tryz.underlying22 hin hz0 hz1 hz2 rfl (by decide) _ _ _ rfl HR4.o.row (Ad w3.heap.size 0) 1 1 [I (o.base+pg+(n:Int)),.string D,.slice af F.length cf] rfl rfl (B.news HN3.o) (by intro u hu;simp at hu;rcases hu with rfl | rfl | rfl <;> rfl) (by decide) (by unfold maxLen;omega) (by omega) (by simp;omega) (w3.heap.size+1) (by simp) ?_;intro gg Wn w4 QX hgrow Ps aeF;have aaG:=ai QX;have Bl:=ai hgrow;have D4:=ai Ps;clear QX hgrow Ps))
           have VT:u4.ownBlock=some gg∨gg=(w3.alloc (.cells #[I (o.base+pg+(n:Int)),.string D,.slice af F.length cf] 50)).heap.size:=by rw[World.size_alloc];exact D4.o
           have HF4:=ai ((Fr.aW oF.o u4.ownBlock).trans (Fr.OM Bl.o Bl.o.size VT))
           go_roundw
           case rel=>exact⟨n+1,hs2++[⟨o.base+pg+(n:Int),D,F,af,cf⟩],by omega,by go_num,by rw[HNP.o,uO.o,List.map_append,Hn.o,List.append_assoc];rfl,by rw[List.length_append];simp;omega,(Rs.more (x:=⟨o.base+pg+(n:Int),D,F,af,cf⟩) HR4.o.fix aa8.o aaG.o Bl.o Bl.o.size VT),((Hp.o.trans (oF.o.mono Hp.o.size)).grown Bl.o (by simp;omega) (fun q hq=>by have:=(Bi.o q hq).1;omega)),HFi.o.trans HF4.o,HFs.o.trans HF4.o⟩
           case measure=>simp[intOf];omega
         · obtain rfl:n=P:=by omega
           clear J2 DW
           go_wp2
           go_roundw
           case rel=>exact⟨k+1,hs2,by omega,by go_num,by rw[iL.o,Hn.o,List.append_assoc],by omega,DZ.o,Hp.o,HFi.o⟩
           case measure=>simp[intOf];omega
      · obtain rfl:k=o.i.cU.length:=by omega
        clear SM hrs hb J2
        go_wp2
        go_roundw
        case rel=>exact⟨a+1,_,hs',by omega,by go_num,aaM.o,D2.o,by omega,xU.o,QJ.o⟩
        case measure=>simp[intOf];omega
  · obtain rfl:a=l.length:=by omega
    have HX:Hid (R=some E):=by rw[HR.o];exact HE.o
    obtain⟨ah,ch,hv,hh,hc⟩:=vo.o.has
    subst hv
    have HHH:=ai hh
    clear hE SM hrs hb hh
    go_wp2
    go_ret2
    show Hg R w _ _
    rw[HX.o]
    exact⟨iM.o,hs,ah,ch,WW.o,rfl,HHH.o,hc⟩
end LW
end Go.Proofs.YtpgifpeohlllfaaGreat
