import Derived.Test.YtpgifpeohlllfaaGreatGV30
set_option maxHeartbeats 20000000
set_option linter.unusedVariables false
set_option maxRecDepth 100000
set_option linter.unusedSimpArgs false
namespace Go.Proofs.YtpgifpeohlllfaaGreat
namespace Go.Proofs.YtpgifpeohlllfaaGreat
open Go.RowKit
theorem xR {lo:Nat} {w w':World} {v:Value} {l:List bc} (h:dC lo w v l) (hb:Below w.heap.size w w'):dC lo w' v l:=Cz h hb
theorem CA {lo:Nat} {w:World} {v:Value} {l:List bc} (h:dC lo w v l):∃ao cap,v=.slice ao l.length cap/\(0<l.length->∃g,ao=some (Ad g 0)):=by
 rcases h.2 with⟨hv,h0⟩ | ⟨g,cap,cur,hv,_⟩
 · grind
 grind
theorem OS (l:List kF) (ao:Option Addr) (cap:Nat) (w:World) (h:OW l ao w) (hl7:l.length<=7) :
  Calls Tryz.prog 136 #[.slice ao l.length cap] w fun e w'=>∃r,e=.returned r/\dC w.heap.size w' r (qQ l)/\Below w.heap.size w w':=by
 have HO:=aD h;clear h;go_enter Tryz.func136,Tryz.ntmps136;go_wp2;go_loopw [11,3] (fun i v wr=>∃(a:Nat),a<=l.length/\i=I a/\dC w.heap.size wr v (AE l a)/\Below w.heap.size w wr) (fun i _ _=>l.length-(intOf i).toNat)
 case atStart=>exact⟨0,by omega,rfl,dC.nil _ _,aK _ _⟩
 case round =>
  obtain⟨a,hal,rfl,hown,hb⟩:=hrel;have HOW:=aD hown;have sY:=aD hb;by_cases hlt:a<l.length
  · have HOr:=aD (HO.o.below hb);obtain⟨b,off,hao,hbl,fG⟩:=HOr.o.has (by omega);obtain⟨⟨c0,c1,c2,c3,c4,c5,c6⟩,him⟩:=fG a hlt;have hbs:=HO.o.base a hlt;have Fz:=HO.o.chk a hlt;obtain⟨b2,WV,aet,acQ,Xe⟩:=HO.o.has (by omega);have Ug:=(Xe a hlt).2;have rR:Hid (AE l (a+1)=Ed (eN l a) (AE l a) (eN l a).i.jU.length):=rfl;obtain⟨o,ho⟩:=ex (eN l a);rw[<- ho] at c0 c1 c2 c3 c4 c5 c6 Ug hbs Fz rR;have zx:=aD (G9 l a);obtain⟨L,hL⟩:=ex (AE l a);rw[<- hL] at HOW rR zx;have hcn:=uI Fz;have DF:=aD (wk Fz);obtain⟨bs,WT,hag,ai4,hlg⟩:=Ug.jU (by omega);have HLG:=aD hlg;rw[hag] at c2;clear ho hL fG hb hown him hlg hag Ug Xe aet acQ Fz;subst hao;have gK:=aD (sY.o.alloc sY.o.size (.cells #[.string o.i.name,.slice o.a.an o.i.needs.length o.a.cn,.slice (some (Ad bs WT)) o.i.jU.length o.a.cg,.slice o.a.ay o.i.syms.length o.a.cy,.slice o.a.ar o.i.pI.length o.a.cr,I o.i.entry,I o.base] 195));have Gg:=aD ((aK wr.heap.size wr).alloc (aM _) (.cells #[.string o.i.name,.slice o.a.an o.i.needs.length o.a.cn,.slice (some (Ad bs WT)) o.i.jU.length o.a.cg,.slice o.a.ay o.i.syms.length o.a.cy,.slice o.a.ar o.i.pI.length o.a.cr,I o.i.entry,I o.base] 195));have BO:=aD (bG wr #[.string o.i.name,.slice o.a.an o.i.needs.length o.a.cn,.slice (some (Ad bs WT)) o.i.jU.length o.a.cg,.slice o.a.ay o.i.syms.length o.a.cy,.slice o.a.ar o.i.pI.length o.a.cr,I o.i.entry,I o.base] 195);have HOA:=aD (xR HOW.o Gg.o);go_wp2;obtain⟨W1,hW1⟩:=ex (wr.alloc (.cells #[.string o.i.name,.slice o.a.an o.i.needs.length o.a.cn,.slice (some (Ad bs WT)) o.i.jU.length o.a.cg,.slice o.a.ay o.i.syms.length o.a.cy,.slice o.a.ar o.i.pI.length o.a.cr,I o.i.entry,I o.base] 195));rw[<- hW1] at gK Gg BO HOA;rw[<- hW1];obtain⟨ob,hob⟩:=ex wr.heap.size;rw[<- hob] at BO;rw[<- hob];clear hW1 hob Gg HOW sY HOr c0 c1 c2 c3 c4 c5 c6 hbl;go_loopw [19,3] (fun i v wm=>∃(k:Nat),k<=o.i.jU.length/\i=I k/\dC w.heap.size wm v (Ed o L k)/\Below w.heap.size w wm/\Below W1.heap.size W1 wm) (fun i _ _=>o.i.jU.length-(intOf i).toNat)
    case atStart=>exact⟨0,by omega,rfl,HOA.o,gK.o,aK _ _⟩
    case round =>
     obtain⟨k,hk,rfl,hown,hb,hb1⟩:=hrel;have HOW:=aD hown;have HBm:=aD hb;have cT:=aD hb1;clear HOA gK;by_cases hlk:k<o.i.jU.length
     · obtain⟨c0,c1,c2,c3,c4⟩:=yD hb ai4 HLG.o k hlk;have DX:=DF.o k hlk;have HFK:=aD (Pc o L zx.o k);have HKX:Hid (Ed o L (k+1)=K8 o (Ed o L k) (fu o.i.jU k)):=rfl;obtain⟨s,hse⟩:=ex (fu o.i.jU k);rw[<- hse] at c0 c1 c2 c3 c4 DX HKX;clear hse;obtain⟨L2,hL2⟩:=ex (Ed o L k);rw[<- hL2] at HOW HFK HKX;clear hL2;obtain⟨pg,pn,dt,wb,qZ0⟩:=s;simp only at c0 c1 c2 c3 c4 DX;have gK:=aD (HBm.o.alloc HBm.o.size (.cells #[I pg,I pn,.string dt,.bool wb,.bool qZ0] 145));have Gg:=aD ((aK wr.heap.size wr).alloc (aM _) (.cells #[I pg,I pn,.string dt,.bool wb,.bool qZ0] 145));have BS:=aD (bG wr #[I pg,I pn,.string dt,.bool wb,.bool qZ0] 145);have BOA:=aD (bE (aQ BO.o cT.o (aO BO.o)) (.cells #[I pg,I pn,.string dt,.bool wb,.bool qZ0] 145));have aks:=aD (cT.o.alloc cT.o.size (.cells #[I pg,I pn,.string dt,.bool wb,.bool qZ0] 145));have am6:=aD (xR HOW.o Gg.o);clear hown hb hb1;go_wp2;obtain⟨WA,iK⟩:=ex (wr.alloc (.cells #[I pg,I pn,.string dt,.bool wb,.bool qZ0] 145));rw[<- iK] at gK BS BOA aks am6;rw[<- iK];obtain⟨sb,ZP⟩:=ex wr.heap.size;rw[<- ZP] at BS;rw[<- ZP];clear iK ZP Gg HOW HBm cT c0 c1 c2 c3 c4;have HS:Hid (∀V,Below WA.heap.size WA V->V.cell? (Ad ob 6)=some (I o.base)/\V.cell? (Ad sb 0)=some (I pg)/\V.cell? (Ad sb 1)=some (I pn)/\V.cell? (Ad sb 2)=some (.string dt)/\V.cell? (Ad sb 3)=some (.bool wb)/\V.cell? (Ad sb 4)=some (.bool qZ0)):=fun V hb=>by
        have h1:=aQ BOA.o hb (aO BOA.o);have h2:=aQ BS.o hb (aO BS.o);exact⟨aB h1 6 rfl,aB h2 0 rfl,aB h2 1 rfl,aB h2 2 rfl,aB h2 3 rfl,aB h2 4 rfl⟩
       have FY:Hid (∀V,Calls Tryz.prog 164 #[.agg #[I pg,I pn,.string dt,.bool wb,.bool qZ0]] V fun e w'=>e=.returned (I (uB ⟨pg,pn,dt,wb,qZ0⟩))/\Below V.heap.size V w'):=fun V=>Xy ⟨pg,pn,dt,wb,qZ0⟩ V
       have TB:Hid (∀V,Below WA.heap.size WA V->Calls Tryz.prog 74 #[u3,I (o.base+pg),I pn,I (uB ⟨pg,pn,dt,wb,qZ0⟩)] V fun e w'=>∃r,e=.returned (.tuple #[r,I (eY L2 (o.base+pg) pn (uB ⟨pg,pn,dt,wb,qZ0⟩)).2])/\dC V.heap.size w' r (eY L2 (o.base+pg) pn (uB ⟨pg,pn,dt,wb,qZ0⟩)).1/\Below V.heap.size V w'):=fun V hb=>Qy L2 u3 (o.base+pg) pn _ V (xR am6.o hb).has HFK.o (by unfold nW;omega) (by unfold nW;omega)
       have HMS:Hid (K8 o L2 ⟨pg,pn,dt,wb,qZ0⟩=(eY L2 (o.base+pg) pn (uB ⟨pg,pn,dt,wb,qZ0⟩)).1):=rfl;obtain⟨PR,hPR⟩:=ex (uB ⟨pg,pn,dt,wb,qZ0⟩);rw[<- hPR] at FY TB HMS;obtain⟨MN,hMN⟩:=ex (eY L2 (o.base+pg) pn PR);rw[<- hMN] at TB HMS;clear hPR hMN;have hwr:IntKind.i64.wrap (o.base+pg)=o.base+pg:=mP _ (by omega);have rz:=aD (aK WA.heap.size WA).drew;have gj:=aD (HS.o _ rz.o)
       go_region_held3 (fun V=>V.cell? (Ad ob 6)=some (I o.base)/\V.cell? (Ad sb 0)=some (I pg)/\V.cell? (Ad sb 1)=some (I pn)/\V.cell? (Ad sb 2)=some (.string dt)/\V.cell? (Ad sb 3)=some (.bool wb)/\V.cell? (Ad sb 4)=some (.bool qZ0)) (first | exact vr.o | exact qd.o | exact gj.o)
        (first
         | (go_at_call 164;refine(FY.o _).mono ?_;rintro e w2 ⟨rfl,hb⟩;have pH:=aD (rz.o.trans (hb.mono rz.o.size));have qd:=aD (HS.o _ pH.o);clear hb)
         | (go_at_call 74;refine(TB.o _ pH.o).mono ?_;rintro e w3 ⟨v8,rfl,hrw,hb⟩;have sX:=aD (pH.o.trans (hb.mono pH.o.size));have vr:=aD (HS.o _ sX.o);have Kw:=aD hrw;clear hb hrw))
       go_wp2;go_roundw
       case rel=>exact⟨k+1,by omega,by go_num,by rw[HKX.o,HMS.o];exact Kw.o.mono (gJ gK.o.size pH.o.size),gK.o.trans (sX.o.mono gK.o.size),aks.o.trans (sX.o.mono aks.o.size)⟩
       case measure=>simp[intOf];omega
     · obtain rfl:k=o.i.jU.length:=by omega
       clear hown hb hb1;go_wp2;go_roundw
       case rel=>exact⟨a+1,by omega,by go_num,by rw[rR.o];exact HOW.o,HBm.o⟩
       case measure=>simp[intOf];omega
  · obtain rfl:a=l.length:=by omega
    have HAN:Hid (qQ l=o5 (AE l l.length) (AE l l.length).length):=(UC _).symm;have zx:=aD (G9 l l.length);obtain⟨L,hL⟩:=ex (AE l l.length);rw[<- hL] at HOW HAN zx;have hll:=zx.o.2;obtain⟨ar,cr,hv,hg⟩:=CA HOW.o;subst hv;have HG:=aD hg;clear hown hb hL hg zx;go_wp2;go_loopw [41] (fun i wr=>∃(k:Nat),k<=L.length/\i=I k/\dC w.heap.size wr (.slice ar L.length cr) (o5 L k)/\Below w.heap.size w wr) (fun i _=>L.length-(intOf i).toNat)
    case atStart=>exact⟨0,by omega,rfl,HOW.o,sY.o⟩
    case round =>
     obtain⟨k,hk,rfl,hown,hb⟩:=hrel;have ahi:=aD hown;have anC:=aD hb;clear HOW sY hown hb;by_cases hlt:k<L.length
     · obtain⟨g,hg⟩:=HG.o (by omega);subst hg;have hln:=xz L k;have HO4:Hid (wr.ownsRow w.heap.size 47 4 (.slice (some (Ad g 0)) L.length cr) L.length (cj (o5 L k))):=by
        have h:=ahi.o;unfold dC at h;rw[hln] at h;exact h
       have HST:=aD (HO4.o.stored (k*4+3) (.bool false));have rR:Hid (cj (o5 L (k+1))=(cj (o5 L k)).set (k*4+3) (.bool false)):=(BB false (o5 L k) k (by omega)).symm;have hlx:=xz L (k+1);have ZJ:=aD hlx;have hgl:=HO4.o.lt g rfl;have q3:=(HO4.o.cellAt (k*4+3) (by omega)).trans (lG (o5 L k) k 3 (by omega) (by omega));have qf:=HO4.o.frozenAt (k*4+3);clear hln hlx;go_wp2;go_roundw
       case rel=>exact⟨k+1,by omega,by go_num,by unfold dC;rw[ZJ.o,rR.o];exact HST.o.1,anC.o.setCell (by simp;omega) _⟩
       case measure=>simp[intOf];omega
     · obtain rfl:k=L.length:=by omega
       go_wp2;go_ret;exact⟨_,rfl,by rw[HAN.o];exact ahi.o,anC.o⟩
theorem ac2:(Tryz.prog.info? 151).map (fun i=>(i.zero,i.size,i.bytes))=some (some (.agg #[.string ⟨#[]⟩,Nl,Nl,Nl,Nl,I 0]),6,120):=by rfl
theorem XD {w:World} {b off:Nat} {l:List iY} (h:Jj w b off l):∀j u,(l.flatMap pQ)[j]?=some u->w.cell? (((Ad b off):Addr).add j)=some u:=fun j u hj=>by
 obtain⟨k,r,hr,rfl⟩:∃k r,r<6/\j=k*6+r:=⟨j/6,j%6,by omega,by omega⟩;have hlen:∀l:List iY,(l.flatMap pQ).length=l.length*6:=fun l=>by
  induction l with
  | nil=>rfl
  | cons a r ih=>rw[pJ,gh,ih,Cl];show 6+_=_;omega
 have hk:k<l.length:=by
  grind
 rw[ub pQ 6 (fun _=>rfl) aai l k r hk hr] at hj;obtain⟨⟨c0,c1,c2,c3,c4,c5⟩,_⟩:=h k hk;rw[ux,<- Cj]
 match r,hr with
 | 0,_=>exact c0.trans hj
 | 1,_=>exact c1.trans hj
 | 2,_=>exact c2.trans hj
 | 3,_=>exact c3.trans hj
 | 4,_=>exact c4.trans hj
 | 5,_=>exact c5.trans hj
theorem acX {w:World} {base:Nat} {g cap:Nat} {l:List iY} (h:w.ownsRow base 151 6 (.slice (some (Ad g 0)) l.length cap) l.length (l.flatMap pQ)) (hg:g<w.heap.size) (hi:∀k,k<l.length->pL w (cY l k).a (cY l k).i) :
  CH w (some (Ad g 0)) l:=fun hl=>by
 refine⟨g,0,rfl,hg,fun k hk=>?_⟩;rw[iI];have hh:∀j,j<6->w.cell? (Ad g (k*6+j))=(pQ (cY l k))[j]?:=fun j hj=>(h.cellAt _ (by omega)).trans (ub pQ 6 (fun _=>rfl) aai l k j hk hj)
 exact⟨⟨hh 0 (by omega),hh 1 (by omega),hh 2 (by omega),hh 3 (by omega),hh 4 (by omega),hh 5 (by omega)⟩,hi k hk⟩
theorem DT {ops:Array Oper} {rest:List Oper} {o:Oper} {a:Act} {w:World} {Q:Exit->Act->World->Prop} (hgd:o.guard=none) (s x:Operand)
  (ho:o.op=.call { callee:=.builtin .append,args:=#[s,x],argTypes:=#[187,187] })
  (base:Nat) (p:iY) (g0:Nat) (hs:a.eval s=.slice (some (Ad g0 0)) 1 1) (hown:w.ownsRow base 151 6 (.slice (some (Ad g0 0)) 1 1) 1 (pQ p))
  (ao:Option Addr) (c:Nat) (libs:List iY) (hx:a.eval x=.slice ao libs.length c) (fG:CH w ao libs) (h6:libs.length<=6) (hbase:base<=w.heap.size)
  (h:∀g cap w',w'.ownsRow base 151 6 (.slice (some (Ad g 0)) (libs.length+1) cap) (libs.length+1) ((p::libs).flatMap pQ)->w.grownBy w' (some g0)->g<w'.heap.size->wpList Tryz.prog ops Q rest (a.put o.dst (.slice (some (Ad g 0)) (libs.length+1) cap)) w'):wpList Tryz.prog ops Q (o::rest) a w:=by
 obtain⟨i0,hin,hz0,hz1,hz2⟩:=iq ac2;by_cases h0:0<libs.length
 · obtain⟨b,off,rfl,hb,hl⟩:=fG h0;have hlen:∀l:List iY,(l.flatMap pQ).length=l.length*6:=fun l=>by
    induction l with
    | nil=>rfl
    | cons a r ih=>rw[pJ,gh,ih,Cl];show 6+_=_;omega
   have hone:∀u∈libs.flatMap pQ,u.oneCell'=true:=fun u hu=>by
    obtain⟨y,_,hy⟩:=vZ.1 hu;simp only[pQ,jV] at hy;simp at hy;rcases hy with rfl | rfl | rfl | rfl | rfl | rfl <;> rfl
   refine Iq w hgd s x 187 ho base 151 i0 (.agg #[.string ⟨#[]⟩,Nl,Nl,Nl,Nl,I 0]) 6 120 Tryz.underlying187 hin hz0 hz1 hz2 rfl (by decide) _ 1 _ hs hown (Ad b off) libs.length c (libs.flatMap pQ) hx (hlen _) (XD hl) hone h0 (by grind [maxLen]) (by omega) hbase _ rfl ?_;intro g cap w' h2 h3 _ h5;have e:1+libs.length=libs.length+1:=Nat.add_comm _ _;rw[e] at h2 ⊢;exact h g cap w' h2 h3 h5
 · have e0:libs=[]:=jS (by omega);subst e0;have hg0:g0<w.heap.size:=(hown.lt g0 rfl).2;refine wpList_plain hgd fun K hK=>?_
   have hsrc:Src Tryz.prog i0.size 187 (.slice ao 0 c) 0 [] w:=⟨.inl ⟨_,Tryz.underlying187⟩,fun w'=>by rfl,by cases ao <;> simp[Builtin.firstCells,loadCells,loadCellsFrom],by cases ao <;> simp[Builtin.firstCells,loadCells,loadCellsFrom],by simp,by simp⟩;have hr:=run_append_nothing (P:=Tryz.prog) w 187 187 o.type 151 i0 Tryz.underlying187 hin (some (Ad g0 0)) 1 1 (aM _) (.slice ao 0 c) hsrc;have hx':a.eval x=.slice ao 0 c:=hx;unfold Oper.wp execOp;simp only[ho,resolve,invoke,builtin,Sem.run_bind,Sem.run_pure,TZ,List.map_toArray,Ii,List.map_nil,hs,hx',hr];refine hK _ _ (h g0 1 w ?_ ⟨rfl,rfl,rfl,aM _,fun _ _ _=>rfl⟩ hg0)
   grind
end Go.Proofs.YtpgifpeohlllfaaGreat
namespace Go.Proofs.YtpgifpeohlllfaaGreat
open Go.RowKit Go.WideMaps Go.Maps
def ab5 (all:List iY) (w:World) (e:Ending) (w':World):Prop:=Below w.heap.size w w' /\
 if lV all=0 then ∃(ix:List Nat) (E:List Ee) (r:Value) (hs:List bM) (ao:Option Addr) (cap:Nat),K9 all all.length 0 [0]=some ix/\rD (fH all 1 ix)=some E/\hs.map eQ=E /\
  e=.returned (.tuple #[.agg #[r,.slice ao hs.length cap,I (wU (eN (fH all 1 ix) 0) (cY all 0).i.entry)],I 0])/\dC w.heap.size w' r (qQ (fH all 1 ix))/\iM w' ao hs/\hs.length<=cap
 else e=.returned (.tuple #[.agg #[Nl,Nl,I 0],I (lV all)])
theorem rY (V:World) (rb b j:Nat) (u0 u1 u2:Value) (h:b≠rb):(((V.setCell (Ad rb 0) u0).setCell (Ad rb 1) u1).setCell (Ad rb 2) u2).cell? (Ad b j)=V.cell? (Ad b j):=by
 grind [World.cell?_setCell_far]
def I2 (V:World) (rb:Nat) (u0 u1 u2:Value):World:=((V.setCell (Ad rb 0) u0).setCell (Ad rb 1) u1).setCell (Ad rb 2) u2
theorem I1 (V:World) (rb:Nat) (u0 u1 u2:Value):(I2 V rb u0 u1 u2).heap.size=V.heap.size:=by simp[I2]
theorem XC {V:World} {rb b off:Nat} {t:TypeId} {x:Int} {y:ByteArray} (h:V.heap[rb]?=some (.cells #[Nl,Nl,I 0] t (0,0))) (c0:V.cell? (Ad b off)=some (I x)) (c1:V.cell? (Ad b (off+1))=some (.string y)):b≠rb:=fun e=>by
 grind [World.cell?]
theorem Ut {V:World} {rb:Nat} {t:TypeId} (h:V.heap[rb]?=some (.cells #[Nl,Nl,I 0] t (0,0))) {ao:Option Addr} {l:List mF} (g:mr V ao l) (u0 u1 u2:Value):mr (I2 V rb u0 u1 u2) ao l:=fun hl=>by
 obtain⟨b,off,e,hb,fG⟩:=g hl;obtain⟨c0,c1⟩:=fG 0 hl;have hne:=XC h c0 c1;refine⟨b,off,e,by grind [I1],fun k hk=>?_⟩;obtain⟨d0,d1⟩:=fG k hk;exact⟨(rY V rb b _ u0 u1 u2 hne).trans d0,(rY V rb b _ u0 u1 u2 hne).trans d1⟩
theorem Us {V:World} {rb:Nat} {t:TypeId} (h:V.heap[rb]?=some (.cells #[Nl,Nl,I 0] t (0,0))) {ao:Option Addr} {l:List bM} (g:iM V ao l) (u0 u1 u2:Value):iM (I2 V rb u0 u1 u2) ao l:=fun hl=>by
 obtain⟨b,off,e,hb,fG⟩:=g hl;obtain⟨c0,c1,_,_⟩:=fG 0 hl;have hne:=XC h c0 c1;refine⟨b,off,e,by grind [I1],fun k hk=>?_⟩;obtain⟨d0,d1,d2,d3⟩:=fG k hk;exact⟨(rY V rb b _ u0 u1 u2 hne).trans d0,(rY V rb b _ u0 u1 u2 hne).trans d1,(rY V rb b _ u0 u1 u2 hne).trans d2,Ut h d3 u0 u1 u2⟩
theorem XB {V:World} {rb lo:Nat} {v:Value} {l:List bc} (h:dC lo V v l) (hlt:rb<lo) (u0 u1 u2:Value):dC lo (I2 V rb u0 u1 u2) v l :=
 Fu (Fu (Fu h hlt _) hlt _) hlt _
theorem OQ (l:List iY) (ao:Option Addr) (cap:Nat) (w:World) (h:CH w ao l) (hf:ab7 l) (Fz:∀k,k<l.length->∀V,Below w.heap.size w V->Calls Tryz.prog 158 #[.agg (jV (cY l k).a (cY l k).i)] V fun e w'=>e=.returned (I (mG (cY l k).i))/\Below V.heap.size V w'):Calls Tryz.prog 132 #[.slice ao l.length cap] w (agW l w):=by
 have HH:=aD h;have HF:=aD hf;have TE:=aD Fz;have hn:l.length<=140737488351232:=hf.1;clear h hf Fz;have hmm:=@run_makeMap Tryz.prog;go_enter Tryz.func132,Tryz.ntmps132;go_wp2;go_loopw [12] (fun i wr=>∃k:Nat,k<=l.length/\i=I k/\ov l k=0/\Below w.heap.size w wr) (fun i _=>l.length-(intOf i).toNat)
 case atStart=>exact⟨0,by omega,rfl,rfl,aK _ _⟩
 case round =>
  obtain⟨k,hk,rfl,hz,hb⟩:=hrel;have HZ:=aD hz;have sY:=aD hb;clear hz;by_cases hlt:k<l.length
  · obtain⟨b,off,hao,hbl,fG⟩:=(HH.o.below hb) (by omega);subst hao;obtain⟨⟨c0,c1,c2,c3,c4,c5⟩,hi⟩:=fG k hlt;have Gm:=HF.o.2 k hlt;have ij:=aD (TE.o k hlt);have HE:Hid (ov l (k+1)=mG (cY l k).i):=by
     show _=_;simp only[ov];rw[bf HZ.o]
    have Y7:Hid (mG (cY l k).i≠0->ow l=mG (cY l k).i):=fun g=>by
     have e1:ov l (k+1)≠0:=by rw[HE.o];exact g
     have e2:=Eb l (k+1) e1 l.length (by omega);unfold ow;rw[e2,bl e1,HE.o]
    obtain⟨x,hx⟩:=ex (cY l k);rw[<- hx] at c0 c1 c2 c3 c4 c5 hi Gm HE Y7 ij;clear hx fG hb;obtain⟨⟨nm,ns,gs,ys,rs,en⟩,⟨an,cn,ag,cg,ay,cy,ar,cr⟩⟩:=x;simp only at c0 c1 c2 c3 c4 c5;have gK:=aD (sY.o.alloc sY.o.size (.cells #[.string nm,.slice an ns.length cn,.slice ag gs.length cg,.slice ay ys.length cy,.slice ar rs.length cr,I en] 151));have HC:Hid (∀W,Below wr.heap.size wr W->Calls Tryz.prog 158 #[.agg #[.string nm,.slice an ns.length cn,.slice ag gs.length cg,.slice ay ys.length cy,.slice ar rs.length cr,I en]] W fun e w'=>e=.returned (I (mG ⟨nm,ns,gs,ys,rs,en⟩))/\Below W.heap.size W w'):=fun V hb=>ij.o V (sY.o.trans (hb.mono sY.o.size))
    clear hi Gm ij TE;obtain⟨c,hc⟩:=ex (mG ⟨nm,ns,gs,ys,rs,en⟩);simp only at HE Y7;rw[<- hc] at HC HE Y7;clear hc;by_cases hcz:c=0
    · subst hcz;clear Y7;go_wp2_with (go_at_call 158;refine(HC.o _ ((aK _ _).alloc (aM _) _)).mono ?_;rintro e w1 ⟨rfl,hb⟩;have gK:=aD (gK.o.trans (hb.mono gK.o.size));clear hb)
      go_roundw
      case rel=>exact⟨k+1,by omega,by go_num,HE.o,gK.o⟩
      case measure=>simp[intOf];omega
    · have TF:=aD (Y7.o hcz);have av1:(c==0)=false:=by grind
      clear Y7 HE;go_wp2_with (go_at_call 158;refine(HC.o _ ((aK _ _).alloc (aM _) _)).mono ?_;rintro e w1 ⟨rfl,hb⟩;have gK:=aD (gK.o.trans (hb.mono gK.o.size));clear hb)
      go_ret2
      refine⟨gK.o,?_⟩;rw[TF.o,bl hcz];rfl
  · obtain rfl:k=l.length:=by omega
    clear hb;obtain⟨m,hm⟩:=ex wr.heap.size;have hsm:w.heap.size<=m:=by rw[hm];exact sY.o.size
    have HM0:Hid ((wr.alloc (.map #[] 0)).ownsMap Tryz.prog 9 XM m 0 (.map [])):=by
     rw[hm];exact World.ownsMap_made _ _ _ _
    have HM:=aD hm;clear hm;go_wp2;rw[<- HM.o];go_loopw [25] (fun i wi=>∃(k:Nat) (D:DataW Value),k<=l.length/\i=I k/\wi.ownsMap Tryz.prog 9 XM m k D/\Jh l k D/\Below w.heap.size w wi) (fun i _=>l.length-(intOf i).toNat)
    case atStart=>exact⟨0,.map [],ql _,rfl,HM0.o,aaf l,sY.o.alloc sY.o.size _⟩
    case round =>
     obtain⟨k,D,hk,rfl,hown,Kr,hb⟩:=hrel;have HW:=aD hown;have HN:=aD Kr;have Y6:=aD hb;by_cases hlt:k<l.length
     · obtain⟨b,off,hao,hbl,fG⟩:=(HH.o.below hb) (by omega);subst hao;obtain⟨⟨c0,c1,c2,c3,c4,c5⟩,hi⟩:=fG k hlt;have Gm:=(HF.o.2 k hlt).name;have HNS:=aD (aag hlt hown.isMap (hown.tidy OG) Kr);obtain⟨x,hx⟩:=ex (cY l k);rw[<- hx] at c0 c1 c2 c3 c4 c5 Gm HNS;clear hx fG hb hi hown Kr;obtain⟨⟨nm,ns,gs,ys,rs,en⟩,⟨an,cn,ag,cg,ay,cy,ar,cr⟩⟩:=x;simp only at c0 c1 c2 c3 c4 c5 Gm;have hkey:=SN Gm;have jn:k<maxLen:=by unfold maxLen;omega
       have gK:=aD (Y6.o.alloc Y6.o.size (.cells #[.string nm,.slice an ns.length cn,.slice ag gs.length cg,.slice ay ys.length cy,.slice ar rs.length cr,I en] 151));have iG:=aD (HW.o.alloc (.cells #[.string nm,.slice an ns.length cn,.slice ag gs.length cg,.slice ay ys.length cy,.slice ar rs.length cr,I en] 151));go_wp2_with (first | (at_mapUpdate;refine T6 _ rfl _ _ _ 188 rfl 9 151 OG Tryz.underlying188 XM m k D rfl iG.o jn _ _ _ rfl rfl hkey _ [] rfl ?_;intro w1 hown1 hgrow1;have E4:=aD hown1;have cT:=aD (gK.o.grown hgrow1 gK.o.size (fun j hj=>by cases hj;exact hsm));clear hown1 hgrow1) | go_in)
       go_roundw
       case rel=>exact⟨k+1,_,by omega,by go_num,E4.o,HNS.o,cT.o⟩
       case measure=>simp[intOf];omega
     · obtain rfl:k=l.length:=by omega
       have hlen:=hown.len Tryz.underlying188 3;have HE0:=aD HZ.o;by_cases ho:oq (ko l) l.length=true
       · have hsz:=Kr.all.2 ho;have TF:Hid (ow l=0):=by
          show _=_;unfold ow wj;rw[bf HE0.o,rZ,ho];rfl
         rw[hsz] at hlen;clear hown Kr hb hsz ho;go_wp2
         go_ret2
         refine⟨Y6.o,?_⟩;rw[TF.o,bf rfl];exact⟨_,D,rfl,HW.o,HN.o⟩
       · have hsz:Maps.size D<l.length:=by
          have h1:=Kr.le;have h2:=Kr.all;rcases Ig (Maps.size D) l.length with g | g
          · exact g
          · exact(ho (h2.1 (by omega))).elim
         have TF:Hid (ow l=5):=by
          show _=_;unfold ow wj;rw[bf HE0.o,rZ,bl ho]
         obtain⟨z,hz⟩:=ex (Maps.size D);rw[<- hz] at hlen hsz;have hsz':(z:Int)<(l.length:Int):=by omega
         clear hown Kr hb ho hz;go_wp2
         go_ret2
         refine⟨Y6.o,?_⟩;rw[TF.o,bl (by decide)];rfl
end Go.Proofs.YtpgifpeohlllfaaGreat
namespace Go.Proofs.YtpgifpeohlllfaaGreat
open Go.RowKit
theorem K4 (l:List kF) (ao:Option Addr) (cap:Nat) (w:World) (h:OW l ao w) (hl7:l.length<=7) (hpx:∀k,k<l.length->∀V,Below w.heap.size w V->Calls Tryz.prog 161 #[.agg (oX (eN l k)),.slice ao l.length cap] V (Bv (uC l (eN l k)) V)):Calls Tryz.prog 135 #[.slice ao l.length cap] w (I5 (rD l) w):=by
 have HO:=aD h;have HPX:=aD hpx;clear h hpx;obtain⟨R,hR⟩:=ex (rD l);have HR:Hid (R=s6 l l.length):=hR;rw[<- hR];clear hR;obtain⟨i0,hin,hz0,hz1,hz2⟩:=iq SS;go_enter Tryz.func135,Tryz.ntmps135;go_wp2;go_loopw [15,4] (fun i v wr=>∃(a:Nat) (E:List Ee) (hs:List bM),a<=l.length/\i=I a/\s6 l a=some E/\hs.map eQ=E/\hs.length<=a*1600/\zW w.heap.size wr v hs/\Below w.heap.size w wr) (fun i _ _=>l.length-(intOf i).toNat)
 case atStart=>exact⟨0,[],[],by omega,rfl,rfl,rfl,by simp,zW.nil _ _,aK _ _⟩
 case round =>
  obtain⟨a,E,hs,hal,rfl,hE,hmE,hlen,hrs,hb⟩:=hrel;have HE:=aD hE;have HME:=aD hmE;have Nr:=aD hrs;have sY:=aD hb;by_cases hlt:a<l.length
  · have HOr:=aD (HO.o.below hb);obtain⟨b,off,hao,hbl,fG⟩:=HOr.o.has (by omega);obtain⟨⟨c0,c1,c2,c3,c4,c5,c6⟩,him⟩:=fG a hlt;have hbs:=HO.o.base a hlt;have Fz:=HO.o.chk a hlt;have HPA:Hid (∀V,Below wr.heap.size wr V->Calls Tryz.prog 161 #[.agg (oX (eN l a)),.slice ao l.length cap] V (Bv (uC l (eN l a)) V)):=fun V hb=>HPX.o a hlt V (sY.o.trans (hb.mono sY.o.size))
    have gj:Hid (uC l (eN l a)=none->R=none):=fun g=>by
     rw[HR.o];refine Gq (k:=a+1) ?_ l.length (by omega);simp only[s6,HE.o,g]
    have mg:Hid (∀ps,uC l (eN l a)=some ps->s6 l (a+1)=some (E++wT (eN l a) ps (eN l a).i.jU.length)):=fun ps g=>by simp only[s6,HE.o,g]
    have xJ:Hid (∀ps,uC l (eN l a)=some ps->ps.length<=16/\∀j,j<ps.length->UE (wu ps j)):=fun ps g=>by
     have h1:=Jc g;have h2:=(uI Fz).2.2.2.2;exact⟨by omega,O0 Fz hbs.1 hbs.2 _ ps (aM _) g⟩
    obtain⟨b2,WV,aet,acQ,Xe⟩:=HO.o.has (by omega);have Ug:=(Xe a hlt).2;obtain⟨o,ho⟩:=ex (eN l a);rw[<- ho] at Ug;rw[<- ho] at c0 c1 c2 c3 c4 c5 c6 him hbs Fz HPA gj mg xJ;have hcn:=uI Fz;have DF:=aD (wk Fz);simp only[oX] at HPA;obtain⟨bs,WT,hag,ai4,hlg⟩:=Ug.jU (by omega);have HLG:=aD hlg;rw[hag] at HPA c2;clear ho fG hb hE hmE hrs him hlg hag Ug Xe aet acQ;subst hao;have gK:=aD (sY.o.alloc sY.o.size (.cells #[.string o.i.name,.slice o.a.an o.i.needs.length o.a.cn,.slice (some (Ad bs WT)) o.i.jU.length o.a.cg,.slice o.a.ay o.i.syms.length o.a.cy,.slice o.a.ar o.i.pI.length o.a.cr,I o.i.entry,I o.base] 195));have Gg:=aD ((aK wr.heap.size wr).alloc (aM _) (.cells #[.string o.i.name,.slice o.a.an o.i.needs.length o.a.cn,.slice (some (Ad bs WT)) o.i.jU.length o.a.cg,.slice o.a.ay o.i.syms.length o.a.cy,.slice o.a.ar o.i.pI.length o.a.cr,I o.i.entry,I o.base] 195));have BO:=aD (bG wr #[.string o.i.name,.slice o.a.an o.i.needs.length o.a.cn,.slice (some (Ad bs WT)) o.i.jU.length o.a.cg,.slice o.a.ay o.i.syms.length o.a.cy,.slice o.a.ar o.i.pI.length o.a.cr,I o.i.entry,I o.base] 195);have Gh:=aD (HPA.o _ Gg.o);cases e:uC l o with
    | none =>
     have HRN:=aD (gj.o e);rw[e] at Gh;clear e gj mg xJ;go_wp2_with (go_at_call 161;refine Gh.o.mono ?_;rintro e w1 ⟨hb,rfl⟩;have cT:=aD (gK.o.trans (hb.mono gK.o.size));clear hb)
     go_ret2
     show I5 R w _ _;rw[HRN.o];exact⟨cT.o,rfl⟩
    | some ps =>
     have aqY:=aD (mg.o ps e);obtain⟨hps,hfp⟩:=xJ.o ps e;have arK:=aD hfp;rw[e] at Gh;clear e gj mg xJ hfp;have hrb:∀q,u4.ownBlock=some q->q<wr.heap.size:=fun q hq=>(Nr.o.row.lt q hq).2
     have ae9:=aD hrb;clear hrb;go_wp2_with (go_at_call 161;refine Gh.o.mono ?_;rintro e w1 ⟨hb,v7,rfl,ZA⟩;have cT:=aD (gK.o.trans (hb.mono gK.o.size));have E4:=aD (Gg.o.trans (hb.mono Gg.o.size));have FY:=aD ZA;have BO1:=aD (aQ BO.o hb (aO BO.o));have g2:=aB BO1.o 2 rfl;clear hb ZA)
     obtain⟨ap,cp,hv7,hpn⟩:=Z3 FY.o u4.ownBlock (fun q hq=>by have:=ae9.o q hq;simp;omega);subst hv7;have HPN:=aD hpn;have amY:=aD (Nr.o.below E4.o);have apo:=sY.o.size;obtain⟨rb,hrb⟩:=ex u4.ownBlock;have LI:=aD hrb;rw[<- hrb] at HPN ae9;clear hpn FY Gh HPA Gg gK Nr E4 g2 BO c0 c1 c2 c3 c4 c5 c6 hrb HOr hbl;obtain⟨ob,hob⟩:=ex wr.heap.size;rw[<- hob] at BO1 ae9 apo;rw[<- hob];have HNE:Hid (some ob≠rb):=fun e=>by have:=ae9.o ob e.symm;omega
     clear hob sY ae9;go_loopw [31,4] (fun i v wm=>∃(k:Nat) (hs':List bM),k<=o.i.jU.length/\i=I k/\hs'.map eQ=E++wT o ps k/\hs'.length<=a*1600+k*255/\zW w.heap.size wm v hs'/\Below w.heap.size w wm/\sQ w1 rb wm v.ownBlock) (fun i _ _=>o.i.jU.length-(intOf i).toNat)
     case atStart=>exact⟨0,hs,by omega,rfl,by rw[HME.o];simp[wT],by omega,amY.o,cT.o,by rw[LI.o];exact sQ.refl _ _⟩
     case round =>
      obtain⟨k,hs',hk,rfl,hmE,hlen',hrs,hb,Ge⟩:=hrel;have Wd:=aD hmE;have zC:=aD hrs;have HBm:=aD hb;have HFm:=aD Ge;clear amY LI hlen HME;by_cases hlk:k<o.i.jU.length
      · obtain⟨c0,c1,c2,c3,c4⟩:=yD hb ai4 HLG.o k hlk;have DX:=DF.o k hlk;have rR:Hid (wT o ps (k+1)=wT o ps k++yF o ps (fu o.i.jU k) (fu o.i.jU k).aR.toNat):=rfl;obtain⟨s,hse⟩:=ex (fu o.i.jU k);rw[<- hse] at c0 c1 c2 c3 c4 DX rR;clear hse;obtain⟨P,hP⟩:∃P:Nat,s.aR=(P:Int):=⟨s.aR.toNat,by omega⟩;obtain⟨pg,pn,dt,wb,qZ0⟩:=s;simp only at c0 c1 c2 c3 c4 DX rR hP;subst hP;rw[iu] at rR;have hvb:∀q,u4.ownBlock=some q->q<wr.heap.size:=fun q hq=>(zC.o.row.lt q hq).2
        have HVB:=aD hvb;have gK:=aD (HBm.o.alloc HBm.o.size (.cells #[I pg,I P,.string dt,.bool wb,.bool qZ0] 145));have Gg:=aD ((aK wr.heap.size wr).alloc (aM _) (.cells #[I pg,I P,.string dt,.bool wb,.bool qZ0] 145));have BS:=aD (bG wr #[I pg,I P,.string dt,.bool wb,.bool qZ0] 145);have zx:=aD (HFm.o.trans (sQ.b7 Gg.o u4.ownBlock));have ajQ:=aD (zC.o.below Gg.o);clear hvb hmE hrs hb Ge;go_wp2;obtain⟨vb,hvb⟩:=ex u4.ownBlock;have HVE:=aD hvb;rw[<- hvb] at HVB;obtain⟨WA,iK⟩:=ex (wr.alloc (.cells #[I pg,I P,.string dt,.bool wb,.bool qZ0] 145));rw[<- iK] at gK Gg BS zx ajQ;rw[<- iK];obtain⟨sb,ZP⟩:=ex wr.heap.size;rw[<- ZP] at BS HVB;rw[<- ZP];have HNS:Hid (some sb≠vb):=fun e=>by have:=HVB.o sb e.symm;omega
        clear hvb iK ZP Gg HVB zC HBm HFm c0 c1 c2 c3 c4;have hpb:∀n:Nat,n<P->0<=o.base+pg+(n:Int)/\o.base+pg+(n:Int)<=3000:=fun n hn=>by omega
        have HPB:=aD hpb;have MC:Hid (∀n:Nat,n<P->∀V,Calls Tryz.prog 162 #[.agg #[I pg,I (P:Int),.string dt,.bool wb,.bool qZ0],I n] V fun e w'=>e=.returned (.string (uG ⟨pg,P,dt,wb,qZ0⟩ n))/\Below V.heap.size V w'):=fun n hn V=>QX ⟨pg,P,dt,wb,qZ0⟩ n V (by omega) (by show dt.size<=100000;omega)
        clear hpb;go_loopw [37,4] (fun i v wi=>∃(n:Nat) (hs2:List bM),n<=P/\i=I n/\hs2.map eQ=(E++wT o ps k)++yF o ps ⟨pg,P,dt,wb,qZ0⟩ n/\hs2.length<=a*1600+k*255+n/\zW w.heap.size wi v hs2/\Below w.heap.size w wi/\sQ w1 rb wi v.ownBlock/\sQ WA vb wi v.ownBlock) (fun i _ _=>P-(intOf i).toNat)
        case atStart=>exact⟨0,hs',by omega,rfl,by rw[Wd.o];simp[yF],by omega,ajQ.o,gK.o,zx.o,by rw[HVE.o];exact sQ.refl _ _⟩
        case round =>
         obtain⟨n,hs2,hn,rfl,hm3,Ot,hrs,hb,Ge,Ks⟩:=hrel;have WO:=aD hm3;have Kw:=aD hrs;have Y6:=aD hb;have HFi:=aD Ge;have HFs:=aD Ks;have agI:=hb.size;clear ajQ gK zx HVE Wd hlen' hm3 hrs hb;by_cases QH:n<P
         · have BOi:=aD (Ge.keep BO1.o HNE.o);have BSi:=aD (Ks.keep BS.o HNS.o);have y6:=aB BOi.o 6 rfl;have z0:=aB BSi.o 0 rfl;have z1:=aB BSi.o 1 rfl;have z2:=aB BSi.o 2 rfl;have z3:=aB BSi.o 3 rfl;have z4:=aB BSi.o 4 rfl;have HPi:=aD (HPN.o.fr Ge);have hpb:=HPB.o n QH;have HNP:=aD (Q5 o ps ⟨pg,P,dt,wb,qZ0⟩ n);have HG2:=aD (MC.o n QH);have HFX:Hid (∀V,Below wr.heap.size wr V->Calls Tryz.prog 163 #[I (o.base+pg+(n:Int)),.slice ap ps.length cp] V fun e w'=>(∃v,e=.returned v/\w'.ownsRow V.heap.size 52 2 v (kQ (o.base+pg+(n:Int)) ps).length ((kQ (o.base+pg+(n:Int)) ps).flatMap Bz))/\Below V.heap.size V w'):=fun V hb=>OP _ ps ap cp V hpb.1 hpb.2 (HPi.o.below hb) (by omega) arK.o
           have Ku:Hid (aae o ps ⟨pg,P,dt,wb,qZ0⟩ n=⟨o.base+pg+(n:Int),uG ⟨pg,P,dt,wb,qZ0⟩ n,kQ (o.base+pg+(n:Int)) ps⟩):=rfl;obtain⟨F,hF⟩:=ex (kQ (o.base+pg+(n:Int)) ps);obtain⟨D,hD⟩:=ex (uG ⟨pg,P,dt,wb,qZ0⟩ n);rw[<- hF] at HFX Ku;rw[<- hD] at HG2 Ku;have hl3:hs2.length<=100000:=by omega
           have hrow:=Kw.o.row.lt;have Qk:=aD hrow;clear hF hD Ge Ks hrow;obtain⟨i0,hin,hz0,hz1,hz2⟩:=iq SS;go_wp2_with (first
            | (go_at_call 162;refine(HG2.o _).mono ?_;rintro e w2 ⟨rfl,hb⟩;have Qi:=aD hb;clear hb)
            | (go_at_call 163;refine(HFX.o _ Qi.o).mono ?_;rintro e w3 ⟨⟨v8,rfl,hrw⟩,hb⟩;obtain⟨af,cf,hvf,hfn⟩:=acY hrw u4.ownBlock (fun q hq=>by have:=(Qk.o q hq).2;have:=Qi.o.size;omega);subst hvf;have Qo:=aD hfn;have HW3:=aD (Qi.o.trans (hb.mono Qi.o.size));have xD:=aD (HW3.o.alloc HW3.o.size (.cells #[I (o.base+pg+(n:Int)),.string D,.slice af F.length cf] 50));have HR4:=aD (Kw.o.below xD.o);have arM:=aD (Qo.o.below ((aK w3.heap.size w3).alloc (aM _) (.cells #[I (o.base+pg+(n:Int)),.string D,.slice af F.length cf] 50)));have HN3:=aD (bG w3 #[I (o.base+pg+(n:Int)),.string D,.slice af F.length cf] 50);have aiK:w.heap.size<=w3.heap.size:=gJ agI HW3.o.size;clear hb hrw hfn)
            | (at_builtin;refine Iq _ rfl _ _ 22 rfl w.heap.size 50 i0 (.agg #[I 0,.string ⟨#[]⟩,Nl]) 3 48 Tryz.underlying22 hin hz0 hz1 hz2 rfl (by decide) _ _ _ rfl HR4.o.row (Ad w3.heap.size 0) 1 1 [I (o.base+pg+(n:Int)),.string D,.slice af F.length cf] rfl rfl (vU HN3.o) (by intro u hu;simp at hu;rcases hu with rfl | rfl | rfl <;> rfl) (by decide) (by unfold maxLen;omega) (by omega) (by simp;omega) (w3.heap.size+1) (by simp) ?_;intro gg amB w4 ahP hgrow agK avw;have aqW:=aD ahP;have Wi:=aD hgrow;have Kz:=aD agK;clear ahP hgrow agK))
           have al5:u4.ownBlock=some gg∨gg=(w3.alloc (.cells #[I (o.base+pg+(n:Int)),.string D,.slice af F.length cf] 50)).heap.size:=by rw[iJ];exact Kz.o
           have HF4:=aD ((sQ.b7 xD.o u4.ownBlock).trans (sQ.agm Wi.o Wi.o.size al5));go_roundw
           case rel=>exact⟨n+1,hs2++[⟨o.base+pg+(n:Int),D,F,af,cf⟩],by omega,by go_num,by rw[HNP.o,Ku.o,List.map_append,WO.o,wa];rfl,by rw[gh];simp;omega,(zW.more (x:=⟨o.base+pg+(n:Int),D,F,af,cf⟩) HR4.o.fix arM.o aqW.o Wi.o Wi.o.size al5),((Y6.o.trans (xD.o.mono Y6.o.size)).grown Wi.o (by simp;omega) (fun q hq=>by have:=(Qk.o q hq).1;omega)),HFi.o.trans HF4.o,HFs.o.trans HF4.o⟩
           case measure=>simp[intOf];omega
         · obtain rfl:n=P:=by omega
           clear Ge Ks;go_wp2;go_roundw
           case rel=>exact⟨k+1,hs2,by omega,by go_num,by rw[rR.o,WO.o,wa],by omega,Kw.o,Y6.o,HFi.o⟩
           case measure=>simp[intOf];omega
      · obtain rfl:k=o.i.jU.length:=by omega
        clear hmE hrs hb Ge;go_wp2;go_roundw
        case rel=>exact⟨a+1,_,hs',by omega,by go_num,aqY.o,Wd.o,by omega,zC.o,HBm.o⟩
        case measure=>simp[intOf];omega
  · obtain rfl:a=l.length:=by omega
    have HX:Hid (R=some E):=by rw[HR.o];omega
    obtain⟨ah,ch,hv,hh,hc⟩:=Nr.o.has;subst hv;have HHH:=aD hh;clear hE hmE hrs hb hh;go_wp2
    go_ret2
    show I5 R w _ _;rw[HX.o];exact⟨sY.o,hs,ah,ch,HME.o,rfl,HHH.o,hc⟩
end Go.Proofs.YtpgifpeohlllfaaGreat
end Go.Proofs.YtpgifpeohlllfaaGreat
