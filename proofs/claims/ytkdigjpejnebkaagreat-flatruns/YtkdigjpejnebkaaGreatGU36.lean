import Derived.Test.YtkdigjpejnebkaaGreatGU00
import Derived.Test.YtkdigjpejnebkaaGreatGU35
import Derived.Test.YtkdigjpejnebkaaGreatGU04
import Derived.Deep.RegionHeld3
import Derived.Test.YtkdigjpejnebkaaGreatGU14
import Derived.Deep.Upon
import Derived.Test.YtkdigjpejnebkaaGreatGU23
import Derived.Test.YtkdigjpejnebkaaGreatGU19
set_option maxHeartbeats 20000000
set_option linter.unusedVariables false
set_option maxRecDepth 100000
set_option linter.unusedSimpArgs false
namespace Go.Proofs.YtkdigjpejnebkaaGreat
namespace LW
open Go.RowKit
open W (ai)
theorem MS:(Tryz.prog.info? 62).map (fun i=>(i.zero,i.size,i.bytes))=some (some (.agg #[I 0,.string ⟨#[]⟩,Nl]),3,48):=by kernel_rfl
structure Rs (lo:Nat) (w:World) (v:Value) (hs:List LM.Sh):Prop where
 row:w.ownsRow lo 62 3 v hs.length (hs.flatMap LM.D5)
 fix:LM.Z6 v.ownBlock w hs
theorem Rs.below {lo:Nat} {w w':World} {v:Value} {hs:List LM.Sh} (h:Rs lo w v hs) (hb:Below w.heap.size w w'):Rs lo w' v hs:=⟨tW h.row hb,fun k hk=>(h.fix k hk).below hb⟩
theorem Rs.nil (lo:Nat) (w:World):Rs lo w Nl []:=⟨World.ownsRow_nil _ _ _ _,fun k hk=>by simp at hk⟩
theorem Rs.has {lo:Nat} {w:World} {v:Value} {hs:List LM.Sh} (h:Rs lo w v hs):∃ao cap,v=.slice ao hs.length cap/\LM.nZ w ao hs/\hs.length<=cap:=by
 have hr:=h.row
 rcases hr.2 with⟨hv,h0⟩ | ⟨g,cap,cur,hv,hbg,hg,hnc,hcm,hcs,htake⟩
 · exact⟨none,0,by rw[hv,h0],fun hl=>by omega,by omega⟩
 · rw[hv] at hr
   refine⟨some (Ad g 0),cap,hv,fun _=>⟨g,0,rfl,B.isLt hg,fun k hk=>?_⟩,hnc⟩
   rw[Nat.zero_add]
   have hh:∀j,j<3->w.cell? (Ad g (k*3+j))=(LM.D5 (LM.gm hs k))[j]?:=fun j hj=>(hr.cellAt _ (by omega)).trans (nv LM.D5 3 (fun _=>rfl) LM.sh0 hs k j hk hj)
   exact⟨hh 0 (by omega),hh 1 (by omega),hh 2 (by omega),(h.fix k hk).has⟩
theorem TP {w:World} {base:Nat} {v:Value} {l:List LM.Fx} (h:w.ownsRow base 121 2 v l.length (l.flatMap LM.Ai)) (rb:Option Nat) (oD:∀q,rb=some q->q<base):∃ao cap,v=.slice ao l.length cap/\LM.pL rb w ao l:=by
 rcases h.2 with⟨hv,h0⟩ | ⟨g,cap,cur,hv,hbg,hg,hnc,hcm,hcs,htake⟩
 · exact⟨none,0,by rw[hv,h0],fun hl=>by omega⟩
 · subst hv
   refine⟨some (Ad g 0),cap,rfl,fun hl=>⟨g,0,rfl,B.isLt hg,fun e=>by have:=oD g e.symm;omega,fun k hk=>?_⟩⟩
   rw[Nat.zero_add]
   have hh:∀j,j<2->w.cell? (Ad g (k*2+j))=(LM.Ai (LM.rD l k))[j]?:=fun j hj=>(h.cellAt _ (by omega)).trans (nv LM.Ai 2 (fun _=>rfl) LM.fx0 l k j hk hj)
   exact⟨hh 0 (by omega),hh 1 (by omega)⟩
theorem Rs.more {lo:Nat} {w w':World} {v:Value} {hs:List LM.Sh} {x:LM.Sh} {g cap:Nat} (h:LM.Z6 v.ownBlock w hs) (hx:LM.pL v.ownBlock w x.ao x.ik) (hown:w'.ownsRow lo 62 3 (.slice (some (Ad g 0)) (hs.length+1) cap) (hs.length+1) (hs.flatMap LM.D5++LM.D5 x)) (hg:w.grownBy w' v.ownBlock) (hs':w.heap.size<=w'.heap.size) (hat:v.ownBlock=some g∨g=w.heap.size) :
  Rs lo w' (.slice (some (Ad g 0)) (hs.length+1) cap) (hs++[x]):=by
 refine⟨by rw[List.length_append,List.flatMap_append];simpa using hown,fun k hk=>?_⟩
 have e:(Value.slice (some (Ad g 0)) (hs.length+1) cap).ownBlock=some g:=rfl
 rw[e]
 rw[List.length_append] at hk
 by_cases hkl:k<hs.length
 · rw[LM.JC hs x k hkl]
   exact(h k hkl).grown hg hs' hat
 · obtain rfl:k=hs.length:=by simp at hk;omega
   rw[LM.JD]
   exact hx.grown hg hs' hat
def I4 (R:Option (List LM.Sp)) (w:World) (e:Ending) (w':World):Prop:=Below w.heap.size w w'/\match R with
 | none=>e=.returned (.tuple #[Nl,.bool false])
 | some E=>∃(hs:List LM.Sh) (ao:Option Addr) (cap:Nat),hs.map LM.plain=E/\e=.returned (.tuple #[.slice ao hs.length cap,.bool true])/\LM.nZ w' ao hs/\hs.length<=cap
structure Fr (w:World) (r:Option Nat) (w':World) (r':Option Nat):Prop where
 size:w.heap.size<=w'.heap.size
 block:∀b,b<w.heap.size->some b≠r->w'.heap[b]?=w.heap[b]?
 row:r'=r∨∃g,r'=some g/\w.heap.size<=g
theorem Fr.refl (w:World) (r:Option Nat):Fr w r w r:=⟨Nat.le_refl _,fun _ _ _=>rfl,.inl rfl⟩
theorem Fr.trans {w w1 w2:World} {r r1 r2:Option Nat} (h:Fr w r w1 r1) (g:Fr w1 r1 w2 r2):Fr w r w2 r2:=by
 have hs:=h.size
 refine⟨Nat.le_trans h.size g.size,fun b hb hr=>?_,?_⟩
 · rw[g.block b (by omega) (fun e=>?_),h.block b hb hr]
   rcases h.row with e1 | ⟨x,e1,e2⟩
   · exact hr (by rw[e,e1])
   · rw[e1] at e
     injection e with e
     omega
 · rcases g.row with e | ⟨x,e1,e2⟩
   · rw[e]
     exact h.row
   · exact .inr ⟨x,e1,by omega⟩
theorem Fr.aF {w w':World} (h:Below w.heap.size w w') (r:Option Nat):Fr w r w' r:=⟨h.size,fun b hb _=>h.block b hb,.inl rfl⟩
theorem Fr.P6 {w w':World} {r:Option Nat} {g:Nat} (h:w.grownBy w' r) (hs:w.heap.size<=w'.heap.size) (hat:r=some g∨g=w.heap.size):Fr w r w' (some g) :=
 ⟨hs,fun b hb hr=>h.block b hb hr,by
  rcases hat with e | e
  · exact .inl e.symm
  · exact .inr ⟨g,rfl,by omega⟩⟩
theorem Fr.keep {w w':World} {r r':Option Nat} {b:Nat} {o:Obj} (h:Fr w r w' r') (hb:w.heap[b]?=some o) (hr:some b≠r):w'.heap[b]?=some o:=(h.block b (B.isLt hb) hr).trans hb
def Ow (rb:Option Nat) (w:World) (ao:Option Addr) (l:List LM.Pt):Prop:=0<l.length->∃b off,ao=some (Ad b off)/\b<w.heap.size/\some b≠rb/\LM.yq w b off l
theorem Ow.fr {rb rb':Option Nat} {w w':World} {ao:Option Addr} {l:List LM.Pt} (h:Ow rb w ao l) (hf:Fr w rb w' rb'):LM.iL w' ao l:=fun hl=>by
 obtain⟨b,off,h1,h2,h3,h4⟩:=h hl
 exact⟨b,off,h1,Nat.lt_of_lt_of_le h2 hf.size,fun i hi=>by
  obtain⟨c0,c1⟩:=h4 i hi
  exact⟨(World.cell?_of_block (hf.block b h2 h3)).trans c0,(World.cell?_of_block (hf.block b h2 h3)).trans c1⟩⟩
theorem PV {w:World} {base:Nat} {v:Value} {l:List LM.Pt} (h:w.ownsRow base 228 2 v l.length (l.flatMap LM.IZ)) (rb:Option Nat) (oD:∀q,rb=some q->q<base):∃ao cap,v=.slice ao l.length cap/\Ow rb w ao l:=by
 rcases h.2 with⟨hv,h0⟩ | ⟨g,cap,cur,hv,hbg,hg,hnc,hcm,hcs,htake⟩
 · exact⟨none,0,by rw[hv,h0],fun hl=>by omega⟩
 · subst hv
   refine⟨some (Ad g 0),cap,rfl,fun hl=>⟨g,0,rfl,B.isLt hg,fun e=>by have:=oD g e.symm;omega,fun k hk=>?_⟩⟩
   rw[Nat.zero_add]
   have hh:∀j,j<2->w.cell? (Ad g (k*2+j))=(LM.IZ (LM.yQ l k))[j]?:=fun j hj=>(h.cellAt _ (by omega)).trans (nv LM.IZ 2 (fun _=>rfl) LM.pt0 l k j hk hj)
   exact⟨hh 0 (by omega),hh 1 (by omega)⟩
end LW
namespace LM
open Go.RowKit
def FH (o:Ob) (L:List AM.Ar) (s:M.Sg):List AM.Ar:=(AW.dH L (o.base+s.page) s.aj (sw s)).1
def Td (o:Ob) (L:List AM.Ar):Nat->List AM.Ar
 | 0=>L
 | k+1=>FH o (Td o L k) (M.dB o.i.cW k)
def Pc (l:List Ob):Nat->List AM.Ar
 | 0=>[]
 | k+1=>Td (dP l k) (Pc l k) (dP l k).i.cW.length
def clr (a:AM.Ar):AM.Ar:=⟨a.page,a.aj,a.bE,false⟩
def kN (L:List AM.Ar):Nat->List AM.Ar
 | 0=>L
 | k+1=>(kN L k).set k (clr (AM.at_ (kN L k) k))
def mP (l:List Ob):List AM.Ar:=(Pc l l.length).map clr
theorem IJ (o:Ob) (L:List AM.Ar) (h:AW.dE L):∀k,AW.dE (Td o L k)
 | 0=>h
 | k+1=>AW.Bu _ _ _ _
theorem Bw (l:List Ob):∀k,AW.dE (Pc l k)
 | 0=>AW.Bt
 | k+1=>IJ _ _ (Bw l k) _
theorem kT (L:List AM.Ar):∀k,(kN L k).length=L.length
 | 0=>rfl
 | k+1=>by simp only[kN,List.length_set,kT L k]
theorem Ah (L:List AM.Ar):∀k,k<=L.length->∀j,(kN L k)[j]?=if j<k then L[j]?.map clr else L[j]?
 | 0,_,j=>by simp[kN]
 | k+1,hk,j=>by
  have ih:=Ah L k (by omega)
  have hl:=kT L k
  have e:AM.at_ (kN L k) k=AM.at_ L k:=by
   unfold AM.at_
   rw[List.getD_eq_getElem?_getD,List.getD_eq_getElem?_getD,ih k,if_neg (Nat.lt_irrefl _)]
  simp only[kN]
  rw[e,List.getElem?_set]
  by_cases hjk:k=j
  · subst hjk
    rw[if_pos rfl,if_pos (by omega),if_pos (by omega)]
    unfold AM.at_
    rw[List.getD_eq_getElem?_getD,List.getElem?_eq_getElem (by omega)]
    rfl
  · rw[if_neg hjk,ih j]
    by_cases h1:j<k
    · rw[if_pos h1,if_pos (by omega)]
    · rw[if_neg h1,if_neg (by omega)]
theorem Kw (L:List AM.Ar):kN L L.length=L.map clr:=by
 apply List.ext_getElem?
 intro j
 rw[Ah L _ (Nat.le_refl _) j,List.getElem?_map]
 by_cases h:j<L.length
 · rw[if_pos h]
 · rw[if_neg h,List.getElem?_eq_none (by omega)]
   rfl
theorem gi (b:Bool):∀(L:List AM.Ar) (k:Nat),k<L.length->(AM.aT L).set (k*4+3) (.bool b)=AM.aT (L.set k ⟨(AM.at_ L k).page,(AM.at_ L k).aj,(AM.at_ L k).bE,b⟩)
 | [],k,h=>by simp at h
 | a::r,0,h=>rfl
 | a::r,k+1,h=>by
  have ih:=gi b r k (by simpa using h)
  show(AM.four a++AM.aT r).set _ _=AM.four a++AM.aT (r.set k _)
  rw[List.set_append_right _ _ (by simp[AM.four];omega)]
  congr 1
  have e:(k+1)*4+3-(AM.four a).length=k*4+3:=by simp[AM.four];omega
  rw[e,ih]
  rfl
end LM
namespace LW
open Go.RowKit
open W (ai)
theorem pW {lo:Nat} {w w':World} {v:Value} {l:List AM.Ar} (h:AW.Own lo w v l) (hb:Below w.heap.size w w'):AW.Own lo w' v l:=tW h hb
theorem tZ {lo:Nat} {w:World} {v:Value} {l:List AM.Ar} (h:AW.Own lo w v l):∃ao cap,v=.slice ao l.length cap/\(0<l.length->∃g,ao=some (Ad g 0)):=by
 rcases h.2 with⟨hv,h0⟩ | ⟨g,cap,cur,hv,_⟩
 · exact⟨none,0,by rw[hv,h0],fun hl=>by omega⟩
 · exact⟨_,cap,hv,fun _=>⟨g,rfl⟩⟩
theorem pK (l:List LM.Ob) (ao:Option Addr) (cap:Nat) (w:World) (h:Oi l ao w) (Yi:l.length<=7) :
  Calls Tryz.prog 103 #[.slice ao l.length cap] w fun e w'=>∃r,e=.returned r/\AW.Own w.heap.size w' r (LM.mP l)/\Below w.heap.size w w':=by
 have HO:=ai h
 clear h
 go_enter Tryz.func103,Tryz.ntmps103
 go_wp2
 go_loopw [11,3] (fun i v wr=>∃(a:Nat),a<=l.length/\i=I a/\AW.Own w.heap.size wr v (LM.Pc l a)/\Below w.heap.size w wr) (fun i _ _=>l.length-(intOf i).toNat)
 case atStart=>exact⟨0,by omega,rfl,AW.Own.nil _ _,Below.refl _ _⟩
 case round =>
  obtain⟨a,hal,rfl,hown,hb⟩:=hrel
  have HOW:=ai hown
  have kH:=ai hb
  by_cases hlt:a<l.length
  · have HOr:=ai (HO.o.below hb)
    obtain⟨b,off,hao,hbl,bP⟩:=HOr.o.has (by omega)
    obtain⟨⟨c0,c1,c2,c3,c4,c5,c6⟩,him⟩:=bP a hlt
    have hbs:=HO.o.base a hlt
    have qa:=HO.o.YS a hlt
    obtain⟨b2,l7,Gg,Nj,uO⟩:=HO.o.has (by omega)
    have Ga:=(uO a hlt).2
    have kG:Hid (LM.Pc l (a+1)=LM.Td (LM.dP l a) (LM.Pc l a) (LM.dP l a).i.cW.length):=rfl
    obtain⟨o,ho⟩:=ex (LM.dP l a)
    rw[<- ho] at c0 c1 c2 c3 c4 c5 c6 Ga hbs qa kG
    have jk:=ai (LM.Bw l a)
    obtain⟨L,hL⟩:=ex (LM.Pc l a)
    rw[<- hL] at HOW kG jk
    have hcn:=LM.counts_of qa
    have Au:=ai (LM.nJ qa)
    obtain⟨bs,Da,hag,Ni,O7⟩:=Ga.cW (by omega)
    have HLG:=ai O7
    rw[hag] at c2
    clear ho hL bP hb hown him O7 hag Ga uO Gg Nj qa
    subst hao
    have dJ:=ai (kH.o.alloc kH.o.size (.cells #[.string o.i.name,.slice o.a.an o.i.needs.length o.a.cn,.slice (some (Ad bs Da)) o.i.cW.length o.a.cg,.slice o.a.ay o.i.syms.length o.a.cy,.slice o.a.ar o.i.fu.length o.a.cr,I o.i.entry,I o.base] 178))
    have jm:=ai ((Below.refl wr.heap.size wr).alloc (Nat.le_refl _) (.cells #[.string o.i.name,.slice o.a.an o.i.needs.length o.a.cn,.slice (some (Ad bs Da)) o.i.cW.length o.a.cg,.slice o.a.ay o.i.syms.length o.a.cy,.slice o.a.ar o.i.fu.length o.a.cr,I o.i.entry,I o.base] 178))
    have BO:=ai (B.new wr #[.string o.i.name,.slice o.a.an o.i.needs.length o.a.cn,.slice (some (Ad bs Da)) o.i.cW.length o.a.cg,.slice o.a.ay o.i.syms.length o.a.cy,.slice o.a.ar o.i.fu.length o.a.cr,I o.i.entry,I o.base] 178)
    have Vt:=ai (pW HOW.o jm.o)
    go_wp2
    obtain⟨W1,hW1⟩:=ex (wr.alloc (.cells #[.string o.i.name,.slice o.a.an o.i.needs.length o.a.cn,.slice (some (Ad bs Da)) o.i.cW.length o.a.cg,.slice o.a.ay o.i.syms.length o.a.cy,.slice o.a.ar o.i.fu.length o.a.cr,I o.i.entry,I o.base] 178))
    rw[<- hW1] at dJ jm BO Vt
    rw[<- hW1]
    obtain⟨ob,Ct⟩:=ex wr.heap.size
    rw[<- Ct] at BO
    rw[<- Ct]
    clear hW1 Ct jm HOW kH HOr c0 c1 c2 c3 c4 c5 c6 hbl
    go_loopw [19,3] (fun i v wm=>∃(k:Nat),k<=o.i.cW.length/\i=I k/\AW.Own w.heap.size wm v (LM.Td o L k)/\Below w.heap.size w wm/\Below W1.heap.size W1 wm) (fun i _ _=>o.i.cW.length-(intOf i).toNat)
    case atStart=>exact⟨0,by omega,rfl,Vt.o,dJ.o,Below.refl _ _⟩
    case round =>
     obtain⟨k,hk,rfl,hown,hb,hb1⟩:=hrel
     have HOW:=ai hown
     have Ss:=ai hb
     have bj:=ai hb1
     clear Vt dJ
     by_cases hlk:k<o.i.cW.length
     · obtain⟨c0,c1,c2,c3,c4⟩:=M.xp hb Ni HLG.o k hlk
       have jN:=Au.o k hlk
       have Nh:bs<wr.heap.size:=Nat.lt_of_lt_of_le Ni hb.size
       have rY:=ai (LM.IJ o L jk.o k)
       have Cl:Hid (LM.Td o L (k+1)=LM.FH o (LM.Td o L k) (M.dB o.i.cW k)):=rfl
       obtain⟨s,SU⟩:=ex (M.dB o.i.cW k)
       rw[<- SU] at c0 c1 c2 c3 c4 jN Cl
       clear SU
       obtain⟨L2,hL2⟩:=ex (LM.Td o L k)
       rw[<- hL2] at HOW rY Cl
       clear hL2
       obtain⟨pg,pn,dt,wb,qZ0⟩:=s
       simp only at c0 c1 c2 c3 c4 jN
       have dJ:=ai (Ss.o.alloc Ss.o.size (.cells #[I pg,I pn,.string dt,.bool wb,.bool qZ0] 129))
       have jm:=ai ((Below.refl wr.heap.size wr).alloc (Nat.le_refl _) (.cells #[I pg,I pn,.string dt,.bool wb,.bool qZ0] 129))
       have BS:=ai (B.new wr #[I pg,I pn,.string dt,.bool wb,.bool qZ0] 129)
       have BOA:=ai (B.alloc (B.below BO.o bj.o (B.isLt BO.o)) (.cells #[I pg,I pn,.string dt,.bool wb,.bool qZ0] 129))
       have VQ:=ai (bj.o.alloc bj.o.size (.cells #[I pg,I pn,.string dt,.bool wb,.bool qZ0] 129))
       have Zv:=ai (pW HOW.o jm.o)
       clear hown hb hb1
       go_wp2
       obtain⟨WA,gw⟩:=ex (wr.alloc (.cells #[I pg,I pn,.string dt,.bool wb,.bool qZ0] 129))
       rw[<- gw] at dJ BS BOA VQ Zv
       rw[<- gw]
       obtain⟨sb,FV⟩:=ex wr.heap.size
       rw[<- FV] at BS
       rw[<- FV]
       clear gw FV jm HOW Ss bj c0 c1 c2 c3 c4 Nh
       have HS:Hid (∀V,Below WA.heap.size WA V->V.cell? (Ad ob 6)=some (I o.base)/\V.cell? (Ad sb 0)=some (I pg)/\V.cell? (Ad sb 1)=some (I pn)/\V.cell? (Ad sb 2)=some (.string dt)/\V.cell? (Ad sb 3)=some (.bool wb)/\V.cell? (Ad sb 4)=some (.bool qZ0)):=fun V hb=>by
        have h1:=B.below BOA.o hb (B.isLt BOA.o)
        have h2:=B.below BS.o hb (B.isLt BS.o)
        exact⟨B.cell h1 6 rfl,B.cell h2 0 rfl,B.cell h2 1 rfl,B.cell h2 2 rfl,B.cell h2 3 rfl,B.cell h2 4 rfl⟩
       have EH:Hid (∀V,Calls Tryz.prog 122 #[.agg #[I pg,I pn,.string dt,.bool wb,.bool qZ0]] V fun e w'=>e=.returned (I (LM.sw ⟨pg,pn,dt,wb,qZ0⟩))/\Below V.heap.size V w'):=fun V=>Mk ⟨pg,pn,dt,wb,qZ0⟩ V
       have Ck:Hid (∀V,Below WA.heap.size WA V->Calls Tryz.prog 121 #[u3,I (o.base+pg),I pn,I (LM.sw ⟨pg,pn,dt,wb,qZ0⟩)] V fun e w'=>∃r,e=.returned (.tuple #[r,I (AW.dH L2 (o.base+pg) pn (LM.sw ⟨pg,pn,dt,wb,qZ0⟩)).2])/\AW.Own V.heap.size w' r (AW.dH L2 (o.base+pg) pn (LM.sw ⟨pg,pn,dt,wb,qZ0⟩)).1/\Below V.heap.size V w'):=fun V hb=>AW.Ih L2 u3 (o.base+pg) pn _ V (pW Zv.o hb).has rY.o (by unfold AW.dF;omega) (by unfold AW.dF;omega)
       have OH:Hid (LM.FH o L2 ⟨pg,pn,dt,wb,qZ0⟩=(AW.dH L2 (o.base+pg) pn (LM.sw ⟨pg,pn,dt,wb,qZ0⟩)).1):=rfl
       obtain⟨PR,hPR⟩:=ex (LM.sw ⟨pg,pn,dt,wb,qZ0⟩)
       rw[<- hPR] at EH Ck OH
       obtain⟨MN,hMN⟩:=ex (AW.dH L2 (o.base+pg) pn PR)
       rw[<- hMN] at Ck OH
       clear hPR hMN
       have hwr:IntKind.i64.wrap (o.base+pg)=o.base+pg:=IntWalk.i64_in _ (by omega)
       have jI:=ai (Below.refl WA.heap.size WA).drew
       have cw:=ai (HS.o _ jI.o)
       go_region_held3 (fun V=>V.cell? (Ad ob 6)=some (I o.base)/\V.cell? (Ad sb 0)=some (I pg)/\V.cell? (Ad sb 1)=some (I pn)/\V.cell? (Ad sb 2)=some (.string dt)/\V.cell? (Ad sb 3)=some (.bool wb)/\V.cell? (Ad sb 4)=some (.bool qZ0)) (first | exact yx.o | exact ql.o | exact cw.o)
        (first
         | (go_at_call 122;refine(EH.o _).mono ?_;rintro e w2 ⟨rfl,hb⟩;have je:=ai (jI.o.trans (hb.mono jI.o.size));have ql:=ai (HS.o _ je.o);clear hb)
         | (go_at_call 121;refine(Ck.o _ je.o).mono ?_;rintro e w3 ⟨v8,rfl,yF,hb⟩;have qo:=ai (je.o.trans (hb.mono je.o.size));have yx:=ai (HS.o _ qo.o);have Hb:=ai yF;clear hb yF))
       go_wp2
       go_roundw
       case rel=>exact⟨k+1,by omega,by go_num,by rw[Cl.o,OH.o];exact Hb.o.mono (Nat.le_trans dJ.o.size je.o.size),dJ.o.trans (qo.o.mono dJ.o.size),VQ.o.trans (qo.o.mono VQ.o.size)⟩
       case measure=>simp[intOf];omega
     · obtain rfl:k=o.i.cW.length:=by omega
       clear hown hb hb1
       go_wp2
       go_roundw
       case rel=>exact⟨a+1,by omega,by go_num,by rw[kG.o];exact HOW.o,Ss.o⟩
       case measure=>simp[intOf];omega
  · obtain rfl:a=l.length:=by omega
    have Sz:Hid (LM.mP l=LM.kN (LM.Pc l l.length) (LM.Pc l l.length).length):=(LM.Kw _).symm
    have jk:=ai (LM.Bw l l.length)
    obtain⟨L,hL⟩:=ex (LM.Pc l l.length)
    rw[<- hL] at HOW Sz jk
    have hll:=jk.o.2
    obtain⟨ar,cr,hv,hg⟩:=tZ HOW.o
    subst hv
    have HG:=ai hg
    clear hown hb hL hg jk
    go_wp2
    go_loopw [41] (fun i wr=>∃(k:Nat),k<=L.length/\i=I k/\AW.Own w.heap.size wr (.slice ar L.length cr) (LM.kN L k)/\Below w.heap.size w wr) (fun i _=>L.length-(intOf i).toNat)
    case atStart=>exact⟨0,by omega,rfl,HOW.o,kH.o⟩
    case round =>
     obtain⟨k,hk,rfl,hown,hb⟩:=hrel
     have yA:=ai hown
     have ZU:=ai hb
     clear HOW kH hown hb
     by_cases hlt:k<L.length
     · obtain⟨g,hg⟩:=HG.o (by omega)
       subst hg
       have EB:=LM.kT L k
       have Wt:Hid (wr.ownsRow w.heap.size 59 4 (.slice (some (Ad g 0)) L.length cr) L.length (AM.aT (LM.kN L k))):=by
        have h:=yA.o
        unfold AW.Own at h
        rw[EB] at h
        exact h
       have HST:=ai (Wt.o.stored (k*4+3) (.bool false))
       have kG:Hid (AM.aT (LM.kN L (k+1))=(AM.aT (LM.kN L k)).set (k*4+3) (.bool false)):=(LM.gi false (LM.kN L k) k (by omega)).symm
       have hlx:=LM.kT L (k+1)
       have HLX:=ai hlx
       have hgl:=Wt.o.lt g rfl
       have q3:=(Wt.o.cellAt (k*4+3) (by omega)).trans (AM.eO (LM.kN L k) k 3 (by omega) (by omega))
       have qf:=Wt.o.frozenAt (k*4+3)
       clear EB hlx
       go_wp2
       go_roundw
       case rel=>exact⟨k+1,by omega,by go_num,by unfold AW.Own;rw[HLX.o,kG.o];exact HST.o.1,ZU.o.setCell (by simp;omega) _⟩
       case measure=>simp[intOf];omega
     · obtain rfl:k=L.length:=by omega
       go_wp2
       go_ret
       exact⟨_,rfl,by rw[Sz.o];exact yA.o,ZU.o⟩
end LW
namespace LM
open Go.RowKit
def lS (x:Li):List Value:=(M.eZ x.a x.i).toList
def gv (all:List Li):Int :=
 if 7<all.length then 2
 else if lU all=0 then
  match Wj all all.length 0 [0] with
  | none=>6
  | some ix=>if 256<fD all 1 ix then 3 else
   match kP (cH all 1 ix) with
   | none=>7
   | some _=>0
 else lU all
theorem GN {l:List Li} (h:lU l=0):(∀k,k<l.length->M.ji (cx l k).i=0)/\M.o9 (fF l)=true:=by
 unfold lU at h
 by_cases e:kM l l.length=0
 · rw[if_pos e] at h
   refine⟨xS l l.length e,?_⟩
   by_cases g:M.o9 (fF l)=true
   · exact g
   · rw[if_neg g] at h
     cases h
 · rw[if_neg e] at h
   exact(e h).elim
theorem Mz {all:List Li} (hc:∀j,j<all.length->M.ji (cx all j).i=0) (h7:all.length<=7) {ix:List Nat} (ho:RF all ix) (k:Nat) (hk:k<(cH all 1 ix).length):1<=(dP (cH all 1 ix) k).base/\(dP (cH all 1 ix) k).base<=2000:=by
 rw[dW] at hk
 rw[(lK all ix 1 k hk).2.2]
 have h:=pF all hc (ix.take k) 1 (fun j hj=>ho.lt j (List.mem_of_mem_take hj))
 have h2:=ho.le
 rw[List.length_take] at h
 omega
end LM
namespace LW
open Go.RowKit
open W (ai)
theorem Ul:(Tryz.prog.info? 135).map (fun i=>(i.zero,i.size,i.bytes))=some (some (.agg #[.string ⟨#[]⟩,Nl,Nl,Nl,Nl,I 0]),6,120):=by kernel_rfl
theorem ML {w:World} {b off:Nat} {l:List LM.Li} (h:LM.Ou w b off l):∀j u,(l.flatMap LM.lS)[j]?=some u->w.cell? (((Ad b off):Addr).add j)=some u:=fun j u hj=>by
 obtain⟨k,r,hr,rfl⟩:∃k r,r<6/\j=k*6+r:=⟨j/6,j%6,by omega,by omega⟩
 have hlen:∀l:List LM.Li,(l.flatMap LM.lS).length=l.length*6:=fun l=>by
  induction l with
  | nil=>rfl
  | cons a r ih=>rw[List.flatMap_cons,List.length_append,ih,List.length_cons];show 6+_=_;omega
 have hk:k<l.length:=by
  obtain⟨hlt,_⟩:=List.getElem?_eq_some_iff.1 hj
  rw[hlen] at hlt
  omega
 rw[nv LM.lS 6 (fun _=>rfl) LM.li0 l k r hk hr] at hj
 obtain⟨⟨c0,c1,c2,c3,c4,c5⟩,_⟩:=h k hk
 rw[Addr.add_lit,<- Nat.add_assoc]
 match r,hr with
 | 0,_=>exact c0.trans hj
 | 1,_=>exact c1.trans hj
 | 2,_=>exact c2.trans hj
 | 3,_=>exact c3.trans hj
 | 4,_=>exact c4.trans hj
 | 5,_=>exact c5.trans hj
theorem TN {w:World} {base:Nat} {g cap:Nat} {l:List LM.Li} (h:w.ownsRow base 135 6 (.slice (some (Ad g 0)) l.length cap) l.length (l.flatMap LM.lS)) (hg:g<w.heap.size) (hi:∀k,k<l.length->M.mH w (LM.cx l k).a (LM.cx l k).i) :
  LM.G6 w (some (Ad g 0)) l:=fun hl=>by
 refine⟨g,0,rfl,hg,fun k hk=>?_⟩
 rw[Nat.zero_add]
 have hh:∀j,j<6->w.cell? (Ad g (k*6+j))=(LM.lS (LM.cx l k))[j]?:=fun j hj=>(h.cellAt _ (by omega)).trans (nv LM.lS 6 (fun _=>rfl) LM.li0 l k j hk hj)
 exact⟨⟨hh 0 (by omega),hh 1 (by omega),hh 2 (by omega),hh 3 (by omega),hh 4 (by omega),hh 5 (by omega)⟩,hi k hk⟩
theorem qV {ops:Array Oper} {rest:List Oper} {o:Oper} {a:Act} {w:World} {Q:Exit->Act->World->Prop} (hgd:o.guard=none) (s x:Operand)
  (ho:o.op=.call { callee:=.builtin .append,args:=#[s,x],argTypes:=#[170,170] })
  (base:Nat) (p:LM.Li) (g0:Nat) (hs:a.eval s=.slice (some (Ad g0 0)) 1 1) (hown:w.ownsRow base 135 6 (.slice (some (Ad g0 0)) 1 1) 1 (LM.lS p))
  (ao:Option Addr) (c:Nat) (libs:List LM.Li) (hx:a.eval x=.slice ao libs.length c) (bP:LM.G6 w ao libs) (h6:libs.length<=6) (hbase:base<=w.heap.size)
  (h:∀g cap w',w'.ownsRow base 135 6 (.slice (some (Ad g 0)) (libs.length+1) cap) (libs.length+1) ((p::libs).flatMap LM.lS)->w.grownBy w' (some g0)->g<w'.heap.size->wpList Tryz.prog ops Q rest (a.put o.dst (.slice (some (Ad g 0)) (libs.length+1) cap)) w'):wpList Tryz.prog ops Q (o::rest) a w:=by
 obtain⟨i0,hin,hz0,hz1,hz2⟩:=info_parts Ul
 by_cases h0:0<libs.length
 · obtain⟨b,off,rfl,hb,hl⟩:=bP h0
   have hlen:∀l:List LM.Li,(l.flatMap LM.lS).length=l.length*6:=fun l=>by
    induction l with
    | nil=>rfl
    | cons a r ih=>rw[List.flatMap_cons,List.length_append,ih,List.length_cons];show 6+_=_;omega
   have hone:∀u∈libs.flatMap LM.lS,u.oneCell'=true:=fun u hu=>by
    obtain⟨y,_,hy⟩:=List.mem_flatMap.1 hu
    simp only[LM.lS,M.eZ] at hy
    simp at hy
    rcases hy with rfl | rfl | rfl | rfl | rfl | rfl <;> rfl
   refine wpList_append_lies w hgd s x 170 ho base 135 i0 (.agg #[.string ⟨#[]⟩,Nl,Nl,Nl,Nl,I 0]) 6 120 Tryz.underlying170 hin hz0 hz1 hz2 rfl (by decide) _ 1 _ hs hown (Ad b off) libs.length c (libs.flatMap LM.lS) hx (hlen _) (ML hl) hone h0 (by unfold maxLen;omega) (by omega) hbase _ rfl ?_
   intro g cap w' h2 h3 _ h5
   have e:1+libs.length=libs.length+1:=Nat.add_comm _ _
   rw[e] at h2 ⊢
   exact h g cap w' h2 h3 h5
 · have e0:libs=[]:=List.eq_nil_of_length_eq_zero (by omega)
   subst e0
   have hg0:g0<w.heap.size:=(hown.lt g0 rfl).2
   refine wpList_plain hgd fun K hK=>?_
   have hsrc:Src Tryz.prog i0.size 170 (.slice ao 0 c) 0 [] w:=⟨.inl ⟨_,Tryz.underlying170⟩,fun w'=>by simp[Builtin.lenOf],by cases ao <;> simp[Builtin.firstCells,loadCells,loadCellsFrom],by cases ao <;> simp[Builtin.firstCells,loadCells,loadCellsFrom],by simp,by simp⟩
   have hr:=run_append_nothing (P:=Tryz.prog) w 170 170 o.type 135 i0 Tryz.underlying170 hin (some (Ad g0 0)) 1 1 (Nat.le_refl _) (.slice ao 0 c) hsrc
   have hx':a.eval x=.slice ao 0 c:=hx
   unfold Oper.wp execOp
   simp only[ho,resolve,invoke,builtin,Sem.run_bind,Sem.run_pure,Result.andThen_ok,List.map_toArray,List.map_cons,List.map_nil,hs,hx',hr]
   refine hK _ _ (h g0 1 w ?_ ⟨rfl,rfl,rfl,Nat.le_refl _,fun _ _ _=>rfl⟩ hg0)
   have e:([p].flatMap LM.lS)=LM.lS p:=by simp
   rw[e]
   exact hown
end LW
namespace LW
open Go.RowKit Go.WideMaps Go.Maps
open W (ai)
def Y6 (all:List LM.Li) (w:World) (e:Ending) (w':World):Prop:=Below w.heap.size w w' /\
 if LM.gv all=0 then ∃(ix:List Nat) (E:List LM.Sp) (r:Value) (hs:List LM.Sh) (ao:Option Addr) (cap:Nat),LM.Wj all all.length 0 [0]=some ix/\LM.kP (LM.cH all 1 ix)=some E/\hs.map LM.plain=E /\
  e=.returned (.tuple #[.agg #[r,.slice ao hs.length cap,I (LM.ve (LM.dP (LM.cH all 1 ix) 0) (LM.cx all 0).i.entry)],I 0])/\AW.Own w.heap.size w' r (LM.mP (LM.cH all 1 ix))/\LM.nZ w' ao hs/\hs.length<=cap
 else e=.returned (.tuple #[.agg #[Nl,Nl,I 0],I (LM.gv all)])
theorem jF (V:World) (rb b j:Nat) (u0 u1 u2:Value) (h:b≠rb):(((V.setCell (Ad rb 0) u0).setCell (Ad rb 1) u1).setCell (Ad rb 2) u2).cell? (Ad b j)=V.cell? (Ad b j):=by
 rw[World.cell?_setCell_far _ (Ad rb 2) (Ad b j) u2 (Ne.symm h),World.cell?_setCell_far _ (Ad rb 1) (Ad b j) u1 (Ne.symm h),World.cell?_setCell_far _ (Ad rb 0) (Ad b j) u0 (Ne.symm h)]
def L1 (V:World) (rb:Nat) (u0 u1 u2:Value):World:=((V.setCell (Ad rb 0) u0).setCell (Ad rb 1) u1).setCell (Ad rb 2) u2
theorem zD (V:World) (rb:Nat) (u0 u1 u2:Value):(L1 V rb u0 u1 u2).heap.size=V.heap.size:=by simp[L1]
theorem SN {V:World} {rb b off:Nat} {t:TypeId} {x:Int} {y:ByteArray} (h:V.heap[rb]?=some (.cells #[Nl,Nl,I 0] t (0,0))) (c0:V.cell? (Ad b off)=some (I x)) (c1:V.cell? (Ad b (off+1))=some (.string y)):b≠rb:=fun e=>by
 rw[e] at c0 c1
 simp only[World.cell?,h] at c0 c1
 match off with
 | 0=>simp at c0
 | 1=>simp at c0
 | 2=>simp at c1
 | n+3=>simp at c0
theorem Kc {V:World} {rb:Nat} {t:TypeId} (h:V.heap[rb]?=some (.cells #[Nl,Nl,I 0] t (0,0))) {ao:Option Addr} {l:List LM.Fx} (g:LM.Cc V ao l) (u0 u1 u2:Value):LM.Cc (L1 V rb u0 u1 u2) ao l:=fun hl=>by
 obtain⟨b,off,e,hb,bP⟩:=g hl
 obtain⟨c0,c1⟩:=bP 0 hl
 have hne:=SN h c0 c1
 refine⟨b,off,e,by rw[zD];exact hb,fun k hk=>?_⟩
 obtain⟨d0,d1⟩:=bP k hk
 exact⟨(jF V rb b _ u0 u1 u2 hne).trans d0,(jF V rb b _ u0 u1 u2 hne).trans d1⟩
theorem Kb {V:World} {rb:Nat} {t:TypeId} (h:V.heap[rb]?=some (.cells #[Nl,Nl,I 0] t (0,0))) {ao:Option Addr} {l:List LM.Sh} (g:LM.nZ V ao l) (u0 u1 u2:Value):LM.nZ (L1 V rb u0 u1 u2) ao l:=fun hl=>by
 obtain⟨b,off,e,hb,bP⟩:=g hl
 obtain⟨c0,c1,_,_⟩:=bP 0 hl
 have hne:=SN h c0 c1
 refine⟨b,off,e,by rw[zD];exact hb,fun k hk=>?_⟩
 obtain⟨d0,d1,d2,d3⟩:=bP k hk
 exact⟨(jF V rb b _ u0 u1 u2 hne).trans d0,(jF V rb b _ u0 u1 u2 hne).trans d1,(jF V rb b _ u0 u1 u2 hne).trans d2,Kc h d3 u0 u1 u2⟩
theorem Mp {V:World} {rb lo:Nat} {v:Value} {l:List AM.Ar} (h:AW.Own lo V v l) (hlt:rb<lo) (u0 u1 u2:Value):AW.Own lo (L1 V rb u0 u1 u2) v l :=
 ownsRow_setCell_below (ownsRow_setCell_below (ownsRow_setCell_below h hlt _) hlt _) hlt _
end LW
namespace GB
open Go.RowKit
def i0:PM.ey:=⟨0,0,0,0,0⟩
def NY:List PM.ey:=[⟨16,0,0,0,5⟩,⟨11,1,0,0,40⟩,⟨10,0,1,8,0⟩,⟨9,0,1,1,0⟩,⟨16,0,0,0,1⟩,⟨16,0,0,0,6⟩]
def sP:Nat->ByteArray
 | 0=>⟨#[]⟩
 | k+1=>sP k++(NY.getD k i0).bytes
theorem xz:∀k,(sP k).size=k*8
 | 0=>rfl
 | k+1=>by
  show(sP k++(NY.getD k i0).bytes).size=_
  rw[ByteArray.size_append,xz k,PM.yg]
  omega
def p1:ByteArray:=⟨#[16,0,0,0,5,0,0,0,11,1,0,0,40,0,0,0]⟩
def p2:ByteArray:=⟨#[10,0,1,8,0,0,0,0,9,0,1,1,0,0,0,0]⟩
def p3:ByteArray:=⟨#[16,0,0,0,1,0,0,0,16,0,0,0,6,0,0,0]⟩
def p4:ByteArray:=⟨#[0,0,0,0,0,0,0,0,0,0,0,0,0,0,0,0]⟩
def Kv:ByteArray:=⟨#[16,0,0,0,5,0,0,0,11,1,0,0,40,0,0,0,10,0,1,8,0,0,0,0,9,0,1,1,0,0,0,0,16,0,0,0,1,0,0,0,16,0,0,0,6,0,0,0]⟩
theorem J3:sP 6=Kv:=by kernel_rfl
def jZ:M.Im:=⟨⟨#[116]⟩,[],[⟨0,4,Kv,true,true⟩],[],[],0⟩
theorem IU:M.Fit jZ:=by
 refine⟨by unfold M.bD jZ;decide,by unfold M.bD jZ;decide,fun k hk=>absurd hk (by unfold jZ;simp),by unfold M.bD jZ;decide,fun k hk=>?_,by unfold M.bD jZ;decide,fun k hk=>absurd hk (by unfold jZ;simp),by unfold M.bD jZ;decide,fun k hk=>absurd hk (by unfold jZ;simp),by unfold M.dF jZ;decide⟩
 have:k=0:=by unfold jZ at hk;simp at hk;omega
 subst this
 exact⟨by unfold M.dF jZ M.dB;decide,by unfold M.dF jZ M.dB;decide,by unfold M.bD;show(48:Nat)<=_;decide⟩
theorem QX (a:M.At):LM.gv [⟨jZ,a⟩]=0:=by kernel_rfl
theorem IQ (a:M.At):LM.Wj [⟨jZ,a⟩] [(⟨jZ,a⟩:LM.Li)].length 0 [0]=some [0]:=by kernel_rfl
theorem QV (a:M.At):LM.cH [⟨jZ,a⟩] 1 [0]=[⟨jZ,a,1⟩]:=by kernel_rfl
def QY:List LM.Sp:=[⟨1,p1,[]⟩,⟨2,p2,[]⟩,⟨3,p3,[]⟩,⟨4,p4,[]⟩]
theorem Gv (a:M.At):LM.kP [⟨jZ,a,1⟩]=some QY:=by kernel_rfl
def zk:List AM.Ar:=[⟨1,4,3,false⟩]
theorem Ku (a:M.At):LM.mP [⟨jZ,a,1⟩]=zk:=by kernel_rfl
theorem Kt (a:M.At):LM.ve (LM.dP [⟨jZ,a,1⟩] 0) (LM.cx [⟨jZ,a⟩] 0).i.entry=16:=by kernel_rfl
def rK (a1 a2 a3 a4:Option Addr) (c1 c2 c3 c4:Nat):List LM.Sh:=[⟨1,p1,[],a1,c1⟩,⟨2,p2,[],a2,c2⟩,⟨3,p3,[],a3,c3⟩,⟨4,p4,[],a4,c4⟩]
theorem U8 {hs:List LM.Sh} (h:hs.map LM.plain=QY):∃a1 a2 a3 a4 c1 c2 c3 c4,hs=rK a1 a2 a3 a4 c1 c2 c3 c4:=by
 match hs,h with
 | [⟨g1,d1,f1,a1,c1⟩,⟨g2,d2,f2,a2,c2⟩,⟨g3,d3,f3,a3,c3⟩,⟨g4,d4,f4,a4,c4⟩],h =>
  simp only[List.map_cons,List.map_nil,LM.plain,QY,List.cons.injEq,LM.Sp.mk.injEq,and_true] at h
  obtain⟨⟨rfl,rfl,rfl⟩,⟨rfl,rfl,rfl⟩,⟨rfl,rfl,rfl⟩,rfl,rfl,rfl⟩:=h
  exact⟨a1,a2,a3,a4,c1,c2,c3,c4,rfl⟩
 | [],h=>cases congrArg List.length h
 | [_],h=>cases congrArg List.length h
 | [_,_],h=>cases congrArg List.length h
 | [_,_,_],h=>cases congrArg List.length h
 | _::_::_::_::_::_,h =>
  have:=congrArg List.length h
  simp[QY] at this
theorem DZ:AW.dE zk:=AM.eN _ (by kernel_rfl)
theorem NV (a1 a2 a3 a4:Option Addr) (c1 c2 c3 c4:Nat):LM.Jd (rK a1 a2 a3 a4 c1 c2 c3 c4):=by
 have one:∀(g:Int) (d:ByteArray) (a:Option Addr) (c:Nat),M.dF g->d.size<=140737488351232->LM.SA ⟨g,d,[],a,c⟩:=fun g d a c h1 h2=>⟨h1,h2,by unfold M.bD;show 0<=_;exact Nat.zero_le _,fun k hk=>absurd hk (Nat.not_lt_zero _)⟩
 refine⟨by unfold M.bD rK;show(4:Nat)<=_;decide,fun k hk=>?_⟩
 match k,hk with
 | 0,_=>exact one 1 p1 a1 c1 (by unfold M.dF;decide) (by show(16:Nat)<=_;decide)
 | 1,_=>exact one 2 p2 a2 c2 (by unfold M.dF;decide) (by show(16:Nat)<=_;decide)
 | 2,_=>exact one 3 p3 a3 c3 (by unfold M.dF;decide) (by show(16:Nat)<=_;decide)
 | 3,_=>exact one 4 p4 a4 c4 (by unfold M.dF;decide) (by show(16:Nat)<=_;decide)
 | k+4,h=>exact absurd h (by unfold rK;simp)
def rL:FM.Fl:=⟨8,[⟨true,zk,[⟨1,p1⟩,⟨2,p2⟩,⟨3,p3⟩,⟨4,p4⟩]⟩],[FW.pI 16],[]⟩
theorem QW (a1 a2 a3 a4:Option Addr) (c1 c2 c3 c4:Nat):GH.Qb zk (rK a1 a2 a3 a4 c1 c2 c3 c4) 16 8=(rL,0):=by kernel_rfl
theorem NU:GH.qR rL.procs:=GH.Ki (by unfold M.dF;decide)
theorem NT:FW.pP rL:=by
 refine⟨by unfold M.dF rL;decide,⟨by unfold M.bD;show(1:Nat)<=_;decide,fun k hk=>?_⟩,by unfold M.bD;show(1:Nat)<=_;decide,by unfold M.bD;show(0:Nat)<=_;decide⟩
 obtain rfl:k=0:=by have:k<1:=hk;omega
 refine⟨DZ,by unfold M.bD;show(4:Nat)<=_;decide,fun j hj=>?_⟩
 match j,hj with
 | 0,_=>exact⟨by show M.dF 1;unfold M.dF;decide,by unfold M.bD;show(16:Nat)<=_;decide⟩
 | 1,_=>exact⟨by show M.dF 2;unfold M.dF;decide,by unfold M.bD;show(16:Nat)<=_;decide⟩
 | 2,_=>exact⟨by show M.dF 3;unfold M.dF;decide,by unfold M.bD;show(16:Nat)<=_;decide⟩
 | 3,_=>exact⟨by show M.dF 4;unfold M.dF;decide,by unfold M.bD;show(16:Nat)<=_;decide⟩
 | k+4,h=>exact absurd h (by show ¬k+4<4;omega)
def picks:List Int:=[0,1,0,1,0,1,0,1,0,1,0,1,0,1]
theorem PU:(GH.l6 rL picks).2=0:=by kernel_rfl
theorem JI:(GH.l6 rL picks).1.procs.length=2:=by kernel_rfl
theorem PQ:(GH.l6 rL picks).1.out.length=2:=by kernel_rfl
theorem TK:(FM.lA (GH.l6 rL picks).1.out 0).value=0:=by kernel_rfl
theorem TJ:(FM.lA (GH.l6 rL picks).1.out 1).value=1:=by kernel_rfl
theorem TL:(FM.au (GH.l6 rL picks).1.procs 0).st=2:=by kernel_rfl
theorem TM:(FM.au (GH.l6 rL picks).1.procs 0).cd=1:=by kernel_rfl
end GB
namespace PW
open Go.RowKit
theorem J2 (i:PM.ey) (w:World):Calls Tryz.prog 71 #[.agg i.cells] w fun e w'=>e=.returned (.string i.bytes)/\Below w.heap.size w w':=by
 obtain⟨o,a,b,c,m⟩:=i
 unfold PM.ey.cells PM.ey.bytes
 simp only
 have cM:=ai ((Below.refl w.heap.size w).alloc (Nat.le_refl _) (.cells #[I o,I a,I b,I c,I m] 99))
 have BX:=ai (B.new w #[I o,I a,I b,I c,I m] 99)
 obtain⟨W,hW⟩:=ex (w.alloc (.cells #[I o,I a,I b,I c,I m] 99))
 have HW:=ai hW
 rw[<- hW] at cM BX
 have oG:=Q.dS W
 have Un:=B.isLt BX.o
 have k0:∀x:Q.dA W.heap.size W,x.world.cell? (Ad w.heap.size 0)=some (I o):=fun x=>by rw[Q.cA x _ _ Un];exact B.cell BX.o 0 rfl
 have k1:∀x:Q.dA W.heap.size W,x.world.cell? (Ad w.heap.size 1)=some (I a):=fun x=>by rw[Q.cA x _ _ Un];exact B.cell BX.o 1 rfl
 have k2:∀x:Q.dA W.heap.size W,x.world.cell? (Ad w.heap.size 2)=some (I b):=fun x=>by rw[Q.cA x _ _ Un];exact B.cell BX.o 2 rfl
 have k3:∀x:Q.dA W.heap.size W,x.world.cell? (Ad w.heap.size 3)=some (I c):=fun x=>by rw[Q.cA x _ _ Un];exact B.cell BX.o 3 rfl
 have k4:∀x:Q.dA W.heap.size W,x.world.cell? (Ad w.heap.size 4)=some (I m):=fun x=>by rw[Q.cA x _ _ Un];exact B.cell BX.o 4 rfl
 have HA:Hid (∀n V,Calls Tryz.prog 55 #[I n,I 1] V fun e w'=>e=.returned (.string (PM.le 1 n))/\Below V.heap.size V w'):=fun n U=>CW.um n 1 U (by omega)
 have HM:Hid (∀V,Calls Tryz.prog 55 #[I m,I 4] V fun e w'=>e=.returned (.string (PM.le 4 m))/\Below V.heap.size V w'):=fun U=>CW.um m 4 U (by omega)
 have s1:=PM.le_size 1 o
 have s2:=PM.le_size 1 a
 have s3:=PM.le_size 1 b
 have s4:=PM.le_size 1 c
 have s5:=PM.le_size 4 m
 have t1:(PM.le 1 o++PM.le 1 a).size=2:=by rw[ByteArray.size_append,s1,s2]
 have t2:(PM.le 1 o++PM.le 1 a++PM.le 1 b).size=3:=by rw[ByteArray.size_append,t1,s3]
 have t3:(PM.le 1 o++PM.le 1 a++PM.le 1 b++PM.le 1 c).size=4:=by rw[ByteArray.size_append,t2,s4]
 clear hW
 go_enter Tryz.func71,Tryz.ntmps71
 go_wp2
 rw[<- HW.o]
 refine Q.aW (by kernel_rfl) (by kernel_rfl) ?_
 repeat (first | go_big_quiet_step ((go_at_call 55;first | with_reducible exact Q.bM (HA.o _) _ | with_reducible exact Q.bM HM.o _)) | quiet_step ((go_at_call 55;first | with_reducible exact Q.bM (HA.o _) _ | with_reducible exact Q.bM HM.o _)))
 refine wpQuiet_nil ?_
 intro _ hw'
 obtain⟨x,hw''⟩:=hw'
 subst hw''
 go_wp2
 go_ret
 exact⟨rfl,cM.o.trans (x.keeps.mono cM.o.size)⟩
end PW
end Go.Proofs.YtkdigjpejnebkaaGreat
