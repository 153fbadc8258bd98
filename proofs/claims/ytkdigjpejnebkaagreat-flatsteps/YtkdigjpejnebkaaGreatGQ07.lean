import Derived.Test.YtkdigjpejnebkaaGreatGQ00
import Derived.Test.YtkdigjpejnebkaaGreatGQ06
import Derived.Deep.RegionLaw
import Derived.Deep.DeepCutAuto
import Derived.Test.YtkdigjpejnebkaaGreatGQ02
import Derived.Test.YtkdigjpejnebkaaGreatGQ05
set_option maxHeartbeats 20000000
set_option linter.unusedVariables false
set_option maxRecDepth 100000
set_option linter.unusedSimpArgs false
namespace Go.Proofs.YtkdigjpejnebkaaGreat
namespace GO
open Go.RowKit GK
open GF (Lc vV bw bH aH eO blk eQ eP dw bl)
open FW (ai aB)
structure Mem (lo mb:Nat) (w:World) (D:Nat->Prop) (sl:Int) (vr vo v:Value) (L:List Lc) (ss:List FM.Sp):Prop where
 len:L.length=ss.length
 head:w.heap[mb]?=some (.cells #[I sl,v,vr,vo] 30 (0,0))
 row:w.ownsRow lo 53 3 v L.length (L.flatMap bH)
 each:∀k,k<L.length->eO lo w (bw L k) (FM.ax ss k)
 base:lo<=mb
 n1:¬blk v mb
 n2:∀k,k<L.length->¬blk (bw L k).va mb/\¬blk (bw L k).vp mb
 n3:∀k,k<L.length->∀b,blk v b->¬blk (bw L k).va b/\¬blk (bw L k).vp b
 n4:∀j k,j<L.length->k<L.length->∀b,blk (bw L j).vp b->¬blk (bw L k).va b/\(j≠k->¬blk (bw L k).vp b)
 d1:D mb
 d2:∀b,blk v b->D b
 d3:∀k,k<L.length->∀b,blk (bw L k).va b∨blk (bw L k).vp b->D b
theorem Mem.kp {lo mb:Nat} {w w':World} {D E:Nat->Prop} {sl:Int} {vr vo:Value} {v:Value} {L:List Lc} {ss:List FM.Sp} (h:Mem lo mb w D sl vr vo v L ss) (hk:Kp E w w') (hd:∀b,D b->¬E b):Mem lo mb w' D sl vr vo v L ss :=
 ⟨h.len,hk.keep h.head (hd _ h.d1),hk.row h.row (fun g hg=>hd _ (h.d2 g hg)),fun k hl=>(h.each k hl).kp hk (fun b hb=>hd _ (h.d3 k hl b (.inl hb))) (fun b hb=>hd _ (h.d3 k hl b (.inr hb))),h.base,h.n1,h.n2,h.n3,h.n4,h.d1,h.d2,h.d3⟩
theorem Mem.below {lo mb:Nat} {w w':World} {D:Nat->Prop} {sl:Int} {vr vo:Value} {v:Value} {L:List Lc} {ss:List FM.Sp} (h:Mem lo mb w D sl vr vo v L ss) (hb:Below w.heap.size w w'):Mem lo mb w' D sl vr vo v L ss:=h.kp (Kp.aF (D:=fun _=>False) hb) (fun _ _ g=>g)
theorem Mem.dom {lo mb:Nat} {w:World} {D D':Nat->Prop} {sl:Int} {vr vo:Value} {v:Value} {L:List Lc} {ss:List FM.Sp} (h:Mem lo mb w D sl vr vo v L ss) (hd:∀b,lo<=b->b<w.heap.size->D b->D' b):Mem lo mb w D' sl vr vo v L ss :=
 ⟨h.len,h.head,h.row,h.each,h.base,h.n1,h.n2,h.n3,h.n4,hd _ h.base (B.isLt h.head) h.d1,fun b hb=>hd b (h.row.lt b hb).1 (h.row.lt b hb).2 (h.d2 b hb),fun k hk b hb=>by
  have hl:lo<=b/\b<w.heap.size:=by
   rcases hb with g | g
   · exact(h.each k hk).aw.lt b g
   · exact(h.each k hk).aj.lt b g
  exact hd b hl.1 hl.2 (h.d3 k hk b hb)⟩
theorem Mem.lt {lo mb:Nat} {w:World} {D:Nat->Prop} {sl:Int} {vr vo:Value} {v:Value} {L:List Lc} {ss:List FM.Sp} (h:Mem lo mb w D sl vr vo v L ss) (k:Nat) (hk:k<L.length) (b:Nat) (hb:blk (bw L k).va b∨blk (bw L k).vp b):lo<=b/\b<w.heap.size:=by
 rcases hb with g | g
 · exact(h.each k hk).aw.lt b g
 · exact(h.each k hk).aj.lt b g
theorem Mem.snoc {lo mb:Nat} {w w2:World} {D D':Nat->Prop} {sl:Int} {vr vo:Value} {v v':Value} {L:List Lc} {ss:List FM.Sp} {l:Lc} {s:FM.Sp} (h:Mem lo mb w D sl vr vo v L ss) (hk:Kp (blk v) w w2)
  (hrow:w2.ownsRow lo 53 3 v' (L.length+1) ((L++[l]).flatMap bH)) (hat:∀b,blk v' b->blk v b∨w.heap.size<=b) (hs:eO lo w2 l s) (hl:∀b,blk l.va b∨blk l.vp b->w.heap.size<=b)
  (ha:∀b,blk l.vp b->¬blk l.va b) (hv:∀b,blk v' b->¬blk l.va b/\¬blk l.vp b) (hd:∀b,D b->D' b) (hd2:∀b,w.heap.size<=b->b<w2.heap.size->D' b) :
  Mem lo mb (w2.setCell (Ad mb 1) v') D' sl vr vo v' (L++[l]) (ss++[s]):=by
 have hmb:=B.isLt h.head
 have hle:(L++[l]).length=L.length+1:=by simp
 have kG:Kp (fun b=>b=mb) w2 (w2.setCell (Ad mb 1) v'):=Kp.set _ _ _ _ rfl
 have Dt:¬blk v' mb:=fun g=>by
  rcases hat _ g with g | g
  · exact h.n1 g
  · omega
 have Gg:¬blk l.va mb/\¬blk l.vp mb:=⟨fun g=>by have:=hl _ (.inl g);omega,fun g=>by have:=hl _ (.inr g);omega⟩
 have hold:∀k,k<L.length->eO lo w2 (bw L k) (FM.ax ss k):=fun k hk'=>(h.each k hk').kp hk (fun b hb g=>(h.n3 k hk' b g).1 hb) (fun b hb g=>(h.n3 k hk' b g).2 hb)
 have hk1:∀k,k<(L++[l]).length->k<L.length∨k=L.length:=fun k hk'=>by omega
 have old:∀k,k<L.length->bw (L++[l]) k=bw L k:=fun k hk'=>by rw[eQ,if_pos hk']
 have new:bw (L++[l]) L.length=l:=by rw[eQ,if_neg (by omega),if_pos rfl]
 have TZ:∀k,k<L.length->FM.ax (ss++[s]) k=FM.ax ss k:=fun k hk'=>by rw[eP,if_pos (by rw[<- h.len];exact hk')]
 have J5:FM.ax (ss++[s]) L.length=s:=by rw[eP,if_neg (by rw[h.len];omega),if_pos h.len]
 refine⟨by simp[h.len],?_,?_,?_,h.base,Dt,?_,?_,?_,hd _ h.d1,?_,?_⟩
 · exact B.set (hk.keep h.head h.n1) 1 v'
 · rw[hle]
   exact kG.row hrow (fun g hg e=>Dt (e ▸ hg))
 · intro k hk'
   rcases hk1 k hk' with g | g
   · rw[old k g,TZ k g]
     exact(hold k g).kp kG (fun b hb e=>(h.n2 k g).1 (e ▸ hb)) (fun b hb e=>(h.n2 k g).2 (e ▸ hb))
   · subst g
     rw[new,J5]
     exact hs.kp kG (fun b hb e=>Gg.1 (e ▸ hb)) (fun b hb e=>Gg.2 (e ▸ hb))
 · intro k hk'
   rcases hk1 k hk' with g | g
   · rw[old k g];exact h.n2 k g
   · subst g;rw[new];exact Gg
 · intro k hk' b hb
   rcases hk1 k hk' with g | g
   · rw[old k g]
     rcases hat b hb with e | e
     · exact h.n3 k g b e
     · exact⟨fun x=>by have:=h.lt k g b (.inl x);omega,fun x=>by have:=h.lt k g b (.inr x);omega⟩
   · subst g;rw[new];exact hv b hb
 · intro j k hj hk' b hb
   rcases hk1 j hj with g | g
   · rw[old j g] at hb
     rcases hk1 k hk' with g2 | g2
     · rw[old k g2];exact h.n4 j k g g2 b hb
     · subst g2;rw[new]
       have:=h.lt j g b (.inr hb)
       exact⟨fun x=>by have:=hl b (.inl x);omega,fun _ x=>by have:=hl b (.inr x);omega⟩
   · subst g
     rw[new] at hb
     rcases hk1 k hk' with g2 | g2
     · rw[old k g2]
       have:=hl b (.inr hb)
       exact⟨fun x=>by have:=h.lt k g2 b (.inl x);omega,fun _ x=>by have:=h.lt k g2 b (.inr x);omega⟩
     · subst g2;rw[new]
       exact⟨ha b hb,fun e=>(e rfl).elim⟩
 · intro b hb
   rcases hat b hb with e | e
   · exact hd _ (h.d2 b e)
   · exact hd2 b e (hrow.lt b hb).2
 · intro k hk' b hb
   rcases hk1 k hk' with g | g
   · rw[old k g] at hb;exact hd _ (h.d3 k g b hb)
   · subst g;rw[new] at hb
     refine hd2 b (hl b hb) ?_
     rcases hb with x | x
     · exact(hs.aw.lt b x).2
     · exact(hs.aj.lt b x).2
theorem Mem.push {lo mb:Nat} {w w2 w4:World} {D D':Nat->Prop} {sl:Int} {vr vo:Value} {v v':Value} {L:List Lc} {ss:List FM.Sp} {l:Lc} {s:FM.Sp} {O:Obj} (h:Mem lo mb w D sl vr vo v L ss) (hlo:lo<=w.heap.size) (hb2:Below w.heap.size w w2)
  (Kg:eO w.heap.size w2 l s) (hne:∀b,blk l.vp b->¬blk l.va b) (hgr:(w2.alloc O).grownBy w4 v.ownBlock) (hown:w4.ownsRow lo 53 3 v' (L.length+1) (L.flatMap bH++bH l))
  (hat:v'.ownBlock=v.ownBlock∨v'.ownBlock=some (w2.alloc O).heap.size) (hd:∀b,D b->D' b) (hd2:∀b,w.heap.size<=b->b<w4.heap.size->D' b) :
  Mem lo mb (w4.setCell (Ad mb 1) v') D' sl vr vo v' (L++[l]) (ss++[s])/\Kp (fun b=>b=mb∨blk v b) w (w4.setCell (Ad mb 1) v'):=by
 have s1:=hb2.size
 have s2:=hgr.size
 have hz:(w2.alloc O).heap.size=w2.heap.size+1:=World.size_alloc _ _
 rw[hz] at s2 hat
 have kA:Kp (blk v) w w2:=Kp.aF hb2
 have kB:Kp (blk v) w2 (w2.alloc O):=Kp.alloc _ w2 O
 have kC:Kp (blk v) (w2.alloc O) w4:=Kp.grown hgr (fun _ e=>e)
 have kD:=kA.trans (kB.trans kC (fun _ _ g=>g)) (fun _ _ g=>g)
 have eA:∀b,blk l.va b∨blk l.vp b->w.heap.size<=b/\b<w2.heap.size:=fun b hb=>by
  rcases hb with g | g
  · exact Kg.aw.lt b g
  · exact Kg.aj.lt b g
 have hvb:∀b,blk v b->b<w.heap.size:=fun b hb=>(h.row.lt b hb).2
 have hv4:∀b,blk v' b->blk v b∨b=w2.heap.size+1:=fun b hb=>by
  unfold blk at hb ⊢
  rcases hat with e | e
  · exact .inl (by rw[<- e];exact hb)
  · right
    rw[e] at hb
    injection hb with hb
    exact hb.symm
 refine⟨h.snoc kD ?_ (fun b hb=>?_) ?_ (fun b hb=>(eA b hb).1) hne (fun b hb=>?_) hd hd2,?_⟩
 · rw[List.flatMap_append]
   simpa using hown
 · rcases hv4 b hb with g | g
   · exact .inl g
   · exact .inr (by omega)
 · refine(Kg.mono hlo).kp (kB.trans kC (fun _ _ g=>g)) (fun b hb g=>?_) (fun b hb g=>?_)
   · have:=hvb b g;have:=eA b (.inl hb);omega
   · have:=hvb b g;have:=eA b (.inr hb);omega
 · rcases hv4 b hb with g | g
   · have:=hvb b g
     exact⟨fun x=>by have:=eA b (.inl x);omega,fun x=>by have:=eA b (.inr x);omega⟩
   · exact⟨fun x=>by have:=eA b (.inl x);omega,fun x=>by have:=eA b (.inr x);omega⟩
 · exact(kD.mono (fun b _ g=>.inr g)).trans (Kp.set (fun b=>b=mb∨blk v b) w4 (Ad mb 1) v' (.inl rfl)) (fun _ _ g=>g)
theorem Mem.has {lo mb:Nat} {w:World} {D:Nat->Prop} {sl:Int} {vr vo:Value} {v:Value} {L:List Lc} {ss:List FM.Sp} (h:Mem lo mb w D sl vr vo v L ss):∃ao cap,v=.slice ao ss.length cap/\FW.vL w ao ss:=by
 obtain⟨ao,cap,rfl,hle,hg⟩:=aJ h.row
 have hlen:=h.len
 refine⟨ao,cap,by rw[hlen],fun hl=>?_⟩
 obtain⟨g,rfl,hg1,hg2⟩:=hg (by omega)
 refine⟨g,0,rfl,hg2,fun k hk=>?_⟩
 have hk':k<L.length:=by omega
 have hs:=h.each k hk'
 have hc:∀j,j<3->w.cell? (Ad g (k*3+j))=(bH (bw L k))[j]?:=fun j hj=>cZ bH dw vV h.row k j hk' hj
 obtain⟨ap,cp,hvp,Lg,Lh⟩:=aJ hs.aj
 have hc0:=hc 0 (by omega)
 have hc1:=hc 1 (by omega)
 have hc2:=hc 2 (by omega)
 rw[Nat.zero_add]
 refine⟨(bw L k).va,ap,cp,?_,hc1,?_,hs.aw.has,?_,Lg⟩
 · rw[<- hs.live];exact hc0
 · rw[<- hvp];exact hc2
 · intro hp
   obtain⟨q,rfl,hq1,hq2⟩:=Lh hp
   refine⟨q,0,rfl,hq2,fun i hi=>?_⟩
   have hr:=hs.aj
   rw[hvp] at hr
   have Gl:∀j,j<2->w.cell? (Ad q (i*2+j))=(aH (FM.aN (FM.ax ss k).aj i))[j]?:=fun j hj=>cZ aH bl FM.yC hr i j hi hj
   rw[Nat.zero_add]
   exact⟨Gl 0 (by omega),Gl 1 (by omega)⟩
end GO
namespace GF
open Go.RowKit GK
open FW (ai aB)
theorem Bo:(Tryz.prog.info? 53).map (fun i=>(i.zero,i.size,i.bytes))=some (some (.agg #[.bool false,Nl,Nl]),3,56):=by kernel_rfl
theorem Bc {lo mb:Nat} {w:World} {D:Nat->Prop} {sl:Int} (hm:w.heap[mb]?=some (.cells #[I sl,Nl] 153 (0,0))) (hl:lo<=mb) (hd:D mb):Mem lo mb w D sl Nl [] [] :=
 ⟨rfl,hm,World.ownsRow_nil _ _ _ _,(fun k hk=>absurd hk (Nat.not_lt_zero _)),hl,(fun g=>nomatch g),(fun k hk=>absurd hk (Nat.not_lt_zero _)),(fun k hk=>absurd hk (Nat.not_lt_zero _)),(fun j k hj=>absurd hj (Nat.not_lt_zero _)),hd,(fun b g=>nomatch g),(fun k hk=>absurd hk (Nat.not_lt_zero _))⟩
def ym (w:World) (sl:Int) (ss:List FM.Sp) (e:Ending) (w':World):Prop:=∃mb v L,e=.returned (.pointer (some (Ad mb 0)))/\Mem w.heap.size mb w' (fun b=>w.heap.size<=b/\b<w'.heap.size) sl v L ss/\Below w.heap.size w w'
theorem qH (f:FM.Fl) (az ar ao:Option Addr) (cs cr co:Nat) (w:World) (h:FW.vL w az f.ak) (hf:FW.yB f.ak) (hn:f.ak.length<=1000) (hsp:∀k,k<f.ak.length->(FM.ax f.ak k).aw.length<=1000000/\(FM.ax f.ak k).aj.length<=1000000) :
  Calls Tryz.prog 78 #[.agg (FW.bC f az ar ao cs cr co)] w (ym w f.slots f.ak):=by
 have HH:=ai h
 have HF:=ai hf
 have qO:=ai hsp
 obtain⟨sl,ss,ps,os⟩:=f
 unfold FW.bC
 simp only at HH HF qO hn ⊢
 obtain⟨nr,fw⟩:=ex ps.length
 obtain⟨no,hno⟩:=ex os.length
 rw[<- fw,<- hno]
 clear h hf hsp fw hno
 have cP:=ai (((Below.refl w.heap.size w).alloc (Nat.le_refl _) (.cells #[I sl,.slice az ss.length cs,.slice ar nr cr,.slice ao no co] 30)).alloc (by simp) (.cells #[I sl,Nl] 153))
 have Y0:Hid (((w.alloc (.cells #[I sl,.slice az ss.length cs,.slice ar nr cr,.slice ao no co] 30)).alloc (.cells #[I sl,Nl] 153)).heap[w.heap.size+1]?=some (.cells #[I sl,Nl] 153 (0,0))):=by
  have:=B.new (w.alloc (.cells #[I sl,.slice az ss.length cs,.slice ar nr cr,.slice ao no co] 30)) #[I sl,Nl] 153
  rw[World.size_alloc] at this
  exact this
 have dx:Hid (∀v L (w':World),Mem w.heap.size (w.heap.size+1) w' (fun b=>w.heap.size<=b/\b<w'.heap.size) sl v L ss->Below w.heap.size w w'->ym w sl ss (.returned (.pointer (some (Ad (w.heap.size+1) 0)))) w'):=fun v L w' h1 h2=>⟨_,v,L,rfl,h1,h2⟩
 obtain⟨i0,hin,hz0,hz1,hz2⟩:=info_parts Bo
 have nC:=ai hin
 have vM:=ai hz0
 have rR:=ai hz1
 have mU:=ai hz2
 clear hin hz0 hz1 hz2
 obtain⟨P,hP⟩:=ex (ym w sl ss)
 rw[<- hP] at dx ⊢
 clear hP
 obtain⟨ns,hns⟩:=ex ss.length
 rw[<- hns] at cP Y0 hn ⊢
 have qQ:=ai hns
 clear hns
 go_enter Tryz.func78,Tryz.ntmps78
 go_wp2
 obtain⟨WA,fH⟩:=ex ((w.alloc (.cells #[I sl,.slice az ns cs,.slice ar nr cr,.slice ao no co] 30)).alloc (.cells #[I sl,Nl] 153))
 rw[<- fH] at cP Y0 ⊢
 clear fH
 obtain⟨mb,hmb⟩:=ex (w.heap.size+1)
 rw[<- hmb] at dx Y0 ⊢
 have HMB:=ai hmb
 clear hmb
 obtain⟨lo,hlo⟩:=ex w.heap.size
 have Hx:=ai cP.o
 rw[<- hlo] at dx cP HMB ⊢
 have Ji:=ai hlo
 clear hlo
 go_loopw [13] (fun iv wr=>∃(k:Nat) (v:Value) (L:List Lc),k<=ns/\iv=I (k:Int)/\Mem lo mb wr (fun b=>lo<=b/\b<wr.heap.size) sl v L (ss.take k)/\Below lo w wr) (fun iv _=>ns-(intOf iv).toNat)
 case atStart=>exact⟨0,Nl,[],by omega,rfl,Bc Y0.o (by have:=HMB.o;omega) ⟨by have:=HMB.o;omega,B.isLt Y0.o⟩,cP.o⟩
 case round =>
  obtain⟨k,v,L,hk,rfl,hm,hb⟩:=hrel
  have HM:=ai hm
  have HB:=ai hb
  have hlk:L.length=k:=by rw[hm.len,List.length_take];have:=qQ.o;omega
  have ab8:=B.isLt hm.head
  have acb:=hm.base
  clear cP Hx Y0
  by_cases hlt:k<ns
  · have EH:Below w.heap.size w wr:=Ji.o ▸ hb
    obtain⟨b,off,hao,hbl,bQ⟩:=(HH.o.below EH) (by rw[<- qQ.o];omega)
    subst hao
    obtain⟨va,ap,cp,c0,c1,c2,c3,c4,c5⟩:=bQ k (by rw[<- qQ.o];omega)
    have hsk:=qO.o k (by rw[<- qQ.o];omega)
    have CB:Hid (ss.take (k+1)=ss.take k++[FM.ax ss k]):=by
     have hlt':k<ss.length:=by rw[<- qQ.o];exact hlt
     show _=_
     rw[List.take_succ_eq_append_getElem hlt']
     unfold FM.ax
     rw[List.getD_eq_getElem?_getD,List.getElem?_eq_getElem hlt']
     rfl
    obtain⟨aa,na,ca,rfl⟩:=FW.Kb c3
    have PG:Hid (∀V,Below wr.heap.size wr V->Calls Tryz.prog 107 #[.agg #[.bool (FM.ax ss k).live,.slice aa na ca,.slice ap (FM.ax ss k).aj.length cp]] V (Ja V (FM.ax ss k))):=fun V hV=>xW (FM.ax ss k) aa ap na ca cp V (c3.below hV) (c4.below hV) hsk.1 hsk.2
    obtain⟨s,hs⟩:=ex (FM.ax ss k)
    rw[<- hs] at c0 c2 CB PG
    obtain⟨lv,hlv⟩:=ex s.live
    obtain⟨np,fE⟩:=ex s.aj.length
    rw[<- hlv] at c0
    rw[<- fE] at c2
    rw[<- hlv,<- fE] at PG
    have qA:=ai hlv
    have jc:(k:Int)<(ns:Int):=by omega
    have m1:wr.cell? (Ad mb 1)=some v:=B.cell hm.head 1 rfl
    have acB:¬b=wr.heap.size:=by omega
    clear hs hlv fE hsk bQ c3 c4 c5 EH hb hm
    go_wp2
    have cL:=ai (HB.o.alloc (by omega) (.cells #[.bool lv,.slice aa na ca,.slice ap np cp] 53))
    have K6:=ai ((Below.refl wr.heap.size wr).alloc (Nat.le_refl _) (.cells #[.bool lv,.slice aa na ca,.slice ap np cp] 53))
    have BX:=ai (B.new wr #[.bool lv,.slice aa na ca,.slice ap np cp] 53)
    have mX:Hid (Mem lo mb (wr.alloc (.cells #[.bool lv,.slice aa na ca,.slice ap np cp] 53)) (fun b=>lo<=b/\b<wr.heap.size) sl v L (ss.take k)):=HM.o.below K6.o
    have Zt:Hid (lo<=(wr.alloc (.cells #[.bool lv,.slice aa na ca,.slice ap np cp] 53)).heap.size):=by show _<=_;rw[World.size_alloc];omega
    have m2:(wr.alloc (.cells #[.bool lv,.slice aa na ca,.slice ap np cp] 53)).cell? (Ad mb 1)=some v:=B.cell mX.o.head 1 rfl
    obtain⟨WB,YA⟩:=ex (wr.alloc (.cells #[.bool lv,.slice aa na ca,.slice ap np cp] 53))
    rw[<- YA] at cL K6 BX mX m2 Zt ⊢
    obtain⟨sb,jQ⟩:=ex wr.heap.size
    have Sz:=ai K6.o
    rw[<- jQ] at BX hbl ab8 ⊢
    have Aw:=ai jQ
    clear YA jQ c0 c1 c2 m1 acB K6
    have HS:Hid (∀V,Below WB.heap.size WB V->V.cell? (Ad sb 0)=some (.bool lv)/\V.cell? (Ad sb 1)=some (.slice aa na ca)/\V.cell? (Ad sb 2)=some (.slice ap np cp)):=fun V hb=>by
     have h1:=B.below BX.o hb (B.isLt BX.o)
     exact⟨B.cell h1 0 rfl,B.cell h1 1 rfl,B.cell h1 2 rfl⟩
    have mi:Hid (∀V,Below WB.heap.size WB V->Calls Tryz.prog 107 #[.agg #[.bool lv,.slice aa na ca,.slice ap np cp]] V fun e w'=>∃a1 n1 c1 a2 n2 c2,e=.returned (.agg #[.bool lv,.slice a1 n1 c1,.slice a2 n2 c2])/\eO V.heap.size w' ⟨lv,.slice a1 n1 c1,.slice a2 n2 c2⟩ s/\(∀b,blk (.slice a2 n2 c2) b->¬blk (.slice a1 n1 c1) b)/\Below V.heap.size V w'):=fun V hV=>(PG.o V (Sz.o.trans (hV.mono Sz.o.size))).mono fun e w' ⟨va,vp,h1,h2,h3,h4⟩=>by
     rw[<- qA.o] at h1 h2
     obtain⟨a1,c1,e1,_⟩:=aJ h2.aw
     obtain⟨a2,c2,e2,_⟩:=aJ h2.aj
     have U0:va=_:=e1
     have e2':vp=_:=e2
     subst U0 e2'
     exact⟨_,_,_,_,_,_,h1,h2,h3,h4⟩
    have jL:=ai (Below.refl WB.heap.size WB).drew
    have cB:=ai (HS.o _ jL.o)
    have g0:=(cB.o).1
    have g1:=(cB.o).2.1
    have g2:=(cB.o).2.2
    go_region_law (first
     | (refine iz (P:=Tryz.prog) rfl _ _ 26 rfl lo 53 i0 (.agg #[.bool false,Nl,Nl]) 3 56 Tryz.underlying26 nC.o vM.o rR.o mU.o rfl (by decide) v k (L.flatMap bH) rfl Er.o (some (Ad w2.heap.size 0)) 1 1 [.bool lv,.slice a1 n1 c1,.slice a2 n2 c2] rfl rfl (fun _=>⟨_,rfl,B.news (B.new w2 _ _)⟩) (by intro u hu;simp at hu;rcases hu with rfl | rfl | rfl <;> rfl) (by unfold maxLen;omega) (by omega) Vr.o ?_;intro v3 w4 hown hgr hat;obtain⟨a4,c4,rfl,_⟩:=aJ hown;have Ck:=ai hown;have zy:=ai hgr;have Hy:=ai hat;have Gr:=B.grown (B.alloc (mX.o.below iw.o).head (.cells #[.bool lv,.slice a1 n1 c1,.slice a2 n2 c2] 53)) hgr (fun e=>mX.o.n1 e.symm);have y1:w4.cell? (Ad mb 1)=some v:=B.cell Gr 1 rfl;have y2:w4.frozen? (Ad mb 1)=false:=B.free Gr 1;clear hown hgr hat Gr)
     | (go_simp;go_at_call 107;refine(mi.o _ jL.o).mono ?_;rintro e w2 ⟨a1,n1,c1,a2,n2,c2,rfl,hs2,l6,hb2⟩;have iw:=ai (jL.o.trans (hb2.mono jL.o.size));have Zb:=ai hs2;have Zq:=ai l6;have bY:=ai hb2;have m3:w2.cell? (Ad mb 1)=some v:=B.cell (mX.o.below iw.o).head 1 rfl;have m4:(w2.alloc (.cells #[.bool lv,.slice a1 n1 c1,.slice a2 n2 c2] 53)).cell? (Ad mb 1)=some v:=B.cell (B.alloc (mX.o.below iw.o).head _) 1 rfl;have Er:Hid ((w2.alloc (.cells #[.bool lv,.slice a1 n1 c1,.slice a2 n2 c2] 53)).ownsRow lo 53 3 v k (L.flatMap bH)):=hlk ▸ ((mX.o.below iw.o).row.alloc _);have Vr:Hid (lo<=(w2.alloc (.cells #[.bool lv,.slice a1 n1 c1,.slice a2 n2 c2] 53)).heap.size):=(by show _<=_;have:=iw.o.size;have:=Sz.o.size;have:=Aw.o;simp;omega);clear hb2 hs2 l6;go_simp))
    all_goals
     go_wp2
     go_roundw
     case rel =>
      have s0:=Sz.o.size
      have s1:=Zt.o
      have hp:=mX.o.push (D':=fun b=>lo<=b/\b<(w4.setCell (Ad mb 1) (.slice a4 (k+1) c4)).heap.size) s1 iw.o Zb.o Zq.o zy.o (hlk ▸ Ck.o) Hy.o (fun b hb=>⟨hb.1,by have:=iw.o.size;have:=zy.o.size;rw[World.size_alloc] at this;have:=(Kp.set (fun _=>True) w4 (Ad mb 1) (.slice a4 (k+1) c4) trivial).size;omega⟩) (fun b h1 h2=>⟨by omega,by have:=(Kp.set (fun _=>True) w4 (Ad mb 1) (.slice a4 (k+1) c4) trivial).size;omega⟩)
      refine⟨k+1,.slice a4 (k+1) c4,L++[⟨lv,.slice a1 n1 c1,.slice a2 n2 c2⟩],by omega,by go_num,by rw[CB.o];exact hp.1,?_⟩
      exact Kp.below cL.o hp.2 s1 (fun b hb=>by
       rcases hb with g | g
       · rw[g];exact acb
       · exact(mX.o.row.lt b g).1)
     case measure=>simp[intOf];omega
  · obtain rfl:k=ns:=by omega
    clear hb
    have Wh:Hid (ss.take k=ss):=by show _=_;rw[qQ.o,List.take_length]
    go_wp2
    have:=HM.o
    rw[Wh.o] at this
    exact dx.o _ _ _ this HB.o
end GF
namespace FW
open Go.RowKit
def gw (ps:List PM.Pr) (no:Nat) (pick:Int):Int :=
 if 0<=pick/\pick<(ps.length:Int) then (if (FM.au ps pick.toNat).st=1/\2000<=no then 2 else 0) else 6
theorem yH (ps:List PM.Pr) (no:Nat) (pick:Int) (ar ao:Option Addr) (cr co:Nat) (w:World) (h:yr w ar ps) (hn:ps.length<=140737488351232) :
  Calls Tryz.prog 15 #[.slice ar ps.length cr,.slice ao no co,I pick] w fun e w'=>e=.returned (I (gw ps no pick))/\w=w':=by
 have Th:=ai (fun V=>AW.iF pick 0 ((ps.length:Int)-1) V)
 have HH:=ai h
 have HK:Hid (gw ps no pick=if 0<=pick/\pick<(ps.length:Int) then (if (FM.au ps pick.toNat).st=1/\2000<=no then 2 else 0) else 6):=rfl
 obtain⟨A,hA⟩:=ex (gw ps no pick)
 rw[<- hA] at HK ⊢
 clear hA h
 by_cases hin:0<=pick/\pick<(ps.length:Int)
 · rw[decide_eq_true (show 0<=pick/\pick<=(ps.length:Int)-1 by omega)] at Th
   have iw:=HK.o
   rw[if_pos hin] at iw
   have oq:=ai iw
   clear HK iw
   obtain⟨k,rfl⟩:∃k:Nat,pick=(k:Int):=⟨pick.toNat,by omega⟩
   rw[Int.toNat_natCast] at oq
   have hk:k<ps.length:=by omega
   obtain⟨b,off,hao,hbl,bQ⟩:=HH.o (by omega)
   subst hao
   obtain⟨c0,c1,c2,c3,c4,c5,c6,c7,c8,c9,c10,c11,c12⟩:=bQ k hk
   obtain⟨st,hst⟩:=ex ((FM.au ps k).st)
   rw[<- hst] at oq c9
   clear hst bQ c0 c1 c2 c3 c4 c5 c6 c7 c8 c10 c11 c12 hin HH
   by_cases h1:st=1
   · subst h1
     by_cases h2:2000<=no
     · have HA:Hid (A=2):=by show _=_;rw[oq.o,if_pos ⟨rfl,h2⟩]
       have Ns:(2000:Int)<=(no:Int):=by omega
       clear oq h2
       go_enter Tryz.func15,Tryz.ntmps15
       go_wp2_with (go_at_call 27;refine(Th.o _).mono ?_;rintro e w1 ⟨rfl,rfl⟩)
       go_ret
       exact⟨by rw[HA.o];rfl,rfl⟩
     · have HA:Hid (A=0):=by show _=_;rw[oq.o,if_neg (fun g=>h2 g.2)]
       have Ns:¬(2000:Int)<=(no:Int):=by omega
       clear oq h2
       go_enter Tryz.func15,Tryz.ntmps15
       go_wp2_with (go_at_call 27;refine(Th.o _).mono ?_;rintro e w1 ⟨rfl,rfl⟩)
       go_ret
       exact⟨by rw[HA.o];rfl,rfl⟩
   · have HA:Hid (A=0):=by show _=_;rw[oq.o,if_neg (fun g=>h1 g.1)]
     have Tb:(st==1)=false:=by rw[beq_eq_false_iff_ne];exact h1
     clear oq h1
     go_enter Tryz.func15,Tryz.ntmps15
     go_wp2_with (go_at_call 27;refine(Th.o _).mono ?_;rintro e w1 ⟨rfl,rfl⟩)
     go_ret
     exact⟨by rw[HA.o];rfl,rfl⟩
 · rw[decide_eq_false (show ¬(0<=pick/\pick<=(ps.length:Int)-1) by omega)] at Th
   have HA:Hid (A=6):=by show _=_;rw[HK.o,if_neg hin]
   clear HK hin
   go_enter Tryz.func15,Tryz.ntmps15
   go_wp2_with (go_at_call 27;refine(Th.o _).mono ?_;rintro e w1 ⟨rfl,rfl⟩)
   go_ret
   exact⟨by rw[HA.o];rfl,rfl⟩
def kJ (p:PM.Pr) (x:Int×Int):PM.Pr:={ p with st:=3,fk:=x.1,fa:=x.2 }
def pL (pc:Int):PM.Pr:=⟨fun _=>0,pc,1,0,0,0⟩
theorem FU (p:PM.Pr) (x y:Int) (w:World):Calls Tryz.prog 52 #[p.val,.agg #[I x,I y]] w fun e w'=>e=.returned (kJ p (x,y)).val/\Below w.heap.size w w':=by
 obtain⟨r,pc,st,cd,fk,fa⟩:=p
 unfold PM.Pr.val kJ PM.Pr.row
 simp only
 go_enter Tryz.func52,Tryz.ntmps52
 go_wp2
 exact bodyPost_ret (v:=.agg #[I (r 0),I (r 1),I (r 2),I (r 3),I (r 4),I (r 5),I (r 6),I (r 7),I pc,I 3,I cd,I x,I y]) (by simp[results,Tryz.results52,go_sem]) rfl ⟨rfl,(((Below.refl _ _).alloc (Nat.le_refl _) _).alloc (by simp) _).alloc (by simp;omega) _⟩
theorem KR (pc:Int) (w:World):Calls Tryz.prog 25 #[I pc] w fun e w'=>e=.returned (pL pc).val/\Below w.heap.size w w':=by
 unfold PM.Pr.val pL PM.Pr.row
 simp only
 go_enter Tryz.func25,Tryz.ntmps25
 go_wp2
 exact bodyPost_ret (v:=.agg #[I 0,I 0,I 0,I 0,I 0,I 0,I 0,I 0,I pc,I 1,I 0,I 0,I 0]) (by simp[results,Tryz.results25,go_sem]) rfl ⟨rfl,(Below.refl _ _).alloc (Nat.le_refl _) _⟩
end FW
namespace GG
open Go.RowKit
structure vK (σ:Type) where
 load:σ->Nat->Int->Int->Int->(ByteArray×(Int×Int))×σ
 store:σ->Nat->Int->ByteArray->(Int×Int)×σ
 map:σ->Nat->Int->Int->Int->Int×σ
 jV:σ->Nat->Int->Int->Int×σ
 fq:σ->Nat->Int->Int->Int->Int×σ
 fork:σ->Nat->Int×σ
 drop:σ->Nat->σ
structure St (σ:Type) where
 mem:σ
 ps:List PM.Pr
 out:List FM.Wd
variable {σ:Type}
def rz (s:ByteArray):Int:=if 1<=s.size/\s.size<=8 then wrap64 (Lib.leNat s.data.toList:Nat) else 0
def kR (v n:Int):ByteArray:=⟨(Lib.leBytes n.toNat (CM.low v)).toArray⟩
def cw (o:vK σ) (st:St σ) (k:Nat) (c:Int):Int×St σ :=
 if c=1 then (0,{ st with out:=st.out++[⟨(k:Int),(FM.au st.ps k).r 0⟩] })
 else if c=2 then ((o.map st.mem k ((FM.au st.ps k).r 0) ((FM.au st.ps k).r 1) ((FM.au st.ps k).r 2)).1,{ st with mem:=(o.map st.mem k ((FM.au st.ps k).r 0) ((FM.au st.ps k).r 1) ((FM.au st.ps k).r 2)).2 })
 else if c=3 then ((o.jV st.mem k ((FM.au st.ps k).r 0) ((FM.au st.ps k).r 1)).1,{ st with mem:=(o.jV st.mem k ((FM.au st.ps k).r 0) ((FM.au st.ps k).r 1)).2 })
 else if c=4 then ((o.fq st.mem k ((FM.au st.ps k).r 0) ((FM.au st.ps k).r 1) ((FM.au st.ps k).r 2)).1,{ st with mem:=(o.fq st.mem k ((FM.au st.ps k).r 0) ((FM.au st.ps k).r 1) ((FM.au st.ps k).r 2)).2 })
 else if c=5 then (if (o.fork st.mem k).1=0 then ((st.ps.length:Int),{ st with mem:=(o.fork st.mem k).2,ps:=st.ps++[FM.au st.ps k] }) else (-1,{ st with mem:=(o.fork st.mem k).2 }))
 else if c=6 then (0,{ st with mem:=o.drop st.mem k })
 else (0,st)
def bI (o:vK σ) (st:St σ) (k:Nat) (i:PM.ey):(Int×(Int×Int))×St σ :=
 if i.bad then ((0,(4,(FM.au st.ps k).pc)),st)
 else if i.op=9 then
  ((rz (o.load st.mem k (wrap64 ((FM.au st.ps k).r i.b.toNat+i.m)) i.c 0).1.1,(o.load st.mem k (wrap64 ((FM.au st.ps k).r i.b.toNat+i.m)) i.c 0).1.2),{ st with mem:=(o.load st.mem k (wrap64 ((FM.au st.ps k).r i.b.toNat+i.m)) i.c 0).2 })
 else if i.op=10 then
  ((0,(o.store st.mem k (wrap64 ((FM.au st.ps k).r i.b.toNat+i.m)) (kR ((FM.au st.ps k).r i.a.toNat) i.c)).1),{ st with mem:=(o.store st.mem k (wrap64 ((FM.au st.ps k).r i.b.toNat+i.m)) (kR ((FM.au st.ps k).r i.a.toNat) i.c)).2 })
 else if i.op=16 then (((cw o st k i.m).1,(0,0)),(cw o st k i.m).2)
 else ((0,(0,0)),st)
def fZ (i:PM.ey) (n:Nat) (ps:List PM.Pr):List PM.Pr:=ps.take n++(ps.drop n).map (fun p=>PM.doneN p i 0)
def oN (o:vK σ) (st:St σ) (k:Nat):(Int×Int)×St σ :=
 let x:=o.load st.mem k (FM.au st.ps k).pc 8 2
 let s1:St σ:={ st with mem:=x.2 }
 if ¬x.1.2.1=0 then (x.1.2,s1) else
 let i:=PM.ins x.1.1
 let y:=bI o s1 k i
 if ¬y.1.2.1=0 then (y.1.2,y.2) else
 ((0,0),{ y.2 with ps:=fZ i st.ps.length (y.2.ps.set k (PM.doneN (FM.au y.2.ps k) i y.1.1)) })
def stepG (o:vK σ) (st:St σ) (pick:Int):Int×St σ :=
 if ¬(0<=pick/\pick<(st.ps.length:Int)) then (6,st)
 else if ¬(FM.au st.ps pick.toNat).st=1 then (0,st)
 else if 2000<=st.out.length then (2,st)
 else
  let r:=oN o st pick.toNat
  if r.1.1=0 then (0,r.2) else (0,{ r.2 with mem:=o.drop r.2.mem pick.toNat,ps:=r.2.ps.set pick.toNat (FW.kJ (FM.au r.2.ps pick.toNat) r.1) })
def jZ (o:vK σ) (picks:List Int):Nat->Option (St σ)->Option (St σ)
 | 0,st=>st
 | n+1,st=>match jZ o picks n st with
  | none=>none
  | some s=>if (stepG o s (picks.getD n 0)).1=2 then none else some (stepG o s (picks.getD n 0)).2
def yM (o:vK σ) (st:St σ) (picks:List Int):Int×Option (St σ) :=
 if 2000<picks.length then (2,none) else match jZ o picks picks.length (some st) with
  | none=>(2,none)
  | some s=>(0,some s)
structure Av (o:vK σ) (Ok:σ->List Bool->Prop):Prop where
 load:∀s fl k a n way,Ok s fl->fl.getD k false=true->Ok (o.load s k a n way).2 fl
 size:∀s fl k a n way,Ok s fl->fl.getD k false=true->1<=n->n<=8->(o.load s k a n way).1.2.1=0->((o.load s k a n way).1.1.size:Int)=n
 fault:∀s fl k a n way,Ok s fl->fl.getD k false=true->0<=(o.load s k a n way).1.2.1/\(o.load s k a n way).1.2.1<=4/\((o.load s k a n way).1.2.1=0->(o.load s k a n way).1.2=(0,0))
 none:∀s fl k a n way,Ok s fl->fl.getD k false=true->¬(o.load s k a n way).1.2.1=0->(o.load s k a n way).1.1=⟨#[]⟩
 store:∀s fl k a d,Ok s fl->fl.getD k false=true->1<=d.size->d.size<=8->Ok (o.store s k a d).2 fl
 NF:∀s fl k a d,Ok s fl->fl.getD k false=true->0<=(o.store s k a d).1.1/\(o.store s k a d).1.1<=4/\((o.store s k a d).1.1=0->(o.store s k a d).1=(0,0))
 map:∀s fl k p n q,Ok s fl->fl.getD k false=true->Ok (o.map s k p n q).2 fl
 jV:∀s fl k p n,Ok s fl->fl.getD k false=true->Ok (o.jV s k p n).2 fl
 fq:∀s fl k p n q,Ok s fl->fl.getD k false=true->Ok (o.fq s k p n q).2 fl
 Nw:∀s fl k,Ok s fl->fl.getD k false=true->¬(o.fork s k).1=0->Ok (o.fork s k).2 fl
 IJ:∀s fl k,Ok s fl->fl.getD k false=true->(o.fork s k).1=0->Ok (o.fork s k).2 (fl++[true])
 W7:∀s fl k p n q,Ok s fl->fl.getD k false=true->0<=(o.map s k p n q).1/\(o.map s k p n q).1<=10
 LN:∀s fl k p n,Ok s fl->fl.getD k false=true->0<=(o.jV s k p n).1/\(o.jV s k p n).1<=10
 C8:∀s fl k p n q,Ok s fl->fl.getD k false=true->0<=(o.fq s k p n q).1/\(o.fq s k p n q).1<=10
 few:∀s fl,Ok s fl->fl.length<=4
 drop:∀s fl k,Ok s fl->fl.getD k false=true->Ok (o.drop s k) (fl.set k false)
def running (ps:List PM.Pr):List Bool:=ps.map (fun p=>decide (p.st=1))
theorem wH (ps:List PM.Pr) (k:Nat):(running ps).getD k false=(decide (k<ps.length)&&decide ((FM.au ps k).st=1)):=by
 unfold running FM.au
 rw[List.getD_eq_getElem?_getD,List.getD_eq_getElem?_getD,List.getElem?_map]
 by_cases h:k<ps.length
 · rw[List.getElem?_eq_getElem h,decide_eq_true h];simp
 · rw[List.getElem?_eq_none (by omega),decide_eq_false h];rfl
theorem oX (ps:List PM.Pr) (k:Nat) (p:PM.Pr):running (ps.set k p)=(running ps).set k (decide (p.st=1)):=by
 unfold running
 rw[List.map_set]
theorem AQ (ps:List PM.Pr) (p:PM.Pr):running (ps++[p])=running ps++[decide (p.st=1)]:=by
 unfold running
 rw[List.map_append];rfl
variable {σ:Type}
theorem fS (n:Int):M.dD (wrap64 n):=by
 unfold M.dD wrap64
 have:=IntKind.wrap_i64 n
 omega
theorem LI (n:Int):M.dD (IntKind.i64.wrap n):=by
 unfold M.dD
 have:=IntKind.wrap_i64 n
 omega
def ot (p:PM.Pr):Prop:=(∀j,j<8->M.dD (p.r j))/\M.dD p.pc
theorem QV {p:PM.Pr} (h:ot p) (j:Nat) {v:Int} (hv:M.dD v):ot (p.set j v):=by
 refine⟨fun q hq=>?_,h.2⟩
 show M.dD (if q=j then v else p.r q)
 split
 · exact hv
 · exact h.1 q hq
theorem Gw {p:PM.Pr} (h:ot p) {v:Int} (hv:M.dD v):ot { p with pc:=v }:=⟨h.1,hv⟩
theorem jg {α:Type} (P:α->Prop) {c:Prop} [Decidable c] {a b:α} (h1:c->P a) (h2:¬c->P b):P (if c then a else b):=by
 by_cases h:c
 · rw[if_pos h];exact h1 h
 · rw[if_neg h];exact h2 h
theorem KS {i:PM.ey} (hb:i.bad=false):1<=i.op/\i.op<=16:=by
 unfold PM.ey.bad at hb
 by_cases h12:i.op=12
 · omega
 · by_cases Bu:i.op=16
   · omega
   · rw[if_neg h12,if_neg Bu] at hb
     by_cases c1:i.op=1∨i.op=11∨i.op=15
     · omega
     · rw[if_neg c1] at hb
       by_cases c2:2<=i.op/\i.op<=7
       · omega
       · rw[if_neg c2] at hb
         by_cases c3:i.op=8∨i.op=13∨i.op=14
         · omega
         · rw[if_neg c3] at hb
           by_cases c4:i.op=9∨i.op=10
           · omega
           · rw[if_neg c4] at hb
             cases hb
theorem Oe {i:PM.ey} (hb:i.bad=false) (hf:i.fits):(i.op=15->i.a.toNat<8)/\(2<=i.op/\i.op<=7->i.b.toNat<8):=by
 obtain⟨_,⟨a0,a1⟩,⟨b0,b1⟩,_⟩:=hf
 unfold PM.ey.bad at hb
 constructor
 · intro h
   simp[h] at hb
   omega
 · intro h
   rw[if_neg (by omega),if_neg (by omega),if_neg (by omega),if_pos h,decide_eq_false_iff_not] at hb
   omega
theorem xS (P:PM.Pr->Prop) (p:PM.Pr) (i:PM.ey) (v:Int) (hb:i.bad=false)
  (h0:P { p with pc:=wrap64 (p.pc+8) }) (hs:∀j x,(x=i.m∨x=v∨(∃y,x=wrap64 y)∨(2<=i.op/\i.op<=7/\x=PM.rk i.op (p.r i.b.toNat) (p.r i.c.toNat)))->P (({ p with pc:=wrap64 (p.pc+8) }:PM.Pr).set j x))
  (hp:∀y,P { p with pc:=wrap64 y }) (hg:i.op=15->P { p with pc:=p.r i.a.toNat }) (he:i.op=16->i.m=6->P { p with pc:=wrap64 (p.pc+8),st:=2,cd:=p.r 0 }):P (PM.doneN p i v):=by
 have hr:=KS hb
 unfold PM.doneN
 simp only
 refine jg P (fun _=>hs _ _ (.inl rfl)) (fun n1=>?_)
 refine jg P (fun g=>hs _ _ (.inr (.inr (.inr ⟨g.1,g.2,rfl⟩)))) (fun n2=>?_)
 refine jg P (fun _=>hs _ _ (.inr (.inr (.inl ⟨_,rfl⟩)))) (fun n3=>?_)
 refine jg P (fun _=>hs _ _ (.inr (.inl rfl))) (fun n4=>?_)
 refine jg P (fun _=>h0) (fun n5=>?_)
 refine jg P (fun _=>hs _ _ (.inr (.inr (.inl ⟨_,rfl⟩)))) (fun n6=>?_)
 refine jg P (fun _=>hp _) (fun n7=>?_)
 refine jg P (fun _=>jg P (fun _=>hp _) (fun _=>h0)) (fun n8=>?_)
 refine jg P (fun _=>jg P (fun _=>hp _) (fun _=>h0)) (fun n9=>?_)
 refine jg P (fun g=>hg g) (fun n10=>?_)
 refine jg P (fun g=>he (by omega) g) (fun n11=>?_)
 refine jg P (fun _=>h0) (fun Z1=>?_)
 exact hs _ _ (.inr (.inl rfl))
theorem KD {p:PM.Pr} {i:PM.ey} {v:Int} (h:i.op=16) (h6:i.m=6):PM.doneN p i v={ p with pc:=wrap64 (p.pc+8),st:=2,cd:=p.r 0 }:=by
 unfold PM.doneN
 simp[h,h6]
theorem BJ {p:PM.Pr} {i:PM.ey} {v:Int} (hb:i.bad=false) (h:¬(i.op=16/\i.m=6)):(PM.doneN p i v).st=p.st :=
 xS (fun q=>q.st=p.st) p i v hb rfl (fun _ _ _=>rfl) (fun _=>rfl) (fun _=>rfl) (fun g1 g2=>(h ⟨g1,g2⟩).elim)
theorem xR {p:PM.Pr} {i:PM.ey} {v:Int} (hb:i.bad=false) (h:p.st=1) (hr:FM.bT p=true):FM.bT (PM.doneN p i v)=true:=by
 have h2:p.cd=0/\p.fk=0/\p.fa=0:=by
  unfold FM.bT FM.mA at hr
  rw[if_pos h] at hr
  simp only[Bool.and_eq_true,decide_eq_true_eq] at hr
  exact hr
 have key:∀q:PM.Pr,q.st=1->q.cd=0->q.fk=0->q.fa=0->FM.bT q=true:=fun q e1 e2 e3 e4=>by
  unfold FM.bT FM.mA
  rw[if_pos e1,e2,e3,e4];rfl
 refine xS (fun q=>FM.bT q=true) p i v hb (key _ h h2.1 h2.2.1 h2.2.2) (fun _ _ _=>key _ h h2.1 h2.2.1 h2.2.2) (fun _=>key _ h h2.1 h2.2.1 h2.2.2) (fun _=>key _ h h2.1 h2.2.1 h2.2.2) (fun _ _=>?_)
 unfold FM.bT FM.mA
 simp[h2]
theorem TN (op b c:Int) (hb:M.dD b):M.dD (PM.rk op b c):=by
 have Yp:∀o,M.dD (bits o .i64 b c):=fun o=>by
  unfold bits
  exact LI _
 unfold PM.rk
 repeat' split
 all_goals first | exact fS _ | exact Yp _
theorem DX {p:PM.Pr} {i:PM.ey} {v:Int} (h:ot p) (hv:M.dD v) (hb:i.bad=false) (hf:i.fits):ot (PM.doneN p i v):=by
 have hn:ot { p with pc:=wrap64 (p.pc+8) }:=Gw h (fS _)
 have hm:M.dD i.m:=by obtain⟨_,_,_,_,m0,m1⟩:=hf;unfold M.dD;omega
 have XE:=Oe hb hf
 refine xS ot p i v hb hn (fun j x hx=>QV hn j ?_) (fun _=>Gw h (fS _)) (fun g=>Gw h (h.1 _ (XE.1 g))) (fun _ _=>⟨hn.1,hn.2⟩)
 rcases hx with e | e | ⟨y,e⟩ | ⟨g1,g2,e⟩
 · rw[e];exact hm
 · rw[e];exact hv
 · rw[e];exact fS _
 · rw[e];exact TN _ _ _ (h.1 _ (XE.2 ⟨g1,g2⟩))
end GG
namespace PM
open Go.RowKit
end PM
end Go.Proofs.YtkdigjpejnebkaaGreat
