import Derived.Test.YtkdigjpejnebkaaGreatGQ00
import Derived.OrdersHeld
import Derived.Deep.RegionHeld
import Derived.Test.YtkdigjpejnebkaaGreatGQ23
import Derived.Test.YtkdigjpejnebkaaGreatGQ07
import Derived.Test.YtkdigjpejnebkaaGreatGQ06
set_option maxHeartbeats 20000000
set_option linter.unusedVariables false
set_option maxRecDepth 100000
set_option linter.unusedSimpArgs false
namespace Go.Proofs.YtkdigjpejnebkaaGreat
namespace GZ
open Go.RowKit
section
variable {P:Program} {ops:Array Oper} {Q:Exit->Act->World->Prop} {md:Region.Mode} {S:World->Prop} {z:Nat}
def Js (P:Program) (md:Region.Mode) (ops:Array Oper) (Q:Exit->Act->World->Prop) (S:World->Prop) (z:Nat):Nat->Array Bool->Act->World->Prop
 | 0,l,a,w=>Region.ready md ops l=[]/\Q .normal a w
 | n+1,l,a,w=>(Region.ready md ops l=[]->Q .normal a w)/\∀i∈Region.ready md ops l,wpOp P ops Q i (fun a' w'=>(i≠z->S w')/\Js P md ops Q S z n (l.setIfInBounds i true) a' w') a w
theorem LQ:∀(n:Nat) (l:Array Bool) (a:Act) (w:World),Js P md ops Q S z n l a w->wpAny P md ops Q n l a w
 | 0,_,_,_,h=>h
 | n+1,_,_,_,h=>⟨h.1,fun i hi=>wpOp_mono (fun a' w' g=>LQ n _ a' w' g.2) (h.2 i hi)⟩
theorem LO {l:Array Bool} {i:Nat} (h:l.getD i true=false):l.getD i false=false:=by
 rcases Nat.lt_or_ge i l.size with g | g
 · simp[g] at h ⊢;exact h
 · simp[Array.getElem?_eq_none g] at h
theorem first {i:Nat} {oi:Oper} {v:Value} (hi:ops[i]?=some oi) (Xx:∀(j:Nat) (o:Oper) cs b,ops[j]?=some o->o.op≠.select cs b)
  (hQ:∀c a w,Q (.panic c) (a.put oi.dst v) w->Q (.panic c) a w) (hz:∀oz,ops[z]?=some oz->∃e∈oz.after,Region.binds md e=true/\e.on=i) :
  ∀(n:Nat) (l:Array Bool) (a:Act) (w:World),(∀j oj,ops[j]?=some oj->j≠i->l.getD j true=false->(∀e∈oj.after,Region.binds md e=true->e.on≠i)->oi.apart ops oj=true) ->
   i∈Region.ready md ops l->YieldsIf P ops S oi v a->S w->Js P md ops Q S z n (l.setIfInBounds i true) (a.put oi.dst v) w->Js P md ops Q S z (n+1) l a w:=by
 intro n
 induction n with
 | zero =>
  intro l a w _ hr hy hS H
  refine⟨fun g=>absurd hr (by rw[g];exact List.not_mem_nil),fun j hj=>?_⟩
  by_cases c:j=i
  · subst c
    exact hy.wpOp hi hS ⟨fun _=>hS,H⟩
  · have g:=ready_mono hj c
    rw[H.1] at g
    exact absurd g List.not_mem_nil
 | succ n ih =>
  intro l a w hf hr hy hS H
  refine⟨fun g=>absurd hr (by rw[g];exact List.not_mem_nil),fun j hj=>?_⟩
  by_cases c:j=i
  · subst c
    exact hy.wpOp hi hS ⟨fun _=>hS,H⟩
  · obtain⟨hu,oj,hoj,hall⟩:=mem_ready.1 hj
    have hiu:=LO (mem_ready.1 hr).1
    have hno:∀e∈oj.after,Region.binds md e=true->e.on≠i:=fun e he hb g=>by
     have:=hall e he hb
     rw[g,hiu] at this
     cases this
    have hjz:j≠z:=fun g=>by
     subst g
     obtain⟨e,he,hb,ho⟩:=hz oj hoj
     exact hno e he hb ho
    have h2:=wpOp_putIf hoj (hf j oj hoj c hu hno) (fun cs b=>Xx i oi cs b hi) (fun cs b=>Xx j oj cs b hoj) hQ hy (H.2 j (ready_mono hj c))
    refine wpOp_mono (fun a' w' g=>⟨g.2.1,ih (l.setIfInBounds j true) a' w' (fun k ok hk jc hun hn=>hf k ok hk jc ?_ hn) (ready_mono hr (Ne.symm c)) g.1 (g.2.1 hjz) ?_⟩) h2
    · by_cases d:j=k
      · subst d;exact hu
      · rw[getD_set_ne true d] at hun;exact hun
    · rw[Array.setIfInBounds_comm _ _ c]
      exact g.2.2
def waits (md:Region.Mode) (ops:Array Oper) (z i:Nat):Bool:=match ops[z]? with
 | none=>false
 | some o=>o.after.any (fun e=>Region.binds md e&&e.on==i)
theorem EY {i:Nat} (h:waits md ops z i=true):∀oz,ops[z]?=some oz->∃e∈oz.after,Region.binds md e=true/\e.on=i:=fun oz ho=>by
 unfold waits at h
 rw[ho] at h
 simp only[Array.any_eq_true'] at h
 obtain⟨e,he,h1⟩:=h
 simp only[Bool.and_eq_true,beq_iff_eq] at h1
 exact⟨e,he,h1.1,h1.2⟩
theorem take {i:Nat} {oi:Oper} {v:Value} {n:Nat} {l:Array Bool} {a:Act} {w:World} (hi:ops[i]?=some oi)
  (hs:Region.noSelect ops=true) (hf:Region.free md ops l i=true) (hr:(Region.ready md ops l).contains i=true) (hw:waits md ops z i=true)
  (hQ:∀c a w,Q (.panic c) (a.put oi.dst v) w->Q (.panic c) a w) (hy:YieldsIf P ops S oi v a) (hS:S w)
  (h:Js P md ops Q S z n (l.setIfInBounds i true) (a.put oi.dst v) w):Js P md ops Q S z (n+1) l a w :=
 first hi (Region.noSelect_spec hs) hQ (EY hw) n l a w (Region.free_spec hi hf) (by simpa using hr) hy hS h
theorem tk (i:Nat) {oi:Oper} {n:Nat} {l:Array Bool} {a:Act} {w:World} (hS:S w) (v:Value) (hy:∀V,S V->(execOp a.eval oi).run P V=.ok (.value v) V)
  (h:Js P md ops Q S z n (l.setIfInBounds i true) (a.put oi.dst v) w) (hi:ops[i]?=some oi:=by rfl) (hs:Region.noSelect ops=true:=by kernel_rfl) (hf:Region.free md ops l i=true:=by kernel_rfl) (hr:(Region.ready md ops l).contains i=true:=by kernel_rfl) (hw:waits md ops z i=true:=by kernel_rfl)
  (hwt:Region.wanted oi (yielded ops a.tmps)=true:=by rfl) (hQ:∀c a w,Q (.panic c) (a.put oi.dst v) w->Q (.panic c) a w:=by exact fun _ _ _ h=>h):Js P md ops Q S z (n+1) l a w :=
 take hi hs hf hr hw hQ (Or.inl ⟨hwt,hy⟩) hS h
theorem htk (i:Nat) {oi:Oper} {n:Nat} {l:Array Bool} {a:Act} {w:World} (hS:S w) (v:Value) (hy:∀V,S V->(execOp a.eval oi).run P V=.ok (.value v) V)
  (h:wpAnyH P md ops Q S n (l.setIfInBounds i true) (a.put oi.dst v) w) (hi:ops[i]?=some oi:=by rfl) (hs:Region.noSelect ops=true:=by kernel_rfl) (hf:Region.free md ops l i=true:=by kernel_rfl) (hr:(Region.ready md ops l).contains i=true:=by kernel_rfl)
  (hwt:Region.wanted oi (yielded ops a.tmps)=true:=by rfl) (hQ:∀c a w,Q (.panic c) (a.put oi.dst v) w->Q (.panic c) a w:=by exact fun _ _ _ h=>h):wpAnyH P md ops Q S (n+1) l a w :=
 wpAnyH_take hi hs hf hr hQ (Or.inl ⟨hwt,hy⟩) hS h
def bJ (P:Program) (md:Region.Mode) (ops:Array Oper) (Q:Exit->Act->World->Prop) (S:World->Prop) (z n:Nat) (l:Array Bool) (a:Act) (w:World) (rs:List Nat):Prop:=∀i∈rs,wpOp P ops Q i (fun a' w'=>(i≠z->S w')/\Js P md ops Q S z n (l.setIfInBounds i true) a' w') a w
theorem bJ.nil {n:Nat} {l:Array Bool} {a:Act} {w:World}:bJ P md ops Q S z n l a w []:=fun _ h=>absurd h List.not_mem_nil
theorem bJ.cons {n:Nat} {l:Array Bool} {a:Act} {w:World} {i:Nat} {o:Oper} {rs:List Nat} (ho:ops[i]?=some o)
  (h:∀K':Act->World->Prop,Shut (∀a w,(i≠z->S w)->Js P md ops Q S z n (l.setIfInBounds i true) a w->K' a w)->if Region.wanted o (yielded ops a.tmps)=true then Oper.wp P o a w K' Q else K' (a.put o.dst undef) w)
  (hs:bJ P md ops Q S z n l a w rs):bJ P md ops Q S z n l a w (i::rs):=fun j hj=>by
 rcases List.mem_cons.1 hj with g | g
 · subst g
   exact wpOp_step ho (fun K' hK=>h K' (fun a w h1 h2=>hK a w ⟨h1,h2⟩))
 · exact hs j g
theorem all {rs:List Nat} {n:Nat} {l:Array Bool} {a:Act} {w:World} (hr:Region.ready md ops l=rs) (hne:rs≠[]) (h:bJ P md ops Q S z n l a w rs):Js P md ops Q S z (n+1) l a w:=⟨fun g=>absurd (hr ▸ g) hne,hr ▸ h⟩
theorem done {l:Array Bool} {a:Act} {w:World} (hr:Region.ready md ops l=[]) (h:Q .normal a w):∀n,Js P md ops Q S z n l a w
 | 0=>⟨hr,h⟩
 | _+1=>⟨fun _=>h,by rw[hr];exact fun _ g=>absurd g List.not_mem_nil⟩
theorem mR {id:Nat} {a:Act} {w:World} (hm:P.follows .mixedOrders=true) (h:Js P .any ops Q S z ops.size (Array.replicate ops.size false) a w.drew):(Code.region id ops true).wp P Q a w:=wp_region_any hm (LQ _ _ _ _ h)
end
end GZ
namespace GO
open Go.RowKit GK
open GF (Lc vV bw bH aH eO blk dw bl)
open GW (aI bM bc cx)
open FW (ai aB)
theorem Bc {lo mb:Nat} {w:World} {D:Nat->Prop} {sl:Int} (hm:w.heap[mb]?=some (.cells #[I sl,Nl,Nl,Nl] 30 (0,0))) (hl:lo<=mb) (hd:D mb):Mem lo mb w D sl Nl Nl Nl [] [] :=
 ⟨rfl,hm,World.ownsRow_nil _ _ _ _,(fun k hk=>absurd hk (Nat.not_lt_zero _)),hl,(fun g=>nomatch g),(fun k hk=>absurd hk (Nat.not_lt_zero _)),(fun k hk=>absurd hk (Nat.not_lt_zero _)),(fun j k hj=>absurd hj (Nat.not_lt_zero _)),hd,(fun b g=>nomatch g),(fun k hk=>absurd hk (Nat.not_lt_zero _))⟩
theorem LS {N GD na:Nat} {W V wE:World} {vC vE:Value} {xs:List Value} (hb:Below N W V) (hW:N<=W.heap.size) (hrc:V.ownsRow N 59 4 vC na xs) (hN:N<=GD) (hne:∀b,blk vC b->b≠GD) (hg:V.grownBy wE (some GD)) (ha:vE.ownBlock=some GD∨vE.ownBlock=some V.heap.size):Below N W wE/\wE.ownsRow N 59 4 vC na xs/\∀b,blk vE b->¬blk vC b :=
 ⟨mE hb hW hg (fun k hk=>by injection hk with hk;omega),Kp.row (Kp.grown (D:=fun b=>b=GD) hg (fun k hk=>by injection hk with hk;exact hk.symm)) hrc (fun g hg e=>hne g hg e),fun b hb hb2=>by
  have hb':vE.ownBlock=some b:=hb
  rcases ha with g | g
  · rw[g] at hb';injection hb' with hb';exact hne b hb2 hb'.symm
  · rw[g] at hb';injection hb' with hb';have:=(hrc.lt b hb2).2;omega⟩
theorem SM {N GB GD:Nat} {W V wC:World} {vC:Value} (hb:Below N W V) (hW:N<=W.heap.size) (hrd:V.ownsRow N 65 2 (.slice (some (Ad GD 0)) 0 0) 0 []) (hne:GD≠GB) (hN:N<=GB) (hg:V.grownBy wC (some GB)) (ha:vC.ownBlock=some GB∨vC.ownBlock=some V.heap.size):Below N W wC/\wC.ownsRow N 65 2 (.slice (some (Ad GD 0)) 0 0) 0 []/\∀b,blk vC b->b≠GD :=
 ⟨mE hb hW hg (fun k hk=>by injection hk with hk;omega),Kp.row (Kp.grown (D:=fun b=>b=GB) hg (fun k hk=>by injection hk with hk;exact hk.symm)) hrd (fun g hg e=>by have hg':some GD=some g:=hg;injection hg' with hg';omega),fun b hb e=>by
  have hb':vC.ownBlock=some b:=hb
  rcases ha with g | g
  · rw[g] at hb';injection hb' with hb';omega
  · rw[g] at hb';injection hb' with hb';have:=(hrd.lt GD rfl).2;omega⟩
theorem lq (w:World) (xs:List Value) (e:TypeId):∀j u,xs[j]?=some u->(w.alloc (.cells xs.toArray e)).cell? (((Ad w.heap.size 0):Addr).add j)=some u:=fun j u hu=>by
 rw[Addr.add_lit,Nat.zero_add]
 exact B.cell (B.new w xs.toArray e) j (by simpa using hu)
theorem Bg (l:Bool) (a b:Option Addr) (n m c d:Nat):∀u∈bH ⟨l,.slice a n c,.slice b m d⟩,u.oneCell'=true:=fun u hu=>by
 simp[bH] at hu
 rcases hu with rfl | rfl | rfl <;> rfl
theorem Gn {N na np:Nat} {wE:World} {lv:Bool} {vC vE:Value} {s:FM.Sp} (ha:wE.ownsRow N 59 4 vC na ([]++AM.aT s.aw)) (hp:wE.ownsRow N 65 2 vE np ([]++s.aj.flatMap aH)) (hl:lv=s.live) (fE:np=s.aj.length) (eD:na=s.aw.length):eO N wE ⟨lv,vC,vE⟩ s:=by
 subst hl fE eD
 exact⟨rfl,by simpa [AW.Own] using ha,by simpa using hp⟩
theorem rnd {w wr WB wG W':World} {x ob k:Nat} {X Z:Obj} {D:Nat->Prop} {sl:Int} {vr vo v v':Value} {L L':List Lc} {ss:List FM.Sp} {s:FM.Sp} (hx:wr.heap[x]?=some X) (hz:wr.heap[x+1]?=some Z) (hkx:Below wr.heap.size wr WB) (hb:Below w.heap.size w wr) (hm:Mem ob ob WB D sl vr vo v L (ss.take k))
  (hp:Mem ob ob W' (fun b=>ob<=b/\b<wG.heap.size) sl vr vo v' L' (ss.take k++[s])/\Kp (fun b=>b=ob∨blk v b) WB W') (hs:s=FM.ax ss k) (hk:k<ss.length) (Z5:x<ob) (hz1:x+1<ob) (hwo:w.heap.size<=ob) (hsz:wG.heap.size=W'.heap.size) :
  Mem ob ob W' (fun b=>ob<=b/\b<W'.heap.size) sl vr vo v' L' (ss.take (k+1))/\W'.heap[x]?=some X/\W'.heap[x+1]?=some Z/\Below w.heap.size w W':=by
 have e:ss.take (k+1)=ss.take k++[s]:=by
  rw[hs,List.take_add_one]
  unfold FM.ax
  rw[List.getD_eq_getElem?_getD,List.getElem?_eq_getElem hk]
  rfl
 refine⟨?_,?_,?_,?_⟩
 · rw[e,<- hsz];exact hp.1
 · refine hp.2.keep ((hkx.block x (B.isLt hx)).trans hx) (fun g=>?_)
   rcases g with g | g
   · omega
   · have:=(hm.row.lt x g).1;omega
 · refine hp.2.keep ((hkx.block _ (B.isLt hz)).trans hz) (fun g=>?_)
   rcases g with g | g
   · omega
   · have:=(hm.row.lt _ g).1;omega
 · refine Kp.below (hb.trans (hkx.mono hb.size)) hp.2 (Nat.le_trans hb.size hkx.size) (fun b g=>?_)
   rcases g with g | g
   · omega
   · have:=(hm.row.lt b g).1;omega
theorem YV (W:World) (o:Obj):Below W.heap.size W (W.alloc o).drew:=((Below.refl _ _).alloc (Nat.le_refl _) _).drew
theorem Wc (W:World) (o o':Obj):Below W.heap.size W ((W.alloc o).alloc o').drew:=(((Below.refl _ _).alloc (Nat.le_refl _) _).alloc (by simp) _).drew
theorem Z2 {N:Nat} {V:World} (h:N<=V.heap.size) (e:TypeId) (size:Nat):(V.alloc (.cells #[] e)).ownsRow N e size (.slice (some (Ad V.heap.size 0)) 0 0) 0 []:=World.ownsRow_made V #[] 0 h (by unfold maxLen;omega) (by simp)
theorem tA {w:World} {base:Nat} {e:TypeId} {size:Nat} {v:Value} {n:Nat} {xs:List Value} (h:w.ownsRow base e size v n xs):w.drew.ownsRow base e size v n xs:=Kp.row (Kp.drew (fun _=>False) w) h (fun _ _ g=>g)
theorem mk1 (W:World) (e:TypeId) (size:Nat):(W.alloc (.cells #[] e)).drew.ownsRow W.heap.size e size (.slice (some (Ad W.heap.size 0)) 0 0) 0 []:=tA (Z2 (Nat.le_refl _) e size)
theorem mk2 (W:World) (e:TypeId) (o:Obj) (size:Nat):((W.alloc (.cells #[] e)).alloc o).drew.ownsRow W.heap.size e size (.slice (some (Ad W.heap.size 0)) 0 0) 0 []:=tA (Kp.row (Kp.alloc (fun _=>False) _ o) (Z2 (Nat.le_refl _) e size) (fun _ _ g=>g))
theorem mk3 (W:World) (e:TypeId) (o:Obj) (size:Nat):((W.alloc o).alloc (.cells #[] e)).drew.ownsRow W.heap.size e size (.slice (some (Ad (W.heap.size+1) 0)) 0 0) 0 []:=by
 have:=Z2 (V:=W.alloc o) (N:=W.heap.size) (by simp) e size
 rw[World.size_alloc] at this
 exact tA this
def Ou (w:World) (f:FM.Fl) (e:Ending) (w':World):Prop:=∃mb v L vr vo,e=.returned (.agg #[I f.slots,v,vr,vo])/\w.heap.size<=mb/\Fo mb mb w' f v L vr vo/\Below w.heap.size w w'
theorem A9 (f:FM.Fl) (az ar ao:Option Addr) (cs cr co:Nat) (w:World) (h:FW.fJ w f az ar ao) (hn:f.ak.length<=1000) (hsp:∀k,k<f.ak.length->(FM.ax f.ak k).aw.length<=100000/\(FM.ax f.ak k).aj.length<=100000) (fw:f.procs.length<=100000) (hno:f.out.length<=100000) :
  Calls Tryz.prog 47 #[.agg (FW.bC f az ar ao cs cr co)] w (Ou w f):=by
 have HH:=ai h
 have qO:=ai hsp
 obtain⟨sl,ss,ps,os⟩:=f
 unfold FW.bC
 simp only at HH qO hn fw hno ⊢
 obtain⟨nr,Ki⟩:=ex ps.length
 obtain⟨no,Bq⟩:=ex os.length
 have PE:Hid (∀V,Below w.heap.size w V->From V ar nr (ps.flatMap aI)):=fun V hV=>by rw[Ki];exact GH.A5 (HH.o.procs.below hV)
 have HFO:Hid (∀V,Below w.heap.size w V->From V ao no (os.flatMap bM)):=fun V hV=>by rw[Bq];exact GH.AB (HH.o.out.below hV)
 have HLR:Hid ((ps.flatMap aI).length=nr*13):=by rw[Ki];exact bu aI 13 bc _
 have Ji:Hid ((os.flatMap bM).length=no*2):=by rw[Bq];exact bu bM 2 cx _
 have adm:Hid (∀u∈ps.flatMap aI,u.oneCell'=true):=GH.A4 ps
 have adn:Hid (∀u∈os.flatMap bM,u.oneCell'=true):=GH.EW os
 rw[<- Ki] at fw ⊢
 rw[<- Bq] at hno ⊢
 have Tq:=ai Ki
 have mh:=ai Bq
 have dx:Hid (∀mb v L vr vo w',w.heap.size<=mb->Fo mb mb w' ⟨sl,ss,ps,os⟩ v L vr vo->Below w.heap.size w w'->Ou w ⟨sl,ss,ps,os⟩ (.returned (.agg #[I sl,v,vr,vo])) w'):=fun mb v L vr vo w' h1 h2 h3=>⟨mb,v,L,vr,vo,rfl,h1,h2,h3⟩
 clear h hsp Ki Bq
 go_enter Tryz.func47,Tryz.ntmps47
 go_wp2
 have X0:Hid ((((w.alloc (.cells #[I sl,.slice az ss.length cs,.slice ar nr cr,.slice ao no co] 30)).alloc (.cells #[I 0,Nl,Nl,Nl] 30)).alloc (.cells #[I sl,Nl,Nl,Nl] 30)).heap[w.heap.size]?=some (.cells #[I sl,.slice az ss.length cs,.slice ar nr cr,.slice ao no co] 30 (0,0))):=B.alloc (B.alloc (B.new w #[I sl,.slice az ss.length cs,.slice ar nr cr,.slice ao no co] 30) _) _
 have Z0:Hid ((((w.alloc (.cells #[I sl,.slice az ss.length cs,.slice ar nr cr,.slice ao no co] 30)).alloc (.cells #[I 0,Nl,Nl,Nl] 30)).alloc (.cells #[I sl,Nl,Nl,Nl] 30)).heap[w.heap.size+1]?=some (.cells #[I 0,Nl,Nl,Nl] 30 (0,0))):=by
  have:=B.alloc (B.new (w.alloc (.cells #[I sl,.slice az ss.length cs,.slice ar nr cr,.slice ao no co] 30)) #[I 0,Nl,Nl,Nl] 30) (.cells #[I sl,Nl,Nl,Nl] 30)
  rw[World.size_alloc] at this
  exact this
 have O0:Hid ((((w.alloc (.cells #[I sl,.slice az ss.length cs,.slice ar nr cr,.slice ao no co] 30)).alloc (.cells #[I 0,Nl,Nl,Nl] 30)).alloc (.cells #[I sl,Nl,Nl,Nl] 30)).heap[w.heap.size+2]?=some (.cells #[I sl,Nl,Nl,Nl] 30 (0,0))):=by
  have:=B.new ((w.alloc (.cells #[I sl,.slice az ss.length cs,.slice ar nr cr,.slice ao no co] 30)).alloc (.cells #[I 0,Nl,Nl,Nl] 30)) #[I sl,Nl,Nl,Nl] 30
  rw[World.size_alloc,World.size_alloc] at this
  exact this
 have cP:Hid (Below w.heap.size w (((w.alloc (.cells #[I sl,.slice az ss.length cs,.slice ar nr cr,.slice ao no co] 30)).alloc (.cells #[I 0,Nl,Nl,Nl] 30)).alloc (.cells #[I sl,Nl,Nl,Nl] 30))):=(((Below.refl w.heap.size w).alloc (Nat.le_refl _) _).alloc (by simp) _).alloc (by simp;omega) _
 obtain⟨WA,fH⟩:=ex ((((w.alloc (.cells #[I sl,.slice az ss.length cs,.slice ar nr cr,.slice ao no co] 30)).alloc (.cells #[I 0,Nl,Nl,Nl] 30)).alloc (.cells #[I sl,Nl,Nl,Nl] 30)))
 rw[<- fH] at X0 Z0 O0 cP ⊢
 obtain⟨ob,EE⟩:=ex (w.heap.size+2)
 obtain⟨x,hx⟩:=ex w.heap.size
 have Z5:x<ob:=by omega
 have hwo:w.heap.size<=ob:=by omega
 have hz1:x+1<ob:=by omega
 rw[<- EE] at O0 ⊢
 rw[<- hx] at X0 Z0 ⊢
 have Y3:=ai hx
 clear fH EE hx
 obtain⟨ns,hns⟩:=ex ss.length
 rw[<- hns] at X0 hn ⊢
 have qQ:=ai hns
 clear hns
 obtain⟨ia,a0,a1,a2,a3⟩:=info_parts MQ
 obtain⟨ip,b0,b1,b2,b3⟩:=info_parts ru
 obtain⟨is,d0,d1,d2,d3⟩:=info_parts GF.Bo
 have Sn:=ai a0
 have Sm:=ai a1
 have Sl:=ai a2
 have Sk:=ai a3
 have Sj:=ai b0
 have Si:=ai b1
 have Sd:=ai b2
 have Sc:=ai b3
 have K4:=ai d0
 have K3:=ai d1
 have K2:=ai d2
 have K1:=ai d3
 clear a0 a1 a2 a3 b0 b1 b2 b3 d0 d1 d2 d3
 go_loopw [4] (fun iv wr=>∃(k:Nat) (v:Value) (L:List Lc),k<=ns/\iv=I (k:Int)/\Mem ob ob wr (fun b=>ob<=b/\b<wr.heap.size) sl Nl Nl v L (ss.take k)/\wr.heap[x]?=some (.cells #[I sl,.slice az ns cs,.slice ar nr cr,.slice ao no co] 30 (0,0))/\wr.heap[x+1]?=some (.cells #[I 0,Nl,Nl,Nl] 30 (0,0))/\Below w.heap.size w wr) (fun iv _=>ns-(intOf iv).toNat)
 case atStart=>exact⟨0,Nl,[],by omega,rfl,Bc O0.o (Nat.le_refl _) ⟨Nat.le_refl _,B.isLt O0.o⟩,X0.o,Z0.o,cP.o⟩
 case round =>
  obtain⟨k,v,L,hk,rfl,hm,Xj,hzz,hb⟩:=hrel
  have HM:=ai hm
  have HB:=ai hb
  have HX:=ai Xj
  have HZ:=ai hzz
  have hlk:L.length=k:=by rw[hm.len,List.length_take];have:=qQ.o;omega
  have hol:=B.isLt hm.head
  have x1:wr.cell? (Ad x 1)=some (.slice az ns cs):=B.cell Xj 1 rfl
  clear X0 Z0 O0 cP hzz
  by_cases hlt:k<ns
  · obtain⟨b,off,hao,hbl,bQ⟩:=HH.o.ak (show 0<ss.length by rw[<- qQ.o];omega)
    subst hao
    obtain⟨va,ap,cp,e0,e1,e2,c3,c4,c5⟩:=bQ k (by rw[<- qQ.o];omega)
    have c0:=(M.aA hb hbl).trans e0
    have c1:=(M.aA hb hbl).trans e1
    have c2:=(M.aA hb hbl).trans e2
    clear e0 e1 e2
    have hsk:=qO.o k (by rw[<- qQ.o];omega)
    obtain⟨aa,na,ca,rfl⟩:=FW.Kb c3
    obtain⟨s,hs⟩:=ex (FM.ax ss k)
    rw[<- hs] at c0 c2 c3 c4 c5 hsk
    obtain⟨lv,hlv⟩:=ex s.live
    obtain⟨np,fE⟩:=ex s.aj.length
    rw[<- hlv] at c0
    rw[<- fE] at c2 hsk
    have jc:(k:Int)<(ns:Int):=by omega
    have qA:=ai hlv
    have vd:=ai fE
    have Lu:=ai hs
    clear hs bQ hm Xj hlv fE
    go_wp2_with fail
    have Cn:=ai ((Below.refl wr.heap.size wr).alloc (Nat.le_refl _) (.cells #[.bool lv,.slice aa na ca,.slice ap np cp] 53))
    have SB:=ai (B.new wr #[.bool lv,.slice aa na ca,.slice ap np cp] 53)
    have mX:=ai (HM.o.below Cn.o)
    obtain⟨WB,YA⟩:=ex (wr.alloc (.cells #[.bool lv,.slice aa na ca,.slice ap np cp] 53))
    rw[<- YA] at Cn SB mX ⊢
    obtain⟨sb,jQ⟩:=ex wr.heap.size
    rw[<- jQ] at SB ⊢
    have hsv:∀b,blk v b->b<sb:=fun b hb2=>by rw[jQ];exact(HM.o.row.lt b hb2).2
    have hlo:ob<=WB.heap.size:=Nat.le_trans (Nat.le_of_lt hol) Cn.o.size
    clear YA jQ
    have cJ:Hid (∀V,Kp (fun b=>blk v b) WB V->V.cell? (Ad ob 1)=some v/\V.cell? (Ad sb 0)=some (.bool lv)/\V.cell? (Ad sb 1)=some (.slice aa na ca)/\V.cell? (Ad sb 2)=some (.slice ap np cp)):=fun V hV=>⟨hV.cell (B.cell mX.o.head 1 rfl) mX.o.n1,hV.cell (B.cell SB.o 0 rfl) (fun g=>Nat.lt_irrefl _ (hsv _ g)),hV.cell (B.cell SB.o 1 rfl) (fun g=>Nat.lt_irrefl _ (hsv _ g)),hV.cell (B.cell SB.o 2 rfl) (fun g=>Nat.lt_irrefl _ (hsv _ g))⟩
    have cB:Hid (Kp (fun b=>blk v b) WB WB.drew):=Kp.drew _ _
    have oL:Hid (∀V,Kp (fun b=>blk v b) WB V->Below w.heap.size w V):=fun V hV=>Kp.below (HB.o.trans (Cn.o.mono HB.o.size)) hV (Nat.le_trans HB.o.size Cn.o.size) (fun g hg=>Nat.le_trans hwo (HM.o.row.lt g hg).1)
    have jn:Hid (∀V,Kp (fun b=>blk v b) WB V->From V aa na (AM.aT s.aw)):=fun V hV=>(GF.oc (c3.below (oL.o V hV))).2
    have eD:na=s.aw.length:=(GF.oc c3).1
    have HNA:=ai eD
    have OU:Hid ((AM.aT s.aw).length=na*4):=by rw[eD];exact AM.gP _
    have Vl:Hid (∀u∈AM.aT s.aw,u.oneCell'=true):=AM.gq _
    have ahv:na<=100000:=by rw[eD];exact hsk.1
    have ahs:np<=100000:=hsk.2
    clear eD
    have KA:Hid (∀V o,Kp (fun b=>blk v b) WB V->Kp (fun b=>blk v b) WB (V.alloc o)):=fun V o h=>h.trans (Kp.alloc (fun b=>blk v b) V o) (fun _ _ g=>g)
    have KB:Hid (∀V,Below WB.heap.size WB V->Kp (fun b=>blk v b) WB V):=fun V h=>Kp.aF h
    have kq:Hid (∀V,Kp (fun b=>blk v b) WB V->From V ap np (s.aj.flatMap aH)):=fun V hV=>by rw[vd.o];exact GF.wZ (c4.below (oL.o V hV))
    have Vp:Hid ((s.aj.flatMap aH).length=np*2):=by rw[vd.o];exact bu aH 2 (fun _=>rfl) _
    have HOP:Hid (∀u∈s.aj.flatMap aH,u.oneCell'=true):=GF.jH _
    refine GZ.mR (S:=fun V=>Kp (fun b=>blk v b) WB V) (z:=16) (by kernel_rfl) ?_
    refine GZ.tk 0 cB.o ?_ ?_ ?_
    rotate_left 1
    · intro V hSw
      obtain⟨k0,k1,k2,k3⟩:=cJ.o V hSw
      go_simp
      try with_reducible rfl
    refine GZ.tk 1 cB.o ?_ ?_ ?_
    rotate_left 1
    · intro V hSw
      obtain⟨k0,k1,k2,k3⟩:=cJ.o V hSw
      go_simp
      try with_reducible rfl
    refine GZ.tk 2 cB.o ?_ ?_ ?_
    rotate_left 1
    · intro V hSw
      obtain⟨k0,k1,k2,k3⟩:=cJ.o V hSw
      go_simp
      try with_reducible rfl
    refine GZ.tk 3 cB.o ?_ ?_ ?_
    rotate_left 1
    · intro V hSw
      obtain⟨k0,k1,k2,k3⟩:=cJ.o V hSw
      go_simp
      try with_reducible rfl
    refine GZ.tk 5 cB.o ?_ ?_ ?_
    rotate_left 1
    · intro V hSw
      obtain⟨k0,k1,k2,k3⟩:=cJ.o V hSw
      go_simp
      try with_reducible rfl
    refine GZ.tk 6 cB.o ?_ ?_ ?_
    rotate_left 1
    · intro V hSw
      obtain⟨k0,k1,k2,k3⟩:=cJ.o V hSw
      go_simp
      try with_reducible rfl
    refine GZ.tk 9 cB.o ?_ ?_ ?_
    rotate_left 1
    · intro V hSw
      obtain⟨k0,k1,k2,k3⟩:=cJ.o V hSw
      go_simp
      try with_reducible rfl
    refine GZ.tk 10 cB.o ?_ ?_ ?_
    rotate_left 1
    · intro V hSw
      obtain⟨k0,k1,k2,k3⟩:=cJ.o V hSw
      go_simp
      try with_reducible rfl
    refine GZ.all (rs:=[4,8]) (by kernel_rfl) (by simp) ?_
    refine GZ.bJ.cons rfl (fun K hK=>?_) ?_
    · go_simp
      refine hK.out _ _ (fun _=>?_) ?_
      · exact KB.o _ (YV WB _)
      clear hK K
      try simp only[Act.put,List.setIfInBounds_toArray,List.set_cons_zero,List.set_cons_succ]
      refine GZ.all (rs:=[7,8]) (by kernel_rfl) (by simp) ?_
      refine GZ.bJ.cons rfl (fun K hK=>?_) ?_
      · rw[if_pos (by rfl)];refine cF (P:=Tryz.prog) _ _ 22 rfl WB.heap.size 59 ia (.agg #[I 0,I 0,I 0,.bool false]) 4 32 Tryz.underlying22 Sn.o Sm.o Sl.o Sk.o rfl (by decide) (.slice (some (Ad WB.heap.size 0)) 0 0) 0 [] rfl (mk1 WB _ _) aa na ca (AM.aT s.aw) rfl OU.o (jn.o _ (KB.o _ (YV WB _))) Vl.o (by unfold maxLen;omega) (by omega) (by first | omega | (simp;done) | (simp;omega)) ?_;intro vC wC Ix S7 UK;rw[Nat.zero_add] at Ix;obtain⟨aC,cC,Xr,_,_⟩:=aJ Ix;subst Xr;have kO:Hid (Below WB.heap.size WB wC):=mE (YV WB _) (Nat.le_refl _) S7 (fun g hg=>by have hg':some WB.heap.size=some g:=hg;injection hg' with hg';exact Nat.le_of_eq hg');have Lv:=ai Ix;clear Ix S7 UK
        refine hK.out _ _ (fun _=>?_) ?_
        · exact KB.o _ kO.o
        clear hK K
        try simp only[Act.put,List.setIfInBounds_toArray,List.set_cons_zero,List.set_cons_succ]
        refine GZ.all (rs:=[8]) (by kernel_rfl) (by simp) ?_
        refine GZ.bJ.cons rfl (fun K hK=>?_) ?_
        · go_simp
          refine hK.out _ _ (fun _=>?_) ?_
          · exact KB.o _ (kO.o.alloc kO.o.size _)
          clear hK K
          try simp only[Act.put,List.setIfInBounds_toArray,List.set_cons_zero,List.set_cons_succ]
          refine GZ.all (rs:=[11]) (by kernel_rfl) (by simp) ?_
          refine GZ.bJ.cons rfl (fun K hK=>?_) ?_
          · rw[if_pos (by rfl)];refine cF (P:=Tryz.prog) _ _ 51 rfl WB.heap.size 65 ip (.agg #[I 0,.string ⟨#[]⟩]) 2 24 Tryz.underlying51 Sj.o Si.o Sd.o Sc.o rfl (by decide) (.slice (some (Ad wC.heap.size 0)) 0 0) 0 [] rfl (Z2 kO.o.size _ _) ap np cp (s.aj.flatMap aH) rfl Vp.o (kq.o _ (KB.o _ (kO.o.alloc kO.o.size _))) HOP.o (by unfold maxLen;omega) (by omega) (by rw[World.size_alloc];have:=kO.o.size;omega) ?_;intro vE wE Iw S6 S9;rw[Nat.zero_add] at Iw;obtain⟨aE,cE,Xq,_,_⟩:=aJ Iw;subst Xq;have nz:=ai (LS (kO.o.alloc kO.o.size _) (Nat.le_refl _) (Kp.row (Kp.alloc (fun _=>False) wC _) Lv.o (fun _ _ g=>g)) kO.o.size (fun b hb=>Nat.ne_of_lt (Lv.o.lt b hb).2) S6 S9);clear kO Lv;have rS:=ai (KB.o _ nz.o.1);have jd:=ai Iw;clear Iw S6 S9
            refine hK.out _ _ (fun _=>?_) ?_
            · exact rS.o
            clear hK K
            try simp only[Act.put,List.setIfInBounds_toArray,List.set_cons_zero,List.set_cons_succ]
            refine GZ.tk 12 rS.o ?_ ?_ ?_
            rotate_left 1
            · intro V hSw
              obtain⟨k0,k1,k2,k3⟩:=cJ.o V hSw
              go_simp
              try with_reducible rfl
            refine GZ.all (rs:=[13]) (by kernel_rfl) (by simp) ?_
            refine GZ.bJ.cons rfl (fun K hK=>?_) ?_
            · go_simp
              refine hK.out _ _ (fun _=>?_) ?_
              · exact KB.o _ (nz.o.1.alloc nz.o.1.size _)
              clear hK K
              try simp only[Act.put,List.setIfInBounds_toArray,List.set_cons_zero,List.set_cons_succ]
              refine GZ.all (rs:=[14]) (by kernel_rfl) (by simp) ?_
              refine GZ.bJ.cons rfl (fun K hK=>?_) ?_
              · rw[if_pos (by rfl)];refine cF (P:=Tryz.prog) _ _ 26 rfl ob 53 is (.agg #[.bool false,Nl,Nl]) 3 56 Tryz.underlying26 K4.o K3.o K2.o K1.o rfl (by decide) (v) L.length (L.flatMap bH) rfl (Kp.row (Kp.aF (D:=fun _=>False) (nz.o.1.alloc nz.o.1.size _)) mX.o.row (fun _ _ g=>g)) (some (Ad wE.heap.size 0)) 1 1 (bH ⟨lv,.slice aC na cC,.slice aE np cE⟩) rfl rfl (fun _=>⟨_,rfl,lq wE _ _⟩) (Bg _ _ _ _ _ _ _) (by unfold maxLen;omega) (by omega) (by rw[World.size_alloc];have:=nz.o.1.size;omega) ?_;intro vG wG xB uN DC;obtain⟨aG,cG,MV,_,_⟩:=aJ xB;subst MV;have zu:=ai (mX.o.push (D':=fun b=>ob<=b/\b<wG.heap.size) hlo nz.o.1 (Gn nz.o.2.1 jd.o qA.o vd.o HNA.o) nz.o.2.2 uN xB DC (fun b hb=>⟨hb.1,by have:=mX.o;have:=uN.size;have:=nz.o.1.size;have:=Cn.o.size;simp at *;omega⟩) (fun b h1 h2=>⟨by omega,h2⟩));have qP:Hid (Kp (fun b=>blk v b) WB wG):=(KB.o _ (nz.o.1.alloc nz.o.1.size _)).trans (Kp.grown uN (fun _ e=>e)) (fun _ _ g=>g);have VV:=(cJ.o wG qP.o).1;have hof:wG.frozen? (Ad ob 1)=false:=B.free (qP.o.keep mX.o.head mX.o.n1) 1;clear xB uN DC nz rS jd
                refine hK.out _ _ (fun _=>?_) ?_
                · exact qP.o
                clear hK K
                try simp only[Act.put,List.setIfInBounds_toArray,List.set_cons_zero,List.set_cons_succ]
                refine GZ.tk 15 qP.o ?_ ?_ ?_
                rotate_left 1
                · intro V hSw
                  obtain⟨k0,k1,k2,k3⟩:=cJ.o V hSw
                  go_simp
                  try with_reducible rfl
                refine GZ.all (rs:=[16]) (by kernel_rfl) (by simp) ?_
                refine GZ.bJ.cons rfl (fun K hK=>?_) GZ.bJ.nil
                go_simp
                refine hK.out _ _ (fun g=>absurd rfl g) ?_
                refine GZ.done (by kernel_rfl) ?_ _
                go_wp2
                go_roundw
                case rel =>
                 exact⟨k+1,.slice aG (k+1) cG,L++[⟨lv,.slice aC na cC,.slice aE np cE⟩],by omega,by go_num,rnd HX.o HZ.o Cn.o HB.o mX.o (by have h:=zu.o;rw[hlk] at h;exact h) Lu.o (by rw[<- qQ.o];exact hlt) Z5 hz1 hwo (by simp)⟩
                case measure=>simp[intOf];omega
              exact GZ.bJ.nil
            exact GZ.bJ.nil
          exact GZ.bJ.nil
        exact GZ.bJ.nil
      refine GZ.bJ.cons rfl (fun K hK=>?_) ?_
      · go_simp
        refine hK.out _ _ (fun _=>?_) ?_
        · exact KB.o _ (Wc WB _ _)
        clear hK K
        try simp only[Act.put,List.setIfInBounds_toArray,List.set_cons_zero,List.set_cons_succ]
        refine GZ.all (rs:=[7]) (by kernel_rfl) (by simp) ?_
        refine GZ.bJ.cons rfl (fun K hK=>?_) ?_
        · rw[if_pos (by rfl)];refine cF (P:=Tryz.prog) _ _ 22 rfl WB.heap.size 59 ia (.agg #[I 0,I 0,I 0,.bool false]) 4 32 Tryz.underlying22 Sn.o Sm.o Sl.o Sk.o rfl (by decide) (.slice (some (Ad WB.heap.size 0)) 0 0) 0 [] rfl (mk2 WB _ _ _) aa na ca (AM.aT s.aw) rfl OU.o (jn.o _ (KB.o _ (Wc WB _ _))) Vl.o (by unfold maxLen;omega) (by omega) (by first | omega | (simp;done) | (simp;omega)) ?_;intro vC wC Ix S7 UK;rw[Nat.zero_add] at Ix;obtain⟨aC,cC,Xr,_,_⟩:=aJ Ix;subst Xr;have Hg:=ai (SM (GB:=WB.heap.size) (GD:=WB.heap.size+1) (Wc WB _ _) (Nat.le_refl _) (mk3 WB _ _ 2) (by omega) (by omega) S7 UK);have Lv:=ai Ix;clear Ix S7 UK
          refine hK.out _ _ (fun _=>?_) ?_
          · exact KB.o _ Hg.o.1
          clear hK K
          try simp only[Act.put,List.setIfInBounds_toArray,List.set_cons_zero,List.set_cons_succ]
          refine GZ.all (rs:=[11]) (by kernel_rfl) (by simp) ?_
          refine GZ.bJ.cons rfl (fun K hK=>?_) ?_
          · rw[if_pos (by rfl)];refine cF (P:=Tryz.prog) _ _ 51 rfl WB.heap.size 65 ip (.agg #[I 0,.string ⟨#[]⟩]) 2 24 Tryz.underlying51 Sj.o Si.o Sd.o Sc.o rfl (by decide) (.slice (some (Ad (WB.heap.size+1) 0)) 0 0) 0 [] rfl Hg.o.2.1 ap np cp (s.aj.flatMap aH) rfl Vp.o (kq.o _ (KB.o _ Hg.o.1)) HOP.o (by unfold maxLen;omega) (by omega) Hg.o.1.size ?_;intro vE wE Iw S6 S9;rw[Nat.zero_add] at Iw;obtain⟨aE,cE,Xq,_,_⟩:=aJ Iw;subst Xq;have nz:=ai (LS Hg.o.1 (Nat.le_refl _) Lv.o (by first | exact Nat.le_refl _ | exact Nat.le_succ _) Hg.o.2.2 S6 S9);clear Hg Lv;have rS:=ai (KB.o _ nz.o.1);have jd:=ai Iw;clear Iw S6 S9
            refine hK.out _ _ (fun _=>?_) ?_
            · exact rS.o
            clear hK K
            try simp only[Act.put,List.setIfInBounds_toArray,List.set_cons_zero,List.set_cons_succ]
            refine GZ.tk 12 rS.o ?_ ?_ ?_
            rotate_left 1
            · intro V hSw
              obtain⟨k0,k1,k2,k3⟩:=cJ.o V hSw
              go_simp
              try with_reducible rfl
            refine GZ.all (rs:=[13]) (by kernel_rfl) (by simp) ?_
            refine GZ.bJ.cons rfl (fun K hK=>?_) ?_
            · go_simp
              refine hK.out _ _ (fun _=>?_) ?_
              · exact KB.o _ (nz.o.1.alloc nz.o.1.size _)
              clear hK K
              try simp only[Act.put,List.setIfInBounds_toArray,List.set_cons_zero,List.set_cons_succ]
              refine GZ.all (rs:=[14]) (by kernel_rfl) (by simp) ?_
              refine GZ.bJ.cons rfl (fun K hK=>?_) ?_
              · rw[if_pos (by rfl)];refine cF (P:=Tryz.prog) _ _ 26 rfl ob 53 is (.agg #[.bool false,Nl,Nl]) 3 56 Tryz.underlying26 K4.o K3.o K2.o K1.o rfl (by decide) (v) L.length (L.flatMap bH) rfl (Kp.row (Kp.aF (D:=fun _=>False) (nz.o.1.alloc nz.o.1.size _)) mX.o.row (fun _ _ g=>g)) (some (Ad wE.heap.size 0)) 1 1 (bH ⟨lv,.slice aC na cC,.slice aE np cE⟩) rfl rfl (fun _=>⟨_,rfl,lq wE _ _⟩) (Bg _ _ _ _ _ _ _) (by unfold maxLen;omega) (by omega) (by rw[World.size_alloc];have:=nz.o.1.size;omega) ?_;intro vG wG xB uN DC;obtain⟨aG,cG,MV,_,_⟩:=aJ xB;subst MV;have zu:=ai (mX.o.push (D':=fun b=>ob<=b/\b<wG.heap.size) hlo nz.o.1 (Gn nz.o.2.1 jd.o qA.o vd.o HNA.o) nz.o.2.2 uN xB DC (fun b hb=>⟨hb.1,by have:=mX.o;have:=uN.size;have:=nz.o.1.size;have:=Cn.o.size;simp at *;omega⟩) (fun b h1 h2=>⟨by omega,h2⟩));have qP:Hid (Kp (fun b=>blk v b) WB wG):=(KB.o _ (nz.o.1.alloc nz.o.1.size _)).trans (Kp.grown uN (fun _ e=>e)) (fun _ _ g=>g);have VV:=(cJ.o wG qP.o).1;have hof:wG.frozen? (Ad ob 1)=false:=B.free (qP.o.keep mX.o.head mX.o.n1) 1;clear xB uN DC nz rS jd
                refine hK.out _ _ (fun _=>?_) ?_
                · exact qP.o
                clear hK K
                try simp only[Act.put,List.setIfInBounds_toArray,List.set_cons_zero,List.set_cons_succ]
                refine GZ.tk 15 qP.o ?_ ?_ ?_
                rotate_left 1
                · intro V hSw
                  obtain⟨k0,k1,k2,k3⟩:=cJ.o V hSw
                  go_simp
                  try with_reducible rfl
                refine GZ.all (rs:=[16]) (by kernel_rfl) (by simp) ?_
                refine GZ.bJ.cons rfl (fun K hK=>?_) GZ.bJ.nil
                go_simp
                refine hK.out _ _ (fun g=>absurd rfl g) ?_
                refine GZ.done (by kernel_rfl) ?_ _
                go_wp2
                go_roundw
                case rel =>
                 exact⟨k+1,.slice aG (k+1) cG,L++[⟨lv,.slice aC na cC,.slice aE np cE⟩],by omega,by go_num,rnd HX.o HZ.o Cn.o HB.o mX.o (by have h:=zu.o;rw[hlk] at h;exact h) Lu.o (by rw[<- qQ.o];exact hlt) Z5 hz1 hwo (by simp)⟩
                case measure=>simp[intOf];omega
              exact GZ.bJ.nil
            exact GZ.bJ.nil
          exact GZ.bJ.nil
        exact GZ.bJ.nil
      exact GZ.bJ.nil
    refine GZ.bJ.cons rfl (fun K hK=>?_) ?_
    · go_simp
      refine hK.out _ _ (fun _=>?_) ?_
      · exact KB.o _ (YV WB _)
      clear hK K
      try simp only[Act.put,List.setIfInBounds_toArray,List.set_cons_zero,List.set_cons_succ]
      refine GZ.all (rs:=[4]) (by kernel_rfl) (by simp) ?_
      refine GZ.bJ.cons rfl (fun K hK=>?_) ?_
      · go_simp
        refine hK.out _ _ (fun _=>?_) ?_
        · exact KB.o _ (Wc WB _ _)
        clear hK K
        try simp only[Act.put,List.setIfInBounds_toArray,List.set_cons_zero,List.set_cons_succ]
        refine GZ.all (rs:=[7]) (by kernel_rfl) (by simp) ?_
        refine GZ.bJ.cons rfl (fun K hK=>?_) ?_
        · rw[if_pos (by rfl)];refine cF (P:=Tryz.prog) _ _ 22 rfl WB.heap.size 59 ia (.agg #[I 0,I 0,I 0,.bool false]) 4 32 Tryz.underlying22 Sn.o Sm.o Sl.o Sk.o rfl (by decide) (.slice (some (Ad (WB.heap.size+1) 0)) 0 0) 0 [] rfl (mk3 WB _ _ _) aa na ca (AM.aT s.aw) rfl OU.o (jn.o _ (KB.o _ (Wc WB _ _))) Vl.o (by unfold maxLen;omega) (by omega) (by first | omega | (simp;done) | (simp;omega)) ?_;intro vC wC Ix S7 UK;rw[Nat.zero_add] at Ix;obtain⟨aC,cC,Xr,_,_⟩:=aJ Ix;subst Xr;have Hg:=ai (SM (GB:=WB.heap.size+1) (GD:=WB.heap.size) (Wc WB _ _) (Nat.le_refl _) (mk2 WB _ _ 2) (by omega) (by omega) S7 UK);have Lv:=ai Ix;clear Ix S7 UK
          refine hK.out _ _ (fun _=>?_) ?_
          · exact KB.o _ Hg.o.1
          clear hK K
          try simp only[Act.put,List.setIfInBounds_toArray,List.set_cons_zero,List.set_cons_succ]
          refine GZ.all (rs:=[11]) (by kernel_rfl) (by simp) ?_
          refine GZ.bJ.cons rfl (fun K hK=>?_) ?_
          · rw[if_pos (by rfl)];refine cF (P:=Tryz.prog) _ _ 51 rfl WB.heap.size 65 ip (.agg #[I 0,.string ⟨#[]⟩]) 2 24 Tryz.underlying51 Sj.o Si.o Sd.o Sc.o rfl (by decide) (.slice (some (Ad WB.heap.size 0)) 0 0) 0 [] rfl Hg.o.2.1 ap np cp (s.aj.flatMap aH) rfl Vp.o (kq.o _ (KB.o _ Hg.o.1)) HOP.o (by unfold maxLen;omega) (by omega) Hg.o.1.size ?_;intro vE wE Iw S6 S9;rw[Nat.zero_add] at Iw;obtain⟨aE,cE,Xq,_,_⟩:=aJ Iw;subst Xq;have nz:=ai (LS Hg.o.1 (Nat.le_refl _) Lv.o (by first | exact Nat.le_refl _ | exact Nat.le_succ _) Hg.o.2.2 S6 S9);clear Hg Lv;have rS:=ai (KB.o _ nz.o.1);have jd:=ai Iw;clear Iw S6 S9
            refine hK.out _ _ (fun _=>?_) ?_
            · exact rS.o
            clear hK K
            try simp only[Act.put,List.setIfInBounds_toArray,List.set_cons_zero,List.set_cons_succ]
            refine GZ.tk 12 rS.o ?_ ?_ ?_
            rotate_left 1
            · intro V hSw
              obtain⟨k0,k1,k2,k3⟩:=cJ.o V hSw
              go_simp
              try with_reducible rfl
            refine GZ.all (rs:=[13]) (by kernel_rfl) (by simp) ?_
            refine GZ.bJ.cons rfl (fun K hK=>?_) ?_
            · go_simp
              refine hK.out _ _ (fun _=>?_) ?_
              · exact KB.o _ (nz.o.1.alloc nz.o.1.size _)
              clear hK K
              try simp only[Act.put,List.setIfInBounds_toArray,List.set_cons_zero,List.set_cons_succ]
              refine GZ.all (rs:=[14]) (by kernel_rfl) (by simp) ?_
              refine GZ.bJ.cons rfl (fun K hK=>?_) ?_
              · rw[if_pos (by rfl)];refine cF (P:=Tryz.prog) _ _ 26 rfl ob 53 is (.agg #[.bool false,Nl,Nl]) 3 56 Tryz.underlying26 K4.o K3.o K2.o K1.o rfl (by decide) (v) L.length (L.flatMap bH) rfl (Kp.row (Kp.aF (D:=fun _=>False) (nz.o.1.alloc nz.o.1.size _)) mX.o.row (fun _ _ g=>g)) (some (Ad wE.heap.size 0)) 1 1 (bH ⟨lv,.slice aC na cC,.slice aE np cE⟩) rfl rfl (fun _=>⟨_,rfl,lq wE _ _⟩) (Bg _ _ _ _ _ _ _) (by unfold maxLen;omega) (by omega) (by rw[World.size_alloc];have:=nz.o.1.size;omega) ?_;intro vG wG xB uN DC;obtain⟨aG,cG,MV,_,_⟩:=aJ xB;subst MV;have zu:=ai (mX.o.push (D':=fun b=>ob<=b/\b<wG.heap.size) hlo nz.o.1 (Gn nz.o.2.1 jd.o qA.o vd.o HNA.o) nz.o.2.2 uN xB DC (fun b hb=>⟨hb.1,by have:=mX.o;have:=uN.size;have:=nz.o.1.size;have:=Cn.o.size;simp at *;omega⟩) (fun b h1 h2=>⟨by omega,h2⟩));have qP:Hid (Kp (fun b=>blk v b) WB wG):=(KB.o _ (nz.o.1.alloc nz.o.1.size _)).trans (Kp.grown uN (fun _ e=>e)) (fun _ _ g=>g);have VV:=(cJ.o wG qP.o).1;have hof:wG.frozen? (Ad ob 1)=false:=B.free (qP.o.keep mX.o.head mX.o.n1) 1;clear xB uN DC nz rS jd
                refine hK.out _ _ (fun _=>?_) ?_
                · exact qP.o
                clear hK K
                try simp only[Act.put,List.setIfInBounds_toArray,List.set_cons_zero,List.set_cons_succ]
                refine GZ.tk 15 qP.o ?_ ?_ ?_
                rotate_left 1
                · intro V hSw
                  obtain⟨k0,k1,k2,k3⟩:=cJ.o V hSw
                  go_simp
                  try with_reducible rfl
                refine GZ.all (rs:=[16]) (by kernel_rfl) (by simp) ?_
                refine GZ.bJ.cons rfl (fun K hK=>?_) GZ.bJ.nil
                go_simp
                refine hK.out _ _ (fun g=>absurd rfl g) ?_
                refine GZ.done (by kernel_rfl) ?_ _
                go_wp2
                go_roundw
                case rel =>
                 exact⟨k+1,.slice aG (k+1) cG,L++[⟨lv,.slice aC na cC,.slice aE np cE⟩],by omega,by go_num,rnd HX.o HZ.o Cn.o HB.o mX.o (by have h:=zu.o;rw[hlk] at h;exact h) Lu.o (by rw[<- qQ.o];exact hlt) Z5 hz1 hwo (by simp)⟩
                case measure=>simp[intOf];omega
              exact GZ.bJ.nil
            exact GZ.bJ.nil
          exact GZ.bJ.nil
        exact GZ.bJ.nil
      exact GZ.bJ.nil
    exact GZ.bJ.nil
  · obtain rfl:k=ns:=by omega
    have OP:Hid (Mem ob ob wr (fun b=>ob<=b/\b<wr.heap.size) sl Nl Nl v L ss):=by
     have h:=HM.o
     rw[qQ.o,List.take_length] at h
     exact h
    clear HM
    obtain⟨aS,cS,hvS,_,_⟩:=aJ OP.o.row
    rw[hlk] at hvS
    subst hvS
    obtain⟨ir,r0,r1,r2,r3⟩:=info_parts Bn
    obtain⟨io,s0,s1,s2,s3⟩:=info_parts Bl
    have Pw:=ai r0
    have Zg:=ai r1
    have mg:=ai r2
    have Lx:=ai r3
    have Zo:=ai s0
    have Jg:=ai s1
    have Cl:=ai s2
    have R7:=ai s3
    have y2:wr.cell? (Ad x 2)=some (.slice ar nr cr):=B.cell Xj 2 rfl
    have y3:wr.cell? (Ad ob 2)=some Nl:=B.cell hm.head 2 rfl
    clear r0 r1 r2 r3 s0 s1 s2 s3 hm Xj Sn Sm Sl Sk Sj Si Sd Sc K4 K3 K2 K1 qO HH
    have ag6:¬x=ob:=by omega
    have ahp:¬ob=x:=by omega
    have Xi:¬x+1=ob:=by omega
    have aho:¬ob=x+1:=by omega
    go_wp2_with
     first
     | (at_builtin;refine b9 (P:=Tryz.prog) rfl _ _ 27 rfl ob 70 ir (.agg #[I 0,I 0,I 0,I 0,I 0,I 0,I 0,I 0,I 0,I 0,I 0,I 0,I 0]) 13 104 Tryz.underlying27 Pw.o Zg.o mg.o Lx.o rfl (by decide) Nl 0 [] (by rfl) (World.ownsRow_nil _ _ _ _) ar nr cr (ps.flatMap aI) (by rfl) HLR.o (PE.o _ HB.o) adm.o (by unfold maxLen;omega) (by omega) (Nat.le_of_lt hol) ?_;intro vR w1 hoR hgR haR;rw[Nat.zero_add] at hoR;obtain⟨aR,cR,hvR,_,_⟩:=aJ hoR;subst hvR;have Cq:=ai hgR;have HOR:=ai hoR;have HAR:=ai haR;have bh:=ai (jE hgR);clear hgR hoR haR;have hh1:=B.below OP.o.head bh.o hol;have y9:w1.frozen? (Ad ob 2)=false:=B.free hh1 2;have y4:w1.cell? (Ad ob 2)=some Nl:=B.cell hh1 2 rfl;have y5:w1.cell? (Ad ob 3)=some Nl:=B.cell hh1 3 rfl;have hx1:=B.below HX.o bh.o (B.isLt HX.o);have y6:w1.cell? (Ad x 3)=some (.slice ao no co):=B.cell hx1 3 rfl;clear hh1 hx1;have bY:Hid (Below w.heap.size w (w1.setCell (Ad ob 2) (.slice aR nr cR))):=(HB.o.trans (bh.o.mono HB.o.size)).setCell (p:=(Ad ob 2)) hwo _)
     | (at_builtin;refine b9 (P:=Tryz.prog) rfl _ _ 28 rfl ob 78 io (.agg #[I 0,I 0]) 2 16 Tryz.underlying28 Zo.o Jg.o Cl.o R7.o rfl (by decide) Nl 0 [] (by rfl) (World.ownsRow_nil _ _ _ _) ao no co (os.flatMap bM) (by rfl) Ji.o (HFO.o _ bY.o) adn.o (by unfold maxLen;omega) (by omega) (by have:=bh.o.size;simp;omega) ?_;intro vO w2 hoO Ye haO;rw[Nat.zero_add] at hoO;obtain⟨aO,cO,hvO,_,_⟩:=aJ hoO;subst hvO;have hh2:w2.heap[ob]?=some (.cells #[I sl,.slice aS k cS,.slice aR nr cR,Nl] 30 (0,0)):=B.below (B.set (B.below OP.o.head bh.o hol) 2 (.slice aR nr cR)) (jE Ye) (by have:=bh.o.size;simp;omega);have hf2:w2.frozen? (Ad ob 3)=false:=B.free hh2 3;obtain⟨p0,p1,p2,p3⟩:=B.c4 hh2;have HOO:=ai hoO;have HGO:=ai Ye;have Pc:=ai haO;have fK:=ai (bY.o.trans ((jE Ye).mono bY.o.size));have hz2:w2.heap[x+1]?=some (.cells #[I 0,Nl,Nl,Nl] 30 (0,0)):=B.below (B.other (B.below HZ.o bh.o (B.isLt HZ.o)) ob 2 _ Xi) (jE Ye) (by have:=bh.o.size;have:=B.isLt HZ.o;simp;omega);have q0:=B.free hz2 0;have q1:=B.free hz2 1;have q2:=B.free hz2 2;have q3:=B.free hz2 3;obtain⟨z0,z1,z2,z3⟩:=B.c4 hz2;clear hoO Ye haO hh2)
    refine bodyPost_ret (v:=?_) ?_ rfl ?_
    rotate_left 2
    · have hfo:=UT (ps:=ps) (os:=os) OP.o Cq.o (by rw[<- Tq.o];exact HOR.o) HAR.o HGO.o (by rw[<- mh.o];exact HOO.o) Pc.o
      have kz:∀(V:World) j u,Kp (fun b=>b=x+1) V (V.setCell (Ad (x+1) j) u):=fun V j u=>Kp.set _ _ _ _ rfl
      have kk:=(((kz (w2.setCell (Ad ob 3) (.slice aO no cO)) 0 (I sl)).trans (kz _ 1 (.slice aS k cS)) (fun _ _ g=>g)).trans (kz _ 2 (.slice aR nr cR)) (fun _ _ g=>g)).trans (kz _ 3 (.slice aO no cO)) (fun _ _ g=>g)
      refine dx.o ob _ L _ _ _ hwo (hfo.kp kk (fun b hb=>Or.inl (by have hb':b=x+1:=hb;omega))) ?_
      exact Kp.below (fK.o.setCell (p:=(Ad ob 3)) hwo _) kk (by have:=fK.o.size;simp;omega) (fun b hb=>by have hb':b=x+1:=hb;have:=Y3.o;omega)
    have g0:=B.set (B.other hz2 ob 3 (.slice aO no cO) Xi) 0 (I sl)
    have g1:=B.set g0 1 (.slice aS k cS)
    have g2:=B.set g1 2 (.slice aR nr cR)
    have g3:=B.set g2 3 (.slice aO no cO)
    have e0:=B.cell g0 0 (v:=I sl) rfl
    have e1:=B.cell g1 1 (v:=.slice aS k cS) rfl
    have e2:=B.cell g2 2 (v:=.slice aR nr cR) rfl
    have e3:=B.cell g3 3 (v:=.slice aO no cO) rfl
    simp[results,Tryz.results47,go_sem,Act.put,e0,e1,e2,e3]
end GO
end Go.Proofs.YtkdigjpejnebkaaGreat
