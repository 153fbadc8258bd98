import Derived.Test.YtkdigjpejnebkaaGreatGU00
import Derived.OrdersHeld
import Derived.Deep.RegionHeld
import Derived.Test.YtkdigjpejnebkaaGreatGU23
import Derived.Test.YtkdigjpejnebkaaGreatGU07
import Derived.Test.YtkdigjpejnebkaaGreatGU06
set_option maxHeartbeats 20000000
set_option linter.unusedVariables false
set_option maxRecDepth 100000
set_option linter.unusedSimpArgs false
namespace Go.Proofs.YtkdigjpejnebkaaGreat
namespace GZ
open Go.RowKit
section
variable {P:Program} {ops:Array Oper} {Q:Exit->Act->World->Prop} {md:Region.Mode} {S:World->Prop} {z:Nat}
def Jj (P:Program) (md:Region.Mode) (ops:Array Oper) (Q:Exit->Act->World->Prop) (S:World->Prop) (z:Nat):Nat->Array Bool->Act->World->Prop
 | 0,l,a,w=>Region.ready md ops l=[]/\Q .normal a w
 | n+1,l,a,w=>(Region.ready md ops l=[]->Q .normal a w)/\∀i∈Region.ready md ops l,wpOp P ops Q i (fun a' w'=>(i≠z->S w')/\Jj P md ops Q S z n (l.setIfInBounds i true) a' w') a w
theorem LL:∀(n:Nat) (l:Array Bool) (a:Act) (w:World),Jj P md ops Q S z n l a w->wpAny P md ops Q n l a w
 | 0,_,_,_,h=>h
 | n+1,_,_,_,h=>⟨h.1,fun i hi=>wpOp_mono (fun a' w' g=>LL n _ a' w' g.2) (h.2 i hi)⟩
theorem LI {l:Array Bool} {i:Nat} (h:l.getD i true=false):l.getD i false=false:=by
 rcases Nat.lt_or_ge i l.size with g | g
 · simp[g] at h ⊢;exact h
 · simp[Array.getElem?_eq_none g] at h
theorem first {i:Nat} {oi:Oper} {v:Value} (hi:ops[i]?=some oi) (XG:∀(j:Nat) (o:Oper) cs b,ops[j]?=some o->o.op≠.select cs b)
  (hQ:∀c a w,Q (.panic c) (a.put oi.dst v) w->Q (.panic c) a w) (hz:∀oz,ops[z]?=some oz->∃e∈oz.after,Region.binds md e=true/\e.on=i) :
  ∀(n:Nat) (l:Array Bool) (a:Act) (w:World),(∀j oj,ops[j]?=some oj->j≠i->l.getD j true=false->(∀e∈oj.after,Region.binds md e=true->e.on≠i)->oi.apart ops oj=true) ->
   i∈Region.ready md ops l->YieldsIf P ops S oi v a->S w->Jj P md ops Q S z n (l.setIfInBounds i true) (a.put oi.dst v) w->Jj P md ops Q S z (n+1) l a w:=by
 intro n
 induction n with
 | zero =>
  intro l a w _ hr hy hS H
  refine⟨fun g=>absurd hr (by rw[g];exact List.not_mem_nil),fun j hj=>?_⟩
  by_cases c:j=i
  · subst c
    exact hy.wpOp hi hS ⟨fun _=>hS,H⟩
  · have g:=ready_mono hj c
    rw[H.1] at g
    exact absurd g List.not_mem_nil
 | succ n ih =>
  intro l a w hf hr hy hS H
  refine⟨fun g=>absurd hr (by rw[g];exact List.not_mem_nil),fun j hj=>?_⟩
  by_cases c:j=i
  · subst c
    exact hy.wpOp hi hS ⟨fun _=>hS,H⟩
  · obtain⟨hu,oj,hoj,hall⟩:=mem_ready.1 hj
    have hiu:=LI (mem_ready.1 hr).1
    have hno:∀e∈oj.after,Region.binds md e=true->e.on≠i:=fun e he hb g=>by
     have:=hall e he hb
     rw[g,hiu] at this
     cases this
    have hjz:j≠z:=fun g=>by
     subst g
     obtain⟨e,he,hb,ho⟩:=hz oj hoj
     exact hno e he hb ho
    have h2:=wpOp_putIf hoj (hf j oj hoj c hu hno) (fun cs b=>XG i oi cs b hi) (fun cs b=>XG j oj cs b hoj) hQ hy (H.2 j (ready_mono hj c))
    refine wpOp_mono (fun a' w' g=>⟨g.2.1,ih (l.setIfInBounds j true) a' w' (fun k ok hk jd hun hn=>hf k ok hk jd ?_ hn) (ready_mono hr (Ne.symm c)) g.1 (g.2.1 hjz) ?_⟩) h2
    · by_cases d:j=k
      · subst d;exact hu
      · rw[getD_set_ne true d] at hun;exact hun
    · rw[Array.setIfInBounds_comm _ _ c]
      exact g.2.2
def waits (md:Region.Mode) (ops:Array Oper) (z i:Nat):Bool:=match ops[z]? with
 | none=>false
 | some o=>o.after.any (fun e=>Region.binds md e&&e.on==i)
theorem ES {i:Nat} (h:waits md ops z i=true):∀oz,ops[z]?=some oz->∃e∈oz.after,Region.binds md e=true/\e.on=i:=fun oz ho=>by
 unfold waits at h
 rw[ho] at h
 simp only[Array.any_eq_true'] at h
 obtain⟨e,he,h1⟩:=h
 simp only[Bool.and_eq_true,beq_iff_eq] at h1
 exact⟨e,he,h1.1,h1.2⟩
theorem take {i:Nat} {oi:Oper} {v:Value} {n:Nat} {l:Array Bool} {a:Act} {w:World} (hi:ops[i]?=some oi)
  (hs:Region.noSelect ops=true) (hf:Region.free md ops l i=true) (hr:(Region.ready md ops l).contains i=true) (hw:waits md ops z i=true)
  (hQ:∀c a w,Q (.panic c) (a.put oi.dst v) w->Q (.panic c) a w) (hy:YieldsIf P ops S oi v a) (hS:S w)
  (h:Jj P md ops Q S z n (l.setIfInBounds i true) (a.put oi.dst v) w):Jj P md ops Q S z (n+1) l a w :=
 first hi (Region.noSelect_spec hs) hQ (ES hw) n l a w (Region.free_spec hi hf) (by simpa using hr) hy hS h
theorem tk (i:Nat) {oi:Oper} {n:Nat} {l:Array Bool} {a:Act} {w:World} (hS:S w) (v:Value) (hy:∀V,S V->(execOp a.eval oi).run P V=.ok (.value v) V)
  (h:Jj P md ops Q S z n (l.setIfInBounds i true) (a.put oi.dst v) w) (hi:ops[i]?=some oi:=by rfl) (hs:Region.noSelect ops=true:=by kernel_rfl) (hf:Region.free md ops l i=true:=by kernel_rfl) (hr:(Region.ready md ops l).contains i=true:=by kernel_rfl) (hw:waits md ops z i=true:=by kernel_rfl)
  (hwt:Region.wanted oi (yielded ops a.tmps)=true:=by rfl) (hQ:∀c a w,Q (.panic c) (a.put oi.dst v) w->Q (.panic c) a w:=by exact fun _ _ _ h=>h):Jj P md ops Q S z (n+1) l a w :=
 take hi hs hf hr hw hQ (Or.inl ⟨hwt,hy⟩) hS h
theorem htk (i:Nat) {oi:Oper} {n:Nat} {l:Array Bool} {a:Act} {w:World} (hS:S w) (v:Value) (hy:∀V,S V->(execOp a.eval oi).run P V=.ok (.value v) V)
  (h:wpAnyH P md ops Q S n (l.setIfInBounds i true) (a.put oi.dst v) w) (hi:ops[i]?=some oi:=by rfl) (hs:Region.noSelect ops=true:=by kernel_rfl) (hf:Region.free md ops l i=true:=by kernel_rfl) (hr:(Region.ready md ops l).contains i=true:=by kernel_rfl)
  (hwt:Region.wanted oi (yielded ops a.tmps)=true:=by rfl) (hQ:∀c a w,Q (.panic c) (a.put oi.dst v) w->Q (.panic c) a w:=by exact fun _ _ _ h=>h):wpAnyH P md ops Q S (n+1) l a w :=
 wpAnyH_take hi hs hf hr hQ (Or.inl ⟨hwt,hy⟩) hS h
def bI (P:Program) (md:Region.Mode) (ops:Array Oper) (Q:Exit->Act->World->Prop) (S:World->Prop) (z n:Nat) (l:Array Bool) (a:Act) (w:World) (rs:List Nat):Prop:=∀i∈rs,wpOp P ops Q i (fun a' w'=>(i≠z->S w')/\Jj P md ops Q S z n (l.setIfInBounds i true) a' w') a w
theorem bI.nil {n:Nat} {l:Array Bool} {a:Act} {w:World}:bI P md ops Q S z n l a w []:=fun _ h=>absurd h List.not_mem_nil
theorem bI.cons {n:Nat} {l:Array Bool} {a:Act} {w:World} {i:Nat} {o:Oper} {rs:List Nat} (ho:ops[i]?=some o)
  (h:∀K':Act->World->Prop,Shut (∀a w,(i≠z->S w)->Jj P md ops Q S z n (l.setIfInBounds i true) a w->K' a w)->if Region.wanted o (yielded ops a.tmps)=true then Oper.wp P o a w K' Q else K' (a.put o.dst undef) w)
  (hs:bI P md ops Q S z n l a w rs):bI P md ops Q S z n l a w (i::rs):=fun j hj=>by
 rcases List.mem_cons.1 hj with g | g
 · subst g
   exact wpOp_step ho (fun K' hK=>h K' (fun a w h1 h2=>hK a w ⟨h1,h2⟩))
 · exact hs j g
theorem all {rs:List Nat} {n:Nat} {l:Array Bool} {a:Act} {w:World} (hr:Region.ready md ops l=rs) (hne:rs≠[]) (h:bI P md ops Q S z n l a w rs):Jj P md ops Q S z (n+1) l a w:=⟨fun g=>absurd (hr ▸ g) hne,hr ▸ h⟩
theorem done {l:Array Bool} {a:Act} {w:World} (hr:Region.ready md ops l=[]) (h:Q .normal a w):∀n,Jj P md ops Q S z n l a w
 | 0=>⟨hr,h⟩
 | _+1=>⟨fun _=>h,by rw[hr];exact fun _ g=>absurd g List.not_mem_nil⟩
theorem lV {id:Nat} {a:Act} {w:World} (hm:P.follows .mixedOrders=true) (h:Jj P .any ops Q S z ops.size (Array.replicate ops.size false) a w.drew):(Code.region id ops true).wp P Q a w:=wp_region_any hm (LL _ _ _ _ h)
end
end GZ
namespace GO
open Go.RowKit GK
open GF (Lc vY bu bH aH eP blk dw bl)
open GW (aI bR bg cB)
open FW (ai aB)
theorem A6 {lo mb:Nat} {w:World} {D:Nat->Prop} {sl:Int} (hm:w.heap[mb]?=some (.cells #[I sl,Nl,Nl,Nl] 30 (0,0))) (hl:lo<=mb) (hd:D mb):Mem lo mb w D sl Nl Nl Nl [] [] :=
 ⟨rfl,hm,World.ownsRow_nil _ _ _ _,(fun k hk=>absurd hk (Nat.not_lt_zero _)),hl,(fun g=>nomatch g),(fun k hk=>absurd hk (Nat.not_lt_zero _)),(fun k hk=>absurd hk (Nat.not_lt_zero _)),(fun j k hj=>absurd hj (Nat.not_lt_zero _)),hd,(fun b g=>nomatch g),(fun k hk=>absurd hk (Nat.not_lt_zero _))⟩
theorem LO {N GD na:Nat} {W V wE:World} {vC vE:Value} {xs:List Value} (hb:Below N W V) (hW:N<=W.heap.size) (hrc:V.ownsRow N 59 4 vC na xs) (hN:N<=GD) (hne:∀b,blk vC b->b≠GD) (hg:V.grownBy wE (some GD)) (ha:vE.ownBlock=some GD∨vE.ownBlock=some V.heap.size):Below N W wE/\wE.ownsRow N 59 4 vC na xs/\∀b,blk vE b->¬blk vC b :=
 ⟨mB hb hW hg (fun k hk=>by injection hk with hk;omega),Kp.row (Kp.grown (D:=fun b=>b=GD) hg (fun k hk=>by injection hk with hk;exact hk.symm)) hrc (fun g hg e=>hne g hg e),fun b hb hb2=>by
  have hb':vE.ownBlock=some b:=hb
  rcases ha with g | g
  · rw[g] at hb';injection hb' with hb';exact hne b hb2 hb'.symm
  · rw[g] at hb';injection hb' with hb';have:=(hrc.lt b hb2).2;omega⟩
theorem SK {N GB GD:Nat} {W V wC:World} {vC:Value} (hb:Below N W V) (hW:N<=W.heap.size) (hrd:V.ownsRow N 65 2 (.slice (some (Ad GD 0)) 0 0) 0 []) (hne:GD≠GB) (hN:N<=GB) (hg:V.grownBy wC (some GB)) (ha:vC.ownBlock=some GB∨vC.ownBlock=some V.heap.size):Below N W wC/\wC.ownsRow N 65 2 (.slice (some (Ad GD 0)) 0 0) 0 []/\∀b,blk vC b->b≠GD :=
 ⟨mB hb hW hg (fun k hk=>by injection hk with hk;omega),Kp.row (Kp.grown (D:=fun b=>b=GB) hg (fun k hk=>by injection hk with hk;exact hk.symm)) hrd (fun g hg e=>by have hg':some GD=some g:=hg;injection hg' with hg';omega),fun b hb e=>by
  have hb':vC.ownBlock=some b:=hb
  rcases ha with g | g
  · rw[g] at hb';injection hb' with hb';omega
  · rw[g] at hb';injection hb' with hb';have:=(hrd.lt GD rfl).2;omega⟩
theorem lh (w:World) (xs:List Value) (e:TypeId):∀j u,xs[j]?=some u->(w.alloc (.cells xs.toArray e)).cell? (((Ad w.heap.size 0):Addr).add j)=some u:=fun j u hu=>by
 rw[Addr.add_lit,Nat.zero_add]
 exact B.cell (B.new w xs.toArray e) j (by simpa using hu)
theorem Ba (l:Bool) (a b:Option Addr) (n m c d:Nat):∀u∈bH ⟨l,.slice a n c,.slice b m d⟩,u.oneCell'=true:=fun u hu=>by
 simp[bH] at hu
 rcases hu with rfl | rfl | rfl <;> rfl
theorem Gf {N na np:Nat} {wE:World} {lv:Bool} {vC vE:Value} {s:FM.Sp} (ha:wE.ownsRow N 59 4 vC na ([]++AM.aT s.aw)) (hp:wE.ownsRow N 65 2 vE np ([]++s.aj.flatMap aH)) (hl:lv=s.live) (fB:np=s.aj.length) (eF:na=s.aw.length):eP N wE ⟨lv,vC,vE⟩ s:=by
 subst hl fB eF
 exact⟨rfl,by simpa [AW.Own] using ha,by simpa using hp⟩
theorem rnd {w wr WB wG W':World} {x ob k:Nat} {X Z:Obj} {D:Nat->Prop} {sl:Int} {vr vo v v':Value} {L L':List Lc} {ss:List FM.Sp} {s:FM.Sp} (hx:wr.heap[x]?=some X) (hz:wr.heap[x+1]?=some Z) (hkx:Below wr.heap.size wr WB) (hb:Below w.heap.size w wr) (hm:Mem ob ob WB D sl vr vo v L (ss.take k))
  (hp:Mem ob ob W' (fun b=>ob<=b/\b<wG.heap.size) sl vr vo v' L' (ss.take k++[s])/\Kp (fun b=>b=ob∨blk v b) WB W') (hs:s=FM.ax ss k) (hk:k<ss.length) (hxo:x<ob) (hz1:x+1<ob) (hwo:w.heap.size<=ob) (hsz:wG.heap.size=W'.heap.size) :
  Mem ob ob W' (fun b=>ob<=b/\b<W'.heap.size) sl vr vo v' L' (ss.take (k+1))/\W'.heap[x]?=some X/\W'.heap[x+1]?=some Z/\Below w.heap.size w W':=by
 have e:ss.take (k+1)=ss.take k++[s]:=by
  rw[hs,List.take_add_one]
  unfold FM.ax
  rw[List.getD_eq_getElem?_getD,List.getElem?_eq_getElem hk]
  rfl
 refine⟨?_,?_,?_,?_⟩
 · rw[e,<- hsz];exact hp.1
 · refine hp.2.keep ((hkx.block x (B.isLt hx)).trans hx) (fun g=>?_)
   rcases g with g | g
   · omega
   · have:=(hm.row.lt x g).1;omega
 · refine hp.2.keep ((hkx.block _ (B.isLt hz)).trans hz) (fun g=>?_)
   rcases g with g | g
   · omega
   · have:=(hm.row.lt _ g).1;omega
 · refine Kp.below (hb.trans (hkx.mono hb.size)) hp.2 (Nat.le_trans hb.size hkx.size) (fun b g=>?_)
   rcases g with g | g
   · omega
   · have:=(hm.row.lt b g).1;omega
theorem Y4 (W:World) (o:Obj):Below W.heap.size W (W.alloc o).drew:=((Below.refl _ _).alloc (Nat.le_refl _) _).drew
theorem Wm (W:World) (o o':Obj):Below W.heap.size W ((W.alloc o).alloc o').drew:=(((Below.refl _ _).alloc (Nat.le_refl _) _).alloc (by simp) _).drew
theorem mk4 {N:Nat} {V:World} (h:N<=V.heap.size) (e:TypeId) (size:Nat):(V.alloc (.cells #[] e)).ownsRow N e size (.slice (some (Ad V.heap.size 0)) 0 0) 0 []:=World.ownsRow_made V #[] 0 h (by unfold maxLen;omega) (by simp)
theorem tj {w:World} {base:Nat} {e:TypeId} {size:Nat} {v:Value} {n:Nat} {xs:List Value} (h:w.ownsRow base e size v n xs):w.drew.ownsRow base e size v n xs:=Kp.row (Kp.drew (fun _=>False) w) h (fun _ _ g=>g)
theorem mk1 (W:World) (e:TypeId) (size:Nat):(W.alloc (.cells #[] e)).drew.ownsRow W.heap.size e size (.slice (some (Ad W.heap.size 0)) 0 0) 0 []:=tj (mk4 (Nat.le_refl _) e size)
theorem mk2 (W:World) (e:TypeId) (o:Obj) (size:Nat):((W.alloc (.cells #[] e)).alloc o).drew.ownsRow W.heap.size e size (.slice (some (Ad W.heap.size 0)) 0 0) 0 []:=tj (Kp.row (Kp.alloc (fun _=>False) _ o) (mk4 (Nat.le_refl _) e size) (fun _ _ g=>g))
theorem mk3 (W:World) (e:TypeId) (o:Obj) (size:Nat):((W.alloc o).alloc (.cells #[] e)).drew.ownsRow W.heap.size e size (.slice (some (Ad (W.heap.size+1) 0)) 0 0) 0 []:=by
 have:=mk4 (V:=W.alloc o) (N:=W.heap.size) (by simp) e size
 rw[World.size_alloc] at this
 exact tj this
def KN (w:World) (f:FM.Fl) (e:Ending) (w':World):Prop:=∃mb v L vr vo,e=.returned (.agg #[I f.slots,v,vr,vo])/\w.heap.size<=mb/\Fo mb mb w' f v L vr vo/\Below w.heap.size w w'
theorem vX (f:FM.Fl) (az ar ao:Option Addr) (cs cr co:Nat) (w:World) (h:FW.fK w f az ar ao) (hn:f.ak.length<=1000) (hsp:∀k,k<f.ak.length->(FM.ax f.ak k).aw.length<=100000/\(FM.ax f.ak k).aj.length<=100000) (fh:f.procs.length<=100000) (hno:f.out.length<=100000) :
  Calls Tryz.prog 47 #[.agg (FW.bw f az ar ao cs cr co)] w (KN w f):=by
 have HH:=ai h
 have qN:=ai hsp
 obtain⟨sl,ss,ps,os⟩:=f
 unfold FW.bw
 simp only at HH qN hn fh hno ⊢
 obtain⟨nr,J8⟩:=ex ps.length
 obtain⟨no,Bj⟩:=ex os.length
 have Pp:Hid (∀V,Below w.heap.size w V->From V ar nr (ps.flatMap aI)):=fun V hV=>by rw[J8];exact GH.H8 (HH.o.procs.below hV)
 have HFO:Hid (∀V,Below w.heap.size w V->From V ao no (os.flatMap bR)):=fun V hV=>by rw[Bj];exact GH.Hw (HH.o.out.below hV)
 have HLR:Hid ((ps.flatMap aI).length=nr*13):=by rw[J8];exact bC aI 13 bg _
 have Lp:Hid ((os.flatMap bR).length=no*2):=by rw[Bj];exact bC bR 2 cB _
 have adB:Hid (∀u∈ps.flatMap aI,u.oneCell'=true):=GH.Fg ps
 have adC:Hid (∀u∈os.flatMap bR,u.oneCell'=true):=GH.LD os
 rw[<- J8] at fh ⊢
 rw[<- Bj] at hno ⊢
 have Tp:=ai J8
 have mS:=ai Bj
 have dz:Hid (∀mb v L vr vo w',w.heap.size<=mb->Fo mb mb w' ⟨sl,ss,ps,os⟩ v L vr vo->Below w.heap.size w w'->KN w ⟨sl,ss,ps,os⟩ (.returned (.agg #[I sl,v,vr,vo])) w'):=fun mb v L vr vo w' h1 h2 h3=>⟨mb,v,L,vr,vo,rfl,h1,h2,h3⟩
 clear h hsp J8 Bj
 go_enter Tryz.func47,Tryz.ntmps47
 go_wp2
 have X0:Hid ((((w.alloc (.cells #[I sl,.slice az ss.length cs,.slice ar nr cr,.slice ao no co] 30)).alloc (.cells #[I 0,Nl,Nl,Nl] 30)).alloc (.cells #[I sl,Nl,Nl,Nl] 30)).heap[w.heap.size]?=some (.cells #[I sl,.slice az ss.length cs,.slice ar nr cr,.slice ao no co] 30 (0,0))):=B.alloc (B.alloc (B.new w #[I sl,.slice az ss.length cs,.slice ar nr cr,.slice ao no co] 30) _) _
 have Z0:Hid ((((w.alloc (.cells #[I sl,.slice az ss.length cs,.slice ar nr cr,.slice ao no co] 30)).alloc (.cells #[I 0,Nl,Nl,Nl] 30)).alloc (.cells #[I sl,Nl,Nl,Nl] 30)).heap[w.heap.size+1]?=some (.cells #[I 0,Nl,Nl,Nl] 30 (0,0))):=by
  have:=B.alloc (B.new (w.alloc (.cells #[I sl,.slice az ss.length cs,.slice ar nr cr,.slice ao no co] 30)) #[I 0,Nl,Nl,Nl] 30) (.cells #[I sl,Nl,Nl,Nl] 30)
  rw[World.size_alloc] at this
  exact this
 have O0:Hid ((((w.alloc (.cells #[I sl,.slice az ss.length cs,.slice ar nr cr,.slice ao no co] 30)).alloc (.cells #[I 0,Nl,Nl,Nl] 30)).alloc (.cells #[I sl,Nl,Nl,Nl] 30)).heap[w.heap.size+2]?=some (.cells #[I sl,Nl,Nl,Nl] 30 (0,0))):=by
  have:=B.new ((w.alloc (.cells #[I sl,.slice az ss.length cs,.slice ar nr cr,.slice ao no co] 30)).alloc (.cells #[I 0,Nl,Nl,Nl] 30)) #[I sl,Nl,Nl,Nl] 30
  rw[World.size_alloc,World.size_alloc] at this
  exact this
 have cM:Hid (Below w.heap.size w (((w.alloc (.cells #[I sl,.slice az ss.length cs,.slice ar nr cr,.slice ao no co] 30)).alloc (.cells #[I 0,Nl,Nl,Nl] 30)).alloc (.cells #[I sl,Nl,Nl,Nl] 30))):=(((Below.refl w.heap.size w).alloc (Nat.le_refl _) _).alloc (by simp) _).alloc (by simp;omega) _
 obtain⟨WA,gw⟩:=ex ((((w.alloc (.cells #[I sl,.slice az ss.length cs,.slice ar nr cr,.slice ao no co] 30)).alloc (.cells #[I 0,Nl,Nl,Nl] 30)).alloc (.cells #[I sl,Nl,Nl,Nl] 30)))
 rw[<- gw] at X0 Z0 O0 cM ⊢
 obtain⟨ob,Ct⟩:=ex (w.heap.size+2)
 obtain⟨x,hx⟩:=ex w.heap.size
 have hxo:x<ob:=by omega
 have hwo:w.heap.size<=ob:=by omega
 have hz1:x+1<ob:=by omega
 rw[<- Ct] at O0 ⊢
 rw[<- hx] at X0 Z0 ⊢
 have HXE:=ai hx
 clear gw Ct hx
 obtain⟨ns,hns⟩:=ex ss.length
 rw[<- hns] at X0 hn ⊢
 have qP:=ai hns
 clear hns
 obtain⟨ia,a0,a1,a2,a3⟩:=info_parts MT
 obtain⟨ip,b0,b1,b2,b3⟩:=info_parts ry
 obtain⟨is,d0,d1,d2,d3⟩:=info_parts GF.Bh
 have Sd:=ai a0
 have Sc:=ai a1
 have Sb:=ai a2
 have Sa:=ai a3
 have R9:=ai b0
 have R8:=ai b1
 have R7:=ai b2
 have R6:=ai b3
 have KW:=ai d0
 have KV:=ai d1
 have KU:=ai d2
 have KT:=ai d3
 clear a0 a1 a2 a3 b0 b1 b2 b3 d0 d1 d2 d3
 go_loopw [4] (fun iv wr=>∃(k:Nat) (v:Value) (L:List Lc),k<=ns/\iv=I (k:Int)/\Mem ob ob wr (fun b=>ob<=b/\b<wr.heap.size) sl Nl Nl v L (ss.take k)/\wr.heap[x]?=some (.cells #[I sl,.slice az ns cs,.slice ar nr cr,.slice ao no co] 30 (0,0))/\wr.heap[x+1]?=some (.cells #[I 0,Nl,Nl,Nl] 30 (0,0))/\Below w.heap.size w wr) (fun iv _=>ns-(intOf iv).toNat)
 case atStart=>exact⟨0,Nl,[],by omega,rfl,A6 O0.o (Nat.le_refl _) ⟨Nat.le_refl _,B.isLt O0.o⟩,X0.o,Z0.o,cM.o⟩
 case round =>
  obtain⟨k,v,L,hk,rfl,hm,Xt,hzz,hb⟩:=hrel
  have HM:=ai hm
  have HB:=ai hb
  have HX:=ai Xt
  have HZ:=ai hzz
  have hlk:L.length=k:=by rw[hm.len,List.length_take];have:=qP.o;omega
  have hol:=B.isLt hm.head
  have x1:wr.cell? (Ad x 1)=some (.slice az ns cs):=B.cell Xt 1 rfl
  clear X0 Z0 O0 cM hzz
  by_cases hlt:k<ns
  · obtain⟨b,off,hao,hbl,bP⟩:=HH.o.ak (show 0<ss.length by rw[<- qP.o];omega)
    subst hao
    obtain⟨va,ap,cp,e0,e1,e2,c3,c4,c5⟩:=bP k (by rw[<- qP.o];omega)
    have c0:=(M.aA hb hbl).trans e0
    have c1:=(M.aA hb hbl).trans e1
    have c2:=(M.aA hb hbl).trans e2
    clear e0 e1 e2
    have hsk:=qN.o k (by rw[<- qP.o];omega)
    obtain⟨aa,na,ca,rfl⟩:=FW.J1 c3
    obtain⟨s,hs⟩:=ex (FM.ax ss k)
    rw[<- hs] at c0 c2 c3 c4 c5 hsk
    obtain⟨lv,hlv⟩:=ex s.live
    obtain⟨np,fB⟩:=ex s.aj.length
    rw[<- hlv] at c0
    rw[<- fB] at c2 hsk
    have jd:(k:Int)<(ns:Int):=by omega
    have qA:=ai hlv
    have uv:=ai fB
    have Ll:=ai hs
    clear hs bP hm Xt hlv fB
    go_wp2_with fail
    have Cl:=ai ((Below.refl wr.heap.size wr).alloc (Nat.le_refl _) (.cells #[.bool lv,.slice aa na ca,.slice ap np cp] 53))
    have SB:=ai (B.new wr #[.bool lv,.slice aa na ca,.slice ap np cp] 53)
    have mW:=ai (HM.o.below Cl.o)
    obtain⟨WB,YH⟩:=ex (wr.alloc (.cells #[.bool lv,.slice aa na ca,.slice ap np cp] 53))
    rw[<- YH] at Cl SB mW ⊢
    obtain⟨sb,jN⟩:=ex wr.heap.size
    rw[<- jN] at SB ⊢
    have hsv:∀b,blk v b->b<sb:=fun b hb2=>by rw[jN];exact(HM.o.row.lt b hb2).2
    have hlo:ob<=WB.heap.size:=Nat.le_trans (Nat.le_of_lt hol) Cl.o.size
    clear YH jN
    have cI:Hid (∀V,Kp (fun b=>blk v b) WB V->V.cell? (Ad ob 1)=some v/\V.cell? (Ad sb 0)=some (.bool lv)/\V.cell? (Ad sb 1)=some (.slice aa na ca)/\V.cell? (Ad sb 2)=some (.slice ap np cp)):=fun V hV=>⟨hV.cell (B.cell mW.o.head 1 rfl) mW.o.n1,hV.cell (B.cell SB.o 0 rfl) (fun g=>Nat.lt_irrefl _ (hsv _ g)),hV.cell (B.cell SB.o 1 rfl) (fun g=>Nat.lt_irrefl _ (hsv _ g)),hV.cell (B.cell SB.o 2 rfl) (fun g=>Nat.lt_irrefl _ (hsv _ g))⟩
    have cw:Hid (Kp (fun b=>blk v b) WB WB.drew):=Kp.drew _ _
    have oI:Hid (∀V,Kp (fun b=>blk v b) WB V->Below w.heap.size w V):=fun V hV=>Kp.below (HB.o.trans (Cl.o.mono HB.o.size)) hV (Nat.le_trans HB.o.size Cl.o.size) (fun g hg=>Nat.le_trans hwo (HM.o.row.lt g hg).1)
    have jk:Hid (∀V,Kp (fun b=>blk v b) WB V->From V aa na (AM.aT s.aw)):=fun V hV=>(GF.nY (c3.below (oI.o V hV))).2
    have eF:na=s.aw.length:=(GF.nY c3).1
    have HNA:=ai eF
    have OM:Hid ((AM.aT s.aw).length=na*4):=by rw[eF];exact AM.gN _
    have Vt:Hid (∀u∈AM.aT s.aw,u.oneCell'=true):=AM.gj _
    have ahT:na<=100000:=by rw[eF];exact hsk.1
    have ahR:np<=100000:=hsk.2
    clear eF
    have KA:Hid (∀V o,Kp (fun b=>blk v b) WB V->Kp (fun b=>blk v b) WB (V.alloc o)):=fun V o h=>h.trans (Kp.alloc (fun b=>blk v b) V o) (fun _ _ g=>g)
    have KB:Hid (∀V,Below WB.heap.size WB V->Kp (fun b=>blk v b) WB V):=fun V h=>Kp.aF h
    have kj:Hid (∀V,Kp (fun b=>blk v b) WB V->From V ap np (s.aj.flatMap aH)):=fun V hV=>by rw[uv.o];exact GF.xd (c4.below (oI.o V hV))
    have Vz:Hid ((s.aj.flatMap aH).length=np*2):=by rw[uv.o];exact bC aH 2 (fun _=>rfl) _
    have HOP:Hid (∀u∈s.aj.flatMap aH,u.oneCell'=true):=GF.jE _
    refine GZ.lV (S:=fun V=>Kp (fun b=>blk v b) WB V) (z:=16) (by kernel_rfl) ?_
    refine GZ.tk 0 cw.o ?_ ?_ ?_
    rotate_left 1
    · intro V hSw
      obtain⟨k0,k1,k2,k3⟩:=cI.o V hSw
      go_simp
      try with_reducible rfl
    refine GZ.tk 1 cw.o ?_ ?_ ?_
    rotate_left 1
    · intro V hSw
      obtain⟨k0,k1,k2,k3⟩:=cI.o V hSw
      go_simp
      try with_reducible rfl
    refine GZ.tk 2 cw.o ?_ ?_ ?_
    rotate_left 1
    · intro V hSw
      obtain⟨k0,k1,k2,k3⟩:=cI.o V hSw
      go_simp
      try with_reducible rfl
    refine GZ.tk 3 cw.o ?_ ?_ ?_
    rotate_left 1
    · intro V hSw
      obtain⟨k0,k1,k2,k3⟩:=cI.o V hSw
      go_simp
      try with_reducible rfl
    refine GZ.tk 5 cw.o ?_ ?_ ?_
    rotate_left 1
    · intro V hSw
      obtain⟨k0,k1,k2,k3⟩:=cI.o V hSw
      go_simp
      try with_reducible rfl
    refine GZ.tk 6 cw.o ?_ ?_ ?_
    rotate_left 1
    · intro V hSw
      obtain⟨k0,k1,k2,k3⟩:=cI.o V hSw
      go_simp
      try with_reducible rfl
    refine GZ.tk 9 cw.o ?_ ?_ ?_
    rotate_left 1
    · intro V hSw
      obtain⟨k0,k1,k2,k3⟩:=cI.o V hSw
      go_simp
      try with_reducible rfl
    refine GZ.tk 10 cw.o ?_ ?_ ?_
    rotate_left 1
    · intro V hSw
      obtain⟨k0,k1,k2,k3⟩:=cI.o V hSw
      go_simp
      try with_reducible rfl
    refine GZ.all (rs:=[4,8]) (by kernel_rfl) (by simp) ?_
    refine GZ.bI.cons rfl (fun K hK=>?_) ?_
    · go_simp
      refine hK.out _ _ (fun _=>?_) ?_
      · exact KB.o _ (Y4 WB _)
      clear hK K
      try simp only[Act.put,List.setIfInBounds_toArray,List.set_cons_zero,List.set_cons_succ]
      refine GZ.all (rs:=[7,8]) (by kernel_rfl) (by simp) ?_
      refine GZ.bI.cons rfl (fun K hK=>?_) ?_
      · rw[if_pos (by rfl)];refine cD (P:=Tryz.prog) _ _ 22 rfl WB.heap.size 59 ia (.agg #[I 0,I 0,I 0,.bool false]) 4 32 Tryz.underlying22 Sd.o Sc.o Sb.o Sa.o rfl (by decide) (.slice (some (Ad WB.heap.size 0)) 0 0) 0 [] rfl (mk1 WB _ _) aa na ca (AM.aT s.aw) rfl OM.o (jk.o _ (KB.o _ (Y4 WB _))) Vt.o (by unfold maxLen;omega) (by omega) (by first | omega | (simp;done) | (simp;omega)) ?_;intro vC wC Ir S5 UQ;rw[Nat.zero_add] at Ir;obtain⟨aC,cC,XB,_,_⟩:=aL Ir;subst XB;have l9:Hid (Below WB.heap.size WB wC):=mB (Y4 WB _) (Nat.le_refl _) S5 (fun g hg=>by have hg':some WB.heap.size=some g:=hg;injection hg' with hg';exact Nat.le_of_eq hg');have Av:=ai Ir;clear Ir S5 UQ
        refine hK.out _ _ (fun _=>?_) ?_
        · exact KB.o _ l9.o
        clear hK K
        try simp only[Act.put,List.setIfInBounds_toArray,List.set_cons_zero,List.set_cons_succ]
        refine GZ.all (rs:=[8]) (by kernel_rfl) (by simp) ?_
        refine GZ.bI.cons rfl (fun K hK=>?_) ?_
        · go_simp
          refine hK.out _ _ (fun _=>?_) ?_
          · exact KB.o _ (l9.o.alloc l9.o.size _)
          clear hK K
          try simp only[Act.put,List.setIfInBounds_toArray,List.set_cons_zero,List.set_cons_succ]
          refine GZ.all (rs:=[11]) (by kernel_rfl) (by simp) ?_
          refine GZ.bI.cons rfl (fun K hK=>?_) ?_
          · rw[if_pos (by rfl)];refine cD (P:=Tryz.prog) _ _ 51 rfl WB.heap.size 65 ip (.agg #[I 0,.string ⟨#[]⟩]) 2 24 Tryz.underlying51 R9.o R8.o R7.o R6.o rfl (by decide) (.slice (some (Ad wC.heap.size 0)) 0 0) 0 [] rfl (mk4 l9.o.size _ _) ap np cp (s.aj.flatMap aH) rfl Vz.o (kj.o _ (KB.o _ (l9.o.alloc l9.o.size _))) HOP.o (by unfold maxLen;omega) (by omega) (by rw[World.size_alloc];have:=l9.o.size;omega) ?_;intro vE wE Iq S4 S7;rw[Nat.zero_add] at Iq;obtain⟨aE,cE,Xz,_,_⟩:=aL Iq;subst Xz;have nz:=ai (LO (l9.o.alloc l9.o.size _) (Nat.le_refl _) (Kp.row (Kp.alloc (fun _=>False) wC _) Av.o (fun _ _ g=>g)) l9.o.size (fun b hb=>Nat.ne_of_lt (Av.o.lt b hb).2) S4 S7);clear l9 Av;have uu:=ai (KB.o _ nz.o.1);have ki:=ai Iq;clear Iq S4 S7
            refine hK.out _ _ (fun _=>?_) ?_
            · exact uu.o
            clear hK K
            try simp only[Act.put,List.setIfInBounds_toArray,List.set_cons_zero,List.set_cons_succ]
            refine GZ.tk 12 uu.o ?_ ?_ ?_
            rotate_left 1
            · intro V hSw
              obtain⟨k0,k1,k2,k3⟩:=cI.o V hSw
              go_simp
              try with_reducible rfl
            refine GZ.all (rs:=[13]) (by kernel_rfl) (by simp) ?_
            refine GZ.bI.cons rfl (fun K hK=>?_) ?_
            · go_simp
              refine hK.out _ _ (fun _=>?_) ?_
              · exact KB.o _ (nz.o.1.alloc nz.o.1.size _)
              clear hK K
              try simp only[Act.put,List.setIfInBounds_toArray,List.set_cons_zero,List.set_cons_succ]
              refine GZ.all (rs:=[14]) (by kernel_rfl) (by simp) ?_
              refine GZ.bI.cons rfl (fun K hK=>?_) ?_
              · rw[if_pos (by rfl)];refine cD (P:=Tryz.prog) _ _ 26 rfl ob 53 is (.agg #[.bool false,Nl,Nl]) 3 56 Tryz.underlying26 KW.o KV.o KU.o KT.o rfl (by decide) (v) L.length (L.flatMap bH) rfl (Kp.row (Kp.aF (D:=fun _=>False) (nz.o.1.alloc nz.o.1.size _)) mW.o.row (fun _ _ g=>g)) (some (Ad wE.heap.size 0)) 1 1 (bH ⟨lv,.slice aC na cC,.slice aE np cE⟩) rfl rfl (fun _=>⟨_,rfl,lh wE _ _⟩) (Ba _ _ _ _ _ _ _) (by unfold maxLen;omega) (by omega) (by rw[World.size_alloc];have:=nz.o.1.size;omega) ?_;intro vG wG xC uQ Dy;obtain⟨aG,cG,M0,_,_⟩:=aL xC;subst M0;have zu:=ai (mW.o.push (D':=fun b=>ob<=b/\b<wG.heap.size) hlo nz.o.1 (Gf nz.o.2.1 ki.o qA.o uv.o HNA.o) nz.o.2.2 uQ xC Dy (fun b hb=>⟨hb.1,by have:=mW.o;have:=uQ.size;have:=nz.o.1.size;have:=Cl.o.size;simp at *;omega⟩) (fun b h1 h2=>⟨by omega,h2⟩));have qO:Hid (Kp (fun b=>blk v b) WB wG):=(KB.o _ (nz.o.1.alloc nz.o.1.size _)).trans (Kp.grown uQ (fun _ e=>e)) (fun _ _ g=>g);have V6:=(cI.o wG qO.o).1;have hof:wG.frozen? (Ad ob 1)=false:=B.free (qO.o.keep mW.o.head mW.o.n1) 1;clear xC uQ Dy nz uu ki
                refine hK.out _ _ (fun _=>?_) ?_
                · exact qO.o
                clear hK K
                try simp only[Act.put,List.setIfInBounds_toArray,List.set_cons_zero,List.set_cons_succ]
                refine GZ.tk 15 qO.o ?_ ?_ ?_
                rotate_left 1
                · intro V hSw
                  obtain⟨k0,k1,k2,k3⟩:=cI.o V hSw
                  go_simp
                  try with_reducible rfl
                refine GZ.all (rs:=[16]) (by kernel_rfl) (by simp) ?_
                refine GZ.bI.cons rfl (fun K hK=>?_) GZ.bI.nil
                go_simp
                refine hK.out _ _ (fun g=>absurd rfl g) ?_
                refine GZ.done (by kernel_rfl) ?_ _
                go_wp2
                go_roundw
                case rel =>
                 exact⟨k+1,.slice aG (k+1) cG,L++[⟨lv,.slice aC na cC,.slice aE np cE⟩],by omega,by go_num,rnd HX.o HZ.o Cl.o HB.o mW.o (by have h:=zu.o;rw[hlk] at h;exact h) Ll.o (by rw[<- qP.o];exact hlt) hxo hz1 hwo (by simp)⟩
                case measure=>simp[intOf];omega
              exact GZ.bI.nil
            exact GZ.bI.nil
          exact GZ.bI.nil
        exact GZ.bI.nil
      refine GZ.bI.cons rfl (fun K hK=>?_) ?_
      · go_simp
        refine hK.out _ _ (fun _=>?_) ?_
        · exact KB.o _ (Wm WB _ _)
        clear hK K
        try simp only[Act.put,List.setIfInBounds_toArray,List.set_cons_zero,List.set_cons_succ]
        refine GZ.all (rs:=[7]) (by kernel_rfl) (by simp) ?_
        refine GZ.bI.cons rfl (fun K hK=>?_) ?_
        · rw[if_pos (by rfl)];refine cD (P:=Tryz.prog) _ _ 22 rfl WB.heap.size 59 ia (.agg #[I 0,I 0,I 0,.bool false]) 4 32 Tryz.underlying22 Sd.o Sc.o Sb.o Sa.o rfl (by decide) (.slice (some (Ad WB.heap.size 0)) 0 0) 0 [] rfl (mk2 WB _ _ _) aa na ca (AM.aT s.aw) rfl OM.o (jk.o _ (KB.o _ (Wm WB _ _))) Vt.o (by unfold maxLen;omega) (by omega) (by first | omega | (simp;done) | (simp;omega)) ?_;intro vC wC Ir S5 UQ;rw[Nat.zero_add] at Ir;obtain⟨aC,cC,XB,_,_⟩:=aL Ir;subst XB;have G8:=ai (SK (GB:=WB.heap.size) (GD:=WB.heap.size+1) (Wm WB _ _) (Nat.le_refl _) (mk3 WB _ _ 2) (by omega) (by omega) S5 UQ);have Av:=ai Ir;clear Ir S5 UQ
          refine hK.out _ _ (fun _=>?_) ?_
          · exact KB.o _ G8.o.1
          clear hK K
          try simp only[Act.put,List.setIfInBounds_toArray,List.set_cons_zero,List.set_cons_succ]
          refine GZ.all (rs:=[11]) (by kernel_rfl) (by simp) ?_
          refine GZ.bI.cons rfl (fun K hK=>?_) ?_
          · rw[if_pos (by rfl)];refine cD (P:=Tryz.prog) _ _ 51 rfl WB.heap.size 65 ip (.agg #[I 0,.string ⟨#[]⟩]) 2 24 Tryz.underlying51 R9.o R8.o R7.o R6.o rfl (by decide) (.slice (some (Ad (WB.heap.size+1) 0)) 0 0) 0 [] rfl G8.o.2.1 ap np cp (s.aj.flatMap aH) rfl Vz.o (kj.o _ (KB.o _ G8.o.1)) HOP.o (by unfold maxLen;omega) (by omega) G8.o.1.size ?_;intro vE wE Iq S4 S7;rw[Nat.zero_add] at Iq;obtain⟨aE,cE,Xz,_,_⟩:=aL Iq;subst Xz;have nz:=ai (LO G8.o.1 (Nat.le_refl _) Av.o (by first | exact Nat.le_refl _ | exact Nat.le_succ _) G8.o.2.2 S4 S7);clear G8 Av;have uu:=ai (KB.o _ nz.o.1);have ki:=ai Iq;clear Iq S4 S7
            refine hK.out _ _ (fun _=>?_) ?_
            · exact uu.o
            clear hK K
            try simp only[Act.put,List.setIfInBounds_toArray,List.set_cons_zero,List.set_cons_succ]
            refine GZ.tk 12 uu.o ?_ ?_ ?_
            rotate_left 1
            · intro V hSw
              obtain⟨k0,k1,k2,k3⟩:=cI.o V hSw
              go_simp
              try with_reducible rfl
            refine GZ.all (rs:=[13]) (by kernel_rfl) (by simp) ?_
            refine GZ.bI.cons rfl (fun K hK=>?_) ?_
            · go_simp
              refine hK.out _ _ (fun _=>?_) ?_
              · exact KB.o _ (nz.o.1.alloc nz.o.1.size _)
              clear hK K
              try simp only[Act.put,List.setIfInBounds_toArray,List.set_cons_zero,List.set_cons_succ]
              refine GZ.all (rs:=[14]) (by kernel_rfl) (by simp) ?_
              refine GZ.bI.cons rfl (fun K hK=>?_) ?_
              · rw[if_pos (by rfl)];refine cD (P:=Tryz.prog) _ _ 26 rfl ob 53 is (.agg #[.bool false,Nl,Nl]) 3 56 Tryz.underlying26 KW.o KV.o KU.o KT.o rfl (by decide) (v) L.length (L.flatMap bH) rfl (Kp.row (Kp.aF (D:=fun _=>False) (nz.o.1.alloc nz.o.1.size _)) mW.o.row (fun _ _ g=>g)) (some (Ad wE.heap.size 0)) 1 1 (bH ⟨lv,.slice aC na cC,.slice aE np cE⟩) rfl rfl (fun _=>⟨_,rfl,lh wE _ _⟩) (Ba _ _ _ _ _ _ _) (by unfold maxLen;omega) (by omega) (by rw[World.size_alloc];have:=nz.o.1.size;omega) ?_;intro vG wG xC uQ Dy;obtain⟨aG,cG,M0,_,_⟩:=aL xC;subst M0;have zu:=ai (mW.o.push (D':=fun b=>ob<=b/\b<wG.heap.size) hlo nz.o.1 (Gf nz.o.2.1 ki.o qA.o uv.o HNA.o) nz.o.2.2 uQ xC Dy (fun b hb=>⟨hb.1,by have:=mW.o;have:=uQ.size;have:=nz.o.1.size;have:=Cl.o.size;simp at *;omega⟩) (fun b h1 h2=>⟨by omega,h2⟩));have qO:Hid (Kp (fun b=>blk v b) WB wG):=(KB.o _ (nz.o.1.alloc nz.o.1.size _)).trans (Kp.grown uQ (fun _ e=>e)) (fun _ _ g=>g);have V6:=(cI.o wG qO.o).1;have hof:wG.frozen? (Ad ob 1)=false:=B.free (qO.o.keep mW.o.head mW.o.n1) 1;clear xC uQ Dy nz uu ki
                refine hK.out _ _ (fun _=>?_) ?_
                · exact qO.o
                clear hK K
                try simp only[Act.put,List.setIfInBounds_toArray,List.set_cons_zero,List.set_cons_succ]
                refine GZ.tk 15 qO.o ?_ ?_ ?_
                rotate_left 1
                · intro V hSw
                  obtain⟨k0,k1,k2,k3⟩:=cI.o V hSw
                  go_simp
                  try with_reducible rfl
                refine GZ.all (rs:=[16]) (by kernel_rfl) (by simp) ?_
                refine GZ.bI.cons rfl (fun K hK=>?_) GZ.bI.nil
                go_simp
                refine hK.out _ _ (fun g=>absurd rfl g) ?_
                refine GZ.done (by kernel_rfl) ?_ _
                go_wp2
                go_roundw
                case rel =>
                 exact⟨k+1,.slice aG (k+1) cG,L++[⟨lv,.slice aC na cC,.slice aE np cE⟩],by omega,by go_num,rnd HX.o HZ.o Cl.o HB.o mW.o (by have h:=zu.o;rw[hlk] at h;exact h) Ll.o (by rw[<- qP.o];exact hlt) hxo hz1 hwo (by simp)⟩
                case measure=>simp[intOf];omega
              exact GZ.bI.nil
            exact GZ.bI.nil
          exact GZ.bI.nil
        exact GZ.bI.nil
      exact GZ.bI.nil
    refine GZ.bI.cons rfl (fun K hK=>?_) ?_
    · go_simp
      refine hK.out _ _ (fun _=>?_) ?_
      · exact KB.o _ (Y4 WB _)
      clear hK K
      try simp only[Act.put,List.setIfInBounds_toArray,List.set_cons_zero,List.set_cons_succ]
      refine GZ.all (rs:=[4]) (by kernel_rfl) (by simp) ?_
      refine GZ.bI.cons rfl (fun K hK=>?_) ?_
      · go_simp
        refine hK.out _ _ (fun _=>?_) ?_
        · exact KB.o _ (Wm WB _ _)
        clear hK K
        try simp only[Act.put,List.setIfInBounds_toArray,List.set_cons_zero,List.set_cons_succ]
        refine GZ.all (rs:=[7]) (by kernel_rfl) (by simp) ?_
        refine GZ.bI.cons rfl (fun K hK=>?_) ?_
        · rw[if_pos (by rfl)];refine cD (P:=Tryz.prog) _ _ 22 rfl WB.heap.size 59 ia (.agg #[I 0,I 0,I 0,.bool false]) 4 32 Tryz.underlying22 Sd.o Sc.o Sb.o Sa.o rfl (by decide) (.slice (some (Ad (WB.heap.size+1) 0)) 0 0) 0 [] rfl (mk3 WB _ _ _) aa na ca (AM.aT s.aw) rfl OM.o (jk.o _ (KB.o _ (Wm WB _ _))) Vt.o (by unfold maxLen;omega) (by omega) (by first | omega | (simp;done) | (simp;omega)) ?_;intro vC wC Ir S5 UQ;rw[Nat.zero_add] at Ir;obtain⟨aC,cC,XB,_,_⟩:=aL Ir;subst XB;have G8:=ai (SK (GB:=WB.heap.size+1) (GD:=WB.heap.size) (Wm WB _ _) (Nat.le_refl _) (mk2 WB _ _ 2) (by omega) (by omega) S5 UQ);have Av:=ai Ir;clear Ir S5 UQ
          refine hK.out _ _ (fun _=>?_) ?_
          · exact KB.o _ G8.o.1
          clear hK K
          try simp only[Act.put,List.setIfInBounds_toArray,List.set_cons_zero,List.set_cons_succ]
          refine GZ.all (rs:=[11]) (by kernel_rfl) (by simp) ?_
          refine GZ.bI.cons rfl (fun K hK=>?_) ?_
          · rw[if_pos (by rfl)];refine cD (P:=Tryz.prog) _ _ 51 rfl WB.heap.size 65 ip (.agg #[I 0,.string ⟨#[]⟩]) 2 24 Tryz.underlying51 R9.o R8.o R7.o R6.o rfl (by decide) (.slice (some (Ad WB.heap.size 0)) 0 0) 0 [] rfl G8.o.2.1 ap np cp (s.aj.flatMap aH) rfl Vz.o (kj.o _ (KB.o _ G8.o.1)) HOP.o (by unfold maxLen;omega) (by omega) G8.o.1.size ?_;intro vE wE Iq S4 S7;rw[Nat.zero_add] at Iq;obtain⟨aE,cE,Xz,_,_⟩:=aL Iq;subst Xz;have nz:=ai (LO G8.o.1 (Nat.le_refl _) Av.o (by first | exact Nat.le_refl _ | exact Nat.le_succ _) G8.o.2.2 S4 S7);clear G8 Av;have uu:=ai (KB.o _ nz.o.1);have ki:=ai Iq;clear Iq S4 S7
            refine hK.out _ _ (fun _=>?_) ?_
            · exact uu.o
            clear hK K
            try simp only[Act.put,List.setIfInBounds_toArray,List.set_cons_zero,List.set_cons_succ]
            refine GZ.tk 12 uu.o ?_ ?_ ?_
            rotate_left 1
            · intro V hSw
              obtain⟨k0,k1,k2,k3⟩:=cI.o V hSw
              go_simp
              try with_reducible rfl
            refine GZ.all (rs:=[13]) (by kernel_rfl) (by simp) ?_
            refine GZ.bI.cons rfl (fun K hK=>?_) ?_
            · go_simp
              refine hK.out _ _ (fun _=>?_) ?_
              · exact KB.o _ (nz.o.1.alloc nz.o.1.size _)
              clear hK K
              try simp only[Act.put,List.setIfInBounds_toArray,List.set_cons_zero,List.set_cons_succ]
              refine GZ.all (rs:=[14]) (by kernel_rfl) (by simp) ?_
              refine GZ.bI.cons rfl (fun K hK=>?_) ?_
              · rw[if_pos (by rfl)];refine cD (P:=Tryz.prog) _ _ 26 rfl ob 53 is (.agg #[.bool false,Nl,Nl]) 3 56 Tryz.underlying26 KW.o KV.o KU.o KT.o rfl (by decide) (v) L.length (L.flatMap bH) rfl (Kp.row (Kp.aF (D:=fun _=>False) (nz.o.1.alloc nz.o.1.size _)) mW.o.row (fun _ _ g=>g)) (some (Ad wE.heap.size 0)) 1 1 (bH ⟨lv,.slice aC na cC,.slice aE np cE⟩) rfl rfl (fun _=>⟨_,rfl,lh wE _ _⟩) (Ba _ _ _ _ _ _ _) (by unfold maxLen;omega) (by omega) (by rw[World.size_alloc];have:=nz.o.1.size;omega) ?_;intro vG wG xC uQ Dy;obtain⟨aG,cG,M0,_,_⟩:=aL xC;subst M0;have zu:=ai (mW.o.push (D':=fun b=>ob<=b/\b<wG.heap.size) hlo nz.o.1 (Gf nz.o.2.1 ki.o qA.o uv.o HNA.o) nz.o.2.2 uQ xC Dy (fun b hb=>⟨hb.1,by have:=mW.o;have:=uQ.size;have:=nz.o.1.size;have:=Cl.o.size;simp at *;omega⟩) (fun b h1 h2=>⟨by omega,h2⟩));have qO:Hid (Kp (fun b=>blk v b) WB wG):=(KB.o _ (nz.o.1.alloc nz.o.1.size _)).trans (Kp.grown uQ (fun _ e=>e)) (fun _ _ g=>g);have V6:=(cI.o wG qO.o).1;have hof:wG.frozen? (Ad ob 1)=false:=B.free (qO.o.keep mW.o.head mW.o.n1) 1;clear xC uQ Dy nz uu ki
                refine hK.out _ _ (fun _=>?_) ?_
                · exact qO.o
                clear hK K
                try simp only[Act.put,List.setIfInBounds_toArray,List.set_cons_zero,List.set_cons_succ]
                refine GZ.tk 15 qO.o ?_ ?_ ?_
                rotate_left 1
                · intro V hSw
                  obtain⟨k0,k1,k2,k3⟩:=cI.o V hSw
                  go_simp
                  try with_reducible rfl
                refine GZ.all (rs:=[16]) (by kernel_rfl) (by simp) ?_
                refine GZ.bI.cons rfl (fun K hK=>?_) GZ.bI.nil
                go_simp
                refine hK.out _ _ (fun g=>absurd rfl g) ?_
                refine GZ.done (by kernel_rfl) ?_ _
                go_wp2
                go_roundw
                case rel =>
                 exact⟨k+1,.slice aG (k+1) cG,L++[⟨lv,.slice aC na cC,.slice aE np cE⟩],by omega,by go_num,rnd HX.o HZ.o Cl.o HB.o mW.o (by have h:=zu.o;rw[hlk] at h;exact h) Ll.o (by rw[<- qP.o];exact hlt) hxo hz1 hwo (by simp)⟩
                case measure=>simp[intOf];omega
              exact GZ.bI.nil
            exact GZ.bI.nil
          exact GZ.bI.nil
        exact GZ.bI.nil
      exact GZ.bI.nil
    exact GZ.bI.nil
  · obtain rfl:k=ns:=by omega
    have OH:Hid (Mem ob ob wr (fun b=>ob<=b/\b<wr.heap.size) sl Nl Nl v L ss):=by
     have h:=HM.o
     rw[qP.o,List.take_length] at h
     exact h
    clear HM
    obtain⟨aS,cS,hvS,_,_⟩:=aL OH.o.row
    rw[hlk] at hvS
    subst hvS
    obtain⟨ir,r0,r1,r2,r3⟩:=info_parts Bg
    obtain⟨io,s0,s1,s2,s3⟩:=info_parts Bf
    have KR:=ai r0
    have Tk:=ai r1
    have lu:=ai r2
    have Hb:=ai r3
    have Zy:=ai s0
    have Lm:=ai s1
    have Ci:=ai s2
    have Vu:=ai s3
    have y2:wr.cell? (Ad x 2)=some (.slice ar nr cr):=B.cell Xt 2 rfl
    have y3:wr.cell? (Ad ob 2)=some Nl:=B.cell hm.head 2 rfl
    clear r0 r1 r2 r3 s0 s1 s2 s3 hm Xt Sd Sc Sb Sa R9 R8 R7 R6 KW KV KU KT qN HH
    have ahv:¬x=ob:=by omega
    have ahO:¬ob=x:=by omega
    have Xr:¬x+1=ob:=by omega
    have ahN:¬ob=x+1:=by omega
    go_wp2_with
     first
     | (at_builtin;refine b7 (P:=Tryz.prog) rfl _ _ 27 rfl ob 70 ir (.agg #[I 0,I 0,I 0,I 0,I 0,I 0,I 0,I 0,I 0,I 0,I 0,I 0,I 0]) 13 104 Tryz.underlying27 KR.o Tk.o lu.o Hb.o rfl (by decide) Nl 0 [] (by rfl) (World.ownsRow_nil _ _ _ _) ar nr cr (ps.flatMap aI) (by rfl) HLR.o (Pp.o _ HB.o) adB.o (by unfold maxLen;omega) (by omega) (Nat.le_of_lt hol) ?_;intro vR w1 hoR hgR haR;rw[Nat.zero_add] at hoR;obtain⟨aR,cR,hvR,_,_⟩:=aL hoR;subst hvR;have Cn:=ai hgR;have HOR:=ai hoR;have HAR:=ai haR;have bj:=ai (jB hgR);clear hgR hoR haR;have hh1:=B.below OH.o.head bj.o hol;have xI:w1.frozen? (Ad ob 2)=false:=B.free hh1 2;have y4:w1.cell? (Ad ob 2)=some Nl:=B.cell hh1 2 rfl;have y5:w1.cell? (Ad ob 3)=some Nl:=B.cell hh1 3 rfl;have hx1:=B.below HX.o bj.o (B.isLt HX.o);have y6:w1.cell? (Ad x 3)=some (.slice ao no co):=B.cell hx1 3 rfl;clear hh1 hx1;have bW:Hid (Below w.heap.size w (w1.setCell (Ad ob 2) (.slice aR nr cR))):=(HB.o.trans (bj.o.mono HB.o.size)).setCell (p:=(Ad ob 2)) hwo _)
     | (at_builtin;refine b7 (P:=Tryz.prog) rfl _ _ 28 rfl ob 78 io (.agg #[I 0,I 0]) 2 16 Tryz.underlying28 Zy.o Lm.o Ci.o Vu.o rfl (by decide) Nl 0 [] (by rfl) (World.ownsRow_nil _ _ _ _) ao no co (os.flatMap bR) (by rfl) Lp.o (HFO.o _ bW.o) adC.o (by unfold maxLen;omega) (by omega) (by have:=bj.o.size;simp;omega) ?_;intro vO w2 hoO Yk haO;rw[Nat.zero_add] at hoO;obtain⟨aO,cO,hvO,_,_⟩:=aL hoO;subst hvO;have hh2:w2.heap[ob]?=some (.cells #[I sl,.slice aS k cS,.slice aR nr cR,Nl] 30 (0,0)):=B.below (B.set (B.below OH.o.head bj.o hol) 2 (.slice aR nr cR)) (jB Yk) (by have:=bj.o.size;simp;omega);have hf2:w2.frozen? (Ad ob 3)=false:=B.free hh2 3;obtain⟨p0,p1,p2,p3⟩:=B.c4 hh2;have HOO:=ai hoO;have Tw:=ai Yk;have O2:=ai haO;have fH:=ai (bW.o.trans ((jB Yk).mono bW.o.size));have hz2:w2.heap[x+1]?=some (.cells #[I 0,Nl,Nl,Nl] 30 (0,0)):=B.below (B.other (B.below HZ.o bj.o (B.isLt HZ.o)) ob 2 _ Xr) (jB Yk) (by have:=bj.o.size;have:=B.isLt HZ.o;simp;omega);have q0:=B.free hz2 0;have q1:=B.free hz2 1;have q2:=B.free hz2 2;have q3:=B.free hz2 3;obtain⟨z0,z1,z2,z3⟩:=B.c4 hz2;clear hoO Yk haO hh2)
    refine bodyPost_ret (v:=?_) ?_ rfl ?_
    rotate_left 2
    · have hfo:=UZ (ps:=ps) (os:=os) OH.o Cn.o (by rw[<- Tp.o];exact HOR.o) HAR.o Tw.o (by rw[<- mS.o];exact HOO.o) O2.o
      have kz:∀(V:World) j u,Kp (fun b=>b=x+1) V (V.setCell (Ad (x+1) j) u):=fun V j u=>Kp.set _ _ _ _ rfl
      have kk:=(((kz (w2.setCell (Ad ob 3) (.slice aO no cO)) 0 (I sl)).trans (kz _ 1 (.slice aS k cS)) (fun _ _ g=>g)).trans (kz _ 2 (.slice aR nr cR)) (fun _ _ g=>g)).trans (kz _ 3 (.slice aO no cO)) (fun _ _ g=>g)
      refine dz.o ob _ L _ _ _ hwo (hfo.kp kk (fun b hb=>Or.inl (by have hb':b=x+1:=hb;omega))) ?_
      exact Kp.below (fH.o.setCell (p:=(Ad ob 3)) hwo _) kk (by have:=fH.o.size;simp;omega) (fun b hb=>by have hb':b=x+1:=hb;have:=HXE.o;omega)
    have g0:=B.set (B.other hz2 ob 3 (.slice aO no cO) Xr) 0 (I sl)
    have g1:=B.set g0 1 (.slice aS k cS)
    have g2:=B.set g1 2 (.slice aR nr cR)
    have g3:=B.set g2 3 (.slice aO no cO)
    have e0:=B.cell g0 0 (v:=I sl) rfl
    have e1:=B.cell g1 1 (v:=.slice aS k cS) rfl
    have e2:=B.cell g2 2 (v:=.slice aR nr cR) rfl
    have e3:=B.cell g3 3 (v:=.slice aO no cO) rfl
    simp[results,Tryz.results47,go_sem,Act.put,e0,e1,e2,e3]
end GO
end Go.Proofs.YtkdigjpejnebkaaGreat
