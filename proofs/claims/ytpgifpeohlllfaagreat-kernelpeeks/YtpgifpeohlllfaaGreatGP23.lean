import Derived.Test.YtpgifpeohlllfaaGreatGP00
import Derived.Test.YtpgifpeohlllfaaGreatGP05
import Derived.OrdersHeld
import Derived.Deep.RegionHeld
import Derived.Test.YtpgifpeohlllfaaGreatGP22
set_option maxHeartbeats 20000000
set_option linter.unusedVariables false
set_option maxRecDepth 100000
set_option linter.unusedSimpArgs false
namespace Go.Proofs.YtpgifpeohlllfaaGreat
namespace GZ
open Go.RowKit
section
variable {P:Program} {ops:Array Oper} {Q:Exit->Act->World->Prop} {md:Region.Mode} {S:World->Prop} {z:Nat}
def Hs (P:Program) (md:Region.Mode) (ops:Array Oper) (Q:Exit->Act->World->Prop) (S:World->Prop) (z:Nat):Nat->Array Bool->Act->World->Prop
 | 0,l,a,w=>Region.ready md ops l=[]/\Q .normal a w
 | n+1,l,a,w=>(Region.ready md ops l=[]->Q .normal a w)/\∀i∈Region.ready md ops l,wpOp P ops Q i (fun a' w'=>(i≠z->S w')/\Hs P md ops Q S z n (l.setIfInBounds i true) a' w') a w
theorem KC:∀(n:Nat) (l:Array Bool) (a:Act) (w:World),Hs P md ops Q S z n l a w->wpAny P md ops Q n l a w
 | 0,_,_,_,h=>h
 | n+1,_,_,_,h=>⟨h.1,fun i hi=>wpOp_mono (fun a' w' g=>KC n _ a' w' g.2) (h.2 i hi)⟩
theorem Ky {l:Array Bool} {i:Nat} (h:l.getD i true=false):l.getD i false=false:=by
 rcases Nat.lt_or_ge i l.size with g | g
 · simp[g] at h ⊢;exact h
 · simp[Array.getElem?_eq_none g] at h
theorem first {i:Nat} {oi:Oper} {v:Value} (hi:ops[i]?=some oi) (Vd:∀(j:Nat) (o:Oper) cs b,ops[j]?=some o->o.op≠.select cs b)
  (hQ:∀c a w,Q (.panic c) (a.put oi.dst v) w->Q (.panic c) a w) (hz:∀oz,ops[z]?=some oz->∃e∈oz.after,Region.binds md e=true/\e.on=i) :
  ∀(n:Nat) (l:Array Bool) (a:Act) (w:World),(∀j oj,ops[j]?=some oj->j≠i->l.getD j true=false->(∀e∈oj.after,Region.binds md e=true->e.on≠i)->oi.apart ops oj=true) ->
   i∈Region.ready md ops l->YieldsIf P ops S oi v a->S w->Hs P md ops Q S z n (l.setIfInBounds i true) (a.put oi.dst v) w->Hs P md ops Q S z (n+1) l a w:=by
 intro n
 induction n with
 | zero =>
  intro l a w _ hr hy hS H
  refine⟨fun g=>absurd hr (by rw[g];exact List.not_mem_nil),fun j hj=>?_⟩
  by_cases c:j=i
  · subst c
    exact hy.wpOp hi hS ⟨fun _=>hS,H⟩
  · have g:=ready_mono hj c
    rw[H.1] at g
    exact absurd g List.not_mem_nil
 | succ n ih =>
  intro l a w hf hr hy hS H
  refine⟨fun g=>absurd hr (by rw[g];exact List.not_mem_nil),fun j hj=>?_⟩
  by_cases c:j=i
  · subst c
    exact hy.wpOp hi hS ⟨fun _=>hS,H⟩
  · obtain⟨hu,oj,XM,hall⟩:=mem_ready.1 hj
    have hiu:=Ky (mem_ready.1 hr).1
    have hno:∀e∈oj.after,Region.binds md e=true->e.on≠i:=fun e he hb g=>by
     have:=hall e he hb
     rw[g,hiu] at this
     cases this
    have hjz:j≠z:=fun g=>by
     subst g
     obtain⟨e,he,hb,ho⟩:=hz oj XM
     exact hno e he hb ho
    have h2:=wpOp_putIf XM (hf j oj XM c hu hno) (fun cs b=>Vd i oi cs b hi) (fun cs b=>Vd j oj cs b XM) hQ hy (H.2 j (ready_mono hj c))
    refine wpOp_mono (fun a' w' g=>⟨g.2.1,ih (l.setIfInBounds j true) a' w' (fun k ok hk zm hun hn=>hf k ok hk zm ?_ hn) (ready_mono hr (Ne.symm c)) g.1 (g.2.1 hjz) ?_⟩) h2
    · by_cases d:j=k
      · subst d;exact hu
      · rw[getD_set_ne true d] at hun;exact hun
    · rw[Array.setIfInBounds_comm _ _ c]
      exact g.2.2
def waits (md:Region.Mode) (ops:Array Oper) (z i:Nat):Bool:=match ops[z]? with
 | none=>false
 | some o=>o.after.any (fun e=>Region.binds md e&&e.on==i)
theorem D6 {i:Nat} (h:waits md ops z i=true):∀oz,ops[z]?=some oz->∃e∈oz.after,Region.binds md e=true/\e.on=i:=fun oz ho=>by
 unfold waits at h
 rw[ho] at h
 simp only[Array.any_eq_true'] at h
 obtain⟨e,he,h1⟩:=h
 simp only[Bool.and_eq_true,beq_iff_eq] at h1
 exact⟨e,he,h1.1,h1.2⟩
theorem take {i:Nat} {oi:Oper} {v:Value} {n:Nat} {l:Array Bool} {a:Act} {w:World} (hi:ops[i]?=some oi)
  (hs:Region.noSelect ops=true) (hf:Region.free md ops l i=true) (hr:(Region.ready md ops l).contains i=true) (hw:waits md ops z i=true)
  (hQ:∀c a w,Q (.panic c) (a.put oi.dst v) w->Q (.panic c) a w) (hy:YieldsIf P ops S oi v a) (hS:S w)
  (h:Hs P md ops Q S z n (l.setIfInBounds i true) (a.put oi.dst v) w):Hs P md ops Q S z (n+1) l a w :=
 first hi (Region.noSelect_spec hs) hQ (D6 hw) n l a w (Region.free_spec hi hf) (by simpa using hr) hy hS h
theorem tk (i:Nat) {oi:Oper} {n:Nat} {l:Array Bool} {a:Act} {w:World} (hS:S w) (v:Value) (hy:∀V,S V->(execOp a.eval oi).run P V=.ok (.value v) V)
  (h:Hs P md ops Q S z n (l.setIfInBounds i true) (a.put oi.dst v) w) (hi:ops[i]?=some oi:=by rfl) (hs:Region.noSelect ops=true:=by kernel_rfl) (hf:Region.free md ops l i=true:=by kernel_rfl) (hr:(Region.ready md ops l).contains i=true:=by kernel_rfl) (hw:waits md ops z i=true:=by kernel_rfl)
  (hwt:Region.wanted oi (yielded ops a.tmps)=true:=by rfl) (hQ:∀c a w,Q (.panic c) (a.put oi.dst v) w->Q (.panic c) a w:=by exact fun _ _ _ h=>h):Hs P md ops Q S z (n+1) l a w :=
 take hi hs hf hr hw hQ (Or.inl ⟨hwt,hy⟩) hS h
def bu (P:Program) (md:Region.Mode) (ops:Array Oper) (Q:Exit->Act->World->Prop) (S:World->Prop) (z n:Nat) (l:Array Bool) (a:Act) (w:World) (rs:List Nat):Prop:=∀i∈rs,wpOp P ops Q i (fun a' w'=>(i≠z->S w')/\Hs P md ops Q S z n (l.setIfInBounds i true) a' w') a w
theorem bu.nil {n:Nat} {l:Array Bool} {a:Act} {w:World}:bu P md ops Q S z n l a w []:=fun _ h=>absurd h List.not_mem_nil
theorem bu.cons {n:Nat} {l:Array Bool} {a:Act} {w:World} {i:Nat} {o:Oper} {rs:List Nat} (ho:ops[i]?=some o)
  (h:∀K':Act->World->Prop,Shut (∀a w,(i≠z->S w)->Hs P md ops Q S z n (l.setIfInBounds i true) a w->K' a w)->if Region.wanted o (yielded ops a.tmps)=true then Oper.wp P o a w K' Q else K' (a.put o.dst undef) w)
  (hs:bu P md ops Q S z n l a w rs):bu P md ops Q S z n l a w (i::rs):=fun j hj=>by
 rcases List.mem_cons.1 hj with g | g
 · subst g
   exact wpOp_step ho (fun K' hK=>h K' (fun a w h1 h2=>hK a w ⟨h1,h2⟩))
 · exact hs j g
theorem all {rs:List Nat} {n:Nat} {l:Array Bool} {a:Act} {w:World} (hr:Region.ready md ops l=rs) (hne:rs≠[]) (h:bu P md ops Q S z n l a w rs):Hs P md ops Q S z (n+1) l a w:=⟨fun g=>absurd (hr ▸ g) hne,hr ▸ h⟩
theorem done {l:Array Bool} {a:Act} {w:World} (hr:Region.ready md ops l=[]) (h:Q .normal a w):∀n,Hs P md ops Q S z n l a w
 | 0=>⟨hr,h⟩
 | _+1=>⟨fun _=>h,by rw[hr];exact fun _ g=>absurd g List.not_mem_nil⟩
theorem tK {id:Nat} {a:Act} {w:World} (hm:P.follows .mixedOrders=true) (h:Hs P .any ops Q S z ops.size (Array.replicate ops.size false) a w.drew):(Code.region id ops true).wp P Q a w:=wp_region_any hm (KC _ _ _ _ h)
end
end GZ
namespace KX
open Go.RowKit GK KO
open FW (ai aC)
open KW (bE bD aI aU fe cO aH dH bQ)
open KS (Lc bO oD dm blk cT)
theorem Cv:∀(es:List KM.En) (e:KM.En),(∀j,j<es.length->(KM.aJ es j).page<e.page)->KM.l6 es e=es++[e]
 | [],e,_=>rfl
 | a::r,e,h=>by
  unfold KM.l6
  rw[if_pos (show a.page<e.page from h 0 (Nat.zero_lt_succ _)),Cv r e (fun j hj=>h (j+1) (Nat.succ_lt_succ hj))]
  rfl
theorem La:∀(es:List KM.En) (e:KM.En) (n:Nat),n<es.length->(∀j,j<n->(KM.aJ es j).page<e.page)->¬(KM.aJ es n).page<e.page->KM.l6 es e=if (KM.aJ es n).page=e.page then es.set n e else es.take n++e::es.drop n
 | [],e,n,hn,_,_=>absurd hn (Nat.not_lt_zero _)
 | a::r,e,0,hn,h,AQ=>by
  unfold KM.l6
  have AQ:¬a.page<e.page:=AQ
  rw[if_neg AQ]
  rfl
 | a::r,e,n+1,hn,h,AQ=>by
  unfold KM.l6
  rw[if_pos (show a.page<e.page from h 0 (Nat.zero_lt_succ _)),La r e n (Nat.lt_of_succ_lt_succ hn) (fun j hj=>h (j+1) (Nat.succ_lt_succ hj)) AQ]
  show a::(if (KM.aJ r n).page=e.page then _ else _)=if (KM.aJ r n).page=e.page then _ else _
  split <;> rfl
theorem Fj (e o:KM.En) (x:Nat) (w:World) (hx:w.cell? (Ad x 0)=some (I e.page)) :
  Calls Tryz.prog 191 #[.agg #[I o.page,I o.kind,I o.loc],.pointer (some (Ad x 0))] w fun r w'=>r=.returned (.bool (decide (e.page<=o.page)))/\Below w.heap.size w w':=by
 obtain⟨pg,kd,lc⟩:=o
 obtain⟨epg,ekd,elc⟩:=e
 simp only at hx ⊢
 have hxl:x<w.heap.size:=World.block_lt_of_cell? w _ hx
 have xA:(w.alloc (.cells #[I pg,I kd,I lc] 45)).cell? (Ad x 0)=some (I epg):=(Below.cell ((Below.refl w.heap.size w).alloc (Nat.le_refl _) _) (p:=(Ad x 0)) hxl).trans hx
 have BN:=ai (B.new w #[I pg,I kd,I lc] 45)
 by_cases c:epg<=pg
 · rw[decide_eq_true c]
   go_enter Tryz.func191,Tryz.ntmps191
   go_wp2
   try go_region
   try go_wp2
   go_ret
   exact⟨by simp,by first | exact(Below.refl _ _).alloc (Nat.le_refl _) _ | exact((Below.refl _ _).alloc (Nat.le_refl _) _).drew⟩
 · rw[decide_eq_false c]
   go_enter Tryz.func191,Tryz.ntmps191
   go_wp2
   try go_region
   try go_wp2
   go_ret
   exact⟨by simp,by first | exact(Below.refl _ _).alloc (Nat.le_refl _) _ | exact((Below.refl _ _).alloc (Nat.le_refl _) _).drew⟩
theorem Aq (V:World) (e:KM.En):(V.alloc (.cells #[I e.page,I e.kind,I e.loc] 45)).ownsRow V.heap.size 45 3 (.slice (some (Ad V.heap.size 0)) 1 1) 1 ([e].flatMap aI) :=
 ⟨rfl,.inr ⟨V.heap.size,1,_,rfl,Nat.le_refl _,B.new V _ _,Nat.le_refl _,by unfold maxLen;omega,rfl,rfl⟩⟩
theorem Km.Y2 {lo mb:Nat} {tt:TypeId} {X:List Value} {w:World} {S:St} {k:KM.Kn} (h:Km lo mb tt X w S k) {j:Nat} (hj:j<k.aj.length) {g n cap:Nat} (hv:(dm S.L j).vp=.slice (some (Ad g 0)) n cap) {i:Nat} (hi:i<(KM.aq k.aj j).au.length) (e:KM.En) :
  Km lo mb tt X (((w.setCell (Ad g (i*3)) (I e.page)).setCell (Ad g (i*3+1)) (I e.kind)).setCell (Ad g (i*3+2)) (I e.loc)) S { k with aj:=k.aj.set j (KM.dI (KM.aq k.aj j) ((KM.aq k.aj j).au.set i e)) } /\
  Ch S w S (((w.setCell (Ad g (i*3)) (I e.page)).setCell (Ad g (i*3+1)) (I e.kind)).setCell (Ad g (i*3+2)) (I e.loc)):=by
 have Ug:∀(ss:List KM.Sp) (es:List KM.En),j<ss.length->KM.aq (ss.set j (KM.dI (KM.aq k.aj j) es)) j=KM.dI (KM.aq k.aj j) es:=fun ss es hl=>by rw[KM.fZ _ _ _ _ hl,if_pos rfl]
 have m1:=h.kz hj hv hi (c:=0) (by omega) (e:=⟨e.page,(KM.aJ (KM.aq k.aj j).au i).kind,(KM.aJ (KM.aq k.aj j).au i).loc⟩) (u:=I e.page) rfl
 have m2:=m1.1.kz (j:=j) (by show j<(List.set _ _ _).length;rw[List.length_set];exact hj) hv (i:=i) (by
  show i<(KM.aq (List.set _ _ _) j).au.length
  rw[Ug _ _ hj]
  show i<(List.set _ _ _).length
  rw[List.length_set];exact hi) (c:=1) (by omega) (e:=⟨e.page,e.kind,(KM.aJ (KM.aq k.aj j).au i).loc⟩) (u:=I e.kind) (by
  show _=(aI (KM.aJ (KM.aq (List.set _ _ _) j).au i)).set 1 _
  rw[Ug _ _ hj]
  show _=(aI ((List.set _ _ _).getD i KM.jz)).set 1 _
  rw[KM.bw _ _ _ _ hi]
  rfl)
 simp only[List.set_set,Ug _ _ hj] at m2
 have m2a:Km lo mb tt X ((w.setCell (Ad g (i*3)) (I e.page)).setCell (Ad g (i*3+1)) (I e.kind)) S { k with aj:=k.aj.set j (KM.dI (KM.aq k.aj j) ((KM.aq k.aj j).au.set i ⟨e.page,e.kind,(KM.aJ (KM.aq k.aj j).au i).loc⟩)) }:=by
  have:=m2.1
  unfold KM.dI at this ⊢
  simp only[List.set_set] at this ⊢
  exact this
 have m3:=m2a.kz (j:=j) (by show j<(List.set _ _ _).length;rw[List.length_set];exact hj) hv (i:=i) (by
  show i<(KM.aq (List.set _ _ _) j).au.length
  rw[Ug _ _ hj]
  show i<(List.set _ _ _).length
  rw[List.length_set];exact hi) (c:=2) (by omega) (e:=e) (u:=I e.loc) (by
  show _=(aI (KM.aJ (KM.aq (List.set _ _ _) j).au i)).set 2 _
  rw[Ug _ _ hj]
  show _=(aI ((List.set _ _ _).getD i KM.jz)).set 2 _
  rw[KM.bw _ _ _ _ hi]
  rfl)
 simp only[List.set_set,Ug _ _ hj] at m3
 have m3a:Km lo mb tt X (((w.setCell (Ad g (i*3)) (I e.page)).setCell (Ad g (i*3+1)) (I e.kind)).setCell (Ad g (i*3+2)) (I e.loc)) S { k with aj:=k.aj.set j (KM.dI (KM.aq k.aj j) ((KM.aq k.aj j).au.set i e)) }:=by
  have:=m3.1
  unfold KM.dI at this ⊢
  simp only[List.set_set] at this ⊢
  exact this
 exact⟨m3a,(m1.2.trans m2.2).trans m3.2⟩
theorem zx {D:Nat->Prop} {N:Nat} {w0 w1 V:World} {b o:Nat} (hV:Kp D w1 V) (hb:Below N w0 w1) (hl:b<N) (hl0:b<w0.heap.size) (hn:¬D b) (h:w0.frozen? (Ad b o)=false):V.frozen? (Ad b o)=false:=by
 have e1:=hb.block b hl
 have Bt:b<w1.heap.size:=Nat.lt_of_lt_of_le hl0 hb.size
 have e2:=hV.block b Bt hn
 unfold World.frozen? at h ⊢
 simp only[e2,e1]
 exact h
theorem xS (w1:World) (o:Obj):Kp (fun _=>False) w1 ((w1.alloc o).drew):=(Kp.alloc _ _ o).trans (Kp.drew _ _) (fun _ _ g=>g)
theorem Sk (w1:World) (e:KM.En):∀i u,(aI e)[i]?=some u->((w1.alloc (.cells #[I e.page,I e.kind,I e.loc] 45)).drew).cell? (((Ad w1.heap.size 0):Addr).add i)=some u:=fun i u hu=>B.news (C:=#[I e.page,I e.kind,I e.loc]) (t:=45) (fr:=(0,0)) (B.new w1 _ _) i u hu
theorem tG {lo mb:Nat} {tt:TypeId} {X:List Value} (k:KM.Kn) (S:St) (w:World) (j:Nat) (e:KM.En) (h:Km lo mb tt X w S k) (hj:j<k.aj.length) (hen:(KM.aq k.aj j).au.length<=1000) (rV:k.aj.length<=1000) :
  Calls Tryz.prog 166 #[.pointer (some (Ad mb 0)),I (j:Int),.agg #[I e.page,I e.kind,I e.loc]] w (fH lo mb tt X w S (.tuple #[]) (KM.dJ k j e)):=by
 have hlo:lo<=w.heap.size:=Nat.le_trans h.lo_le (Nat.le_of_lt h.lt)
 obtain⟨WA,dx⟩:=ex (w.alloc (.cells #[I e.page,I e.kind,I e.loc] 45))
 have cj:Hid (Below w.heap.size w WA):=by rw[dx];exact(Below.refl w.heap.size w).alloc (Nat.le_refl _) _
 have EX:Hid (WA.heap[w.heap.size]?=some (.cells #[I e.page,I e.kind,I e.loc] 45 (0,0))):=by rw[dx];exact B.new w _ _
 have n0:S.lab w.heap.size=.no:=h.toKr.new (Nat.le_refl _)
 have N4:=ai (h.below cj.o)
 obtain⟨pb,cP,A⟩:=N4.o.toKr.sp (by omega)
 have hrow:=(N4.o.each j hj).aB
 obtain⟨ae,ce,ui,hcap,hge⟩:=aR hrow
 obtain⟨es,hes⟩:=ex ((KM.aq k.aj j).au)
 rw[<- hes] at hrow ui hcap hge hen
 rw[ui] at hrow
 have hre:=KI.Ra hrow
 have zk:∀b,blk (.slice ae es.length ce) b->S.lab b=.au j:=fun b hb=>h.lE j hj b (by rw[ui];exact hb)
 have hpl:=A.lab
 have c3:=N4.o.c3
 rw[A.v] at c3
 have a2:=A.x2 j hj
 rw[ui] at a2
 have AU:(j:Int)<(k.aj.length:Int):=by omega
 have Jg:=KW.AE 191 (.inr (.inl rfl)) (fun o=>decide (e.page<=o.page)) es ae ce w.heap.size WA hre (by omega) (fun V o hV=>Fj e o w.heap.size V (B.cell (B.below EX.o hV (B.isLt EX.o)) 0 rfl))
 have HE:Hid (∀V v' fs,Kp (fun b=>S.lab b=.au j) WA V->V.ownsRow lo 45 3 v' fs.length (fs.flatMap aI)->(∀b,blk v' b->S.lab b=.au j∨WA.heap.size<=b)->KM.l6 es e=fs->fH lo mb tt X w S (.tuple #[]) (KM.dJ k j e) (.returned (.tuple #[])) (V.setCell (Ad pb (j*3+2)) v')):=fun V v' fs h1 h2 h3 h4=>by
  have sw:=N4.o.fK hj A.v h1 h2 (fun b hb=>by
   rcases h3 b hb with g | g
   · exact .inl g
   · exact .inr (N4.o.toKr.new g))
  have hK:({ k with aj:=k.aj.set j (KM.dI (KM.aq k.aj j) fs) }:KM.Kn)=KM.dJ k j e:=by
   unfold KM.dJ
   rw[<- h4,hes]
  refine⟨rfl,_,hK ▸ sw.1,(Ch.below cj.o).trans (sw.2 (fun b hb hx=>?_))⟩
  rcases h3 b hx with g | g
  · exact g
  · omega
 have Yz:Hid (∀V n g,Below WA.heap.size WA V->n<es.length->ae=some (Ad g 0)->KM.l6 es e=es.set n e->fH lo mb tt X w S (.tuple #[]) (KM.dJ k j e) (.returned (.tuple #[])) (((V.setCell (Ad g (n*3)) (I e.page)).setCell (Ad g (n*3+1)) (I e.kind)).setCell (Ad g (n*3+2)) (I e.loc)).drew.drew):=fun V n g hb hn hg hp=>by
  have m:=N4.o.below hb
  have m1:=KX.Km.Y2 m hj (g:=g) (by rw[ui,hg]) (i:=n) (by rw[<- hes];exact hn) e
  have hK:({ k with aj:=k.aj.set j (KM.dI (KM.aq k.aj j) ((KM.aq k.aj j).au.set n e)) }:KM.Kn)=KM.dJ k j e:=by
   unfold KM.dJ
   rw[<- hes,hp]
  have m1a:=hK ▸ m1.1
  have dr:∀V:World,Below V.heap.size V V.drew:=fun V=>(Below.refl _ _).drew
  exact⟨rfl,S,(m1a.below (dr _)).below (dr _),((((Ch.below cj.o).trans (Ch.below hb)).trans m1.2).trans (Ch.below (dr _))).trans (Ch.below (dr _))⟩
 obtain⟨P,hP⟩:=ex (fH lo mb tt X w S (.tuple #[]) (KM.dJ k j e))
 rw[<- hP] at HE Yz ⊢
 obtain⟨np,Pc⟩:=ex k.aj.length
 rw[<- Pc] at c3 AU
 have E4:=A.lt
 have mU:mb<WA.heap.size:=N4.o.lt
 have hxl:=B.isLt EX.o
 have Vh:=A.fz (j*3+2)
 have Uk:Hid (∀b,blk (.slice ae es.length ce) b->b≠pb/\b≠w.heap.size/\b<WA.heap.size):=fun b hb=>⟨fun z=>by have:=zk b hb;rw[z,hpl] at this;simp at this,fun z=>by have:=zk b hb;rw[z,n0] at this;simp at this,(hrow.lt b hb).2⟩
 have Kb:=ai zk
 have Bi:=ai hrow
 have HGE:=ai hge
 have eV:=ai dx
 have N6:=ai hre
 obtain⟨i0,hin,hz0,hz1,hz2⟩:=info_parts AJ
 have qX:=ai hin
 have vh:=ai hz0
 have vg:=ai hz1
 have tM:=ai hz2
 have hlA:lo<=WA.heap.size:=Nat.le_trans hlo cj.o.size
 have aeZ:es.length<=1000:=by omega
 by_cases hall:∀i,i<es.length->(KM.aJ es i).page<e.page
 · have HP0:=ai (Cv es e hall)
   have zT:Hid (Calls Tryz.prog 153 #[.slice ae es.length ce,.func (.func 191) #[] #[.pointer (some (Ad w.heap.size 0))]] WA fun r w'=>r=.returned (I (-1))/\Below WA.heap.size WA w'):=Jg.mono fun r w' ⟨hb,hh⟩=>by
    rcases hh with⟨he,_⟩ | ⟨m,hm,_,hy,_⟩
    · exact⟨he,hb⟩
    · have:=of_decide_eq_true hy
      have:=hall m hm
      omega
   clear Jg dx h hrow hge hre zk N4 A ui hes hP Pc hin hz0 hz1 hz2 hall rV hj hen hlo
   go_enter Tryz.func166,Tryz.ntmps166
   go_upto_region 1 with fail
   rw[<- eV.o]
   go_upto_region 5 with(go_at_call 153;refine zT.o.mono ?_;rintro r w1 ⟨rfl,hb1⟩;have aZ:=ai hb1;clear hb1)
   have gL:Hid (Kp (fun b=>blk (.slice ae es.length ce) b) w1 w1.drew):=Kp.drew _ _
   have DY:Hid (∀o,Kp (fun b=>blk (.slice ae es.length ce) b) w1 ((w1.alloc o).drew)):=fun o=>(Kp.alloc _ _ o).trans (Kp.drew _ _) (fun _ _ g=>g)
   have fh:Hid (∀V,Kp (fun b=>blk (.slice ae es.length ce) b) w1 V->V.cell? (Ad pb (j*3+2))=some (.slice ae es.length ce)/\V.cell? (Ad w.heap.size 0)=some (I e.page)/\V.cell? (Ad w.heap.size 1)=some (I e.kind)/\V.cell? (Ad w.heap.size 2)=some (I e.loc)/\V.frozen? (Ad pb (j*3+2))=false):=fun V hV=>by
    have b1:=B.below EX.o aZ.o (B.isLt EX.o)
    have b2:=hV.keep b1 (fun g=>(Uk.o _ g).2.1 rfl)
    refine⟨hV.cell ((aZ.o.cell (p:=(Ad pb (j*3+2))) E4).trans a2) (fun g=>(Uk.o _ g).1 rfl),B.cell b2 0 rfl,B.cell b2 1 rfl,B.cell b2 2 rfl,?_⟩
    exact zx hV aZ.o E4 E4 (fun g=>(Uk.o _ g).1 rfl) Vh
   have Qs:Hid (∀o,((w1.alloc o).drew).ownsRow lo 45 3 (.slice ae es.length ce) es.length (es.flatMap aI)):=fun o=>((xS w1 o).row ((Kp.aW (D:=fun _=>False) aZ.o).row Bi.o (fun _ _ g=>g)) (fun _ _ g=>g))
   have hsz:=aZ.o.size
   refine GZ.tK (S:=fun V=>Kp (fun b=>blk (.slice ae es.length ce) b) w1 V) (z:=10) (by kernel_rfl) ?_
   refine GZ.tk 0 gL.o ?_ ?_ ?_
   rotate_left 1
   · intro V h
     obtain⟨k0,k1,k2,k3,k4⟩:=fh.o V h
     go_simp
     try with_reducible rfl
   refine GZ.tk 1 gL.o ?_ ?_ ?_
   rotate_left 1
   · intro V h
     obtain⟨k0,k1,k2,k3,k4⟩:=fh.o V h
     go_simp
     try with_reducible rfl
   refine GZ.tk 2 gL.o ?_ ?_ ?_
   rotate_left 1
   · intro V h
     obtain⟨k0,k1,k2,k3,k4⟩:=fh.o V h
     go_simp
     try with_reducible rfl
   refine GZ.tk 3 gL.o ?_ ?_ ?_
   rotate_left 1
   · intro V h
     obtain⟨k0,k1,k2,k3,k4⟩:=fh.o V h
     go_simp
     try with_reducible rfl
   refine GZ.tk 4 gL.o ?_ ?_ ?_
   rotate_left 1
   · intro V h
     obtain⟨k0,k1,k2,k3,k4⟩:=fh.o V h
     go_simp
     try with_reducible rfl
   refine GZ.tk 5 gL.o ?_ ?_ ?_
   rotate_left 1
   · intro V h
     obtain⟨k0,k1,k2,k3,k4⟩:=fh.o V h
     go_simp
     try with_reducible rfl
   refine GZ.all (rs:=[6]) (by kernel_rfl) (by simp) ?_
   refine GZ.bu.cons rfl (fun K hK=>?_) GZ.bu.nil
   go_simp
   refine hK.out _ _ (fun _=>?_) ?_
   · exact DY.o _
   clear hK K
   try simp only[Act.put,List.setIfInBounds_toArray,List.set_cons_zero,List.set_cons_succ]
   refine GZ.all (rs:=[7]) (by kernel_rfl) (by simp) ?_
   refine GZ.bu.cons rfl (fun K hK=>?_) GZ.bu.nil
   rw[if_pos (by rfl)];refine jW (P:=Tryz.prog) _ _ 41 rfl lo 45 i0 (.agg #[I 0,I 0,I 0]) 3 24 Tryz.underlying41 qX.o vh.o vg.o tM.o rfl (by decide) (.slice ae es.length ce) es.length (es.flatMap aI) rfl (Qs.o _) (some (Ad w1.heap.size 0)) 1 1 (aI e) rfl rfl (fun _=>⟨_,rfl,Sk w1 e⟩) (by intro u hu;simp[aI] at hu;rcases hu with rfl | rfl | rfl <;> rfl) (by unfold maxLen;omega) (by omega) (by simp;omega) ?_;intro vG wG GU J1 Jl;obtain⟨aG,cG,O8,_,_⟩:=aR GU;subst O8;have yE:Hid (Kp (fun b=>blk (.slice ae es.length ce) b) w1 wG):=(DY.o _).trans (Kp.grown (D:=fun b=>blk (.slice ae es.length ce) b) J1 (fun q hq=>hq)) (fun _ _ g=>g);have HOG:=ai GU;have HAG:=ai Jl;clear GU J1 Jl
   refine hK.out _ _ (fun _=>?_) ?_
   · exact yE.o
   clear hK K
   try simp only[Act.put,List.setIfInBounds_toArray,List.set_cons_zero,List.set_cons_succ]
   refine GZ.all (rs:=[8]) (by kernel_rfl) (by simp) ?_
   refine GZ.bu.cons rfl (fun K hK=>?_) GZ.bu.nil
   go_simp
   refine hK.out _ _ (fun _=>?_) ?_
   · exact yE.o
   clear hK K
   try simp only[Act.put,List.setIfInBounds_toArray,List.set_cons_zero,List.set_cons_succ]
   refine GZ.tk 9 yE.o ?_ ?_ ?_
   rotate_left 1
   · intro V h
     obtain⟨k0,k1,k2,k3,k4⟩:=fh.o V h
     go_simp
     try with_reducible rfl
   obtain⟨k0,k1,k2,k3,k4⟩:=fh.o wG yE.o
   refine GZ.all (rs:=[10]) (by kernel_rfl) (by simp) ?_
   refine GZ.bu.cons rfl (fun K hK=>?_) GZ.bu.nil
   go_simp
   refine hK.out _ _ (fun g=>absurd rfl g) ?_
   refine GZ.done (by kernel_rfl) ?_ _
   go_wp2
   refine bodyPost_end (v:=.tuple #[]) (by simp[results,Tryz.results166,go_sem]) rfl ?_
   refine HE.o wG _ (es++[e]) ?_ (by rw[List.length_append,List.flatMap_append];simpa using HOG.o) (fun b hb=>?_) HP0.o
   · exact(Kp.aW aZ.o).trans yE.o (fun b _ hx=>Kb.o b hx)
   · rcases HAG.o with g | g
     · exact .inl (Kb.o b (by show Value.ownBlock _=_;rw[<- g];exact hb))
     · right
       have hb:Value.ownBlock _=some b:=hb
       rw[g] at hb
       injection hb with hb
       have:((w1.alloc (.cells #[I e.page,I e.kind,I e.loc] 45)).drew).heap.size=w1.heap.size+1:=World.size_alloc _ _
       omega
 · have hex:∃n,n<es.length/\(∀i,i<n->(KM.aJ es i).page<e.page)/\¬(KM.aJ es n).page<e.page:=by
    obtain⟨n,hn⟩:=Classical.not_forall.1 hall
    rw[Classical.not_imp] at hn
    obtain⟨NM,qK⟩:=hn
    induction n using Nat.strongRecOn with
    | _ n ih =>
     by_cases c:∃m,m<n/\¬(KM.aJ es m).page<e.page
     · obtain⟨m,jE,hm2⟩:=c
       exact ih m jE (by omega) hm2
     · exact⟨n,NM,fun i hi=>Classical.not_not.1 fun z=>c ⟨i,hi,z⟩,qK⟩
   obtain⟨n,hn,tv,AQ⟩:=hex
   have hput:=La es e n hn tv AQ
   have zT:Hid (Calls Tryz.prog 153 #[.slice ae es.length ce,.func (.func 191) #[] #[.pointer (some (Ad w.heap.size 0))]] WA fun r w'=>r=.returned (I (n:Int))/\Below WA.heap.size WA w'):=Jg.mono fun r w' ⟨hb,hh⟩=>by
    rcases hh with⟨_,hno⟩ | ⟨m,hm,he,hy,hno⟩
    · have:=of_decide_eq_false (hno n hn)
      omega
    · have hy:=of_decide_eq_true hy
      have:m=n:=by
       rcases Nat.lt_trichotomy m n with g | g | g
       · have:=tv m g;omega
       · exact g
       · have:=of_decide_eq_false (hno n g);omega
      subst this
      exact⟨he,hb⟩
   obtain⟨eb,NQ,_,Pm⟩:=hge (by omega)
   subst NQ
   have hni:(n:Int)<(es.length:Int):=by omega
   have hn0:(0:Int)<=(n:Int):=by omega
   have Yl:Hid (∀V,Below WA.heap.size WA V->V.cell? (Ad eb (n*3))=some (I (KM.aJ es n).page)/\V.cell? (Ad eb (n*3+1))=some (I (KM.aJ es n).kind)/\V.cell? (Ad eb (n*3+2))=some (I (KM.aJ es n).loc)/\(∀q,V.frozen? (Ad eb q)=false)/\V.cell? (Ad pb (j*3+2))=some (.slice (some (Ad eb 0)) es.length ce)/\V.cell? (Ad w.heap.size 0)=some (I e.page)/\V.cell? (Ad w.heap.size 1)=some (I e.kind)/\V.cell? (Ad w.heap.size 2)=some (I e.loc)):=fun V hV=>by
    have hr:=(Kp.aW (D:=fun _=>False) hV).row hrow (fun _ _ g=>g)
    have b1:=B.below EX.o hV (B.isLt EX.o)
    exact⟨iu aI (fun _=>rfl) KM.jz hr n 0 hn (by omega),iu aI (fun _=>rfl) KM.jz hr n 1 hn (by omega),iu aI (fun _=>rfl) KM.jz hr n 2 hn (by omega),cV hr,(hV.cell (p:=(Ad pb (j*3+2))) E4).trans a2,B.cell b1 0 rfl,B.cell b1 1 rfl,B.cell b1 2 rfl⟩
   by_cases c:(KM.aJ es n).page=e.page
   · rw[if_pos c] at hput
     have TL:=ai hput
     have cb:((KM.aJ es n).page==e.page)=true:=by simpa using c
     obtain⟨Z,hZ⟩:=ex (KM.aJ es n)
     rw[<- hZ] at Yl cb
     clear Jg dx h hrow hge hre zk N4 A ui hes hP Pc hin hz0 hz1 hz2 hall rV hj hen hlo hput tv AQ hZ c
     go_enter Tryz.func166,Tryz.ntmps166
     go_upto_region 1 with fail
     rw[<- eV.o]
     go_upto_region 6 with(go_at_call 153;refine zT.o.mono ?_;rintro r w1 ⟨rfl,hb1⟩;have aZ:=ai hb1;clear hb1)
     obtain⟨y0,y1,y2,yf,y3,y4,y5,y6⟩:=Yl.o w1 aZ.o
     have yf0:=yf (n*3)
     have yf1:=yf (n*3+1)
     have yf2:=yf (n*3+2)
     clear yf
     go_region
     go_upto_region 7 with fail
     go_region
     go_wp2
     refine bodyPost_end (v:=.tuple #[]) (by simp[results,Tryz.results166,go_sem]) rfl ?_
     exact Yz.o w1 n eb aZ.o hn rfl TL.o
   · rw[if_neg c] at hput
     have TL:=ai hput
     have cb:((KM.aJ es n).page==e.page)=false:=by simpa using c
     have aaX:Hid (∀V,Kp (fun b=>blk (.slice (some (Ad eb 0)) es.length ce) b) WA V->V.ownsRow lo 45 3 (.slice (some (Ad eb 0)) es.length ce) es.length (es.flatMap aI)->WA.heap.size<=V.heap.size->Calls Tryz.prog 192 #[.slice (some (Ad eb 0)) es.length ce,I (n:Int),.slice (some (Ad V.heap.size 0)) 1 1] ((V.alloc (.cells #[I e.page,I e.kind,I e.loc] 45)).drew) fun r w'=>∃av nv cv,r=.returned (.slice av nv cv)/\w'.ownsRow lo 45 3 (.slice av nv cv) (es.take n++e::es.drop n).length ((es.take n++e::es.drop n).flatMap aI)/\Kp (fun b=>blk (.slice (some (Ad eb 0)) es.length ce) b) V w'/\(∀b,blk (.slice av nv cv) b->blk (.slice (some (Ad eb 0)) es.length ce) b∨WA.heap.size<=b)):=fun V hV hr hsz=>by
      have k1:Kp (fun _=>False) V ((V.alloc (.cells #[I e.page,I e.kind,I e.loc] 45)).drew):=(Kp.alloc _ _ _).trans (Kp.drew _ _) (fun _ _ g=>g)
      have r1:=k1.row hr (fun _ _ g=>g)
      have r2:((V.alloc (.cells #[I e.page,I e.kind,I e.loc] 45)).drew).ownsRow V.heap.size 45 3 (.slice (some (Ad V.heap.size 0)) [e].length 1) [e].length ([e].flatMap aI):=(Kp.drew (fun _=>False) _).row (Aq V e) (fun _ _ g=>g)
      have hs1:((V.alloc (.cells #[I e.page,I e.kind,I e.loc] 45)).drew).heap.size=V.heap.size+1:=World.size_alloc _ _
      refine(KI.EU lo es [e] (.slice (some (Ad eb 0)) es.length ce) (.slice (some (Ad V.heap.size 0)) 1 1) V.heap.size n _ r1 r2 (by omega) (fun b h1 h2=>?_) (by omega) (by simp) (by omega) (by simp)).mono fun r w' ⟨v',g1,g2,g3,g4⟩=>?_
      · have:V.heap.size=b:=by injection h1
        have:=(hr.lt b h2).2
        omega
      · obtain⟨av,cv,rfl,_,_⟩:=aR g2
        refine⟨av,_,cv,g1,g2,(k1.mono (fun _ _ z=>z.elim)).trans g3 (fun _ _ z=>z),fun b hb=>?_⟩
        rcases g4 b hb with z | z
        · exact .inl z
        · exact .inr (by omega)
     obtain⟨Z,hZ⟩:=ex (KM.aJ es n)
     rw[<- hZ] at Yl cb
     clear Jg dx h hrow hge hre zk N4 A ui hes hP Pc hin hz0 hz1 hz2 hall rV hj hen hlo hput tv AQ hZ c
     go_enter Tryz.func166,Tryz.ntmps166
     go_upto_region 1 with fail
     rw[<- eV.o]
     go_upto_region 6 with(go_at_call 153;refine zT.o.mono ?_;rintro r w1 ⟨rfl,hb1⟩;have aZ:=ai hb1;clear hb1)
     obtain⟨y0,y1,y2,yf,y3,y4,y5,y6⟩:=Yl.o w1 aZ.o
     clear yf
     go_region
     go_upto_region 3 with fail
     clear y0 y1 y2 y3 y4 y5 y6
     have bY:Hid (Below WA.heap.size WA w1.drew):=aZ.o.drew
     clear aZ
     obtain⟨w2,hw2⟩:=ex w1.drew
     rw[<- hw2] at bY ⊢
     clear hw2
     have gL:Hid (Kp (fun b=>blk (.slice (some (Ad eb 0)) es.length ce) b) w2 w2.drew):=Kp.drew _ _
     have DY:Hid (∀o,Kp (fun b=>blk (.slice (some (Ad eb 0)) es.length ce) b) w2 ((w2.alloc o).drew)):=fun o=>(Kp.alloc _ _ o).trans (Kp.drew _ _) (fun _ _ g=>g)
     have fh:Hid (∀V,Kp (fun b=>blk (.slice (some (Ad eb 0)) es.length ce) b) w2 V->V.cell? (Ad pb (j*3+2))=some (.slice (some (Ad eb 0)) es.length ce)/\V.cell? (Ad w.heap.size 0)=some (I e.page)/\V.cell? (Ad w.heap.size 1)=some (I e.kind)/\V.cell? (Ad w.heap.size 2)=some (I e.loc)/\V.frozen? (Ad pb (j*3+2))=false):=fun V hV=>by
      have b1:=B.below EX.o bY.o (B.isLt EX.o)
      have b2:=hV.keep b1 (fun g=>(Uk.o _ g).2.1 rfl)
      refine⟨hV.cell ((bY.o.cell (p:=(Ad pb (j*3+2))) E4).trans a2) (fun g=>(Uk.o _ g).1 rfl),B.cell b2 0 rfl,B.cell b2 1 rfl,B.cell b2 2 rfl,?_⟩
      exact zx hV bY.o E4 E4 (fun g=>(Uk.o _ g).1 rfl) Vh
     have aaY:=ai (aaX.o w2 (Kp.aW bY.o) ((Kp.aW (D:=fun _=>False) bY.o).row Bi.o (fun _ _ g=>g)) bY.o.size)
     have hsz:=bY.o.size
     refine GZ.tK (S:=fun V=>Kp (fun b=>blk (.slice (some (Ad eb 0)) es.length ce) b) w2 V) (z:=11) (by kernel_rfl) ?_
     refine GZ.tk 0 gL.o ?_ ?_ ?_
     rotate_left 1
     · intro V h
       obtain⟨k0,k1,k2,k3,k4⟩:=fh.o V h
       go_simp
       try with_reducible rfl
     refine GZ.tk 1 gL.o ?_ ?_ ?_
     rotate_left 1
     · intro V h
       obtain⟨k0,k1,k2,k3,k4⟩:=fh.o V h
       go_simp
       try with_reducible rfl
     refine GZ.tk 2 gL.o ?_ ?_ ?_
     rotate_left 1
     · intro V h
       obtain⟨k0,k1,k2,k3,k4⟩:=fh.o V h
       go_simp
       try with_reducible rfl
     refine GZ.tk 3 gL.o ?_ ?_ ?_
     rotate_left 1
     · intro V h
       obtain⟨k0,k1,k2,k3,k4⟩:=fh.o V h
       go_simp
       try with_reducible rfl
     refine GZ.tk 4 gL.o ?_ ?_ ?_
     rotate_left 1
     · intro V h
       obtain⟨k0,k1,k2,k3,k4⟩:=fh.o V h
       go_simp
       try with_reducible rfl
     refine GZ.tk 5 gL.o ?_ ?_ ?_
     rotate_left 1
     · intro V h
       obtain⟨k0,k1,k2,k3,k4⟩:=fh.o V h
       go_simp
       try with_reducible rfl
     refine GZ.tk 6 gL.o ?_ ?_ ?_
     rotate_left 1
     · intro V h
       obtain⟨k0,k1,k2,k3,k4⟩:=fh.o V h
       go_simp
       try with_reducible rfl
     refine GZ.all (rs:=[7]) (by kernel_rfl) (by simp) ?_
     refine GZ.bu.cons rfl (fun K hK=>?_) GZ.bu.nil
     go_simp
     refine hK.out _ _ (fun _=>?_) ?_
     · exact DY.o _
     clear hK K
     try simp only[Act.put,List.setIfInBounds_toArray,List.set_cons_zero,List.set_cons_succ]
     refine GZ.all (rs:=[8]) (by kernel_rfl) (by simp) ?_
     refine GZ.bu.cons rfl (fun K hK=>?_) GZ.bu.nil
     rw[if_pos (by rfl)];go_simp;go_at_call 192;refine aaY.o.mono ?_;rintro r wG ⟨aG,nG,cG,rfl,GU,hkG,Jl⟩;have yE:Hid (Kp (fun b=>blk (.slice (some (Ad eb 0)) es.length ce) b) w2 wG):=hkG;have HOG:=ai GU;have HAG:=ai Jl;clear GU hkG Jl;try go_simp
     refine hK.out _ _ (fun _=>?_) ?_
     · exact yE.o
     clear hK K
     try simp only[Act.put,List.setIfInBounds_toArray,List.set_cons_zero,List.set_cons_succ]
     refine GZ.all (rs:=[9]) (by kernel_rfl) (by simp) ?_
     refine GZ.bu.cons rfl (fun K hK=>?_) GZ.bu.nil
     go_simp
     refine hK.out _ _ (fun _=>?_) ?_
     · exact yE.o
     clear hK K
     try simp only[Act.put,List.setIfInBounds_toArray,List.set_cons_zero,List.set_cons_succ]
     refine GZ.tk 10 yE.o ?_ ?_ ?_
     rotate_left 1
     · intro V h
       obtain⟨k0,k1,k2,k3,k4⟩:=fh.o V h
       go_simp
       try with_reducible rfl
     obtain⟨k0,k1,k2,k3,k4⟩:=fh.o wG yE.o
     refine GZ.all (rs:=[11]) (by kernel_rfl) (by simp) ?_
     refine GZ.bu.cons rfl (fun K hK=>?_) GZ.bu.nil
     go_simp
     refine hK.out _ _ (fun g=>absurd rfl g) ?_
     refine GZ.done (by kernel_rfl) ?_ _
     go_wp2
     refine bodyPost_end (v:=.tuple #[]) (by simp[results,Tryz.results166,go_sem]) rfl ?_
     refine HE.o wG _ (es.take n++e::es.drop n) ((Kp.aW bY.o).trans yE.o (fun b _ hx=>Kb.o b hx)) HOG.o (fun b hb=>?_) TL.o
     rcases HAG.o b hb with g | g
     · exact .inl (Kb.o b g)
     · exact .inr g
end KX
namespace KX
open Go.RowKit GK KO
open FW (ai aC)
open KW (bE bD aI aU fe cO aH dH bQ dG)
open KS (Lc bO oD dm blk cT)
theorem uJ (k:KM.Kn) (j:Nat) (x e:KM.En):KM.dJ (KM.cA k e) j x=KM.cA (KM.dJ k j x) e:=by unfold KM.cA KM.dJ;split <;> rfl
def tN (X:List Value) (hs:List LM.Sh):Prop:=∀n:Nat,n<256->X[n]?=some (.string (KM.filled hs n))
theorem Bb {lo mb:Nat} {tt:TypeId} {X:List Value} (k:KM.Kn) (S:St) (w:World) (j:Nat) (p:Int) (h:Km lo mb tt X w S k) (hR:KM.aQ k) (hj:j<k.aj.length) :
  Calls Tryz.prog 118 #[.pointer (some (Ad mb 0)),I (j:Int),I p] w fun e w'=>e=.returned (.tuple #[dH (dG (KM.aq k.aj j).au p).1,.bool (dG (KM.aq k.aj j).au p).2])/\Below w.heap.size w w':=by
 have hcc:=hR.c
 have hen:=iI hR hj
 obtain⟨pb,cP,A⟩:=h.toKr.sp (by omega)
 obtain⟨ae,ce,ui,hre⟩:=h.toKr.au hj
 have c3:=h.c3
 rw[A.v] at c3
 have a2:=A.x2 j hj
 rw[ui] at a2
 have e0:0+j*3+2=j*3+2:=by omega
 exact KW.zG (KM.aq k.aj j).au p j k.aj.length mb pb 0 cP ae ce w c3 hj (by rw[e0];exact a2) hre (by omega) (by omega)
theorem Ak {lo mb:Nat} {tt:TypeId} {X:List Value} (k:KM.Kn) (S:St) (w:World) (j:Nat) (p:Int) (held:List Int) (ah:Option Addr) (ch:Nat) (e:KM.En) (h:Km lo mb tt X w S k) (hR:KM.aQ k) (hj:j<k.aj.length) (he:KM.aT (KM.aq k.aj j).au p=some e) (hk:e.kind=1) :
  Calls Tryz.prog 141 #[.pointer (some (Ad mb 0)),I (j:Int),I p,.slice ah held.length ch] w (fH lo mb tt X w S (I ((KM.bR k j p held).1:Int)) (KM.bR k j p held).2):=by
 have fX:=ai (Bb k S w j p h hR hj)
 have e1:dG (KM.aq k.aj j).au p=(e,true):=by unfold KW.dG;rw[he]
 rw[e1] at fX
 have hP:KM.bR k j p held=(e.loc.toNat,k):=by
  unfold KM.bR
  rw[he]
  show(if e.kind=1 then _ else _)=_
  rw[if_pos hk]
 have hb:=(KM.fE hR hj (KM.ik he)).resolve_right (fun y=>by omega)
 rw[hP]
 have bh:Hid (∀V,Below w.heap.size w V->fH lo mb tt X w S (I ((e.loc.toNat:Nat):Int)) k (.returned (I e.loc)) V):=fun V hV=>⟨by rw[hb.2.1],S,h.below hV,Ch.below hV⟩
 obtain⟨P,G1⟩:=ex (fH lo mb tt X w S (I ((e.loc.toNat:Nat):Int)) k)
 rw[<- G1] at bh ⊢
 obtain⟨pg,kd,lc⟩:=e
 unfold dH at fX
 simp only at fX bh hk
 have kb:(kd==1)=true:=by simpa using hk
 clear hP G1 e1 he h hR hj hb hk
 go_enter Tryz.func141,Tryz.ntmps141
 go_wp2_with (go_at_call 118;refine fX.o.mono ?_;rintro r w1 ⟨rfl,hb1⟩;have aZ:=ai hb1;have BX:=B.new w1 #[I pg,I kd,I lc] 45;obtain⟨d0,d1,d2⟩:=B.c3 BX;clear hb1 BX)
 exact bh.o _ (aZ.o.alloc aZ.o.size _)
theorem uX {lo mb:Nat} {tt:TypeId} {X:List Value} (k:KM.Kn) (S:St) (w:World) (j:Nat) (p:Int) (held:List Int) (ah:Option Addr) (ch:Nat) (e:KM.En) (h:Km lo mb tt X w S k) (hR:KM.aQ k) (hj:j<k.aj.length) (he:KM.aT (KM.aq k.aj j).au p=some e) (hk:e.kind≠1) (hl:held.length<=2) (hH:Held w S ah held) :
  Calls Tryz.prog 141 #[.pointer (some (Ad mb 0)),I (j:Int),I p,.slice ah held.length ch] w (fH lo mb tt X w S (I ((KM.bR k j p held).1:Int)) (KM.bR k j p held).2):=by
 have fX:=ai (Bb k S w j p h hR hj)
 have e1:dG (KM.aq k.aj j).au p=(e,true):=by unfold KW.dG;rw[he]
 rw[e1] at fX
 have hP:KM.bR k j p held=((KM.bM k held).1,KM.cJ (KM.bM k held).2 j p (KM.bM k held).1 (KM.bk (KM.bM k held).2.slots e.loc.toNat).data true):=by
  unfold KM.bR
  rw[he]
  show(if e.kind=1 then _ else _)=_
  rw[if_neg hk]
 have hb:=(KM.fE hR hj (KM.ik he)).resolve_left (fun y=>hk y.1)
 have G:=KM.mA hR hl
 have hent:KM.aT (KM.aq (KM.bM k held).2.aj j).au p=some e:=by rw[G.tH j hj p (fun x hx=>by rw[he] at hx;injection hx with hx;subst hx;exact fun y=>hk y.1),he]
 have hmv:KM.cJ (KM.bM k held).2 j p (KM.bM k held).1 (KM.bk (KM.bM k held).2.slots e.loc.toNat).data true=KM.dJ (KM.cA (KM.iF (KM.bM k held).2 (KM.bM k held).1 (KM.bk (KM.bM k held).2.slots e.loc.toNat).data true) e) j ⟨p,1,(KM.bM k held).1⟩:=by
  rw[uJ]
  unfold KM.cJ
  rw[hent]
 rw[hP,hmv]
 have hcc:=hR.c
 have zn:j<(KM.bM k held).2.aj.length:=by rw[G.kept.np];exact hj
 have hi1:(KM.bM k held).1<(KM.bM k held).2.frames.length:=by rw[G.kept.nf];exact G.lt
 have hs1:e.loc.toNat<(KM.bM k held).2.slots.length:=by rw[G.kept.ns];exact hb.2.2
 have hrf:=(m7 G.right).2 e.loc.toNat hs1
 have E7:=iI G.right zn
 have Mc:=G.kept.np
 have T3:Hid (∀V,Below w.heap.size w V->Calls Tryz.prog 165 #[.pointer (some (Ad mb 0)),.slice ah held.length ch] V (fH lo mb tt X V S (I ((KM.bM k held).1:Int)) (KM.bM k held).2)):=fun V hV=>A5 k S V held ah ch (h.below hV) hR hl (hH.ch (Ch.below hV))
 obtain⟨k1,hk1⟩:=ex ((KM.bM k held).2)
 obtain⟨i,hi⟩:=ex ((KM.bM k held).1)
 rw[<- hk1,<- hi] at T3 hi1
 rw[<- hk1] at hs1 hrf zn E7 Mc
 rw[<- hk1,<- hi]
 obtain⟨D,hD⟩:=ex ((KM.bk k1.slots e.loc.toNat).data)
 rw[<- hD]
 have vr:Hid (∀V S',Km lo mb tt X V S' k1->∃fb cF lb cL,V.cell? (Ad mb 1)=some (.slice (some (Ad fb 0)) k1.frames.length cF)/\V.cell? (Ad mb 2)=some (.slice (some (Ad lb 0)) k1.slots.length cL)/\V.cell? (Ad lb (e.loc.toNat*2))=some (.string D)/\V.cell? (Ad fb (i*4))=some (.string (KM.aD k1.frames i).data)/\V.cell? (Ad fb (i*4+1))=some (I (KM.aD k1.frames i).refs)/\V.cell? (Ad fb (i*4+2))=some (.bool (KM.aD k1.frames i).bW)/\V.cell? (Ad fb (i*4+3))=some (.bool (KM.aD k1.frames i).seen)/\V.frozen? (Ad fb (i*4))=false/\V.frozen? (Ad fb (i*4+1))=false/\V.frozen? (Ad fb (i*4+2))=false/\V.frozen? (Ad fb (i*4+3))=false /\
   (∀U,U=((((V.setCell (Ad fb (i*4)) (.string D)).setCell (Ad fb (i*4+1)) (I 1)).setCell (Ad fb (i*4+2)) (.bool true)).setCell (Ad fb (i*4+3)) (.bool false)).drew->Km lo mb tt X U S' (KM.iF k1 i D true)/\Ch S' V S' U)):=fun V S' hV=>by
  obtain⟨fb,cF,A⟩:=hV.toKr.fr (by omega)
  obtain⟨lb,cL,AL⟩:=hV.toKr.sl (by omega)
  have c1:=hV.c1
  have c2:=hV.c2
  rw[A.v] at c1
  rw[AL.v] at c2
  refine⟨fb,cF,lb,cL,c1,c2,by rw[hD];exact AL.x0 _ hs1,A.x0 i hi1,A.x1 i hi1,A.x2 i hi1,A.x3 i hi1,A.fz _,A.fz _,A.fz _,A.fz _,fun U hU=>?_⟩
  have m:=hV.LP A.v hi1 ⟨D,1,true,false⟩
  subst hU
  exact⟨m.1.below (Below.refl _ _).drew,m.2.trans (Ch.below (Below.refl _ _).drew)⟩
 have N9:Hid (∀V S',Km lo mb tt X V S' (KM.iF k1 i D true)->Calls Tryz.prog 85 #[.pointer (some (Ad mb 0)),.agg #[I e.page,I e.kind,I e.loc],I (-1)] V (mS lo mb tt X V S' (.tuple #[]) (KM.cA (KM.iF k1 i D true) e))):=fun V S' hV=>by
  rw[<- KM.uK]
  refine tI _ S' V e (-1) hV (fun c=>absurd c hk) (fun _=>?_) (.inr rfl) ⟨fun c=>absurd c hk,fun _=>?_⟩
  · show 0<=e.loc/\e.loc<(k1.slots.length:Int)
    omega
  · show -1000000<=(KM.bk k1.slots e.loc.toNat).refs/\(KM.bk k1.slots e.loc.toNat).refs<=1000000
    omega
 have N8:Hid (∀V S',Km lo mb tt X V S' (KM.cA (KM.iF k1 i D true) e)->Calls Tryz.prog 166 #[.pointer (some (Ad mb 0)),I (j:Int),.agg #[I p,I 1,I (i:Int)]] V (fH lo mb tt X V S' (.tuple #[]) (KM.dJ (KM.cA (KM.iF k1 i D true) e) j ⟨p,1,i⟩))):=fun V S' hV=>by
  have hsp:(KM.cA (KM.iF k1 i D true) e).aj=k1.aj:=KM.rN _ _
  exact tG _ S' V j ⟨p,1,i⟩ hV (by rw[hsp];exact zn) (by rw[hsp];omega) (by rw[hsp];omega)
 have bh:Hid (∀V S',Km lo mb tt X V S' (KM.dJ (KM.cA (KM.iF k1 i D true) e) j ⟨p,1,i⟩)->Ch S w S' V->fH lo mb tt X w S (I (i:Int)) (KM.dJ (KM.cA (KM.iF k1 i D true) e) j ⟨p,1,i⟩) (.returned (I (i:Int))) V):=fun V S' h1 h2=>⟨rfl,S',h1,h2⟩
 obtain⟨K3,hK3⟩:=ex (KM.dJ (KM.cA (KM.iF k1 i D true) e) j ⟨p,1,i⟩)
 rw[<- hK3] at N8 bh ⊢
 obtain⟨K2,hK2⟩:=ex (KM.cA (KM.iF k1 i D true) e)
 rw[<- hK2] at N9 N8
 obtain⟨K1,Mx⟩:=ex (KM.iF k1 i D true)
 rw[<- Mx] at vr N9
 obtain⟨P,G1⟩:=ex (fH lo mb tt X w S (I (i:Int)) K3)
 rw[<- G1] at bh ⊢
 have gP:Hid (∀V:World,w.heap.size<=V.heap.size->S.lab V.heap.size=.no):=fun V hV=>h.toKr.new hV
 obtain⟨FR,zt⟩:=ex (KM.aD k1.frames i)
 rw[<- zt] at vr
 obtain⟨nf,lJ⟩:=ex k1.frames.length
 obtain⟨nl,hnl⟩:=ex k1.slots.length
 rw[<- lJ,<- hnl] at vr
 obtain⟨m,hm⟩:∃m:Nat,e.loc=(m:Int):=⟨e.loc.toNat,by omega⟩
 rw[hm,Int.toNat_natCast] at vr
 have SK:(m:Int)<(nl:Int):=by rw[hm,Int.toNat_natCast] at hs1;omega
 have J0:(i:Int)<(nf:Int):=by omega
 obtain⟨pg,kd,lc⟩:=e
 unfold dH at fX
 simp only at fX hk N9 hm
 subst hm
 have kb:(kd==1)=false:=by simpa using hk
 clear hP G1 e1 he h hR hj hb hk G hent hmv hcc zn hi1 hs1 hrf E7 Mc hk1 hi hD hK3 hK2 Mx hH hl zt lJ hnl
 go_enter Tryz.func141,Tryz.ntmps141
 go_upto_region 6 with(first
  | (go_at_call 118;refine fX.o.mono ?_;rintro r w1 ⟨rfl,hb1⟩;have aZ:=ai hb1;have cj:=ai (aZ.o.alloc aZ.o.size (.cells #[I pg,I kd,I (m:Int)] 45));have BX:=ai (B.new w1 #[I pg,I kd,I (m:Int)] 45);obtain⟨d0,d1,d2⟩:=B.c3 BX.o;have x4:=ai (gP.o w1 hb1.size);clear hb1)
  | (go_at_call 165;refine(T3.o _ cj.o).mono ?_;rintro r w2 ⟨rfl,S2,hk2,hc2⟩;have jh:=ai hk2;have kv:=ai ((Ch.below cj.o).trans hc2);have BG:=ai (hc2.keep BX.o x4.o);have DG:=ai (hc2.no _ (B.isLt BX.o) x4.o);clear hk2 hc2 d0 d1 d2))
 obtain⟨fb,cF,lb,cL,g1,g2,g3,g4,g5,g6,g7,g8,g9,g10,g11,hfin⟩:=vr.o w2 S2 jh.o
 obtain⟨d0,d1,d2⟩:=B.c3 BG.o
 obtain⟨U,hU⟩:=ex (((((w2.setCell (Ad fb (i*4)) (.string D)).setCell (Ad fb (i*4+1)) (I 1)).setCell (Ad fb (i*4+2)) (.bool true)).setCell (Ad fb (i*4+3)) (.bool false)).drew)
 obtain⟨hk3,hc3⟩:=hfin U hU
 have HU:=ai hU
 have ld:=ai hk3
 have nB:=ai (kv.o.trans hc3)
 have BX3:=ai (hc3.keep BG.o DG.o)
 have HN3:=ai (hc3.no _ (B.isLt BG.o) DG.o)
 clear hfin hU hk3 hc3
 go_region
 rw[<- HU.o]
 clear g1 g2 g3 g4 g5 g6 g7 g8 g9 g10 g11 d0 d1 d2 HU
 obtain⟨d0,d1,d2⟩:=B.c3 BX3.o
 go_wp2_with (first
  | (go_at_call 85;refine(N9.o _ _ ld.o).mono ?_;rintro r w4 ⟨rfl,hk4,E8⟩;have W8:=ai hk4;have Xk:=ai (nB.o.trans E8);clear hk4 E8)
  | (go_at_call 166;refine(N8.o _ _ W8.o).mono ?_;rintro r w5 ⟨rfl,S5,SP,VL⟩;have NA:=ai SP;have HC5:=ai (Xk.o.trans VL);clear SP VL))
 exact bh.o _ _ NA.o HC5.o
end KX
end Go.Proofs.YtpgifpeohlllfaaGreat
