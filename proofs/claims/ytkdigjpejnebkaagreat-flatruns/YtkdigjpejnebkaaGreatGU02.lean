import Derived.Test.YtkdigjpejnebkaaGreatGU00
import Derived.Lib.SliceRun
import Derived.Test.YtkdigjpejnebkaaGreatGU01
import Derived.WalkKit
import Derived.Lib.Endian
import Derived.Lib.EndianBits
import Derived.Lib.Strings
import Derived.Laws.BytesArg
import Derived.Lib.UnsafeStr
set_option maxHeartbeats 20000000
set_option linter.unusedVariables false
set_option maxRecDepth 100000
set_option linter.unusedSimpArgs false
namespace Go.Proofs.YtkdigjpejnebkaaGreat
namespace GK
open Go.RowKit
open FW (ai aB)
def From (w:World) (ao:Option Addr) (m:Nat) (news:List Value):Prop:=0<m->∃ad,ao=some ad/\∀j u,news[j]?=some u->w.cell? (ad.add j)=some u
theorem From.below {w w':World} {ao:Option Addr} {m:Nat} {news:List Value} (h:From w ao m news) (hb:Below w.heap.size w w'):From w' ao m news:=fun hm=>by
 obtain⟨ad,e,hc⟩:=h hm
 refine⟨ad,e,fun j u hu=>?_⟩
 have:=hc j u hu
 exact(hb.cell (World.block_lt_of_cell? w _ this)).trans this
theorem MT:(Tryz.prog.info? 59).map (fun i=>(i.zero,i.size,i.bytes))=some (some (.agg #[I 0,I 0,I 0,.bool false]),4,32):=by kernel_rfl
theorem IV (ao:Option Addr) (n c:Nat) (xs:List Value) (w:World) (hl:xs.length=n*4) (h:From w ao n xs) (h1:∀u∈xs,u.oneCell'=true) (hn:n<=1000000) :
  Calls Tryz.prog 23 #[.slice ao n c] w fun e w'=>∃v,e=.returned v/\w'.ownsRow w.heap.size 59 4 v n xs/\Below w.heap.size w w':=by
 have HH:=ai h
 have HL:=ai hl
 have H1:=ai h1
 clear h hl h1
 have q:∀(w:World) (a:Option Addr) (n c n' c':Nat),(binOp .eql 22 (.slice a n c) (.slice none n' c')).run Tryz.prog w=.ok (.bool a.isNone) w:=fun w a n c n' c'=>Lib.run_eql_slice_nil w _ _ a n c n' c' Tryz.underlying22
 obtain⟨i0,hin,hz0,hz1,hz2⟩:=info_parts MT
 cases ao with
 | none =>
  have h0:n=0:=by
   by_cases g:0<n
   · obtain⟨ad,e,_⟩:=HH.o g
     cases e
   · omega
  subst h0
  have hx:xs=[]:=List.eq_nil_of_length_eq_zero (by rw[HL.o])
  subst hx
  clear HH HL H1 hin hz0 hz1 hz2
  go_enter Tryz.func23,Tryz.ntmps23
  go_wp2
  go_ret
  exact⟨_,rfl,World.ownsRow_nil _ _ _ _,Below.refl _ _⟩
 | some ad =>
  have nB:=ai hin
  have vP:=ai hz0
  have rT:=ai hz1
  have mQ:=ai hz2
  clear hin hz0 hz1 hz2
  go_enter Tryz.func23,Tryz.ntmps23
  go_wp2_with (at_builtin;refine b7 (P:=Tryz.prog) rfl _ _ 22 rfl w.heap.size 59 i0 (.agg #[I 0,I 0,I 0,.bool false]) 4 32 Tryz.underlying22 nB.o vP.o rT.o mQ.o rfl (by decide) (.slice (some (Ad w.heap.size 0)) 0 0) 0 [] (by rfl) (World.ownsRow_made w #[] 0 (Nat.le_refl _) (by unfold maxLen;omega) (by simp)) (some ad) n c xs (by rfl) HL.o ((HH.o.below ((Below.refl _ _).alloc (Nat.le_refl _) _))) H1.o (by unfold maxLen;omega) (by omega) (by simp) ?_;intro v' w' hown hgr hat;have HOWN:=ai hown;have Cn:=ai hgr;clear hown hgr hat)
  go_ret
  have hown:=HOWN.o
  have hgr:=Cn.o
  rw[Nat.zero_add] at hown
  exact⟨_,rfl,hown,((Below.refl _ _).alloc (Nat.le_refl _) _).grown hgr (by simp) (fun k hk=>by simp[Value.ownBlock] at hk;omega)⟩
theorem ry:(Tryz.prog.info? 65).map (fun i=>(i.zero,i.size,i.bytes))=some (some (.agg #[I 0,.string ⟨#[]⟩]),2,24):=by kernel_rfl
theorem Q4 (ao:Option Addr) (n c:Nat) (xs:List Value) (w:World) (hl:xs.length=n*2) (h:From w ao n xs) (h1:∀u∈xs,u.oneCell'=true) (hn:n<=1000000) :
  Calls Tryz.prog 123 #[.slice ao n c] w fun e w'=>∃v,e=.returned v/\w'.ownsRow w.heap.size 65 2 v n xs/\Below w.heap.size w w':=by
 have HH:=ai h
 have HL:=ai hl
 have H1:=ai h1
 clear h hl h1
 have q:∀(w:World) (a:Option Addr) (n c n' c':Nat),(binOp .eql 51 (.slice a n c) (.slice none n' c')).run Tryz.prog w=.ok (.bool a.isNone) w:=fun w a n c n' c'=>Lib.run_eql_slice_nil w _ _ a n c n' c' Tryz.underlying51
 obtain⟨i0,hin,hz0,hz1,hz2⟩:=info_parts ry
 cases ao with
 | none =>
  have h0:n=0:=by
   by_cases g:0<n
   · obtain⟨ad,e,_⟩:=HH.o g
     cases e
   · omega
  subst h0
  have hx:xs=[]:=List.eq_nil_of_length_eq_zero (by rw[HL.o])
  subst hx
  clear HH HL H1 hin hz0 hz1 hz2
  go_enter Tryz.func123,Tryz.ntmps123
  go_wp2
  go_ret
  exact⟨_,rfl,World.ownsRow_nil _ _ _ _,Below.refl _ _⟩
 | some ad =>
  have nB:=ai hin
  have vP:=ai hz0
  have rT:=ai hz1
  have mQ:=ai hz2
  clear hin hz0 hz1 hz2
  go_enter Tryz.func123,Tryz.ntmps123
  go_wp2_with (at_builtin;refine b7 (P:=Tryz.prog) rfl _ _ 51 rfl w.heap.size 65 i0 (.agg #[I 0,.string ⟨#[]⟩]) 2 24 Tryz.underlying51 nB.o vP.o rT.o mQ.o rfl (by decide) (.slice (some (Ad w.heap.size 0)) 0 0) 0 [] (by rfl) (World.ownsRow_made w #[] 0 (Nat.le_refl _) (by unfold maxLen;omega) (by simp)) (some ad) n c xs (by rfl) HL.o ((HH.o.below ((Below.refl _ _).alloc (Nat.le_refl _) _))) H1.o (by unfold maxLen;omega) (by omega) (by simp) ?_;intro v' w' hown hgr hat;have HOWN:=ai hown;have Cn:=ai hgr;clear hown hgr hat)
  go_ret
  have hown:=HOWN.o
  have hgr:=Cn.o
  rw[Nat.zero_add] at hown
  exact⟨_,rfl,hown,((Below.refl _ _).alloc (Nat.le_refl _) _).grown hgr (by simp) (fun k hk=>by simp[Value.ownBlock] at hk;omega)⟩
theorem Bg:(Tryz.prog.info? 70).map (fun i=>(i.zero,i.size,i.bytes))=some (some (.agg #[I 0,I 0,I 0,I 0,I 0,I 0,I 0,I 0,I 0,I 0,I 0,I 0,I 0]),13,104):=by kernel_rfl
theorem Q3 (ao:Option Addr) (n c:Nat) (xs:List Value) (w:World) (hl:xs.length=n*13) (h:From w ao n xs) (h1:∀u∈xs,u.oneCell'=true) (hn:n<=1000000) :
  Calls Tryz.prog 79 #[.slice ao n c] w fun e w'=>∃v,e=.returned v/\w'.ownsRow w.heap.size 70 13 v n xs/\Below w.heap.size w w':=by
 have HH:=ai h
 have HL:=ai hl
 have H1:=ai h1
 clear h hl h1
 have q:∀(w:World) (a:Option Addr) (n c n' c':Nat),(binOp .eql 27 (.slice a n c) (.slice none n' c')).run Tryz.prog w=.ok (.bool a.isNone) w:=fun w a n c n' c'=>Lib.run_eql_slice_nil w _ _ a n c n' c' Tryz.underlying27
 obtain⟨i0,hin,hz0,hz1,hz2⟩:=info_parts Bg
 cases ao with
 | none =>
  have h0:n=0:=by
   by_cases g:0<n
   · obtain⟨ad,e,_⟩:=HH.o g
     cases e
   · omega
  subst h0
  have hx:xs=[]:=List.eq_nil_of_length_eq_zero (by rw[HL.o])
  subst hx
  clear HH HL H1 hin hz0 hz1 hz2
  go_enter Tryz.func79,Tryz.ntmps79
  go_wp2
  go_ret
  exact⟨_,rfl,World.ownsRow_nil _ _ _ _,Below.refl _ _⟩
 | some ad =>
  have nB:=ai hin
  have vP:=ai hz0
  have rT:=ai hz1
  have mQ:=ai hz2
  clear hin hz0 hz1 hz2
  go_enter Tryz.func79,Tryz.ntmps79
  go_wp2_with (at_builtin;refine b7 (P:=Tryz.prog) rfl _ _ 27 rfl w.heap.size 70 i0 (.agg #[I 0,I 0,I 0,I 0,I 0,I 0,I 0,I 0,I 0,I 0,I 0,I 0,I 0]) 13 104 Tryz.underlying27 nB.o vP.o rT.o mQ.o rfl (by decide) (.slice (some (Ad w.heap.size 0)) 0 0) 0 [] (by rfl) (World.ownsRow_made w #[] 0 (Nat.le_refl _) (by unfold maxLen;omega) (by simp)) (some ad) n c xs (by rfl) HL.o ((HH.o.below ((Below.refl _ _).alloc (Nat.le_refl _) _))) H1.o (by unfold maxLen;omega) (by omega) (by simp) ?_;intro v' w' hown hgr hat;have HOWN:=ai hown;have Cn:=ai hgr;clear hown hgr hat)
  go_ret
  have hown:=HOWN.o
  have hgr:=Cn.o
  rw[Nat.zero_add] at hown
  exact⟨_,rfl,hown,((Below.refl _ _).alloc (Nat.le_refl _) _).grown hgr (by simp) (fun k hk=>by simp[Value.ownBlock] at hk;omega)⟩
theorem Bf:(Tryz.prog.info? 78).map (fun i=>(i.zero,i.size,i.bytes))=some (some (.agg #[I 0,I 0]),2,16):=by kernel_rfl
theorem Q0 (ao:Option Addr) (n c:Nat) (xs:List Value) (w:World) (hl:xs.length=n*2) (h:From w ao n xs) (h1:∀u∈xs,u.oneCell'=true) (hn:n<=1000000) :
  Calls Tryz.prog 80 #[.slice ao n c] w fun e w'=>∃v,e=.returned v/\w'.ownsRow w.heap.size 78 2 v n xs/\Below w.heap.size w w':=by
 have HH:=ai h
 have HL:=ai hl
 have H1:=ai h1
 clear h hl h1
 have q:∀(w:World) (a:Option Addr) (n c n' c':Nat),(binOp .eql 28 (.slice a n c) (.slice none n' c')).run Tryz.prog w=.ok (.bool a.isNone) w:=fun w a n c n' c'=>Lib.run_eql_slice_nil w _ _ a n c n' c' Tryz.underlying28
 obtain⟨i0,hin,hz0,hz1,hz2⟩:=info_parts Bf
 cases ao with
 | none =>
  have h0:n=0:=by
   by_cases g:0<n
   · obtain⟨ad,e,_⟩:=HH.o g
     cases e
   · omega
  subst h0
  have hx:xs=[]:=List.eq_nil_of_length_eq_zero (by rw[HL.o])
  subst hx
  clear HH HL H1 hin hz0 hz1 hz2
  go_enter Tryz.func80,Tryz.ntmps80
  go_wp2
  go_ret
  exact⟨_,rfl,World.ownsRow_nil _ _ _ _,Below.refl _ _⟩
 | some ad =>
  have nB:=ai hin
  have vP:=ai hz0
  have rT:=ai hz1
  have mQ:=ai hz2
  clear hin hz0 hz1 hz2
  go_enter Tryz.func80,Tryz.ntmps80
  go_wp2_with (at_builtin;refine b7 (P:=Tryz.prog) rfl _ _ 28 rfl w.heap.size 78 i0 (.agg #[I 0,I 0]) 2 16 Tryz.underlying28 nB.o vP.o rT.o mQ.o rfl (by decide) (.slice (some (Ad w.heap.size 0)) 0 0) 0 [] (by rfl) (World.ownsRow_made w #[] 0 (Nat.le_refl _) (by unfold maxLen;omega) (by simp)) (some ad) n c xs (by rfl) HL.o ((HH.o.below ((Below.refl _ _).alloc (Nat.le_refl _) _))) H1.o (by unfold maxLen;omega) (by omega) (by simp) ?_;intro v' w' hown hgr hat;have HOWN:=ai hown;have Cn:=ai hgr;clear hown hgr hat)
  go_ret
  have hown:=HOWN.o
  have hgr:=Cn.o
  rw[Nat.zero_add] at hown
  exact⟨_,rfl,hown,((Below.refl _ _).alloc (Nat.le_refl _) _).grown hgr (by simp) (fun k hk=>by simp[Value.ownBlock] at hk;omega)⟩
end GK
namespace FM
open Go.RowKit
theorem m7:∀(qs ps:List Int),ps.Pairwise (·<·)->qs.Pairwise (·<·)->(∀x∈ps,x∈qs)->ps.length<=qs.length
 | [],[],_,_,_=>Nat.le_refl _
 | [],p::ps,_,_,h=>by cases h p List.mem_cons_self
 | q::qs,[],_,_,_=>by simp
 | q::qs,p::ps,h1,h2,h=>by
  rw[List.pairwise_cons] at h1 h2
  by_cases e:p=q
  · subst e
    have:=m7 qs ps h1.2 h2.2 (fun x hx=>by
     rcases List.mem_cons.1 (h x (List.mem_cons_of_mem _ hx)) with g | g
     · have:=h1.1 x hx
       omega
     · exact g)
    simp only[List.length_cons]
    omega
  · have hp:p∈qs:=by
     rcases List.mem_cons.1 (h p List.mem_cons_self) with g | g
     · exact(e g).elim
     · exact g
    have hq:=h2.1 p hp
    have:=m7 qs (p::ps) (List.pairwise_cons.2 h1) h2.2 (fun x hx=>by
     rcases List.mem_cons.1 (h x hx) with g | g
     · rcases List.mem_cons.1 hx with k | k
       · omega
       · have:=h1.1 x k
         omega
     · exact g)
    simp only[List.length_cons] at this ⊢
    omega
theorem tS:∀(qs ps:List Int),ps.Pairwise (·<·)->qs.Pairwise (·<·)->(∀x∈ps,x∈qs)->ps.length=qs.length->ps=qs
 | [],[],_,_,_,_=>rfl
 | [],p::ps,_,_,_,h=>by simp at h
 | q::qs,[],_,_,_,h=>by simp at h
 | q::qs,p::ps,h1,h2,h,hl=>by
  have h1':=h1
  rw[List.pairwise_cons] at h1 h2
  simp only[List.length_cons] at hl
  by_cases e:p=q
  · subst e
    rw[tS qs ps h1.2 h2.2 (fun x hx=>by
     rcases List.mem_cons.1 (h x (List.mem_cons_of_mem _ hx)) with g | g
     · have:=h1.1 x hx
       omega
     · exact g) (by omega)]
  · have hp:p∈qs:=by
     rcases List.mem_cons.1 (h p List.mem_cons_self) with g | g
     · exact(e g).elim
     · exact g
    have hq:=h2.1 p hp
    have:=m7 qs (p::ps) h1' h2.2 (fun x hx=>by
     rcases List.mem_cons.1 (h x hx) with g | g
     · rcases List.mem_cons.1 hx with k | k
       · omega
       · have:=h1.1 x k
         omega
     · exact g)
    simp only[List.length_cons] at this
    omega
def run (p:Int):Nat->List Int
 | 0=>[]
 | n+1=>p::run (p+1) n
theorem nM (p:Int):∀n,(run p n).length=n:=fun n=>by
 induction n generalizing p with
 | zero=>rfl
 | succ n ih=>show(run (p+1) n).length+1=_;rw[ih]
theorem jJ:∀(n:Nat) (p x:Int),x∈run p n↔p<=x/\x<p+n
 | 0,p,x=>by constructor <;> intro h;cases h;omega
 | n+1,p,x=>by
  show x∈p::run (p+1) n↔_
  rw[List.mem_cons,jJ n (p+1) x]
  omega
theorem nL:∀(n:Nat) (p:Int),(run p n).Pairwise (·<·)
 | 0,p=>List.Pairwise.nil
 | n+1,p=>List.pairwise_cons.2 ⟨fun x hx=>by have:=(jJ n (p+1) x).1 hx;omega,nL n (p+1)⟩
def bk:List AM.Ar->List Int
 | []=>[]
 | a::r=>run a.page a.aj.toNat++bk r
theorem zV:∀(l:List AM.Ar) (x:Int),x∈bk l↔(AM.aP l x).2=true
 | [],x=>by constructor <;> intro h <;> cases h
 | a::r,x=>by
  show x∈run a.page a.aj.toNat++bk r↔_
  rw[List.mem_append,jJ,zV r x]
  show _↔(if AM.hit a x=true then (a,true) else AM.aP r x).2=true
  by_cases c:AM.hit a x=true
  · have h6:a.page<=x/\x<a.page+a.aj:=of_decide_eq_true c
    rw[if_pos c]
    exact⟨fun _=>rfl,fun _=>.inl (by omega)⟩
  · have h6:¬(a.page<=x/\x<a.page+a.aj):=fun g=>c (decide_eq_true g)
    rw[if_neg c]
    exact⟨fun g=>by rcases g with g | g;omega;exact g,fun g=>.inr g⟩
def TB:Int->List AM.Ar->Prop
 | _,[]=>True
 | lo,a::r=>lo<=a.page/\1<=a.aj/\TB (a.page+a.aj) r
theorem TB.low:∀{l:List AM.Ar} {lo:Int},TB lo l->∀x∈bk l,lo<=x
 | [],lo,h,x,hx=>by cases hx
 | a::r,lo,h,x,hx=>by
  obtain⟨h1,h2,h3⟩:=h
  rcases List.mem_append.1 hx with g | g
  · have:=(jJ _ _ _).1 g
    omega
  · have:=h3.low x g
    omega
theorem TB.sorted:∀{l:List AM.Ar} {lo:Int},TB lo l->(bk l).Pairwise (·<·)
 | [],lo,h=>List.Pairwise.nil
 | a::r,lo,h=>by
  obtain⟨h1,h2,h3⟩:=h
  show(run a.page a.aj.toNat++bk r).Pairwise (·<·)
  rw[List.pairwise_append]
  refine⟨nL _ _,h3.sorted,fun x hx y hy=>?_⟩
  have:=(jJ _ _ _).1 hx
  have:=h3.low y hy
  omega
def Good (l:List AM.Ar):Prop:=∀i,i<l.length->(1<=(AM.at_ l i).page/\1<=(AM.at_ l i).aj)/\(0<i->(AM.at_ l (i-1)).page+(AM.at_ l (i-1)).aj<=(AM.at_ l i).page)
theorem Good.tail {a:AM.Ar} {r:List AM.Ar} (h:Good (a::r)):Good r:=fun i hi=>by
 have h1:=h (i+1) (by simp;omega)
 refine⟨h1.1,fun g=>?_⟩
 have h2:=h1.2 (by omega)
 obtain⟨j,rfl⟩:∃j,i=j+1:=⟨i-1,by omega⟩
 exact h2
theorem DA:∀(l:List AM.Ar) (lo:Int),Good l->(∀a r,l=a::r->lo<=a.page)->TB lo l
 | [],lo,h,_=>trivial
 | a::r,lo,h,hlo=>by
  have h0:=(h 0 (by simp)).1
  refine⟨hlo a r rfl,h0.2,DA r _ h.tail (fun b q e=>?_)⟩
  subst e
  exact(h 1 (by simp)).2 (by omega)
theorem ID {l:List AM.Ar} (hc:AM.aD l=0):Good l:=fun i hi=>by
 have h:=AM.dD l hc i hi
 have h1:=AM.dC l i h
 refine⟨⟨h1.1,h1.2.1⟩,fun g=>?_⟩
 unfold AM.ni at h
 simp only[Bool.and_eq_true,Bool.or_eq_true,beq_iff_eq] at h
 rcases h.2 with e | e
 · omega
 · unfold AM.fC at e
   by_cases c:(AM.at_ l i).page=(AM.at_ l (i-1)).eD
   · unfold AM.Ar.eD at c
     omega
   · rw[if_neg c] at e
     have:=of_decide_eq_true e
     unfold AM.Ar.eD at this
     omega
theorem lX {l:List AM.Ar} (hc:AM.aD l=0):TB 1 l:=DA l 1 (ID hc) (fun a r e=>by
 subst e
 exact((ID hc) 0 (by simp)).1.1)
theorem sum_cons (a:AM.Ar) (r:List AM.Ar):∀k,AM.sumTo (a::r) (k+1)=a.aj+AM.sumTo r k
 | 0=>by show(0:Int)+a.aj=a.aj+0;omega
 | k+1=>by
  show AM.sumTo (a::r) (k+1)+(AM.at_ (a::r) (k+1)).aj=a.aj+(AM.sumTo r k+(AM.at_ r k).aj)
  rw[sum_cons a r k]
  show _+(AM.at_ r k).aj=_
  omega
theorem sD:∀{l:List AM.Ar} {lo:Int},TB lo l->((bk l).length:Int)=AM.sumTo l l.length
 | [],lo,h=>rfl
 | a::r,lo,h=>by
  obtain⟨h1,h2,h3⟩:=h
  show(((run a.page a.aj.toNat++bk r).length:Nat):Int)=AM.sumTo (a::r) (r.length+1)
  rw[sum_cons,List.length_append,nM,<- sD h3]
  omega
theorem mg {l:List AM.Ar} (hc:AM.aD l=0):AM.br l=((bk l).length:Int):=by
 unfold AM.br
 rw[if_pos hc,sD (lX hc)]
theorem qb {l:List AM.Ar} (hc:AM.aD l=0) (x:Int):(AM.aX l x).2=true↔x∈bk l:=by
 rw[zV]
 unfold AM.aX
 rw[if_pos hc]
theorem Fq {l:List AM.Ar} (hc:AM.aD l=0) (ps:List Int):(((ps.length:Int)=AM.br l)/\(∀x∈ps,(AM.aX l x).2=true)/\ps.Pairwise (·<·))↔ps=bk l:=by
 constructor
 · rintro⟨h1,h2,h3⟩
   rw[mg hc] at h1
   exact tS _ _ h3 (lX hc).sorted (fun x hx=>(qb hc x).1 (h2 x hx)) (by omega)
 · intro e
   subst e
   exact⟨(mg hc).symm,fun x hx=>(qb hc x).2 hx,(lX hc).sorted⟩
end FM
namespace CM
open Go.RowKit
theorem xt:∀l:List UInt8,Lib.leNat l<256 ^ l.length
 | []=>by simp[Lib.leNat]
 | b::r=>by
  have h:=xt r
  have hb:b.toNat<256:=b.toNat_lt
  simp only[Lib.leNat,List.length_cons,Nat.pow_succ]
  omega
theorem J0 (l:List UInt8) (h:l.length<=7):Lib.leNat l<72057594037927936:=by
 have h1:=xt l
 have h2:256 ^ l.length<=256 ^ 7:=Nat.pow_le_pow_right (by decide) h
 have h3:(256:Nat) ^ 7=72057594037927936:=by decide
 omega
theorem Kq (s:ByteArray) (k:Nat) (h0:0<k) (hk:k<=s.size):s.data.toList.drop (k-1)=s[k-1]::s.data.toList.drop k:=by
 have h:k-1<s.data.toList.length:=by rw[<- Lib.size_eq];omega
 have e:=List.drop_eq_getElem_cons h
 rw[show k-1+1=k from by omega] at e
 exact e
theorem xq (s:ByteArray) (k:Nat) (h0:0<k) (hk:k<=s.size) :
  ((Lib.leNat (s.data.toList.drop (k-1)):Nat):Int)=(s[k-1].toNat:Int)+256*(Lib.leNat (s.data.toList.drop k):Nat):=by
 rw[Kq s k h0 hk]
 simp only[Lib.leNat]
 omega
theorem TZ (N b:Int) (h0:0<=N) (h1:N<72057594037927936) (b0:0<=b) (b1:b<256) :
  bits .or .u64 (IntKind.u64.wrap (N*256)) (IntKind.u64.wrap b)=b+256*N:=by
 rw[u64_wrap_id _ (by omega) (by omega),u64_wrap_id b b0 (by omega)]
 have hc:bits .or .u64 (N*256) b=bits .or .u64 b (N*256):=by simp only[bits,BitVec.or_comm]
 rw[hc,u64_or8 _ _ b0 b1 (by omega) (by omega) (by omega)]
 omega
theorem T3 (x b:Int) (hx:x%256=0) (b0:0<=b) (b1:b<256) :
  bits .or .i64 (wrap64 x) b=wrap64 (x+b):=by
 show IntKind.i64.wrap ((BitVec.ofInt 64 (wrap64 x) ||| BitVec.ofInt 64 b).toNat:Nat)=_
 rw[BitVec.toNat_or,BitVec.toNat_ofInt,BitVec.toNat_ofInt]
 have e1:(b%((2 ^ 64:Nat):Int)).toNat=b.toNat:=by omega
 have e2:(wrap64 x%((2 ^ 64:Nat):Int)).toNat%2 ^ 8=0:=by unfold wrap64;omega
 rw[e1,nat_join 8 _ _ e2 (by omega),IntKind.wrap_i64]
 unfold wrap64
 omega
theorem P4 (N b:Int) (b0:0<=b) (b1:b<256) :
  bits .or .i64 (wrap64 (wrap64 N*256)) (wrap64 b)=wrap64 (b+256*N):=by
 have e1:wrap64 (wrap64 N*256)=wrap64 (N*256):=by unfold wrap64;omega
 have e2:wrap64 b=b:=by unfold wrap64;omega
 rw[e1,e2,T3 _ _ (by omega) b0 b1]
 congr 1
 omega
def shr (n:Int) (k:Nat):Int:=n/256 ^ k
def low (n:Int):Nat:=(n%18446744073709551616).toNat
theorem LU (n:Int):shr n 0=n:=by simp[shr]
theorem LV (n:Int) (k:Nat):shr n k/256=shr n (k+1):=by
 simp only[shr,Int.pow_succ]
 rw[Int.ediv_ediv_of_nonneg (Int.pow_nonneg (by decide))]
theorem nP:∀(k v:Nat),Lib.leBytes (k+1) v=Lib.leBytes k v++[(v/256 ^ k%256).toUInt8]
 | 0,v=>by simp[Lib.leBytes]
 | k+1,v=>by
  rw[Lib.leBytes,nP k (v/256)]
  simp only[Lib.leBytes,List.cons_append]
  rw[Nat.div_div_eq_div_mul,<- Nat.pow_succ']
theorem LX (n:Int) (k:Nat) (h:k<8):shr n k%256=((low n/256 ^ k%256:Nat):Int):=by
 unfold shr low
 match k,h with
 | 0,_=>simp;omega
 | 1,_=>omega
 | 2,_=>omega
 | 3,_=>omega
 | 4,_=>omega
 | 5,_=>omega
 | 6,_=>omega
 | 7,_=>omega
theorem wB (n:Int) (k:Nat) (h:k<8):strOfNums [shr n k%256]=⟨#[(low n/256 ^ k%256).toUInt8]⟩:=by
 rw[LX n k h]
 simp[strOfNums]
 rfl
theorem JV (a b:List UInt8):(⟨a.toArray⟩:ByteArray)++⟨b.toArray⟩=⟨(a++b).toArray⟩:=ByteArray.mk_append_mk a b
def row (size k V:Nat):List Value:=Lib.byteCells (Lib.leBytes k V)++List.replicate (size-k) (.int .u8 0)
theorem Me (size V:Nat):row size 0 V=List.replicate size (.int .u8 0):=by simp[row,Lib.leBytes,Lib.byteCells]
theorem jL (size k V:Nat) (h:k<size):(row size k V)[k]?=some (.int .u8 0):=by
 unfold row
 rw[List.getElem?_append_right (by rw[Lib.byteCells_length,Lib.leBytes_length];exact Nat.le_refl _),Lib.byteCells_length,Lib.leBytes_length,List.getElem?_replicate]
 simp;omega
theorem CH (x:Nat):(((x%256).toUInt8.toNat:Nat):Int)=(x:Int)%256:=by
 rw[Lib.toUInt8_mod];omega
theorem bY (size k V:Nat) (h:k<size):(row size k V).set k (.int .u8 (((V/256 ^ k:Nat):Int)%256))=row size (k+1) V:=by
 unfold row
 rw[List.set_append_right _ _ (by rw[Lib.byteCells_length,Lib.leBytes_length];exact Nat.le_refl _),Lib.byteCells_length,Lib.leBytes_length,Nat.sub_self]
 obtain⟨m,hm⟩:∃m,size-k=m+1:=⟨size-k-1,by omega⟩
 rw[hm,List.replicate_succ,List.set_cons_zero,nP,Lib.byteCells_append,List.append_assoc,show size-(k+1)=m from by omega]
 simp only[Lib.byteCells,List.map_cons,List.map_nil,List.cons_append,List.nil_append,CH]
theorem Mg (size V:Nat):row size size V=Lib.byteCells (Lib.leBytes size V):=by simp[row]
theorem Qm (n:Int) (k:Nat):((low n/256 ^ k:Nat):Int)/256=((low n/256 ^ (k+1):Nat):Int):=by
 rw[Nat.pow_succ,<- Nat.div_div_eq_div_mul];omega
theorem ko (l:List UInt8):strOfNums (l.map fun b=>(b.toNat:Int))=⟨l.toArray⟩:=by
 simp only[strOfNums,List.map_map]
 congr 1
 congr 1
 induction l with
 | nil=>rfl
 | cons b r ih=>simp[ih]
theorem PE (n:Int):IntKind.u64.wrap n=((low n:Nat):Int):=by
 rw[IntKind.wrap_u64];unfold low;omega
theorem qM (l:List UInt8) (i:Nat) (h:i<l.length):(Lib.byteCells l)[i]?=some (.int .u8 ((l.map fun b=>(b.toNat:Int)).getD i 0)):=by
 simp[Lib.byteCells,h]
theorem bounds (n:Int) (h:(Lit.int .i64 n).wf=true):-9223372036854775808<=n/\n<=9223372036854775807:=by
 simp only[Lit.wf,IntKind.min,IntKind.max,IntKind.signed,IntKind.bits,Bool.and_eq_true,decide_eq_true_eq,if_true] at h
 omega
end CM
namespace PM
open Go.RowKit
def le (k:Nat) (n:Int):ByteArray:=⟨(Lib.leBytes k (CM.low n)).toArray⟩
theorem le_size (k:Nat) (n:Int):(le k n).size=k:=by
 unfold le
 rw[Lib.size_eq]
 simp[Lib.leBytes_length]
structure ey where
 op:Int
 a:Int
 b:Int
 c:Int
 m:Int
def ey.cells (i:ey):Array Value:=#[I i.op,I i.a,I i.b,I i.c,I i.m]
def Cs (n:Int):Prop:=0<=n/\n<=255
instance (n:Int):Decidable (Cs n):=by unfold Cs;infer_instance
def ey.fits (i:ey):Prop:=Cs i.op/\Cs i.a/\Cs i.b/\Cs i.c/\-2147483648<=i.m/\i.m<=2147483647
instance (i:ey):Decidable i.fits:=by unfold ey.fits;infer_instance
def ey.bytes (i:ey):ByteArray:=(((le 1 i.op++le 1 i.a)++le 1 i.b)++le 1 i.c)++le 4 i.m
theorem yg (i:ey):i.bytes.size=8:=by
 unfold ey.bytes
 simp only[ByteArray.size_append,le_size]
def jt (n:Int):Int:=if 2147483648<=n then n-4294967296 else n
def at_ (s:ByteArray) (k:Nat):Int:=((s.data.toList.getD k 0).toNat:Int)
def ins (s:ByteArray):ey:=⟨at_ s 0,at_ s 1,at_ s 2,at_ s 3,jt (Lib.leNat (s.data.toList.drop 4))⟩
theorem yl (s:ByteArray) (k:Nat):Cs (at_ s k):=by
 unfold Cs at_
 have:=(s.data.toList.getD k 0).toNat_lt
 omega
theorem mF (s:ByteArray) (k:Nat):wrap64 (at_ s k)=at_ s k:=by
 have h:=yl s k
 unfold Cs at h
 unfold wrap64
 omega
theorem PJ (n:Int) (h:2147483648<=n):jt n=n-4294967296:=if_pos h
theorem PI (n:Int) (h:¬2147483648<=n):jt n=n:=if_neg h
theorem get_at (s:ByteArray) (k:Nat) (h:k<s.size):((s[k].toNat:Nat):Int)=at_ s k:=by
 unfold at_
 have h':k<s.data.toList.length:=by rw[<- Lib.size_eq];exact h
 rw[List.getD_eq_getElem?_getD,List.getElem?_eq_getElem h']
 rfl
theorem BB (s:ByteArray) (h:s.size=8):Lib.leNat (s.data.toList.drop 4)<4294967296:=by
 have h1:=CM.xt (s.data.toList.drop 4)
 have h2:(s.data.toList.drop 4).length=4:=by rw[List.length_drop,<- Lib.size_eq];omega
 rw[h2] at h1
 exact h1
theorem wD (n:Int) (h0:0<=n) (h1:n<4294967296):-2147483648<=jt n/\jt n<=2147483647:=by
 unfold jt
 split <;> omega
theorem pj (s:ByteArray) (h:s.size=8):(ins s).fits:=by
 have h4:=BB s h
 have h5:=wD (Lib.leNat (s.data.toList.drop 4)) (by omega) (by omega)
 exact⟨yl s 0,yl s 1,yl s 2,yl s 3,h5.1,h5.2⟩
theorem wrap32 (n:Int) (h0:0<=n) (h1:n<4294967296):IntKind.i32.wrap n=jt n:=by
 unfold jt
 rw[IntKind.wrap_i32]
 split <;> omega
theorem extract_data (s:ByteArray) (h:s.size=8):(s.extract 4 8).data.toList=s.data.toList.drop 4:=by
 have e:=Lib.extract_data s 4 8
 rw[e]
 exact List.take_of_length_le (by rw[List.length_drop,<- Lib.size_eq];omega)
def dn (l:List Int):Bool:=l.all fun x=>decide (0<=x/\x<8)
def dL (n:Int):Bool:=decide (n=1∨n=2∨n=4∨n=8)
def ey.bad (i:ey):Bool :=
 if i.op=12 then false
 else if i.op=16 then !(decide (1<=i.m/\i.m<=6))
 else if i.op=1∨i.op=11∨i.op=15 then decide (8<=i.a)
 else if 2<=i.op/\i.op<=7 then decide (8<=i.a∨8<=i.b∨8<=i.c)
 else if i.op=8∨i.op=13∨i.op=14 then decide (8<=i.a∨8<=i.b)
 else if i.op=9∨i.op=10 then decide (8<=i.a∨8<=i.b) || !(dL i.c)
 else true
theorem WT (a:Int) (ha:Cs a):(!dn [a])=decide (8<=a):=by
 unfold Cs at ha
 simp only[dn,List.all_cons,List.all_nil,Bool.and_true]
 by_cases h:8<=a <;> simp[h] <;> omega
theorem WS (a b:Int) (ha:Cs a) (hb:Cs b):(!dn [a,b])=decide (8<=a∨8<=b):=by
 unfold Cs at ha hb
 simp only[dn,List.all_cons,List.all_nil,Bool.and_true]
 by_cases h:8<=a <;> by_cases g:8<=b <;> simp[h,g] <;> omega
theorem WN (a b c:Int) (ha:Cs a) (hb:Cs b) (hc:Cs c):(!dn [a,b,c])=decide (8<=a∨8<=b∨8<=c):=by
 unfold Cs at ha hb hc
 simp only[dn,List.all_cons,List.all_nil,Bool.and_true]
 by_cases h:8<=a <;> by_cases g:8<=b <;> by_cases k:8<=c <;> simp[h,g,k] <;> omega
theorem GY (l:List Int) (k:Nat) (x:Int) (h:l[k]?=some x) (hx:¬(0<=x/\x<8)):dn l=false:=by
 unfold dn
 rw[List.all_eq_false]
 exact⟨x,List.mem_of_getElem? h,by simpa using hx⟩
theorem Ed (l:List Int) (h:∀(k:Nat) (x:Int),l[k]?=some x->0<=x/\x<8):dn l=true:=by
 unfold dn
 rw[List.all_eq_true]
 intro x hx
 obtain⟨k,hk⟩:=List.getElem?_of_mem hx
 simpa using h k x hk
structure Pr where
 r:Nat->Int
 pc:Int
 st:Int
 cd:Int
 fk:Int
 fa:Int
def Pr.row (p:Pr):Array Value:=#[I (p.r 0),I (p.r 1),I (p.r 2),I (p.r 3),I (p.r 4),I (p.r 5),I (p.r 6),I (p.r 7),I p.pc,I p.st,I p.cd,I p.fk,I p.fa]
def Pr.val (p:Pr):Value:=.agg p.row
def Pr.set (p:Pr) (j:Nat) (v:Int):Pr:={ p with r:=fun k=>if k=j then v else p.r k }
theorem bY (p:Pr) (j:Nat) (v:Int) (h:j<8):p.row.setIfInBounds j (I v)=(p.set j v).row:=by
 match j,h with
 | 0,_=>rfl
 | 1,_=>rfl
 | 2,_=>rfl
 | 3,_=>rfl
 | 4,_=>rfl
 | 5,_=>rfl
 | 6,_=>rfl
 | 7,_=>rfl
theorem jL (p:Pr) (j:Nat) (h:j<8):p.row[j]?=some (I (p.r j)):=by
 match j,h with
 | 0,_=>rfl
 | 1,_=>rfl
 | 2,_=>rfl
 | 3,_=>rfl
 | 4,_=>rfl
 | 5,_=>rfl
 | 6,_=>rfl
 | 7,_=>rfl
theorem kv (p:Pr) (v:Int):p.row.setIfInBounds 8 (I v)=({ p with pc:=v }:Pr).row:=rfl
theorem ku (p:Pr) (v:Int):p.row.setIfInBounds 9 (I v)=({ p with st:=v }:Pr).row:=rfl
theorem kx (p:Pr) (v:Int):p.row.setIfInBounds 10 (I v)=({ p with cd:=v }:Pr).row:=rfl
theorem fY (p:Pr):p.row.size=13:=rfl
theorem kr:(∀(q:Pr) (h:0<q.row.size),q.row[0]=I (q.r 0))/\(∀(q:Pr) (h:1<q.row.size),q.row[1]=I (q.r 1))/\(∀(q:Pr) (h:2<q.row.size),q.row[2]=I (q.r 2))/\(∀(q:Pr) (h:3<q.row.size),q.row[3]=I (q.r 3))/\(∀(q:Pr) (h:4<q.row.size),q.row[4]=I (q.r 4))/\(∀(q:Pr) (h:5<q.row.size),q.row[5]=I (q.r 5))/\(∀(q:Pr) (h:6<q.row.size),q.row[6]=I (q.r 6))/\(∀(q:Pr) (h:7<q.row.size),q.row[7]=I (q.r 7))/\(∀(q:Pr) (h:8<q.row.size),q.row[8]=I q.pc)/\(∀(q:Pr) (h:9<q.row.size),q.row[9]=I q.st)/\(∀(q:Pr) (h:10<q.row.size),q.row[10]=I q.cd)/\(∀(q:Pr) (h:11<q.row.size),q.row[11]=I q.fk)/\(∀(q:Pr) (h:12<q.row.size),q.row[12]=I q.fa):=⟨fun q h=>rfl,fun q h=>rfl,fun q h=>rfl,fun q h=>rfl,fun q h=>rfl,fun q h=>rfl,fun q h=>rfl,fun q h=>rfl,fun q h=>rfl,fun q h=>rfl,fun q h=>rfl,fun q h=>rfl,fun q h=>rfl⟩
theorem H7 (n:Nat) (hn:n<8):(∀(q:Pr) (v:Int),q.row.setIfInBounds n (I v)=(q.set n v).row)/\(∀(q:Pr),q.row[n]?=some (I (q.r n)))/\(∀(q:Pr) (h:n<q.row.size),q.row[n]=I (q.r n)):=⟨fun q v=>bY q n v hn,fun q=>jL q n hn,fun q h=>Option.some.inj ((Array.getElem?_eq_getElem h).symm.trans (jL q n hn))⟩
theorem Jq (n:Int):bits .and .u64 (IntKind.u64.wrap n) 63=n%64:=by
 have h63:(BitVec.ofInt 64 63).toNat=2 ^ 6-1:=by decide
 have key:(BitVec.ofInt 64 (IntKind.u64.wrap n) &&& BitVec.ofInt 64 63).toNat=((IntKind.u64.wrap n)%((2 ^ 64:Nat):Int)).toNat%2 ^ 6:=by
  rw[BitVec.toNat_and,BitVec.toNat_ofInt,h63,Nat.and_two_pow_sub_one_eq_mod]
 show IntKind.u64.wrap ((BitVec.ofInt 64 (IntKind.u64.wrap n) &&& BitVec.ofInt 64 63).toNat:Nat)=n%64
 rw[key,IntKind.wrap_u64,IntKind.wrap_u64]
 omega
theorem J4 (n:Int):bits .and .i64 n 63=n%64:=by
 have h63:(BitVec.ofInt 64 63).toNat=2 ^ 6-1:=by decide
 have key:(BitVec.ofInt 64 n &&& BitVec.ofInt 64 63).toNat=(n%((2 ^ 64:Nat):Int)).toNat%2 ^ 6:=by
  rw[BitVec.toNat_and,BitVec.toNat_ofInt,h63,Nat.and_two_pow_sub_one_eq_mod]
 show IntKind.i64.wrap ((BitVec.ofInt 64 n &&& BitVec.ofInt 64 63).toNat:Nat)=n%64
 rw[key,IntKind.wrap_i64]
 omega
def rk (op b c:Int):Int :=
 if op=2 then wrap64 (b+c) else if op=3 then wrap64 (b-c) else if op=4 then wrap64 (b*c) else if op=5 then bits .and .i64 b c else if op=6 then bits .xor .i64 b c
 else wrap64 (IntKind.u64.wrap b/2 ^ min (c%64).toNat 64)
def doneN (p:Pr) (i:ey) (v:Int):Pr :=
 let nx:Pr:={ p with pc:=wrap64 (p.pc+8) }
 let tgt:Int:=wrap64 (p.pc+i.m)
 if i.op=1 then nx.set i.a.toNat i.m
 else if 2<=i.op/\i.op<=7 then nx.set i.a.toNat (rk i.op (p.r i.b.toNat) (p.r i.c.toNat))
 else if i.op=8 then nx.set i.a.toNat (wrap64 (p.r i.b.toNat+i.m))
 else if i.op=9 then nx.set i.a.toNat v
 else if i.op=10 then nx
 else if i.op=11 then nx.set i.a.toNat tgt
 else if i.op=12 then { p with pc:=tgt }
 else if i.op=13 then (if p.r i.a.toNat=p.r i.b.toNat then { p with pc:=tgt } else nx)
 else if i.op=14 then (if p.r i.a.toNat<p.r i.b.toNat then { p with pc:=tgt } else nx)
 else if i.op=15 then { p with pc:=p.r i.a.toNat }
 else if i.m=6 then { nx with st:=2,cd:=p.r 0 }
 else if i.m=1 then nx
 else nx.set 0 v
def j6 (p:Pr) (i:ey):Array Value :=
 if i.bad then #[I 4,I 0,I 0,I 0,I 0]
 else if i.op=9 then #[I 1,I (wrap64 (p.r i.b.toNat+i.m)),I i.c,I 0,I 0]
 else if i.op=10 then #[I 2,I (wrap64 (p.r i.b.toNat+i.m)),I i.c,I (p.r i.a.toNat),I 0]
 else if i.op=16 then #[I 3,I 0,I 0,I 0,I i.m]
 else #[I 0,I 0,I 0,I 0,I 0]
end PM
namespace FM
open Go.RowKit
structure Pg where
 page:Int
 data:ByteArray
structure Sp where
 live:Bool
 aw:List AM.Ar
 aj:List Pg
structure Wd where
 proc:Int
 value:Int
structure Fl where
 slots:Int
 ak:List Sp
 procs:List PM.Pr
 out:List Wd
def yE:Pg:=⟨0,⟨#[]⟩⟩
def E0:Sp:=⟨false,[],[]⟩
def Z7:Wd:=⟨0,0⟩
def vV:PM.Pr:=⟨fun _=>0,0,0,0,0,0⟩
def aN (l:List Pg) (i:Nat):Pg:=l.getD i yE
def ax (l:List Sp) (i:Nat):Sp:=l.getD i E0
def lA (l:List Wd) (i:Nat):Wd:=l.getD i Z7
def au (l:List PM.Pr) (i:Nat):PM.Pr:=l.getD i vV
def mq (p:PM.Pr):Bool:=decide (p.fk=0/\p.fa=0)
def bT (p:PM.Pr):Bool:=if p.st=1 then decide (p.cd=0)&&mq p else if p.st=2 then mq p else if p.st=3 then decide (p.cd=0)&&decide (1<=p.fk/\p.fk<=4) else false
def eW (p:PM.Pr) (live:Bool):Bool :=
 if !(decide (1<=p.st/\p.st<=3)) || (!(decide (p.cd=0))&&!(decide (p.st=2))) || live != decide (p.st=1) then false
 else if p.st=3 then decide (1<=p.fk/\p.fk<=4) else mq p
theorem zK (p:PM.Pr) (live:Bool):eW p live=(bT p&&live==decide (p.st=1)):=by
 unfold eW bT
 by_cases h1:p.st=1
 · by_cases h:p.cd=0 <;> cases live <;> simp[h1,h]
 · by_cases h2:p.st=2
   · by_cases h:p.cd=0 <;> cases live <;> simp[h1,h2,h]
   · by_cases h3:p.st=3
     · by_cases h:p.cd=0 <;> cases live <;> simp[h1,h2,h3,h]
     · have h4:¬(1<=p.st/\p.st<=3):=by omega
       have h5:decide (1<=p.st/\p.st<=3)=false:=decide_eq_false h4
       simp[h1,h2,h3,h5]
def sized (l:List Pg):Bool:=l.all fun p=>decide (p.data.size=16)
def numbers (l:List Pg):List Int:=l.map (·.page)
def aU (s:Sp):Bool:=if s.live then decide (AM.aD s.aw=0)&&(decide (numbers s.aj=bk s.aw)&&sized s.aj) else decide (s.aw.length=0)&&decide (s.aj.length=0)
def eU (l:List Sp):Nat->Int
 | 0=>0
 | k+1=>eU l k+AM.br (ax l k).aw
def room (l:List Sp):Int:=eU l l.length
def ct (f:Fl):Bool:=decide (1<=f.ak.length/\f.ak.length<=4)&&(decide (f.procs.length=f.ak.length)&&(decide (0<=f.slots/\f.slots<=512)&&decide (f.out.length<=2000)))
def gF (f:Fl):Bool:=f.ak.all aU&&decide (room f.ak<=f.slots)
def Dh (f:Fl) (i:Nat):Bool:=(ax f.ak i).live==decide ((au f.procs i).st=1)
def iE (f:Fl):Bool:=(List.range f.procs.length).all (fun i=>bT (au f.procs i)&&Dh f i)&&f.out.all (fun o=>decide (0<=o.proc/\o.proc<(f.procs.length:Int)))
def cT (f:Fl):Int:=if ct f=false then 2 else if gF f&&iE f then 0 else 1
def zQ (s:Sp):Prop:=(s.aj.length:Int)=AM.br s.aw/\∀k,k<s.aj.length->(AM.aX s.aw (aN s.aj k).page).2=true/\(0<k->(aN s.aj (k-1)).page<(aN s.aj k).page)/\(aN s.aj k).data.size=16
def gh (s:Sp):Prop:=(s.live=false->s.aw.length=0/\s.aj.length=0)/\AM.aD s.aw=0/\zQ s
theorem rising_pairwise:∀(l:List Int),(∀k,0<k->k<l.length->l.getD (k-1) 0<l.getD k 0)->l.Pairwise (·<·)
 | [],_=>List.Pairwise.nil
 | [a],_=>List.pairwise_singleton _ _
 | a::b::r,h=>by
  have ih:=rising_pairwise (b::r) (fun k h1 h2=>by
   have:=h (k+1) (by omega) (by simp at h2 ⊢;omega)
   obtain⟨j,rfl⟩:∃j,k=j+1:=⟨k-1,by omega⟩
   exact this)
  have h0:a<b:=h 1 (by omega) (by simp)
  rw[List.pairwise_cons] at ih ⊢
  refine⟨fun x hx=>?_,List.pairwise_cons.2 ih⟩
  rcases List.mem_cons.1 hx with g | g
  · omega
  · have:=ih.1 x g
    omega
theorem vF {l:List Int} (h:l.Pairwise (·<·)) (k:Nat) (h1:0<k) (h2:k<l.length):l.getD (k-1) 0<l.getD k 0:=by
 have:=List.pairwise_iff_getElem.1 h (k-1) k (by omega) h2 (by omega)
 rw[List.getD_eq_getElem?_getD,List.getD_eq_getElem?_getD,List.getElem?_eq_getElem h2,List.getElem?_eq_getElem (by omega)]
 exact this
theorem jx (l:List Pg) (k:Nat):(numbers l).getD k 0=(aN l k).page:=by
 unfold numbers aN
 rw[List.getD_eq_getElem?_getD,List.getD_eq_getElem?_getD,List.getElem?_map]
 cases l[k]? <;> rfl
theorem lH {l:List Pg} {k:Nat} (h:k<l.length):aN l k∈l:=by
 unfold aN
 rw[List.getD_eq_getElem?_getD,List.getElem?_eq_getElem h]
 exact List.getElem_mem h
theorem ie {l:List Pg} {p:Pg} (h:p∈l):∃k,k<l.length/\aN l k=p:=by
 obtain⟨k,hk⟩:=List.getElem?_of_mem h
 have hlt:k<l.length:=by
  rcases Nat.lt_or_ge k l.length with g | g
  · exact g
  · rw[List.getElem?_eq_none g] at hk
    cases hk
 refine⟨k,hlt,?_⟩
 unfold aN
 rw[List.getD_eq_getElem?_getD,hk]
 rfl
theorem rF {s:Sp} (hc:AM.aD s.aw=0):zQ s↔numbers s.aj=bk s.aw/\sized s.aj=true:=by
 have hlen:(numbers s.aj).length=s.aj.length:=List.length_map _
 have hsz:sized s.aj=true↔∀p∈s.aj,p.data.size=16:=by
  unfold sized
  rw[List.all_eq_true]
  exact⟨fun h p hp=>of_decide_eq_true (h p hp),fun h p hp=>decide_eq_true (h p hp)⟩
 rw[hsz,<- Fq hc,hlen]
 constructor
 · rintro⟨h1,h2⟩
   refine⟨⟨h1,fun x hx=>?_,rising_pairwise _ (fun k g1 g2=>?_)⟩,fun p hp=>?_⟩
   · obtain⟨p,hp,rfl⟩:=List.mem_map.1 hx
     obtain⟨k,hk,rfl⟩:=ie hp
     exact(h2 k hk).1
   · rw[jx,jx]
     exact(h2 k (by omega)).2.1 g1
   · obtain⟨k,hk,rfl⟩:=ie hp
     exact(h2 k hk).2.2
 · rintro⟨⟨h1,h2,h3⟩,h4⟩
   refine⟨h1,fun k hk=>⟨h2 _ (List.mem_map_of_mem (lH hk)),fun g=>?_,h4 _ (lH hk)⟩⟩
   have:=vF h3 k g (by omega)
   rw[jx,jx] at this
   exact this
theorem rE (s:Sp):gh s↔aU s=true:=by
 unfold gh aU
 cases hl:s.live with
 | true =>
  simp only[if_true,Bool.and_eq_true,decide_eq_true_eq]
  constructor
  · rintro⟨_,h2,h3⟩
    exact⟨h2,(rF h2).1 h3⟩
  · rintro⟨h2,h3⟩
    exact⟨(fun h=>by cases h),h2,(rF h2).2 h3⟩
 | false =>
  simp only[Bool.false_eq_true,if_false,Bool.and_eq_true,decide_eq_true_eq]
  constructor
  · rintro⟨h1,_,_⟩
    exact h1 trivial
  · rintro⟨h1,h2⟩
    have ha:s.aw=[]:=List.length_eq_zero_iff.1 h1
    have hp:s.aj=[]:=List.length_eq_zero_iff.1 h2
    have hc:AM.aD s.aw=0:=by rw[ha];rfl
    refine⟨fun _=>⟨h1,h2⟩,hc,(rF hc).2 ⟨by rw[ha,hp];rfl,by rw[hp];rfl⟩⟩
def jz (l:List Sp):Nat->Int
 | 0=>0
 | k+1=>jz l k+((ax l k).aj.length:Int)
theorem q8 {s:Sp} (h:aU s=true):(s.aj.length:Int)=AM.br s.aw:=((rE s).2 h).2.2.1
theorem zY (l:List Sp) (h:l.all aU=true):∀k,k<=l.length->jz l k=eU l k
 | 0,_=>rfl
 | k+1,hk=>by
  show jz l k+_=eU l k+_
  rw[zY l h k (by omega)]
  have hm:ax l k∈l:=by
   unfold ax
   rw[List.getD_eq_getElem?_getD,List.getElem?_eq_getElem (show k<l.length by omega)]
   exact List.getElem_mem _
  rw[q8 (List.all_eq_true.1 h _ hm)]
theorem jV:∀(n:Nat) (p:Int),run p (n+1)=run p n++[p+(n:Int)]
 | 0,p=>by show [p]=[]++[p+0];rw[Int.add_zero];rfl
 | n+1,p=>by
  show p::run (p+1) (n+1)=(p::run (p+1) n)++[p+((n+1:Nat):Int)]
  rw[jV n (p+1),List.cons_append,show p+1+(n:Int)=p+((n+1:Nat):Int) by omega]
theorem JG (p:Int) (n m:Nat) (h:n<m):∃t,run p m=run p n++(p+(n:Int))::t:=by
 induction m with
 | zero=>omega
 | succ m ih =>
  by_cases e:n=m
  · subst e;exact⟨[],jV n p⟩
  · obtain⟨t,ht⟩:=ih (by omega)
    exact⟨t++[p+(m:Int)],by rw[jV,ht];simp⟩
theorem lI:∀a b:List AM.Ar,bk (a++b)=bk a++bk b
 | [],b=>rfl
 | x::a,b=>by
  show run x.page x.aj.toNat++bk (a++b)=(run x.page x.aj.toNat++bk a)++bk b
  rw[lI a b,List.append_assoc]
def bN (l:List AM.Ar) (i:Nat):List Int:=bk (l.take i)
theorem iZ (l:List AM.Ar) (i:Nat) (h:i<l.length):bN l (i+1)=bN l i++run (AM.at_ l i).page (AM.at_ l i).aj.toNat:=by
 unfold bN
 rw[List.take_succ_eq_append_getElem h,lI]
 have e:AM.at_ l i=l[i]:=by
  unfold AM.at_
  rw[List.getD_eq_getElem?_getD,List.getElem?_eq_getElem h]
  rfl
 rw[e]
 show _++(run l[i].page l[i].aj.toNat++[])=_
 rw[List.append_nil]
theorem o7 (l:List AM.Ar) (i:Nat) (hi:i<l.length) (n:Nat) (hn:n<(AM.at_ l i).aj.toNat):∃t,bk l=(bN l i++run (AM.at_ l i).page n)++((AM.at_ l i).page+(n:Int))::t:=by
 obtain⟨u,hu⟩:=JG (AM.at_ l i).page n _ hn
 have h1:=iZ l i hi
 refine⟨u++bk (l.drop (i+1)),?_⟩
 have h2:bk l=bN l (i+1)++bk (l.drop (i+1)):=by
  unfold bN
  rw[<- lI,List.take_append_drop]
 rw[h2,h1,hu]
 simp
theorem C6 (l:List AM.Ar):bN l l.length=bk l:=by
 unfold bN
 rw[List.take_length]
def lM (l:List AM.Ar) (ps:List Pg):Bool:=decide (numbers ps=bk l)&&sized ps
theorem kY (ps:List Pg) (c:Nat) (h:c<ps.length):ps.take (c+1)=ps.take c++[aN ps c]:=by
 rw[List.take_succ_eq_append_getElem h]
 unfold aN
 rw[List.getD_eq_getElem?_getD,List.getElem?_eq_getElem h]
 rfl
theorem sK (ps:List Pg) (c:Nat) (h:c<ps.length):numbers (ps.take (c+1))=numbers (ps.take c)++[(aN ps c).page]:=by
 rw[kY ps c h]
 unfold numbers
 rw[List.map_append]
 rfl
theorem E1 (ps:List Pg) (c:Nat) (h:c<ps.length) (h1:sized (ps.take c)=true) (h2:(aN ps c).data.size=16):sized (ps.take (c+1))=true:=by
 rw[kY ps c h]
 unfold sized at h1 ⊢
 rw[List.all_append,h1]
 simp[h2]
theorem rI {l:List AM.Ar} {ps:List Pg} {pre t:List Int} {x:Int} (hp:numbers (ps.take ps.length)=pre) (ho:bk l=pre++x::t):lM l ps=false:=by
 unfold lM
 rw[decide_eq_false,Bool.false_and]
 intro e
 rw[List.take_length] at hp
 rw[hp,ho] at e
 have:=congrArg List.length e
 simp at this
theorem rJ {l:List AM.Ar} {ps:List Pg} {pre t:List Int} {x:Int} {c:Nat} (hc:c<ps.length) (hp:numbers (ps.take c)=pre) (ho:bk l=pre++x::t) (hx:(aN ps c).page≠x):lM l ps=false:=by
 unfold lM
 rw[decide_eq_false,Bool.false_and]
 intro e
 have h1:=sK ps c hc
 rw[hp] at h1
 have h2:numbers ps=numbers (ps.take (c+1))++numbers (ps.drop (c+1)):=by unfold numbers;rw[<- List.map_append,List.take_append_drop]
 rw[h2,h1,ho,List.append_assoc] at e
 have:=List.append_cancel_left e
 simp at this
 exact hx this.1
theorem Ko {l:List AM.Ar} {ps:List Pg} {c:Nat} (hc:c<ps.length) (hx:(aN ps c).data.size≠16):lM l ps=false:=by
 unfold lM
 have:sized ps=false:=by
  unfold sized
  rw[List.all_eq_false]
  exact⟨aN ps c,lH hc,by simpa using hx⟩
 rw[this,Bool.and_false]
theorem uh {l:List AM.Ar} {ps:List Pg} {c:Nat} (hc:c<=ps.length) (hp:numbers (ps.take c)=bN l l.length) (hs:sized (ps.take c)=true):lM l ps=decide (c=ps.length):=by
 unfold lM
 rw[C6] at hp
 by_cases e:c=ps.length
 · subst e
   rw[List.take_length] at hp hs
   rw[decide_eq_true hp,decide_eq_true rfl,hs]
   rfl
 · rw[decide_eq_false e,decide_eq_false,Bool.false_and]
   intro g
   rw[<- hp] at g
   have:=congrArg List.length g
   unfold numbers at this
   rw[List.length_map,List.length_map,List.length_take] at this
   omega
theorem EZ (s:Sp):aU s=if s.live then decide (AM.aD s.aw=0)&&lM s.aw s.aj else decide (s.aw.length=0)&&decide (s.aj.length=0):=rfl
def tX (l:List PM.Pr) (lv:Nat->Bool) (k:Nat):Bool:=bT (au l k)&&lv k==decide ((au l k).st=1)
def fG (l:List PM.Pr) (lv:Nat->Bool):Nat->Bool
 | 0=>true
 | k+1=>fG l lv k&&tX l lv k
def wu (o:Wd) (n:Nat):Bool:=decide (0<=o.proc/\o.proc<(n:Int))
def dh (o:List Wd) (n:Nat):Nat->Bool
 | 0=>true
 | k+1=>dh o n k&&wu (lA o k) n
theorem uE {l:List PM.Pr} {lv:Nat->Bool} {k:Nat} (h:fG l lv k=false):∀n,k<=n->fG l lv n=false
 | 0, hn => by obtain rfl:k=0 := by omega
               exact h
 | n+1,hn=>by
  by_cases e:k=n+1
  · subst e;exact h
  · show(fG l lv n&&_)=false
    rw[uE h n (by omega),Bool.false_and]
theorem oN {o:List Wd} {m k:Nat} (h:dh o m k=false):∀n,k<=n->dh o m n=false
 | 0, hn => by obtain rfl:k=0 := by omega
               exact h
 | n+1,hn=>by
  by_cases e:k=n+1
  · subst e;exact h
  · show(dh o m n&&_)=false
    rw[oN h n (by omega),Bool.false_and]
theorem zJ (l:List PM.Pr) (lv:Nat->Bool):∀n,(List.range n).all (fun i=>tX l lv i)=fG l lv n
 | 0=>rfl
 | n+1=>by
  rw[List.range_succ,List.all_append,zJ l lv n]
  show(fG l lv n&&(tX l lv n&&true))=(fG l lv n&&tX l lv n)
  rw[Bool.and_true]
theorem wk (o:List Wd) (m:Nat):∀n,n<=o.length->(o.take n).all (fun x=>wu x m)=dh o m n
 | 0,_=>rfl
 | n+1,h=>by
  rw[List.take_succ_eq_append_getElem (show n<o.length by omega),List.all_append,wk o m n (by omega)]
  have e:lA o n=o[n]:=by
   unfold lA
   rw[List.getD_eq_getElem?_getD,List.getElem?_eq_getElem (show n<o.length by omega)]
   rfl
  show(dh o m n&&(wu o[n] m&&true))=(dh o m n&&wu (lA o n) m)
  rw[Bool.and_true,e]
theorem zB (o:List Wd) (m:Nat):o.all (fun x=>wu x m)=dh o m o.length:=by
 rw[<- wk o m o.length (Nat.le_refl _),List.take_length]
def eV (l:List PM.Pr) (o:List Wd) (lv:Nat->Bool):Bool:=fG l lv l.length&&dh o l.length o.length
theorem E9 (f:Fl):iE f=eV f.procs f.out (fun k=>(ax f.ak k).live):=by
 unfold eV
 rw[<- zJ,<- zB]
 rfl
end FM
end Go.Proofs.YtkdigjpejnebkaaGreat
