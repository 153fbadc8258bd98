import Derived.Deep.AppendLies
import Derived.Deep.Upon
import Derived.WalkLawsBesides
import Derived.WalkSpells
import Derived.BigQuiet
import Derived.Lib.Endian
import Derived.Lib.EndianBits
import Derived.Lib.Strings
import Derived.Test.YtlgoihmkgaaemaaGreatProg
set_option maxHeartbeats 20000000
set_option linter.unusedVariables false
set_option maxRecDepth 100000
set_option linter.unusedSimpArgs false
namespace Go.Proofs.YtlgoihmkgaaemaaGreat
abbrev I (n : Int) : Value := .int .i64 n
abbrev Nl : Value := .slice none 0 0
abbrev Ad (b o : Nat) : Addr := ⟨b, o, none⟩
theorem ex {A : Type} (e : A) : ∃ n, n = e := ⟨e, rfl⟩
theorem _root_.Go.RowKit.Hid.o {p : Prop} (h : Go.RowKit.Hid p) : p := h.out
abbrev aD:=@Nat.le_refl
abbrev aK:=@Go.RowKit.Below.refl
abbrev au:=@if_neg
abbrev aB:=@if_pos
abbrev dJ:=@List.setIfInBounds_toArray
abbrev bI:=@Go.bodyPost_ret
abbrev fK:=@List.getD_eq_getElem?_getD
abbrev gh:=@Go.World.size_alloc
abbrev dz:=@List.set_cons_succ
abbrev dE:=@List.set_cons_zero
abbrev fD:=@Nat.lt_of_lt_of_le
abbrev fM:=@List.length_append
abbrev eO:=@Bool.and_eq_true
abbrev lj:=@List.eq_nil_of_length_eq_zero
abbrev fC:=@List.length_set
abbrev l6:=@List.getElem?_eq_getElem
abbrev ie:=@List.length_map
abbrev kF:=@beq_eq_false_iff_ne
abbrev jz:=@Int.toNat_natCast
abbrev ic:=@decide_eq_true
abbrev nW:=@Go.World.block_lt_of_cell?
abbrev gu:=@Nat.le_trans
abbrev jf:=@Nat.not_lt_zero
abbrev jq:=@decide_eq_false
abbrev lh:=@decide_eq_true_eq
abbrev mG:=@Go.World.ownsRow_nil
abbrev ed:=@congrArg
abbrev l5:=@List.mem_append
abbrev nV:=@List.flatMap_cons
abbrev o5:=@of_decide_eq_true
abbrev jo:=@Go.wpQuiet_nil
abbrev qU:=@of_decide_eq_false
abbrev jy:=@Go.info_parts
abbrev lZ:=@Nat.zero_add
abbrev uS:=@List.length_replicate
abbrev kZ:=@Nat.le_succ
abbrev ql:=@List.all_eq_true
abbrev mF:=@Nat.add_zero
abbrev zj:=@List.getElem?_append_right
abbrev qj:=@Go.RowKit.Below.alloc
abbrev qi:=@List.set_set
abbrev tO:=@Go.Addr.add_lit
abbrev zi:=@Go.Lib.run_eql_slice_nil
abbrev xO:=@List.flatMap_append
abbrev vT:=@List.length_take
abbrev vR:=@List.append_assoc
abbrev Dy:=@List.mem_cons_self
abbrev AW:=@List.pairwise_cons
abbrev vQ:=@List.take_length
abbrev vO:=@List.mem_flatMap
abbrev AV:=@List.set_append_right
abbrev AU:=@List.length_singleton
abbrev qh:=@Prod.mk.inj
abbrev uR:=@List.mem_range
abbrev zh:=@Go.World.ownsRow_made
abbrev Hg:=@Go.World.cell?_of_block
abbrev vN:=@Go.IntWalk.i64_in
abbrev tN:=@Bool.true_and
abbrev xN:=@List.length_cons
abbrev Dx:=@Nat.lt_of_succ_lt_succ
abbrev Hf:=@List.getElem?_append_left
abbrev ac3:=@List.pairwise_iff_getElem
abbrev zg:=@Classical.not_not
abbrev uQ:=@List.mem_cons
abbrev sD:=@Nat.zero_le
abbrev PJ:=@List.findIdx?_eq_some_iff_getElem
abbrev AQ:=@List.getElem?_map
abbrev ze:=@List.cons.injEq
abbrev tM:=@Go.setRow_heap
abbrev J4:=@List.exists_mem_of_ne_nil
abbrev He:=@Go.RowKit.ownsRow_setCell_below
abbrev vM:=@List.mem_map
abbrev vK:=@Go.bodyPost_end
abbrev ac2:=@Go.Lib.byteCells_length
abbrev Hc:=@List.pairwise_append
abbrev Hb:=@List.mem_cons_of_mem
abbrev Dw:=@List.ext_getElem?
abbrev Dv:=@not_true_eq_false
abbrev Du:=@not_false_eq_true
abbrev AO:=@List.map_append
abbrev J3:=@Go.ByteArray.toList_eq
abbrev za:=@Nat.add_assoc
abbrev y9:=@List.map_cons
abbrev Dt:=@List.cons_append
abbrev PI:=@Int.tdiv_eq_ediv_of_nonneg
abbrev PF:=@List.getElem?_eq_none
abbrev Ds:=@Go.wpList_load_row
abbrev Dq:=@List.append_nil
abbrev J2:=@List.set_append_left
abbrev ac1:=@List.take_succ_eq_append_getElem
abbrev Ha:=@List.getElem?_set
abbrev J1:=@Bool.or_eq_false_iff
abbrev PC:=@Option.isSome_iff_exists
abbrev Dp:=@Go.DataW.trod_int
abbrev G9:=@List.not_mem_nil
abbrev J0:=@List.length_drop
abbrev PB:=@ByteArray.size_extract
abbrev PA:=@List.getElem?_set_self
abbrev Pz:=@List.append_eq_nil_iff
abbrev Py:=@List.range_succ
abbrev tL:=@if_false
abbrev Px:=@List.eq_nil_or_concat
abbrev Pw:=@List.concat_eq_append
abbrev Vw:=@List.take_append_drop
abbrev Pv:=@Go.run_convert_bytes_arg
abbrev anP:=@List.take_add_one
abbrev G8:=@Go.below_drewN
abbrev G7:=@Bool.false_and
abbrev Pt:=@List.mem_erase_of_ne
abbrev AK:=@Int.le_refl
abbrev JZ:=@Go.wpList_store_row
abbrev Dn:=@Int.add_zero
abbrev Ps:=@Go.IntKind.wrap_i64
abbrev Vv:=@List.getElem?_eq_some_iff
abbrev Vu:=@List.findIdx?_eq_none_iff
abbrev Vt:=@List.mem_of_find?_eq_some
abbrev Vs:=@List.map_congr_left
abbrev tK:=@if_true
abbrev Pr:=@Go.wpList_append_lies
abbrev Dm:=@Nat.min_def
abbrev ac0:=@Go.DataW.weights_mem_each
abbrev Pq:=@Go.World.cells?_some
abbrev Pp:=@Go.DataW.trod_struct
abbrev JY:=@Go.wp_loop_rounds
abbrev JW:=@Go.run_underlying
abbrev G6:=@Nat.sub_self
abbrev Vr:=@ByteArray.size_append
abbrev Vq:=@List.Pairwise.sublist
abbrev Po:=@Go.World.cell?_spot
abbrev Pn:=@Go.RowKit.Below.cell
abbrev Pm:=@Nat.lt_succ_self
abbrev Pk:=@Nat.zero_lt_succ
abbrev Pj:=@Nat.succ_lt_succ
abbrev acZ:=@List.eq_nil_iff_forall_not_mem
abbrev acY:=@Nat.and_two_pow_sub_one_eq_mod
abbrev Vp:=@List.mem_of_mem_drop
abbrev Vo:=@Go.wpList_mapUpdate_own
abbrev Ph:=@List.length_nil
abbrev acX:=@List.dropLast_concat_getLast
abbrev ahz:=@Go.run_firstCells_some
abbrev Vn:=@List.drop_succ_cons
abbrev Vm:=@List.take_succ_cons
abbrev JV:=@Nat.le_of_lt
abbrev AJ:=@and_true
abbrev Pg:=@Go.heap_alloc_new
abbrev Vl:=@List.getElem?_drop
abbrev acW:=@List.takeWhile_cons_of_pos
abbrev acV:=@List.takeWhile_cons_of_neg
abbrev Vk:=@List.map_singleton
abbrev Pf:=@List.drop_drop
abbrev Vj:=@Nat.add_sub_cancel
abbrev acU:=@Int.tmod_eq_emod_of_nonneg
abbrev ahy:=@List.drop_eq_getElem_cons
abbrev acT:=@List.mem_or_eq_of_mem_set
abbrev acS:=@Array.getElem?_eq_getElem
abbrev JU:=@Go.rounds_succ
abbrev Vi:=@Go.Result.andThen_ok
abbrev Vh:=@Decidable.not_not
abbrev ahx:=@Int.emod_eq_of_lt
abbrev ahw:=@Go.IntKind.wrap_u64
abbrev Vg:=@List.drop_length
abbrev Vf:=@List.ext_getElem
abbrev Pe:=@List.map_set
abbrev Ve:=@Bool.or_eq_true
abbrev Vb:=@Nat.min_eq_left
abbrev U9:=@List.mem_filter
abbrev U8:=@Go.cell_of_row
abbrev Pd:=@Nat.mul_one
open Go.RowKit
structure aY where
 page:Int
 aQ:Int
 jL:Int
 zero:Bool
def aY.wX (a:aY):Int:=a.page+a.aQ
def xK:aY:=⟨0,0,0,false⟩
def bC (l:List aY) (i:Nat):aY:=l.getD i xK
def fX (p n:Int):Bool:=decide (1<=p/\1<=n/\n<=256-p)
def kx (p:Int):Bool:=decide (0<=p/\p<=3)
def mz (a b:aY):Bool:=if b.page=a.wX then (b.jL != a.jL || b.zero != a.zero) else decide (a.wX<b.page)
def yX (w:World) (b jn:Nat) (l:List aY):Prop:=∀i,i<l.length ->
 w.cell? (Ad b (jn+i*4))=some (I (bC l i).page)/\w.cell? (Ad b (jn+i*4+1))=some (I (bC l i).aQ) /\
 w.cell? (Ad b (jn+i*4+2))=some (I (bC l i).jL)/\w.cell? (Ad b (jn+i*4+3))=some (.bool (bC l i).zero)
def Ca (a:aY):Prop:=(-9223372036854775808<=a.page/\a.page<=9223372036854775807)/\(-9223372036854775808<=a.aQ/\a.aQ<=9223372036854775807)/\(-9223372036854775808<=a.jL/\a.jL<=9223372036854775807)
def nH (l:List aY) (i:Nat):Bool:=fX (bC l i).page (bC l i).aQ&&kx (bC l i).jL&&(i==0 || mz (bC l (i-1)) (bC l i))
def kR (l:List aY):Nat->Bool
 | 0=>true
 | k+1=>kR l k&&nH l k
def uo (l:List aY):Bool:=kR l l.length
def bj (l:List aY):Int:=if 255<l.length then 2 else if uo l then 0 else 1
theorem E3 (l:List aY):∀(k n:Nat),k<=n->kR l k=false->kR l n=false
 | k,0,h,hk=>by grind
 | k,n+1,h,hk=>by
  by_cases e:k=n+1
  · grind
  · simp[kR,E3 l k n (by omega) hk]
theorem EJ (l:List aY):∀(n:Nat),kR l n=true->∀i,i<n->nH l i=true
 | 0,_,i,hi=>by omega
 | n+1,h,i,hi=>by
  simp only[kR,eO] at h;by_cases e:i=n
  · grind
  · exact EJ l n h.1 i (by omega)
theorem yX.lt {w:World} {b jn:Nat} {l:List aY} (h:yX w b jn l) (i:Nat) (hi:i<l.length):b<w.heap.size :=
 nW w _ (h i hi).1
theorem yX.below {w w':World} {b jn:Nat} {l:List aY} (h:yX w b jn l) (hb:Below w.heap.size w w'):yX w' b jn l:=fun i hi=>by
 have hlt:=h.lt i hi;obtain⟨h0,h1,h2,h3⟩:=h i hi
 grind [Below.cell]
theorem Ng (l:List aY) (k:Nat) (hk:k<l.length) (h:nH l k=false):uo l=false :=
 E3 l (k+1) l.length (by omega) (by simp[kR,h])
theorem Ss (l:List aY) (k:Nat) (h:kR l k=true) (h':nH l k=true):kR l (k+1)=true:=by grind [kR]
def iU (a:aY) (p:Int):Bool:=decide (a.page<=p/\p<a.wX)
def bW:List aY->Int->aY×Bool
 | [],_=>(xK,false)
 | a::r,p=>if iU a p then (a,true) else bW r p
def aV (l:List aY) (p:Int):aY×Bool:=if bj l=0 then bW l p else (xK,false)
def kY (l:List aY):Nat->Int
 | 0=>0
 | k+1=>kY l k+(bC l k).aQ
def bh (l:List aY):Int:=if bj l=0 then kY l l.length else 0
theorem uq:∀(l:List aY) (p:Int),(∀i,i<l.length->iU (bC l i) p=false)->bW l p=(xK,false)
 | [],_,_=>rfl
 | a::r,p,h=>by
  have h0:iU a p=false:=h 0 (by simp);have hr:∀i,i<r.length->iU (bC r i) p=false:=fun i hi=>h (i+1) (by grind)
  simp[bW,h0,uq r p hr]
theorem tJ:∀(l:List aY) (p:Int) (k:Nat),k<l.length->(∀i,i<k->iU (bC l i) p=false)->iU (bC l k) p=true->bW l p=(bC l k,true)
 | [],_,k,hk,_,_=>by grind
 | a::r,p,0,hk,_,h1=>by
  grind [bW,bC]
 | a::r,p,k+1,hk,h,h1=>by
  have h0:iU a p=false:=h 0 (by omega);have hr:=tJ r p k (by grind) (fun i hi=>h (i+1) (by omega)) h1
  grind [bW,bC]
theorem gZ (l:List aY) (h:bj l=0) (i:Nat) (hi:i<l.length):nH l i=true:=by
 unfold bj at h;split at h
 · simp at h
 · split at h
   · exact EJ l l.length (by assumption) i hi
   omega
theorem oC (l:List aY) (h:bj l=0):l.length<=255:=by
 grind [bj]
theorem iy (l:List aY) (i:Nat) (h:nH l i=true):1<=(bC l i).page/\1<=(bC l i).aQ/\(bC l i).aQ<=256-(bC l i).page/\0<=(bC l i).jL/\(bC l i).jL<=3:=by
 grind [nH,fX,kx]
theorem GZ (l:List aY) (h:bj l=0):∀k,k<=l.length->0<=kY l k/\kY l k<=255*k
 | 0,_=>by simp[kY]
 | k+1,hk=>by
  have ih:=GZ l h k (by omega);have ho:=iy l k (gZ l h k (by omega))
  grind [kY]
open Go.RowKit
def nJ (jL way:Int):Bool:=decide ((way=1/\jL%2=0)∨(way=2/\jL<2))
def iY (l:List aY) (p way:Int):Int×Int :=
 if p<0∨(aV l (p/16)).2=false then (1,p) else if nJ (aV l (p/16)).1.jL way=true then (2,p) else (0,0)
def b9 (l:List aY) (a way:Int):Nat->Int×Int
 | 0=>(0,0)
 | n+1=>if (b9 l a way n).1=0 then iY l (a+n) way else b9 l a way n
def bR (l:List aY) (a size way:Int):Int×Int:=if way=2/\¬a%8=0 then (3,a) else b9 l a way size.toNat
theorem pQ {l:List aY} {p way:Int} (h:(iY l p way).1=0):iY l p way=(0,0)/\0<=p/\(aV l (p/16)).2=true/\nJ (aV l (p/16)).1.jL way=false:=by
 grind [iY]
theorem B0 {l:List aY} {p way:Int} (h:p<0∨(aV l (p/16)).2=false):iY l p way=(1,p):=by grind [iY]
theorem Jd {l:List aY} {p way:Int} (h:0<=p) (h2:(aV l (p/16)).2=true) (h3:nJ (aV l (p/16)).1.jL way=true):iY l p way=(2,p):=by
 grind [iY]
theorem Sa {l:List aY} {p way:Int} (h:0<=p) (h2:(aV l (p/16)).2=true) (h3:nJ (aV l (p/16)).1.jL way=false):iY l p way=(0,0):=by
 grind [iY]
theorem CB {l:List aY} {a way:Int} {k:Nat} {f:Int×Int} (h:b9 l a way k=f) (hf:¬f.1=0):∀n,k<=n->b9 l a way n=f
 | 0,hn=>by grind
 | n+1,hn=>by
  by_cases e:k=n+1
  · grind
  · have ih:=CB h hf n (by omega)
    grind [b9]
theorem uN {l:List aY} {a way:Int} {k:Nat} (h:b9 l a way k=(0,0)):b9 l a way (k+1)=iY l (a+k) way:=by
 grind [b9]
theorem BW:∀(l:List aY) (q:Int),(bW l q).2=true->∃k,k<l.length/\iU (bC l k) q=true/\(bW l q).1=bC l k
 | [],q,h=>by cases h
 | a::r,q,h=>by
  unfold bW at h ⊢;by_cases c:iU a q=true
  · rw[aB c];exact⟨0,by simp,c,rfl⟩
  · rw[au c] at h ⊢;obtain⟨k,h1,h2,h3⟩:=BW r q h;exact⟨k+1,by grind,h2,h3⟩
theorem iw {l:List aY} {q:Int} (hc:bj l=0) (h:(aV l q).2=true):1<=q/\q<256/\0<=(aV l q).1.jL/\(aV l q).1.jL<=3:=by
 have e:aV l q=bW l q:=by grind [aV]
 rw[e] at h ⊢;obtain⟨k,h1,h2,h4⟩:=BW l q h;have h5:=iy l _ (gZ l hc _ h1);have h6:(bC l k).page<=q/\q<(bC l k).page+(bC l k).aQ:=o5 h2
 grind
theorem tH {l:List aY} {q:Int} (h:(aV l q).2=true):bj l=0:=by
 grind [aV]
theorem wO {l:List aY} {a way:Int}:∀{k:Nat},b9 l a way (k+1)=(0,0)->16<=a/\a+k<4096
 | 0,h=>by
  rw[uN rfl] at h;obtain⟨_,h1,h2,_⟩:=pQ (by rw[h]);have:=iw (tH h2) h2;omega
 | k+1,h=>by
  have h0:b9 l a way (k+1)=(0,0):=by
   grind [b9,pQ]
  have ih:=wO h0;rw[uN h0] at h;obtain⟨_,h1,h2,_⟩:=pQ (by rw[h]);have:=iw (tH h2) h2;omega
open Go.RowKit
theorem mU:∀(qs ps:List Int),ps.Pairwise (·<·)->qs.Pairwise (·<·)->(∀x∈ps,x∈qs)->ps.length<=qs.length
 | [],[],_,_,_=>aD _
 | [],p::ps,_,_,h=>by cases h p Dy
 | q::qs,[],_,_,_=>by simp
 | q::qs,p::ps,h1,h2,h=>by
  rw[AW] at h1 h2;by_cases e:p=q
  · subst e;have:=mU qs ps h1.2 h2.2 (fun x hx=>by
     grind)
    grind
  · have hp:p∈qs:=by
     grind
    have hq:=h2.1 p hp;have:=mU qs (p::ps) (AW.2 h1) h2.2 (fun x hx=>by
     grind)
    grind
theorem L3:∀(qs ps:List Int),ps.Pairwise (·<·)->qs.Pairwise (·<·)->(∀x∈ps,x∈qs)->ps.length=qs.length->ps=qs
 | [],[],_,_,_,_=>rfl
 | [],p::ps,_,_,_,h=>by simp at h
 | q::qs,[],_,_,_,h=>by simp at h
 | q::qs,p::ps,h1,h2,h,hl=>by
  have h1':=h1;rw[AW] at h1 h2;simp only[xN] at hl;by_cases e:p=q
  · subst e;rw[L3 qs ps h1.2 h2.2 (fun x hx=>by
     grind) (by omega)]
  · have hp:p∈qs:=by
     grind
    have hq:=h2.1 p hp;have:=mU qs (p::ps) h1' h2.2 (fun x hx=>by
     grind)
    grind
def mr (p:Int):Nat->List Int
 | 0=>[]
 | n+1=>p::mr (p+1) n
theorem Cz (p:Int):∀n,(mr p n).length=n:=fun n=>by
 induction n generalizing p with
 | zero=>rfl
 | succ n ih=>grind [mr]
theorem qa:∀(n:Nat) (p x:Int),x∈mr p n↔p<=x/\x<p+n
 | 0,p,x=>by constructor <;> intro h;cases h;omega
 | n+1,p,x=>by
  show x∈p::mr (p+1) n↔_;rw[uQ,qa n (p+1) x];omega
theorem uM:∀(n:Nat) (p:Int),(mr p n).Pairwise (·<·)
 | 0,p=>List.Pairwise.nil
 | n+1,p=>AW.2 ⟨fun x hx=>by grind [qa],uM n (p+1)⟩
def dI:List aY->List Int
 | []=>[]
 | a::r=>mr a.page a.aQ.toNat++dI r
theorem L5:∀(l:List aY) (x:Int),x∈dI l↔(bW l x).2=true
 | [],x=>by constructor <;> intro h <;> cases h
 | a::r,x=>by
  show x∈mr a.page a.aQ.toNat++dI r↔_;rw[l5,qa,L5 r x];show _↔(if iU a x=true then (a,true) else bW r x).2=true;by_cases c:iU a x=true
  · have h6:a.page<=x/\x<a.page+a.aQ:=o5 c
    grind
  · have h6:¬(a.page<=x/\x<a.page+a.aQ):=fun g=>c (ic g)
    grind
def yS:Int->List aY->Prop
 | _,[]=>True
 | lo,a::r=>lo<=a.page/\1<=a.aQ/\yS (a.page+a.aQ) r
theorem yS.low:∀{l:List aY} {lo:Int},yS lo l->∀x∈dI l,lo<=x
 | [],lo,h,x,hx=>by cases hx
 | a::r,lo,h,x,hx=>by
  obtain⟨h1,h2,h3⟩:=h;rcases l5.1 hx with g | g
  · grind [qa]
  · have:=h3.low x g;omega
theorem yS.sorted:∀{l:List aY} {lo:Int},yS lo l->(dI l).Pairwise (·<·)
 | [],lo,h=>List.Pairwise.nil
 | a::r,lo,h=>by
  obtain⟨h1,h2,h3⟩:=h;show(mr a.page a.aQ.toNat++dI r).Pairwise (·<·);rw[Hc];refine⟨uM _ _,h3.sorted,fun x hx y hy=>?_⟩;have:=(qa _ _ _).1 hx;have:=h3.low y hy;omega
def L6 (l:List aY):Prop:=∀i,i<l.length->(1<=(bC l i).page/\1<=(bC l i).aQ)/\(0<i->(bC l (i-1)).page+(bC l (i-1)).aQ<=(bC l i).page)
theorem L6.tail {a:aY} {r:List aY} (h:L6 (a::r)):L6 r:=fun i hi=>by
 have h1:=h (i+1) (by grind);refine⟨h1.1,fun g=>?_⟩;have h2:=h1.2 (by omega);obtain⟨j,rfl⟩:∃j,i=j+1:=⟨i-1,by omega⟩;exact h2
theorem Oi:∀(l:List aY) (lo:Int),L6 l->(∀a r,l=a::r->lo<=a.page)->yS lo l
 | [],lo,h,_=>trivial
 | a::r,lo,h,hlo=>by
  have h0:=(h 0 (by simp)).1;refine⟨hlo a r rfl,h0.2,Oi r _ h.tail (fun b q e=>?_)⟩;subst e;exact(h 1 (by simp)).2 (by omega)
theorem R9 {l:List aY} (hc:bj l=0):L6 l:=fun i hi=>by
 have h:=gZ l hc i hi;have h1:=iy l i h
 grind [nH,mz,aY.wX]
theorem oI {l:List aY} (hc:bj l=0):yS 1 l:=Oi l 1 (R9 hc) (fun a r e=>by
 subst e;exact((R9 hc) 0 (by simp)).1.1)
theorem Og (a:aY) (r:List aY):∀k,kY (a::r) (k+1)=a.aQ+kY r k
 | 0=>by show(0:Int)+a.aQ=a.aQ+0;omega
 | k+1=>by
  show kY (a::r) (k+1)+(bC (a::r) (k+1)).aQ=a.aQ+(kY r k+(bC r k).aQ);rw[Og a r k]
  grind [bC]
theorem E2:∀{l:List aY} {lo:Int},yS lo l->((dI l).length:Int)=kY l l.length
 | [],lo,h=>rfl
 | a::r,lo,h=>by
  obtain⟨h1,h2,h3⟩:=h;show(((mr a.page a.aQ.toNat++dI r).length:Nat):Int)=kY (a::r) (r.length+1);rw[Og,fM,Cz,<- E2 h3];omega
theorem tG {l:List aY} (hc:bj l=0):bh l=((dI l).length:Int):=by
 unfold bh;rw[aB hc,E2 (oI hc)]
theorem rD {l:List aY} (hc:bj l=0) (x:Int):(aV l x).2=true↔x∈dI l:=by
 grind [L5,aV]
open Go.RowKit
theorem GQ:∀l:List UInt8,Lib.leNat l<256 ^ l.length
 | []=>by simp[Lib.leNat]
 | b::r=>by
  have h:=GQ r;have hb:b.toNat<256:=b.toNat_lt
  grind [Lib.leNat]
theorem XY (l:List UInt8) (h:l.length<=7):Lib.leNat l<72057594037927936:=by
 have h1:=GQ l;have h2:256 ^ l.length<=256 ^ 7:=Nat.pow_le_pow_right (by decide) h;omega
theorem XZ (s:ByteArray) (k:Nat) (h0:0<k) (hk:k<=s.size):s.data.toList.drop (k-1)=s[k-1]::s.data.toList.drop k:=by
 have h:k-1<s.data.toList.length:=by grind [Lib.size_eq]
 have e:=ahy h;rw[show k-1+1=k from by omega] at e;exact e
theorem Uf (s:ByteArray) (k:Nat) (h0:0<k) (hk:k<=s.size) :
  ((Lib.leNat (s.data.toList.drop (k-1)):Nat):Int)=(s[k-1].toNat:Int)+256*(Lib.leNat (s.data.toList.drop k):Nat):=by
 grind [XZ,Lib.leNat]
theorem aeO (N b:Int) (h0:0<=N) (h1:N<72057594037927936) (b0:0<=b) (b1:b<256) :
  bits .or .u64 (IntKind.u64.wrap (N*256)) (IntKind.u64.wrap b)=b+256*N:=by
 rw[u64_wrap_id _ (by omega) (by omega),u64_wrap_id b b0 (by omega)];have hc:bits .or .u64 (N*256) b=bits .or .u64 b (N*256):=by grind [bits]
 grind [u64_or8]
def yT (n:Int) (k:Nat):Int:=n/256 ^ k
def mE (n:Int):Nat:=(n%18446744073709551616).toNat
theorem aaB (n:Int):yT n 0=n:=by simp[yT]
theorem aaC (n:Int) (k:Nat):yT n k/256=yT n (k+1):=by
 grind [yT,Int.ediv_ediv_of_nonneg]
theorem yU:∀(k v:Nat),Lib.leBytes (k+1) v=Lib.leBytes k v++[(v/256 ^ k%256).toUInt8]
 | 0,v=>by simp[Lib.leBytes]
 | k+1,v=>by
  rw[Lib.leBytes,yU k (v/256)]
  grind [Lib.leBytes,Nat.div_div_eq_div_mul]
theorem aaD (n:Int) (k:Nat) (h:k<8):yT n k%256=((mE n/256 ^ k%256:Nat):Int):=by
 unfold yT mE
 match k,h with
 | 0,_=>omega
 | 1,_=>omega
 | 2,_=>omega
 | 3,_=>omega
 | 4,_=>omega
 | 5,_=>omega
 | 6,_=>omega
 | 7,_=>omega
theorem L9 (n:Int) (k:Nat) (h:k<8):strOfNums [yT n k%256]=⟨#[(mE n/256 ^ k%256).toUInt8]⟩:=by
 grind [aaD,strOfNums]
theorem XX (a b:List UInt8):(⟨a.toArray⟩:ByteArray)++⟨b.toArray⟩=⟨(a++b).toArray⟩:=ByteArray.mk_append_mk a b
def CE (size k V:Nat):List Value:=Lib.byteCells (Lib.leBytes k V)++List.replicate (size-k) (.int .u8 0)
theorem aaE (size V:Nat):CE size 0 V=List.replicate size (.int .u8 0):=by rfl
theorem acN (size k V:Nat) (h:k<size):(CE size k V)[k]?=some (.int .u8 0):=by
 grind [CE,Lib.byteCells_length,Lib.leBytes_length]
theorem Sg (x:Nat):(((x%256).toUInt8.toNat:Nat):Int)=(x:Int)%256:=by
 simp_all
theorem acM (size k V:Nat) (h:k<size):(CE size k V).set k (.int .u8 (((V/256 ^ k:Nat):Int)%256))=CE size (k+1) V:=by
 unfold CE;rw[AV _ _ (by grind [Lib.byteCells_length,Lib.leBytes_length]),ac2,Lib.leBytes_length,G6];obtain⟨m,hm⟩:∃m,size-k=m+1:=⟨size-k-1,by omega⟩
 grind [yU,Lib.byteCells,Sg]
theorem aaF (size V:Nat):CE size size V=Lib.byteCells (Lib.leBytes size V):=by simp[CE]
theorem acO (n:Int) (k:Nat):((mE n/256 ^ k:Nat):Int)/256=((mE n/256 ^ (k+1):Nat):Int):=by
 rw[Nat.pow_succ,<- Nat.div_div_eq_div_mul];omega
theorem vq (l:List UInt8):strOfNums (l.map fun b=>(b.toNat:Int))=⟨l.toArray⟩:=by
 simp only[strOfNums,List.map_map];congr 1;congr 1;induction l with
 | nil=>rfl
 | cons b r ih=>simp[ih]
theorem acL (n:Int):IntKind.u64.wrap n=((mE n:Nat):Int):=by
 grind [IntKind.wrap_u64,mE]
theorem De (l:List UInt8) (i:Nat) (h:i<l.length):(Lib.byteCells l)[i]?=some (.int .u8 ((l.map fun b=>(b.toNat:Int)).getD i 0)):=by
 simp[Lib.byteCells,h]
theorem aeP (n:Int) (h:(Lit.int .i64 n).wf=true):-9223372036854775808<=n/\n<=9223372036854775807:=by
 grind [Lit.wf,IntKind.min,IntKind.max,IntKind.signed,IntKind.bits]
open Go.RowKit
def wY (k:Nat) (n:Int):ByteArray:=⟨(Lib.leBytes k (mE n)).toArray⟩
theorem zU (k:Nat) (n:Int):(wY k n).size=k:=by
 grind [wY,Lib.size_eq,Lib.leBytes_length]
structure dU where
 op:Int
 a:Int
 b:Int
 c:Int
 m:Int
def dU.cells (i:dU):Array Value:=#[I i.op,I i.a,I i.b,I i.c,I i.m]
def qV (n:Int):Prop:=0<=n/\n<=255
instance (n:Int):Decidable (qV n):=by unfold qV;infer_instance
def dU.fits (i:dU):Prop:=qV i.op/\qV i.a/\qV i.b/\qV i.c/\-2147483648<=i.m/\i.m<=2147483647
instance (i:dU):Decidable i.fits:=by unfold dU.fits;infer_instance
def dU.bytes (i:dU):ByteArray:=(((wY 1 i.op++wY 1 i.a)++wY 1 i.b)++wY 1 i.c)++wY 4 i.m
theorem Ih (i:dU):i.bytes.size=8:=by
 rfl
def vt (n:Int):Int:=if 2147483648<=n then n-4294967296 else n
def sA (s:ByteArray) (k:Nat):Int:=((s.data.toList.getD k 0).toNat:Int)
def ik (s:ByteArray):dU:=⟨sA s 0,sA s 1,sA s 2,sA s 3,vt (Lib.leNat (s.data.toList.drop 4))⟩
theorem CQ (s:ByteArray) (k:Nat):qV (sA s k):=by
 unfold qV sA;have:=(s.data.toList.getD k 0).toNat_lt;omega
theorem DC (s:ByteArray) (k:Nat):wrap64 (sA s k)=sA s k:=by
 grind [CQ,qV,wrap64]
theorem Hk (s:ByteArray) (k:Nat) (h:k<s.size):((s[k].toNat:Nat):Int)=sA s k:=by
 unfold sA;have h':k<s.data.toList.length:=by simp_all
 rw[fK,l6 h'];rfl
theorem Qm (s:ByteArray) (h:s.size=8):Lib.leNat (s.data.toList.drop 4)<4294967296:=by
 grind [GQ,List.length_drop,Lib.size_eq]
theorem Ig (n:Int) (h0:0<=n) (h1:n<4294967296):-2147483648<=vt n/\vt n<=2147483647:=by
 grind [vt]
theorem A4 (s:ByteArray) (h:s.size=8):(ik s).fits:=by
 have h4:=Qm s h;have h5:=Ig (Lib.leNat (s.data.toList.drop 4)) (by omega) (by omega);exact⟨CQ s 0,CQ s 1,CQ s 2,CQ s 3,h5.1,h5.2⟩
theorem adU (n:Int) (h0:0<=n) (h1:n<4294967296):IntKind.i32.wrap n=vt n:=by
 grind [vt,IntKind.wrap_i32]
theorem Oz (s:ByteArray) (h:s.size=8):(s.extract 4 8).data.toList=s.data.toList.drop 4:=by
 grind [Lib.extract_data,List.take_of_length_le,Lib.size_eq]
open Go.RowKit
def fT (l:List Int):Bool:=l.all fun x=>decide (0<=x/\x<8)
def oD (n:Int):Bool:=decide (n=1∨n=2∨n=4∨n=8)
def dU.bad (i:dU):Bool :=
 if i.op=12 then false
 else if i.op=16 then !(decide (1<=i.m/\i.m<=6))
 else if i.op=1∨i.op=11∨i.op=15 then decide (8<=i.a)
 else if 2<=i.op/\i.op<=7 then decide (8<=i.a∨8<=i.b∨8<=i.c)
 else if i.op=8∨i.op=13∨i.op=14 then decide (8<=i.a∨8<=i.b)
 else if i.op=9∨i.op=10 then decide (8<=i.a∨8<=i.b) || !(oD i.c)
 else true
theorem afO (a:Int) (ha:qV a):(!fT [a])=decide (8<=a):=by
 grind [qV,fT]
theorem afN (a b:Int) (ha:qV a) (hb:qV b):(!fT [a,b])=decide (8<=a∨8<=b):=by
 grind [qV,fT]
theorem afM (a b c:Int) (ha:qV a) (hb:qV b) (hc:qV c):(!fT [a,b,c])=decide (8<=a∨8<=b∨8<=c):=by
 grind [qV,fT]
theorem SL (l:List Int) (k:Nat) (x:Int) (h:l[k]?=some x) (hx:¬(0<=x/\x<8)):fT l=false:=by
 unfold fT;rw[List.all_eq_false];exact⟨x,List.mem_of_getElem? h,by grind⟩
theorem Qn (l:List Int) (h:∀(k:Nat) (x:Int),l[k]?=some x->0<=x/\x<8):fT l=true:=by
 grind [fT,List.getElem?_of_mem]
structure bO where
 r:Nat->Int
 pc:Int
 st:Int
 cd:Int
 fk:Int
 fa:Int
def bO.row (p:bO):Array Value:=#[I (p.r 0),I (p.r 1),I (p.r 2),I (p.r 3),I (p.r 4),I (p.r 5),I (p.r 6),I (p.r 7),I p.pc,I p.st,I p.cd,I p.fk,I p.fa]
def bO.val (p:bO):Value:=.agg p.row
def bO.set (p:bO) (j:Nat) (v:Int):bO:={ p with r:=fun k=>if k=j then v else p.r k }
theorem Ql (p:bO) (j:Nat) (v:Int) (h:j<8):p.row.setIfInBounds j (I v)=(p.set j v).row:=by
 match j,h with
 | 0,_=>rfl
 | 1,_=>rfl
 | 2,_=>rfl
 | 3,_=>rfl
 | 4,_=>rfl
 | 5,_=>rfl
 | 6,_=>rfl
 | 7,_=>rfl
theorem zT (p:bO) (j:Nat) (h:j<8):p.row[j]?=some (I (p.r j)):=by
 match j,h with
 | 0,_=>rfl
 | 1,_=>rfl
 | 2,_=>rfl
 | 3,_=>rfl
 | 4,_=>rfl
 | 5,_=>rfl
 | 6,_=>rfl
 | 7,_=>rfl
theorem qw (p:bO) (v:Int):p.row.setIfInBounds 8 (I v)=({ p with pc:=v }:bO).row:=rfl
theorem qu (p:bO) (v:Int):p.row.setIfInBounds 9 (I v)=({ p with st:=v }:bO).row:=rfl
theorem qx (p:bO) (v:Int):p.row.setIfInBounds 10 (I v)=({ p with cd:=v }:bO).row:=rfl
theorem mW (p:bO):p.row.size=13:=rfl
theorem qq:(∀(q:bO) (h:0<q.row.size),q.row[0]=I (q.r 0))/\(∀(q:bO) (h:1<q.row.size),q.row[1]=I (q.r 1))/\(∀(q:bO) (h:2<q.row.size),q.row[2]=I (q.r 2))/\(∀(q:bO) (h:3<q.row.size),q.row[3]=I (q.r 3))/\(∀(q:bO) (h:4<q.row.size),q.row[4]=I (q.r 4))/\(∀(q:bO) (h:5<q.row.size),q.row[5]=I (q.r 5))/\(∀(q:bO) (h:6<q.row.size),q.row[6]=I (q.r 6))/\(∀(q:bO) (h:7<q.row.size),q.row[7]=I (q.r 7))/\(∀(q:bO) (h:8<q.row.size),q.row[8]=I q.pc)/\(∀(q:bO) (h:9<q.row.size),q.row[9]=I q.st)/\(∀(q:bO) (h:10<q.row.size),q.row[10]=I q.cd)/\(∀(q:bO) (h:11<q.row.size),q.row[11]=I q.fk)/\(∀(q:bO) (h:12<q.row.size),q.row[12]=I q.fa):=⟨fun q h=>rfl,fun q h=>rfl,fun q h=>rfl,fun q h=>rfl,fun q h=>rfl,fun q h=>rfl,fun q h=>rfl,fun q h=>rfl,fun q h=>rfl,fun q h=>rfl,fun q h=>rfl,fun q h=>rfl,fun q h=>rfl⟩
theorem vU (n:Nat) (hn:n<8):(∀(q:bO) (v:Int),q.row.setIfInBounds n (I v)=(q.set n v).row)/\(∀(q:bO),q.row[n]?=some (I (q.r n)))/\(∀(q:bO) (h:n<q.row.size),q.row[n]=I (q.r n)):=⟨fun q v=>Ql q n v hn,fun q=>zT q n hn,fun q h=>Option.some.inj ((acS h).symm.trans (zT q n hn))⟩
theorem VF (n:Int):bits .and .u64 (IntKind.u64.wrap n) 63=n%64:=by
 have h63:(BitVec.ofInt 64 63).toNat=2 ^ 6-1:=by decide
 have key:(BitVec.ofInt 64 (IntKind.u64.wrap n) &&& BitVec.ofInt 64 63).toNat=((IntKind.u64.wrap n)%((2 ^ 64:Nat):Int)).toNat%2 ^ 6:=by
  rw[BitVec.toNat_and,BitVec.toNat_ofInt,h63,acY]
 show IntKind.u64.wrap ((BitVec.ofInt 64 (IntKind.u64.wrap n) &&& BitVec.ofInt 64 63).toNat:Nat)=n%64
 grind [IntKind.wrap_u64]
theorem VG (n:Int):bits .and .i64 n 63=n%64:=by
 have h63:(BitVec.ofInt 64 63).toNat=2 ^ 6-1:=by decide
 have key:(BitVec.ofInt 64 n &&& BitVec.ofInt 64 63).toNat=(n%((2 ^ 64:Nat):Int)).toNat%2 ^ 6:=by
  rw[BitVec.toNat_and,BitVec.toNat_ofInt,h63,acY]
 show IntKind.i64.wrap ((BitVec.ofInt 64 n &&& BitVec.ofInt 64 63).toNat:Nat)=n%64
 grind [IntKind.wrap_i64]
def Np (op b c:Int):Int :=
 if op=2 then wrap64 (b+c) else if op=3 then wrap64 (b-c) else if op=4 then wrap64 (b*c) else if op=5 then bits .and .i64 b c else if op=6 then bits .xor .i64 b c
 else wrap64 (IntKind.u64.wrap b/2 ^ min (c%64).toNat 64)
def dg (p:bO) (i:dU) (v:Int):bO :=
 let nx:bO:={ p with pc:=wrap64 (p.pc+8) }
 let tgt:Int:=wrap64 (p.pc+i.m)
 if i.op=1 then nx.set i.a.toNat i.m
 else if 2<=i.op/\i.op<=7 then nx.set i.a.toNat (Np i.op (p.r i.b.toNat) (p.r i.c.toNat))
 else if i.op=8 then nx.set i.a.toNat (wrap64 (p.r i.b.toNat+i.m))
 else if i.op=9 then nx.set i.a.toNat v
 else if i.op=10 then nx
 else if i.op=11 then nx.set i.a.toNat tgt
 else if i.op=12 then { p with pc:=tgt }
 else if i.op=13 then (if p.r i.a.toNat=p.r i.b.toNat then { p with pc:=tgt } else nx)
 else if i.op=14 then (if p.r i.a.toNat<p.r i.b.toNat then { p with pc:=tgt } else nx)
 else if i.op=15 then { p with pc:=p.r i.a.toNat }
 else if i.m=6 then { nx with st:=2,cd:=p.r 0 }
 else if i.m=1 then nx
 else nx.set 0 v
def pD (p:bO) (i:dU):Array Value :=
 if i.bad then #[I 4,I 0,I 0,I 0,I 0]
 else if i.op=9 then #[I 1,I (wrap64 (p.r i.b.toNat+i.m)),I i.c,I 0,I 0]
 else if i.op=10 then #[I 2,I (wrap64 (p.r i.b.toNat+i.m)),I i.c,I (p.r i.a.toNat),I 0]
 else if i.op=16 then #[I 3,I 0,I 0,I 0,I i.m]
 else #[I 0,I 0,I 0,I 0,I 0]
open Go.RowKit
structure kg where
 page:Int
 data:ByteArray
structure m6 where
 live:Bool
 aT:List aY
 aQ:List kg
structure tI where
 proc:Int
 value:Int
def ag3:kg:=⟨0,⟨#[]⟩⟩
def JK:m6:=⟨false,[],[]⟩
def XV:tI:=⟨0,0⟩
def CA:bO:=⟨fun _=>0,0,0,0,0,0⟩
def lq (l:List kg) (i:Nat):kg:=l.getD i ag3
def bq (l:List m6) (i:Nat):m6:=l.getD i JK
def pP (l:List tI) (i:Nat):tI:=l.getD i XV
def aI (l:List bO) (i:Nat):bO:=l.getD i CA
def xG (p:bO):Bool:=decide (p.fk=0/\p.fa=0)
def fA (p:bO):Bool:=if p.st=1 then decide (p.cd=0)&&xG p else if p.st=2 then xG p else if p.st=3 then decide (p.cd=0)&&decide (1<=p.fk/\p.fk<=4) else false
def L4 (l:List kg):Bool:=l.all fun p=>decide (p.data.size=16)
def di (l:List kg):List Int:=l.map (·.page)
def lY (s:m6):Bool:=if s.live then decide (bj s.aT=0)&&(decide (di s.aQ=dI s.aT)&&L4 s.aQ) else decide (s.aT.length=0)&&decide (s.aQ.length=0)
def qM (l:List m6):Nat->Int
 | 0=>0
 | k+1=>qM l k+bh (bq l k).aT
def ji (l:List m6):Int:=qM l l.length
theorem Aw:∀(l:List Int),(∀k,0<k->k<l.length->l.getD (k-1) 0<l.getD k 0)->l.Pairwise (·<·)
 | [],_=>List.Pairwise.nil
 | [a],_=>List.pairwise_singleton _ _
 | a::b::r,h=>by
  have ih:=Aw (b::r) (fun k h1 h2=>by
   have:=h (k+1) (by omega) (by grind)
   grind)
  have h0:a<b:=h 1 (by omega) (by simp)
  grind [List.pairwise_cons]
theorem JL {l:List Int} (h:l.Pairwise (·<·)) (k:Nat) (h1:0<k) (h2:k<l.length):l.getD (k-1) 0<l.getD k 0:=by
 grind [List.pairwise_iff_getElem]
theorem Jc (l:List kg) (k:Nat):(di l).getD k 0=(lq l k).page:=by
 unfold di lq;rw[fK,fK,AQ];cases l[k]? <;> rfl
theorem GM {l:List kg} {k:Nat} (h:k<l.length):lq l k∈l:=by
 grind [lq]
theorem BV {l:List kg} {p:kg} (h:p∈l):∃k,k<l.length/\lq l k=p:=by
 grind [List.getElem?_of_mem,List.getElem?_eq_none,lq]
open Go.RowKit
theorem Oh:∀(n:Nat) (p:Int),mr p (n+1)=mr p n++[p+(n:Int)]
 | 0,p=>by show [p]=[]++[p+0];rw[Dn];rfl
 | n+1,p=>by
  show p::mr (p+1) (n+1)=(p::mr (p+1) n)++[p+((n+1:Nat):Int)];rw[Oh n (p+1),Dt,show p+1+(n:Int)=p+((n+1:Nat):Int) by omega]
theorem BJ:∀a b:List aY,dI (a++b)=dI a++dI b
 | [],b=>rfl
 | x::a,b=>by
  show mr x.page x.aQ.toNat++dI (a++b)=(mr x.page x.aQ.toNat++dI a)++dI b;rw[BJ a b,vR]
def xE (l:List aY) (i:Nat):List Int:=dI (l.take i)
theorem O4 (l:List aY) (i:Nat) (h:i<l.length):xE l (i+1)=xE l i++mr (bC l i).page (bC l i).aQ.toNat:=by
 unfold xE;rw[ac1 h,BJ];have e:bC l i=l[i]:=by
  unfold bC;rw[fK,l6 h];rfl
 rw[e];show _++(mr l[i].page l[i].aQ.toNat++[])=_;rw[Dq]
open Go.RowKit
def vE (l:List bO) (lv:Nat->Bool) (k:Nat):Bool:=fA (aI l k)&&lv k==decide ((aI l k).st=1)
def kz (l:List bO) (lv:Nat->Bool):Nat->Bool
 | 0=>true
 | k+1=>kz l lv k&&vE l lv k
def Av (o:tI) (n:Nat):Bool:=decide (0<=o.proc/\o.proc<(n:Int))
def ky (o:List tI) (n:Nat):Nat->Bool
 | 0=>true
 | k+1=>ky o n k&&Av (pP o k) n
theorem GL {l:List bO} {lv:Nat->Bool} {k:Nat} (h:kz l lv k=false):∀n,k<=n->kz l lv n=false
 | 0, hn => by obtain rfl:k=0 := by omega
               exact h
 | n+1,hn=>by
  by_cases e:k=n+1
  · subst e;exact h
  · show(kz l lv n&&_)=false;rw[GL h n (by omega),G7]
theorem GK {o:List tI} {m k:Nat} (h:ky o m k=false):∀n,k<=n->ky o m n=false
 | 0, hn => by obtain rfl:k=0 := by omega
               exact h
 | n+1,hn=>by
  by_cases e:k=n+1
  · subst e;exact h
  · show(ky o m n&&_)=false;rw[GK h n (by omega),G7]
theorem EE (l:List bO) (lv:Nat->Bool):∀n,(List.range n).all (fun i=>vE l lv i)=kz l lv n
 | 0=>rfl
 | n+1=>by
  rw[Py,List.all_append,EE l lv n];show(kz l lv n&&(vE l lv n&&true))=(kz l lv n&&vE l lv n);rw[Bool.and_true]
theorem Jb (o:List tI) (m:Nat):∀n,n<=o.length->(o.take n).all (fun x=>Av x m)=ky o m n
 | 0,_=>rfl
 | n+1,h=>by
  rw[ac1 (show n<o.length by omega),List.all_append,Jb o m n (by omega)];have e:pP o n=o[n]:=by
   unfold pP;rw[fK,l6 (show n<o.length by omega)];rfl
  show(ky o m n&&(Av o[n] m&&true))=(ky o m n&&Av (pP o n) m);rw[Bool.and_true,e]
theorem L1 (o:List tI) (m:Nat):o.all (fun x=>Av x m)=ky o m o.length:=by
 rw[<- Jb o m o.length (aD _),vQ]
def jI (l:List bO) (o:List tI) (lv:Nat->Bool):Bool:=kz l lv l.length&&ky o l.length o.length
open Go.RowKit
theorem qb (p n t:Int) (z:Bool) (w:World) (h1:-9223372036854775808<=p+n) (h2:p+n<=9223372036854775807) :
  Calls Tryz.prog 128 #[.agg #[I p,I n,I t,.bool z]] w fun e w'=>e=.returned (I (p+n))/\Below w.heap.size w w':=by
 go_enter Tryz.func128,Tryz.ntmps128;go_wp2;go_ret;exact⟨rfl,(aK _ _).alloc (aD _) _⟩
theorem fQ (p n:Int) (w:World) (hp:-9223372036854775808<=p/\p<=9223372036854775807) (hn:-9223372036854775808<=n/\n<=9223372036854775807) :
  Calls Tryz.prog 174 #[I p,I n] w fun e w'=>e=.returned (.bool (fX p n))/\w=w':=by
 by_cases h1:1<=p
 · by_cases h2:1<=n
   · by_cases h3:n<=256-p
     · have e:fX p n=true:=by grind [fX]
       have h4:n<=255-p+1:=by omega
       rw[e];go_enter Tryz.func174,Tryz.ntmps174;go_wp2;go_ret
       simp_all
     · have e:fX p n=false:=by grind [fX]
       have h4:decide (n<=255-p+1)=false:=by grind
       rw[e];go_enter Tryz.func174,Tryz.ntmps174;go_wp2;go_ret
       simp_all
   · have e:fX p n=false:=by grind [fX]
     rw[e];go_enter Tryz.func174,Tryz.ntmps174;go_wp2;go_ret
     simp_all
 · have e:fX p n=false:=by grind [fX]
   rw[e];go_enter Tryz.func174,Tryz.ntmps174;go_wp2;go_ret
   simp_all
theorem js (p:Int) (w:World) :
  Calls Tryz.prog 175 #[I p] w fun e w'=>e=.returned (.bool (kx p))/\w=w':=by
 by_cases h1:0<=p
 · by_cases h2:p<=3
   · have e:kx p=true:=by grind [kx]
     rw[e];go_enter Tryz.func175,Tryz.ntmps175;go_wp2;go_ret
     simp_all
   · have e:kx p=false:=by grind [kx]
     rw[e];go_enter Tryz.func175,Tryz.ntmps175;go_wp2;go_ret
     simp_all
 · have e:kx p=false:=by grind [kx]
   rw[e];go_enter Tryz.func175,Tryz.ntmps175;go_wp2;go_ret
   simp_all
open Go.RowKit
structure dW (B:Nat) (w:World) where
 world:World
 keeps:Below B w world
theorem jt (w:World):Nonempty (dW w.heap.size w):=⟨⟨w,aK _ _⟩⟩
theorem dA {P:Program} {id:Nat} {Q:Exit->Act->World->Prop} {a:Act} {w:World} {l:List Oper} (hm:P.follows .mixedOrders=true) (hB:Region.lexB .any l.toArray=true)
  (h:wpQuiet P l.toArray (fun w'=>∃x:dW w.heap.size w,w'=x.world) (fun a'=>∀w',(∃x:dW w.heap.size w,w'=x.world)->Q .normal a' w') l a):(Code.region id l.toArray true).wp P Q a w :=
 wp_region_quiet (C:=fun w'=>∃x:dW w.heap.size w,w'=x.world) hm hB ⟨⟨_,(aK _ _).drew⟩,rfl⟩ (by simpa using h)
theorem gm {P:Program} {f:FuncId} {args:Array Value} {v:Value} {w:World} (h:∀W,Calls P f args W fun e w'=>e=.returned v/\Below W.heap.size W w') (x:dW w.heap.size w) :
  Calls P f args x.world fun e w''=>e=.returned v/\∃y:dW w.heap.size w,w''=y.world :=
 (h x.world).mono fun e w'' ⟨he,hb⟩=>⟨he,⟨w'',x.keeps.trans (hb.mono x.keeps.size)⟩,rfl⟩
theorem fR {w:World} (x:dW w.heap.size w) (b o:Nat) (h:b<w.heap.size):x.world.cell? (Ad b o)=w.cell? (Ad b o):=x.keeps.cell (p:=(Ad b o)) h
open Go.RowKit
theorem O9 (ap an Yj bp bn bt:Int) (az bz:Bool) (w:World) (h1:-9223372036854775808<=ap+an) (h2:ap+an<=9223372036854775807) (he:bp=ap+an) :
  Calls Tryz.prog 176 #[.agg #[I ap,I an,I Yj,.bool az],.agg #[I bp,I bn,I bt,.bool bz]] w fun e w'=>e=.returned (.bool (bt != Yj || bz != az))/\Below w.heap.size w w':=by
 obtain⟨W,hW⟩:=ex ((w.alloc (.cells #[I ap,I an,I Yj,.bool az] 139)).alloc (.cells #[I bp,I bn,I bt,.bool bz] 139));have hs:W.heap.size=w.heap.size+2:=by simp_all
 have CM:=jt W;have hkc:=@fR W;have c0:∀x:dW W.heap.size W,x.world.cell? (Ad w.heap.size 0)=some (I ap):=fun x=>by rw[hkc x _ _ (by omega),hW];simp
 have c1:∀x:dW W.heap.size W,x.world.cell? (Ad w.heap.size 1)=some (I an):=fun x=>by rw[hkc x _ _ (by omega),hW];simp
 have c2:∀x:dW W.heap.size W,x.world.cell? (Ad w.heap.size 2)=some (I Yj):=fun x=>by rw[hkc x _ _ (by omega),hW];simp
 have c3:∀x:dW W.heap.size W,x.world.cell? (Ad w.heap.size 3)=some (.bool az):=fun x=>by rw[hkc x _ _ (by omega),hW];simp
 have d0:∀x:dW W.heap.size W,x.world.cell? (Ad (w.heap.size+1) 0)=some (I bp):=fun x=>by simp_all
 have d2:∀x:dW W.heap.size W,x.world.cell? (Ad (w.heap.size+1) 2)=some (I bt):=fun x=>by simp_all
 have d3:∀x:dW W.heap.size W,x.world.cell? (Ad (w.heap.size+1) 3)=some (.bool bz):=fun x=>by simp_all
 have hbW:Hid (Below w.heap.size w W):=by show Below _ _ _;simp_all [aK,qj]
 have HW:Hid (W=(w.alloc (.cells #[I ap,I an,I Yj,.bool az] 139)).alloc (.cells #[I bp,I bn,I bt,.bool bz] 139)):=hW;clear hW hs hkc;have hx:(bp==ap+an)=true:=by simp[he]
 clear he;go_enter Tryz.func176,Tryz.ntmps176;go_wp2_with fail
 rw[<- HW.o];refine dA (by rfl) (by kernel_rfl) ?_
 repeat (first | go_big_quiet_step ((go_at_call 128;exact gm (fun W=>qb _ _ _ _ W h1 h2) _)) | quiet_step ((go_at_call 128;exact gm (fun W=>qb _ _ _ _ W h1 h2) _)))
 refine jo ?_;intro _ hw';obtain⟨x,hw''⟩:=hw';subst hw'';go_wp2
 all_goals go_ret
 all_goals exact⟨by first | (simp[*];done) | (simp[*];grind),hbW.out.trans (x.keeps.mono hbW.out.size)⟩
theorem O8 (ap an Yj bp bn bt:Int) (az bz:Bool) (w:World) (h1:-9223372036854775808<=ap+an) (h2:ap+an<=9223372036854775807) (he:¬bp=ap+an) :
  Calls Tryz.prog 176 #[.agg #[I ap,I an,I Yj,.bool az],.agg #[I bp,I bn,I bt,.bool bz]] w fun e w'=>e=.returned (.bool (decide (ap+an<bp)))/\Below w.heap.size w w':=by
 obtain⟨W,hW⟩:=ex ((w.alloc (.cells #[I ap,I an,I Yj,.bool az] 139)).alloc (.cells #[I bp,I bn,I bt,.bool bz] 139));have hs:W.heap.size=w.heap.size+2:=by simp_all
 have CM:=jt W;have hkc:=@fR W;have c0:∀x:dW W.heap.size W,x.world.cell? (Ad w.heap.size 0)=some (I ap):=fun x=>by rw[hkc x _ _ (by omega),hW];simp
 have c1:∀x:dW W.heap.size W,x.world.cell? (Ad w.heap.size 1)=some (I an):=fun x=>by rw[hkc x _ _ (by omega),hW];simp
 have c2:∀x:dW W.heap.size W,x.world.cell? (Ad w.heap.size 2)=some (I Yj):=fun x=>by rw[hkc x _ _ (by omega),hW];simp
 have c3:∀x:dW W.heap.size W,x.world.cell? (Ad w.heap.size 3)=some (.bool az):=fun x=>by rw[hkc x _ _ (by omega),hW];simp
 have d0:∀x:dW W.heap.size W,x.world.cell? (Ad (w.heap.size+1) 0)=some (I bp):=fun x=>by simp_all
 have hbW:Hid (Below w.heap.size w W):=by show Below _ _ _;simp_all [aK,qj]
 have HW:Hid (W=(w.alloc (.cells #[I ap,I an,I Yj,.bool az] 139)).alloc (.cells #[I bp,I bn,I bt,.bool bz] 139)):=hW;have hs2:Hid (w.heap.size+2<=W.heap.size):=by grind
 clear hW hs hkc;have hx:(bp==ap+an)=false:=by simp[he]
 clear he;go_enter Tryz.func176,Tryz.ntmps176;go_wp2_with fail
 rw[<- HW.o];refine dA (by rfl) (by kernel_rfl) ?_
 repeat (first | go_big_quiet_step ((go_at_call 128;exact gm (fun W=>qb _ _ _ _ W h1 h2) _)) | quiet_step ((go_at_call 128;exact gm (fun W=>qb _ _ _ _ W h1 h2) _)))
 refine jo ?_;intro _ hw';obtain⟨x,hw''⟩:=hw';subst hw'';have c0x:=c0 x;have c1x:=c1 x;have c2x:=c2 x;have c3x:=c3 x;have d0x:=d0 x;have hsx:Hid (w.heap.size+2<=x.world.heap.size):=gu hs2.out x.keeps.size;have hbx:Hid (Below w.heap.size w x.world):=hbW.out.trans (x.keeps.mono hbW.out.size);clear HW c0 c1 c2 c3 d0 CM hbW hs2;obtain⟨V,hV⟩:=ex x.world;rw[<- hV] at c0x c1x c2x c3x d0x hsx hbx ⊢;clear hV;have CM:=jt V;have hkc:=@fR V;have apa:=hsx.out;have c0:∀x:dW V.heap.size V,x.world.cell? (Ad w.heap.size 0)=some (I ap):=fun x=>by grind
 have c1:∀x:dW V.heap.size V,x.world.cell? (Ad w.heap.size 1)=some (I an):=fun x=>by grind
 have c2:∀x:dW V.heap.size V,x.world.cell? (Ad w.heap.size 2)=some (I Yj):=fun x=>by grind
 have c3:∀x:dW V.heap.size V,x.world.cell? (Ad w.heap.size 3)=some (.bool az):=fun x=>by grind
 have d0:∀x:dW V.heap.size V,x.world.cell? (Ad (w.heap.size+1) 0)=some (I bp):=fun x=>by grind
 clear hkc apa;go_wp2_with fail
 refine dA (by rfl) (by kernel_rfl) ?_
 repeat (first | go_big_quiet_step ((go_at_call 128;exact gm (fun W=>qb _ _ _ _ W h1 h2) _)) | quiet_step ((go_at_call 128;exact gm (fun W=>qb _ _ _ _ W h1 h2) _)))
 refine jo ?_;intro _ hw';obtain⟨y,hw''⟩:=hw';subst hw'';go_wp2;go_ret;exact⟨rfl,hbx.out.trans (y.keeps.mono hbx.out.size)⟩
theorem uk (a b:aY) (w:World) (h1:-9223372036854775808<=a.page+a.aQ) (h2:a.page+a.aQ<=9223372036854775807) :
  Calls Tryz.prog 176 #[.agg #[I a.page,I a.aQ,I a.jL,.bool a.zero],.agg #[I b.page,I b.aQ,I b.jL,.bool b.zero]] w fun e w'=>e=.returned (.bool (mz a b))/\Below w.heap.size w w':=by
 unfold mz aY.wX;split
 · exact O9 _ _ _ _ _ _ _ _ w h1 h2 (by omega)
 · exact O8 _ _ _ _ _ _ _ _ w h1 h2 (by omega)
end Go.Proofs.YtlgoihmkgaaemaaGreat
