import Derived.Deep.AppendLies
import Derived.Deep.Upon
import Derived.WalkLawsBesides
import Derived.WalkSpells
import Derived.BigQuiet
import Derived.Lib.Endian
import Derived.Lib.EndianBits
import Derived.Lib.Strings
import Derived.Test.YtlgoihmkgaaemaaGreatProg
set_option maxHeartbeats 20000000
set_option linter.unusedVariables false
set_option maxRecDepth 100000
set_option linter.unusedSimpArgs false
namespace Go.Proofs.YtlgoihmkgaaemaaGreat
abbrev I (n : Int) : Value := .int .i64 n
abbrev Nl : Value := .slice none 0 0
abbrev Ad (b o : Nat) : Addr := ⟨b, o, none⟩
theorem ex {A : Type} (e : A) : ∃ n, n = e := ⟨e, rfl⟩
theorem _root_.Go.RowKit.Hid.o {p : Prop} (h : Go.RowKit.Hid p) : p := h.out
abbrev aI:=@Nat.le_refl
abbrev aK:=@Go.RowKit.Below.refl
abbrev aA:=@if_neg
abbrev dJ:=@List.setIfInBounds_toArray
abbrev aC:=@if_pos
abbrev bO:=@Go.bodyPost_ret
abbrev fG:=@List.getD_eq_getElem?_getD
abbrev fF:=@Go.World.size_alloc
abbrev dw:=@List.set_cons_succ
abbrev dB:=@List.set_cons_zero
abbrev fL:=@Nat.lt_of_lt_of_le
abbrev jY:=@List.eq_nil_of_length_eq_zero
abbrev fK:=@List.length_append
abbrev eQ:=@Bool.and_eq_true
abbrev fJ:=@List.length_set
abbrev lW:=@List.getElem?_eq_getElem
abbrev ia:=@List.length_map
abbrev gZ:=@decide_eq_true
abbrev oQ:=@Go.World.block_lt_of_cell?
abbrev jl:=@decide_eq_false
abbrev kX:=@decide_eq_true_eq
abbrev mF:=@beq_eq_false_iff_ne
abbrev gY:=@Nat.le_trans
abbrev lM:=@Int.toNat_natCast
abbrev dI:=@congrArg
abbrev ky:=@Nat.not_lt_zero
abbrev mE:=@Go.World.ownsRow_nil
abbrev lV:=@List.mem_append
abbrev nW:=@List.flatMap_cons
abbrev oP:=@of_decide_eq_true
abbrev jk:=@Go.wpQuiet_nil
abbrev kW:=@Nat.add_zero
abbrev qN:=@of_decide_eq_false
abbrev ju:=@Go.info_parts
abbrev lU:=@Nat.zero_add
abbrev nV:=@Go.below_drewN
abbrev uK:=@List.length_replicate
abbrev kV:=@Nat.le_succ
abbrev qM:=@List.length_take
abbrev qa:=@List.all_eq_true
abbrev ze:=@List.getElem?_append_right
abbrev pZ:=@Go.RowKit.Below.alloc
abbrev pY:=@List.set_set
abbrev si:=@Go.Addr.add_lit
abbrev za:=@Go.Lib.run_eql_slice_nil
abbrev xN:=@List.flatMap_append
abbrev vM:=@List.append_assoc
abbrev Dt:=@List.mem_cons_self
abbrev AU:=@List.pairwise_cons
abbrev vK:=@List.take_length
abbrev vJ:=@List.mem_flatMap
abbrev AO:=@List.set_append_right
abbrev AK:=@List.length_singleton
abbrev pX:=@Prod.mk.inj
abbrev uJ:=@List.mem_range
abbrev y9:=@Go.World.ownsRow_made
abbrev Ha:=@Go.World.cell?_of_block
abbrev vI:=@Go.IntWalk.i64_in
abbrev tK:=@Bool.true_and
abbrev y8:=@List.length_drop
abbrev xM:=@List.length_cons
abbrev Ds:=@Nat.lt_of_succ_lt_succ
abbrev G9:=@List.getElem?_append_left
abbrev acZ:=@List.pairwise_iff_getElem
abbrev y7:=@Classical.not_not
abbrev uI:=@List.mem_cons
abbrev Pv:=@List.findIdx?_eq_some_iff_getElem
abbrev AJ:=@List.ext_getElem?
abbrev AH:=@List.getElem?_map
abbrev tJ:=@Go.setRow_heap
abbrev JU:=@List.exists_mem_of_ne_nil
abbrev G8:=@Go.RowKit.ownsRow_setCell_below
abbrev xL:=@Nat.add_assoc
abbrev vH:=@List.mem_map
abbrev vE:=@Go.bodyPost_end
abbrev acY:=@Go.Lib.byteCells_length
abbrev G7:=@List.pairwise_append
abbrev uH:=@Nat.zero_le
abbrev G6:=@List.mem_cons_of_mem
abbrev Dq:=@not_true_eq_false
abbrev Dp:=@not_false_eq_true
abbrev AG:=@List.cons.injEq
abbrev AE:=@List.map_append
abbrev JT:=@Go.ByteArray.toList_eq
abbrev yZ:=@List.map_cons
abbrev Dn:=@List.cons_append
abbrev Pt:=@Int.tdiv_eq_ediv_of_nonneg
abbrev Ps:=@List.getElem?_eq_none
abbrev Dm:=@Go.wpList_load_row
abbrev Dl:=@List.append_nil
abbrev JS:=@List.set_append_left
abbrev acX:=@List.take_succ_eq_append_getElem
abbrev G5:=@List.getElem?_set
abbrev JQ:=@Bool.or_eq_false_iff
abbrev Pr:=@Option.isSome_iff_exists
abbrev Dk:=@Go.DataW.trod_int
abbrev G3:=@List.not_mem_nil
abbrev Pq:=@ByteArray.size_extract
abbrev Pp:=@List.getElem?_set_self
abbrev Po:=@List.append_eq_nil_iff
abbrev Pn:=@List.range_succ
abbrev tI:=@if_false
abbrev Pm:=@List.eq_nil_or_concat
abbrev Pk:=@List.concat_eq_append
abbrev U8:=@List.take_append_drop
abbrev Pj:=@Go.run_convert_bytes_arg
abbrev aom:=@List.take_add_one
abbrev G0:=@Go.wp_loop_rounds
abbrev GZ:=@Bool.false_and
abbrev U7:=@Int.tmod_eq_emod_of_nonneg
abbrev Ph:=@List.mem_erase_of_ne
abbrev AB:=@Int.le_refl
abbrev JP:=@Go.wpList_store_row
abbrev Dj:=@Int.add_zero
abbrev Pg:=@Go.IntKind.wrap_i64
abbrev U6:=@List.getElem?_eq_some_iff
abbrev U5:=@List.findIdx?_eq_none_iff
abbrev U4:=@List.mem_of_find?_eq_some
abbrev U3:=@List.map_congr_left
abbrev tH:=@if_true
abbrev Pf:=@Go.wpList_append_lies
abbrev Pe:=@List.getElem?_drop
abbrev Di:=@Nat.min_def
abbrev acW:=@Go.DataW.weights_mem_each
abbrev Pd:=@Go.World.cells?_some
abbrev Pc:=@Go.DataW.trod_struct
abbrev JO:=@Go.run_underlying
abbrev GY:=@Nat.sub_self
abbrev U0:=@ByteArray.size_append
abbrev UZ:=@List.Pairwise.sublist
abbrev Pb:=@Go.World.cell?_spot
abbrev O9:=@Go.RowKit.Below.cell
abbrev O8:=@Nat.lt_succ_self
abbrev O7:=@Nat.zero_lt_succ
abbrev O6:=@Nat.succ_lt_succ
abbrev acV:=@List.eq_nil_iff_forall_not_mem
abbrev acU:=@Nat.and_two_pow_sub_one_eq_mod
abbrev GX:=@Go.rounds_succ
abbrev UY:=@List.mem_of_mem_drop
abbrev UX:=@Go.wpList_mapUpdate_own
abbrev O5:=@List.length_nil
abbrev acT:=@List.dropLast_concat_getLast
abbrev ahp:=@Go.run_firstCells_some
abbrev UW:=@List.drop_succ_cons
abbrev UT:=@List.take_succ_cons
abbrev O4:=@Go.heap_alloc_new
abbrev acS:=@List.takeWhile_cons_of_pos
abbrev acR:=@List.takeWhile_cons_of_neg
abbrev UR:=@List.map_singleton
abbrev UQ:=@List.getElem?_take
abbrev O0:=@List.drop_drop
abbrev UO:=@Nat.add_sub_cancel
abbrev aho:=@List.drop_eq_getElem_cons
abbrev acQ:=@List.mem_or_eq_of_mem_set
abbrev acP:=@Array.getElem?_eq_getElem
abbrev UN:=@Go.Result.andThen_ok
abbrev UM:=@Decidable.not_not
abbrev ahn:=@Int.emod_eq_of_lt
abbrev Dh:=@and_true
abbrev ahm:=@Go.IntKind.wrap_u64
abbrev UL:=@List.drop_length
abbrev UK:=@List.ext_getElem
abbrev OZ:=@List.map_set
abbrev OY:=@Nat.le_of_lt
abbrev UJ:=@Bool.or_eq_true
abbrev UI:=@Nat.min_eq_left
abbrev UH:=@List.mem_filter
abbrev UG:=@Go.cell_of_row
abbrev OW:=@Nat.mul_one
open Go.RowKit
structure aX where
 page:Int
 aQ:Int
 jG:Int
 zero:Bool
def aX.wU (a:aX):Int:=a.page+a.aQ
def xI:aX:=⟨0,0,0,false⟩
def bC (l:List aX) (i:Nat):aX:=l.getD i xI
def fT (p n:Int):Bool:=decide (1<=p/\1<=n/\n<=256-p)
def kr (p:Int):Bool:=decide (0<=p/\p<=3)
def mq (a b:aX):Bool:=if b.page=a.wU then (b.jG != a.jG || b.zero != a.zero) else decide (a.wU<b.page)
def wQ (w:World) (b ji:Nat) (l:List aX):Prop:=∀i,i<l.length ->
 w.cell? (Ad b (ji+i*4))=some (I (bC l i).page)/\w.cell? (Ad b (ji+i*4+1))=some (I (bC l i).aQ) /\
 w.cell? (Ad b (ji+i*4+2))=some (I (bC l i).jG)/\w.cell? (Ad b (ji+i*4+3))=some (.bool (bC l i).zero)
def B0 (a:aX):Prop:=(-9223372036854775808<=a.page/\a.page<=9223372036854775807)/\(-9223372036854775808<=a.aQ/\a.aQ<=9223372036854775807)/\(-9223372036854775808<=a.jG/\a.jG<=9223372036854775807)
def nI (l:List aX) (i:Nat):Bool:=fT (bC l i).page (bC l i).aQ&&kr (bC l i).jG&&(i==0 || mq (bC l (i-1)) (bC l i))
def kN (l:List aX):Nat->Bool
 | 0=>true
 | k+1=>kN l k&&nI l k
def ug (l:List aX):Bool:=kN l l.length
def bk (l:List aX):Int:=if 255<l.length then 2 else if ug l then 0 else 1
theorem EY (l:List aX):∀(k n:Nat),k<=n->kN l k=false->kN l n=false
 | k,0,h,hk=>by grind
 | k,n+1,h,hk=>by
  by_cases e:k=n+1
  · grind
  · simp[kN,EY l k n (by omega) hk]
theorem EF (l:List aX):∀(n:Nat),kN l n=true->∀i,i<n->nI l i=true
 | 0,_,i,hi=>by omega
 | n+1,h,i,hi=>by
  simp only[kN,eQ] at h;by_cases e:i=n
  · grind
  · exact EF l n h.1 i (by omega)
theorem wQ.lt {w:World} {b ji:Nat} {l:List aX} (h:wQ w b ji l) (i:Nat) (hi:i<l.length):b<w.heap.size :=
 oQ w _ (h i hi).1
theorem wQ.below {w w':World} {b ji:Nat} {l:List aX} (h:wQ w b ji l) (hb:Below w.heap.size w w'):wQ w' b ji l:=fun i hi=>by
 have hlt:=h.lt i hi;obtain⟨h0,h1,h2,h3⟩:=h i hi
 grind [Below.cell]
theorem MU (l:List aX) (k:Nat) (hk:k<l.length) (h:nI l k=false):ug l=false :=
 EY l (k+1) l.length (by omega) (by simp[kN,h])
theorem R7 (l:List aX) (k:Nat) (h:kN l k=true) (h':nI l k=true):kN l (k+1)=true:=by grind [kN]
def iQ (a:aX) (p:Int):Bool:=decide (a.page<=p/\p<a.wU)
def bY:List aX->Int->aX×Bool
 | [],_=>(xI,false)
 | a::r,p=>if iQ a p then (a,true) else bY r p
def aY (l:List aX) (p:Int):aX×Bool:=if bk l=0 then bY l p else (xI,false)
def kT (l:List aX):Nat->Int
 | 0=>0
 | k+1=>kT l k+(bC l k).aQ
def bh (l:List aX):Int:=if bk l=0 then kT l l.length else 0
theorem uh:∀(l:List aX) (p:Int),(∀i,i<l.length->iQ (bC l i) p=false)->bY l p=(xI,false)
 | [],_,_=>rfl
 | a::r,p,h=>by
  have h0:iQ a p=false:=h 0 (by simp);have hr:∀i,i<r.length->iQ (bC r i) p=false:=fun i hi=>h (i+1) (by grind)
  simp[bY,h0,uh r p hr]
theorem tG:∀(l:List aX) (p:Int) (k:Nat),k<l.length->(∀i,i<k->iQ (bC l i) p=false)->iQ (bC l k) p=true->bY l p=(bC l k,true)
 | [],_,k,hk,_,_=>by grind
 | a::r,p,0,hk,_,h1=>by
  grind [bY,bC]
 | a::r,p,k+1,hk,h,h1=>by
  have h0:iQ a p=false:=h 0 (by omega);have hr:=tG r p k (by grind) (fun i hi=>h (i+1) (by omega)) h1
  grind [bY,bC]
theorem gW (l:List aX) (h:bk l=0) (i:Nat) (hi:i<l.length):nI l i=true:=by
 unfold bk at h;split at h
 · simp at h
 · split at h
   · exact EF l l.length (by assumption) i hi
   omega
theorem oq (l:List aX) (h:bk l=0):l.length<=255:=by
 grind [bk]
theorem iw (l:List aX) (i:Nat) (h:nI l i=true):1<=(bC l i).page/\1<=(bC l i).aQ/\(bC l i).aQ<=256-(bC l i).page/\0<=(bC l i).jG/\(bC l i).jG<=3:=by
 grind [nI,fT,kr]
theorem GN (l:List aX) (h:bk l=0):∀k,k<=l.length->0<=kT l k/\kT l k<=255*k
 | 0,_=>by simp[kT]
 | k+1,hk=>by
  have ih:=GN l h k (by omega);have ho:=iw l k (gW l h k (by omega))
  grind [kT]
open Go.RowKit
def nM (jG way:Int):Bool:=decide ((way=1/\jG%2=0)∨(way=2/\jG<2))
def iW (l:List aX) (p way:Int):Int×Int :=
 if p<0∨(aY l (p/16)).2=false then (1,p) else if nM (aY l (p/16)).1.jG way=true then (2,p) else (0,0)
def cj (l:List aX) (a way:Int):Nat->Int×Int
 | 0=>(0,0)
 | n+1=>if (cj l a way n).1=0 then iW l (a+n) way else cj l a way n
def bR (l:List aX) (a size way:Int):Int×Int:=if way=2/\¬a%8=0 then (3,a) else cj l a way size.toNat
theorem pK {l:List aX} {p way:Int} (h:(iW l p way).1=0):iW l p way=(0,0)/\0<=p/\(aY l (p/16)).2=true/\nM (aY l (p/16)).1.jG way=false:=by
 grind [iW]
theorem BV {l:List aX} {p way:Int} (h:p<0∨(aY l (p/16)).2=false):iW l p way=(1,p):=by grind [iW]
theorem I7 {l:List aX} {p way:Int} (h:0<=p) (h2:(aY l (p/16)).2=true) (h3:nM (aY l (p/16)).1.jG way=true):iW l p way=(2,p):=by
 grind [iW]
theorem RA {l:List aX} {p way:Int} (h:0<=p) (h2:(aY l (p/16)).2=true) (h3:nM (aY l (p/16)).1.jG way=false):iW l p way=(0,0):=by
 grind [iW]
theorem Cz {l:List aX} {a way:Int} {k:Nat} {f:Int×Int} (h:cj l a way k=f) (hf:¬f.1=0):∀n,k<=n->cj l a way n=f
 | 0,hn=>by grind
 | n+1,hn=>by
  by_cases e:k=n+1
  · grind
  · have ih:=Cz h hf n (by omega)
    grind [cj]
theorem uE {l:List aX} {a way:Int} {k:Nat} (h:cj l a way k=(0,0)):cj l a way (k+1)=iW l (a+k) way:=by
 grind [cj]
theorem BJ:∀(l:List aX) (q:Int),(bY l q).2=true->∃k,k<l.length/\iQ (bC l k) q=true/\(bY l q).1=bC l k
 | [],q,h=>by cases h
 | a::r,q,h=>by
  unfold bY at h ⊢;by_cases c:iQ a q=true
  · rw[aC c];exact⟨0,by simp,c,rfl⟩
  · rw[aA c] at h ⊢;obtain⟨k,h1,h2,h3⟩:=BJ r q h;exact⟨k+1,by grind,h2,h3⟩
theorem iu {l:List aX} {q:Int} (hc:bk l=0) (h:(aY l q).2=true):1<=q/\q<256/\0<=(aY l q).1.jG/\(aY l q).1.jG<=3:=by
 have e:aY l q=bY l q:=by grind [aY]
 rw[e] at h ⊢;obtain⟨k,h1,h2,h4⟩:=BJ l q h;have h5:=iw l _ (gW l hc _ h1);have h6:(bC l k).page<=q/\q<(bC l k).page+(bC l k).aQ:=oP h2
 grind
theorem tF {l:List aX} {q:Int} (h:(aY l q).2=true):bk l=0:=by
 grind [aY]
theorem wK {l:List aX} {a way:Int}:∀{k:Nat},cj l a way (k+1)=(0,0)->16<=a/\a+k<4096
 | 0,h=>by
  rw[uE rfl] at h;obtain⟨_,h1,h2,_⟩:=pK (by rw[h]);have:=iu (tF h2) h2;omega
 | k+1,h=>by
  have h0:cj l a way (k+1)=(0,0):=by
   grind [cj,pK]
  have ih:=wK h0;rw[uE h0] at h;obtain⟨_,h1,h2,_⟩:=pK (by rw[h]);have:=iu (tF h2) h2;omega
open Go.RowKit
theorem mU:∀(qs ps:List Int),ps.Pairwise (·<·)->qs.Pairwise (·<·)->(∀x∈ps,x∈qs)->ps.length<=qs.length
 | [],[],_,_,_=>aI _
 | [],p::ps,_,_,h=>by cases h p Dt
 | q::qs,[],_,_,_=>by simp
 | q::qs,p::ps,h1,h2,h=>by
  rw[AU] at h1 h2;by_cases e:p=q
  · subst e;have:=mU qs ps h1.2 h2.2 (fun x hx=>by
     grind)
    grind
  · have hp:p∈qs:=by
     grind
    have hq:=h2.1 p hp;have:=mU qs (p::ps) (AU.2 h1) h2.2 (fun x hx=>by
     grind)
    grind
theorem LP:∀(qs ps:List Int),ps.Pairwise (·<·)->qs.Pairwise (·<·)->(∀x∈ps,x∈qs)->ps.length=qs.length->ps=qs
 | [],[],_,_,_,_=>rfl
 | [],p::ps,_,_,_,h=>by simp at h
 | q::qs,[],_,_,_,h=>by simp at h
 | q::qs,p::ps,h1,h2,h,hl=>by
  have h1':=h1;rw[AU] at h1 h2;simp only[xM] at hl;by_cases e:p=q
  · subst e;rw[LP qs ps h1.2 h2.2 (fun x hx=>by
     grind) (by omega)]
  · have hp:p∈qs:=by
     grind
    have hq:=h2.1 p hp;have:=mU qs (p::ps) h1' h2.2 (fun x hx=>by
     grind)
    grind
def mn (p:Int):Nat->List Int
 | 0=>[]
 | n+1=>p::mn (p+1) n
theorem Cx (p:Int):∀n,(mn p n).length=n:=fun n=>by
 induction n generalizing p with
 | zero=>rfl
 | succ n ih=>grind [mn]
theorem pS:∀(n:Nat) (p x:Int),x∈mn p n↔p<=x/\x<p+n
 | 0,p,x=>by constructor <;> intro h;cases h;omega
 | n+1,p,x=>by
  show x∈p::mn (p+1) n↔_;rw[uI,pS n (p+1) x];omega
theorem uD:∀(n:Nat) (p:Int),(mn p n).Pairwise (·<·)
 | 0,p=>List.Pairwise.nil
 | n+1,p=>AU.2 ⟨fun x hx=>by grind [pS],uD n (p+1)⟩
def dH:List aX->List Int
 | []=>[]
 | a::r=>mn a.page a.aQ.toNat++dH r
theorem LR:∀(l:List aX) (x:Int),x∈dH l↔(bY l x).2=true
 | [],x=>by constructor <;> intro h <;> cases h
 | a::r,x=>by
  show x∈mn a.page a.aQ.toNat++dH r↔_;rw[lV,pS,LR r x];show _↔(if iQ a x=true then (a,true) else bY r x).2=true;by_cases c:iQ a x=true
  · have h6:a.page<=x/\x<a.page+a.aQ:=oP c
    grind
  · have h6:¬(a.page<=x/\x<a.page+a.aQ):=fun g=>c (gZ g)
    grind
def yQ:Int->List aX->Prop
 | _,[]=>True
 | lo,a::r=>lo<=a.page/\1<=a.aQ/\yQ (a.page+a.aQ) r
theorem yQ.low:∀{l:List aX} {lo:Int},yQ lo l->∀x∈dH l,lo<=x
 | [],lo,h,x,hx=>by cases hx
 | a::r,lo,h,x,hx=>by
  obtain⟨h1,h2,h3⟩:=h;rcases lV.1 hx with g | g
  · grind [pS]
  · have:=h3.low x g;omega
theorem yQ.sorted:∀{l:List aX} {lo:Int},yQ lo l->(dH l).Pairwise (·<·)
 | [],lo,h=>List.Pairwise.nil
 | a::r,lo,h=>by
  obtain⟨h1,h2,h3⟩:=h;show(mn a.page a.aQ.toNat++dH r).Pairwise (·<·);rw[G7];refine⟨uD _ _,h3.sorted,fun x hx y hy=>?_⟩;have:=(pS _ _ _).1 hx;have:=h3.low y hy;omega
def LS (l:List aX):Prop:=∀i,i<l.length->(1<=(bC l i).page/\1<=(bC l i).aQ)/\(0<i->(bC l (i-1)).page+(bC l (i-1)).aQ<=(bC l i).page)
theorem LS.tail {a:aX} {r:List aX} (h:LS (a::r)):LS r:=fun i hi=>by
 have h1:=h (i+1) (by grind);refine⟨h1.1,fun g=>?_⟩;have h2:=h1.2 (by omega);obtain⟨j,rfl⟩:∃j,i=j+1:=⟨i-1,by omega⟩;exact h2
theorem N3:∀(l:List aX) (lo:Int),LS l->(∀a r,l=a::r->lo<=a.page)->yQ lo l
 | [],lo,h,_=>trivial
 | a::r,lo,h,hlo=>by
  have h0:=(h 0 (by simp)).1;refine⟨hlo a r rfl,h0.2,N3 r _ h.tail (fun b q e=>?_)⟩;subst e;exact(h 1 (by simp)).2 (by omega)
theorem Rz {l:List aX} (hc:bk l=0):LS l:=fun i hi=>by
 have h:=gW l hc i hi;have h1:=iw l i h
 grind [nI,mq,aX.wU]
theorem oC {l:List aX} (hc:bk l=0):yQ 1 l:=N3 l 1 (Rz hc) (fun a r e=>by
 subst e;exact((Rz hc) 0 (by simp)).1.1)
theorem N1 (a:aX) (r:List aX):∀k,kT (a::r) (k+1)=a.aQ+kT r k
 | 0=>by show(0:Int)+a.aQ=a.aQ+0;omega
 | k+1=>by
  show kT (a::r) (k+1)+(bC (a::r) (k+1)).aQ=a.aQ+(kT r k+(bC r k).aQ);rw[N1 a r k]
  grind [bC]
theorem EW:∀{l:List aX} {lo:Int},yQ lo l->((dH l).length:Int)=kT l l.length
 | [],lo,h=>rfl
 | a::r,lo,h=>by
  obtain⟨h1,h2,h3⟩:=h;show(((mn a.page a.aQ.toNat++dH r).length:Nat):Int)=kT (a::r) (r.length+1);rw[N1,fK,Cx,<- EW h3];omega
theorem tE {l:List aX} (hc:bk l=0):bh l=((dH l).length:Int):=by
 unfold bh;rw[aC hc,EW (oC hc)]
theorem rp {l:List aX} (hc:bk l=0) (x:Int):(aY l x).2=true↔x∈dH l:=by
 grind [LR,aY]
open Go.RowKit
theorem GI:∀l:List UInt8,Lib.leNat l<256 ^ l.length
 | []=>by simp[Lib.leNat]
 | b::r=>by
  have h:=GI r;have hb:b.toNat<256:=b.toNat_lt
  grind [Lib.leNat]
theorem Xy (l:List UInt8) (h:l.length<=7):Lib.leNat l<72057594037927936:=by
 have h1:=GI l;have h2:256 ^ l.length<=256 ^ 7:=Nat.pow_le_pow_right (by decide) h;omega
theorem Xz (s:ByteArray) (k:Nat) (h0:0<k) (hk:k<=s.size):s.data.toList.drop (k-1)=s[k-1]::s.data.toList.drop k:=by
 have h:k-1<s.data.toList.length:=by grind [Lib.size_eq]
 have e:=aho h;rw[show k-1+1=k from by omega] at e;exact e
theorem TQ (s:ByteArray) (k:Nat) (h0:0<k) (hk:k<=s.size) :
  ((Lib.leNat (s.data.toList.drop (k-1)):Nat):Int)=(s[k-1].toNat:Int)+256*(Lib.leNat (s.data.toList.drop k):Nat):=by
 grind [Xz,Lib.leNat]
theorem aeR (N b:Int) (h0:0<=N) (h1:N<72057594037927936) (b0:0<=b) (b1:b<256) :
  bits .or .u64 (IntKind.u64.wrap (N*256)) (IntKind.u64.wrap b)=b+256*N:=by
 rw[u64_wrap_id _ (by omega) (by omega),u64_wrap_id b b0 (by omega)];have hc:bits .or .u64 (N*256) b=bits .or .u64 b (N*256):=by grind [bits]
 grind [u64_or8]
def yR (n:Int) (k:Nat):Int:=n/256 ^ k
def mD (n:Int):Nat:=(n%18446744073709551616).toNat
theorem aar (n:Int):yR n 0=n:=by simp[yR]
theorem aas (n:Int) (k:Nat):yR n k/256=yR n (k+1):=by
 grind [yR,Int.ediv_ediv_of_nonneg]
theorem yS:∀(k v:Nat),Lib.leBytes (k+1) v=Lib.leBytes k v++[(v/256 ^ k%256).toUInt8]
 | 0,v=>by simp[Lib.leBytes]
 | k+1,v=>by
  rw[Lib.leBytes,yS k (v/256)]
  grind [Lib.leBytes,Nat.div_div_eq_div_mul]
theorem aat (n:Int) (k:Nat) (h:k<8):yR n k%256=((mD n/256 ^ k%256:Nat):Int):=by
 unfold yR mD
 match k,h with
 | 0,_=>omega
 | 1,_=>omega
 | 2,_=>omega
 | 3,_=>omega
 | 4,_=>omega
 | 5,_=>omega
 | 6,_=>omega
 | 7,_=>omega
theorem LV (n:Int) (k:Nat) (h:k<8):strOfNums [yR n k%256]=⟨#[(mD n/256 ^ k%256).toUInt8]⟩:=by
 grind [aat,strOfNums]
theorem Xx (a b:List UInt8):(⟨a.toArray⟩:ByteArray)++⟨b.toArray⟩=⟨(a++b).toArray⟩:=ByteArray.mk_append_mk a b
def CB (size k V:Nat):List Value:=Lib.byteCells (Lib.leBytes k V)++List.replicate (size-k) (.int .u8 0)
theorem aau (size V:Nat):CB size 0 V=List.replicate size (.int .u8 0):=by rfl
theorem acK (size k V:Nat) (h:k<size):(CB size k V)[k]?=some (.int .u8 0):=by
 grind [CB,Lib.byteCells_length,Lib.leBytes_length]
theorem RJ (x:Nat):(((x%256).toUInt8.toNat:Nat):Int)=(x:Int)%256:=by
 simp_all
theorem acJ (size k V:Nat) (h:k<size):(CB size k V).set k (.int .u8 (((V/256 ^ k:Nat):Int)%256))=CB size (k+1) V:=by
 unfold CB;rw[AO _ _ (by grind [Lib.byteCells_length,Lib.leBytes_length]),acY,Lib.leBytes_length,GY];obtain⟨m,hm⟩:∃m,size-k=m+1:=⟨size-k-1,by omega⟩
 grind [yS,Lib.byteCells,RJ]
theorem aav (size V:Nat):CB size size V=Lib.byteCells (Lib.leBytes size V):=by simp[CB]
theorem acL (n:Int) (k:Nat):((mD n/256 ^ k:Nat):Int)/256=((mD n/256 ^ (k+1):Nat):Int):=by
 rw[Nat.pow_succ,<- Nat.div_div_eq_div_mul];omega
theorem vd (l:List UInt8):strOfNums (l.map fun b=>(b.toNat:Int))=⟨l.toArray⟩:=by
 simp only[strOfNums,List.map_map];congr 1;congr 1;induction l with
 | nil=>rfl
 | cons b r ih=>simp[ih]
theorem acI (n:Int):IntKind.u64.wrap n=((mD n:Nat):Int):=by
 grind [IntKind.wrap_u64,mD]
theorem C8 (l:List UInt8) (i:Nat) (h:i<l.length):(Lib.byteCells l)[i]?=some (.int .u8 ((l.map fun b=>(b.toNat:Int)).getD i 0)):=by
 simp[Lib.byteCells,h]
theorem aeS (n:Int) (h:(Lit.int .i64 n).wf=true):-9223372036854775808<=n/\n<=9223372036854775807:=by
 grind [Lit.wf,IntKind.min,IntKind.max,IntKind.signed,IntKind.bits]
open Go.RowKit
def wV (k:Nat) (n:Int):ByteArray:=⟨(Lib.leBytes k (mD n)).toArray⟩
theorem zQ (k:Nat) (n:Int):(wV k n).size=k:=by
 grind [wV,Lib.size_eq,Lib.leBytes_length]
structure ed where
 op:Int
 a:Int
 b:Int
 c:Int
 m:Int
def ed.cells (i:ed):Array Value:=#[I i.op,I i.a,I i.b,I i.c,I i.m]
def qO (n:Int):Prop:=0<=n/\n<=255
instance (n:Int):Decidable (qO n):=by unfold qO;infer_instance
def ed.fits (i:ed):Prop:=qO i.op/\qO i.a/\qO i.b/\qO i.c/\-2147483648<=i.m/\i.m<=2147483647
instance (i:ed):Decidable i.fits:=by unfold ed.fits;infer_instance
def ed.bytes (i:ed):ByteArray:=(((wV 1 i.op++wV 1 i.a)++wV 1 i.b)++wV 1 i.c)++wV 4 i.m
theorem Ia (i:ed):i.bytes.size=8:=by
 rfl
def ve (n:Int):Int:=if 2147483648<=n then n-4294967296 else n
def rZ (s:ByteArray) (k:Nat):Int:=((s.data.toList.getD k 0).toNat:Int)
def iG (s:ByteArray):ed:=⟨rZ s 0,rZ s 1,rZ s 2,rZ s 3,ve (Lib.leNat (s.data.toList.drop 4))⟩
theorem CO (s:ByteArray) (k:Nat):qO (rZ s k):=by
 unfold qO rZ;have:=(s.data.toList.getD k 0).toNat_lt;omega
theorem Dx (s:ByteArray) (k:Nat):wrap64 (rZ s k)=rZ s k:=by
 grind [CO,qO,wrap64]
theorem He (s:ByteArray) (k:Nat) (h:k<s.size):((s[k].toNat:Nat):Int)=rZ s k:=by
 unfold rZ;have h':k<s.data.toList.length:=by simp_all
 rw[fG,lW h'];rfl
theorem Qa (s:ByteArray) (h:s.size=8):Lib.leNat (s.data.toList.drop 4)<4294967296:=by
 grind [GI,List.length_drop,Lib.size_eq]
theorem H9 (n:Int) (h0:0<=n) (h1:n<4294967296):-2147483648<=ve n/\ve n<=2147483647:=by
 grind [ve]
theorem AZ (s:ByteArray) (h:s.size=8):(iG s).fits:=by
 have h4:=Qa s h;have h5:=H9 (Lib.leNat (s.data.toList.drop 4)) (by omega) (by omega);exact⟨CO s 0,CO s 1,CO s 2,CO s 3,h5.1,h5.2⟩
theorem adQ (n:Int) (h0:0<=n) (h1:n<4294967296):IntKind.i32.wrap n=ve n:=by
 grind [ve,IntKind.wrap_i32]
theorem Oh (s:ByteArray) (h:s.size=8):(s.extract 4 8).data.toList=s.data.toList.drop 4:=by
 grind [Lib.extract_data,List.take_of_length_le,Lib.size_eq]
open Go.RowKit
def fP (l:List Int):Bool:=l.all fun x=>decide (0<=x/\x<8)
def ot (n:Int):Bool:=decide (n=1∨n=2∨n=4∨n=8)
def ed.bad (i:ed):Bool :=
 if i.op=12 then false
 else if i.op=16 then !(decide (1<=i.m/\i.m<=6))
 else if i.op=1∨i.op=11∨i.op=15 then decide (8<=i.a)
 else if 2<=i.op/\i.op<=7 then decide (8<=i.a∨8<=i.b∨8<=i.c)
 else if i.op=8∨i.op=13∨i.op=14 then decide (8<=i.a∨8<=i.b)
 else if i.op=9∨i.op=10 then decide (8<=i.a∨8<=i.b) || !(ot i.c)
 else true
theorem afP (a:Int) (ha:qO a):(!fP [a])=decide (8<=a):=by
 grind [qO,fP]
theorem afO (a b:Int) (ha:qO a) (hb:qO b):(!fP [a,b])=decide (8<=a∨8<=b):=by
 grind [qO,fP]
theorem afN (a b c:Int) (ha:qO a) (hb:qO b) (hc:qO c):(!fP [a,b,c])=decide (8<=a∨8<=b∨8<=c):=by
 grind [qO,fP]
theorem Sr (l:List Int) (k:Nat) (x:Int) (h:l[k]?=some x) (hx:¬(0<=x/\x<8)):fP l=false:=by
 unfold fP;rw[List.all_eq_false];exact⟨x,List.mem_of_getElem? h,by grind⟩
theorem Qb (l:List Int) (h:∀(k:Nat) (x:Int),l[k]?=some x->0<=x/\x<8):fP l=true:=by
 grind [fP,List.getElem?_of_mem]
structure bT where
 r:Nat->Int
 pc:Int
 st:Int
 cd:Int
 fk:Int
 fa:Int
def bT.row (p:bT):Array Value:=#[I (p.r 0),I (p.r 1),I (p.r 2),I (p.r 3),I (p.r 4),I (p.r 5),I (p.r 6),I (p.r 7),I p.pc,I p.st,I p.cd,I p.fk,I p.fa]
def bT.val (p:bT):Value:=.agg p.row
def bT.set (p:bT) (j:Nat) (v:Int):bT:={ p with r:=fun k=>if k=j then v else p.r k }
theorem P9 (p:bT) (j:Nat) (v:Int) (h:j<8):p.row.setIfInBounds j (I v)=(p.set j v).row:=by
 match j,h with
 | 0,_=>rfl
 | 1,_=>rfl
 | 2,_=>rfl
 | 3,_=>rfl
 | 4,_=>rfl
 | 5,_=>rfl
 | 6,_=>rfl
 | 7,_=>rfl
theorem zP (p:bT) (j:Nat) (h:j<8):p.row[j]?=some (I (p.r j)):=by
 match j,h with
 | 0,_=>rfl
 | 1,_=>rfl
 | 2,_=>rfl
 | 3,_=>rfl
 | 4,_=>rfl
 | 5,_=>rfl
 | 6,_=>rfl
 | 7,_=>rfl
theorem qj (p:bT) (v:Int):p.row.setIfInBounds 8 (I v)=({ p with pc:=v }:bT).row:=rfl
theorem qi (p:bT) (v:Int):p.row.setIfInBounds 9 (I v)=({ p with st:=v }:bT).row:=rfl
theorem ql (p:bT) (v:Int):p.row.setIfInBounds 10 (I v)=({ p with cd:=v }:bT).row:=rfl
theorem mW (p:bT):p.row.size=13:=rfl
theorem qh:(∀(q:bT) (h:0<q.row.size),q.row[0]=I (q.r 0))/\(∀(q:bT) (h:1<q.row.size),q.row[1]=I (q.r 1))/\(∀(q:bT) (h:2<q.row.size),q.row[2]=I (q.r 2))/\(∀(q:bT) (h:3<q.row.size),q.row[3]=I (q.r 3))/\(∀(q:bT) (h:4<q.row.size),q.row[4]=I (q.r 4))/\(∀(q:bT) (h:5<q.row.size),q.row[5]=I (q.r 5))/\(∀(q:bT) (h:6<q.row.size),q.row[6]=I (q.r 6))/\(∀(q:bT) (h:7<q.row.size),q.row[7]=I (q.r 7))/\(∀(q:bT) (h:8<q.row.size),q.row[8]=I q.pc)/\(∀(q:bT) (h:9<q.row.size),q.row[9]=I q.st)/\(∀(q:bT) (h:10<q.row.size),q.row[10]=I q.cd)/\(∀(q:bT) (h:11<q.row.size),q.row[11]=I q.fk)/\(∀(q:bT) (h:12<q.row.size),q.row[12]=I q.fa):=⟨fun q h=>rfl,fun q h=>rfl,fun q h=>rfl,fun q h=>rfl,fun q h=>rfl,fun q h=>rfl,fun q h=>rfl,fun q h=>rfl,fun q h=>rfl,fun q h=>rfl,fun q h=>rfl,fun q h=>rfl,fun q h=>rfl⟩
theorem vN (n:Nat) (hn:n<8):(∀(q:bT) (v:Int),q.row.setIfInBounds n (I v)=(q.set n v).row)/\(∀(q:bT),q.row[n]?=some (I (q.r n)))/\(∀(q:bT) (h:n<q.row.size),q.row[n]=I (q.r n)):=⟨fun q v=>P9 q n v hn,fun q=>zP q n hn,fun q h=>Option.some.inj ((acP h).symm.trans (zP q n hn))⟩
theorem Vk (n:Int):bits .and .u64 (IntKind.u64.wrap n) 63=n%64:=by
 have h63:(BitVec.ofInt 64 63).toNat=2 ^ 6-1:=by decide
 have key:(BitVec.ofInt 64 (IntKind.u64.wrap n) &&& BitVec.ofInt 64 63).toNat=((IntKind.u64.wrap n)%((2 ^ 64:Nat):Int)).toNat%2 ^ 6:=by
  rw[BitVec.toNat_and,BitVec.toNat_ofInt,h63,acU]
 show IntKind.u64.wrap ((BitVec.ofInt 64 (IntKind.u64.wrap n) &&& BitVec.ofInt 64 63).toNat:Nat)=n%64
 grind [IntKind.wrap_u64]
theorem Vl (n:Int):bits .and .i64 n 63=n%64:=by
 have h63:(BitVec.ofInt 64 63).toNat=2 ^ 6-1:=by decide
 have key:(BitVec.ofInt 64 n &&& BitVec.ofInt 64 63).toNat=(n%((2 ^ 64:Nat):Int)).toNat%2 ^ 6:=by
  rw[BitVec.toNat_and,BitVec.toNat_ofInt,h63,acU]
 show IntKind.i64.wrap ((BitVec.ofInt 64 n &&& BitVec.ofInt 64 63).toNat:Nat)=n%64
 grind [IntKind.wrap_i64]
def M9 (op b c:Int):Int :=
 if op=2 then wrap64 (b+c) else if op=3 then wrap64 (b-c) else if op=4 then wrap64 (b*c) else if op=5 then bits .and .i64 b c else if op=6 then bits .xor .i64 b c
 else wrap64 (IntKind.u64.wrap b/2 ^ min (c%64).toNat 64)
def cZ (p:bT) (i:ed) (v:Int):bT :=
 let nx:bT:={ p with pc:=wrap64 (p.pc+8) }
 let tgt:Int:=wrap64 (p.pc+i.m)
 if i.op=1 then nx.set i.a.toNat i.m
 else if 2<=i.op/\i.op<=7 then nx.set i.a.toNat (M9 i.op (p.r i.b.toNat) (p.r i.c.toNat))
 else if i.op=8 then nx.set i.a.toNat (wrap64 (p.r i.b.toNat+i.m))
 else if i.op=9 then nx.set i.a.toNat v
 else if i.op=10 then nx
 else if i.op=11 then nx.set i.a.toNat tgt
 else if i.op=12 then { p with pc:=tgt }
 else if i.op=13 then (if p.r i.a.toNat=p.r i.b.toNat then { p with pc:=tgt } else nx)
 else if i.op=14 then (if p.r i.a.toNat<p.r i.b.toNat then { p with pc:=tgt } else nx)
 else if i.op=15 then { p with pc:=p.r i.a.toNat }
 else if i.m=6 then { nx with st:=2,cd:=p.r 0 }
 else if i.m=1 then nx
 else nx.set 0 v
def pj (p:bT) (i:ed):Array Value :=
 if i.bad then #[I 4,I 0,I 0,I 0,I 0]
 else if i.op=9 then #[I 1,I (wrap64 (p.r i.b.toNat+i.m)),I i.c,I 0,I 0]
 else if i.op=10 then #[I 2,I (wrap64 (p.r i.b.toNat+i.m)),I i.c,I (p.r i.a.toNat),I 0]
 else if i.op=16 then #[I 3,I 0,I 0,I 0,I i.m]
 else #[I 0,I 0,I 0,I 0,I 0]
open Go.RowKit
structure jW where
 page:Int
 data:ByteArray
structure mZ where
 live:Bool
 aU:List aX
 aQ:List jW
structure sI where
 proc:Int
 value:Int
def agY:jW:=⟨0,⟨#[]⟩⟩
def Jz:mZ:=⟨false,[],[]⟩
def Xw:sI:=⟨0,0⟩
def Cy:bT:=⟨fun _=>0,0,0,0,0,0⟩
def kZ (l:List jW) (i:Nat):jW:=l.getD i agY
def bB (l:List mZ) (i:Nat):mZ:=l.getD i Jz
def oW (l:List sI) (i:Nat):sI:=l.getD i Xw
def aN (l:List bT) (i:Nat):bT:=l.getD i Cy
def xD (p:bT):Bool:=decide (p.fk=0/\p.fa=0)
def fA (p:bT):Bool:=if p.st=1 then decide (p.cd=0)&&xD p else if p.st=2 then xD p else if p.st=3 then decide (p.cd=0)&&decide (1<=p.fk/\p.fk<=4) else false
def LQ (l:List jW):Bool:=l.all fun p=>decide (p.data.size=16)
def dg (l:List jW):List Int:=l.map (·.page)
def lT (s:mZ):Bool:=if s.live then decide (bk s.aU=0)&&(decide (dg s.aQ=dH s.aU)&&LQ s.aQ) else decide (s.aU.length=0)&&decide (s.aQ.length=0)
def qF (l:List mZ):Nat->Int
 | 0=>0
 | k+1=>qF l k+bh (bB l k).aU
def jg (l:List mZ):Int:=qF l l.length
theorem Ap:∀(l:List Int),(∀k,0<k->k<l.length->l.getD (k-1) 0<l.getD k 0)->l.Pairwise (·<·)
 | [],_=>List.Pairwise.nil
 | [a],_=>List.pairwise_singleton _ _
 | a::b::r,h=>by
  have ih:=Ap (b::r) (fun k h1 h2=>by
   have:=h (k+1) (by omega) (by grind)
   grind)
  have h0:a<b:=h 1 (by omega) (by simp)
  grind [List.pairwise_cons]
theorem JC {l:List Int} (h:l.Pairwise (·<·)) (k:Nat) (h1:0<k) (h2:k<l.length):l.getD (k-1) 0<l.getD k 0:=by
 grind [List.pairwise_iff_getElem]
theorem I6 (l:List jW) (k:Nat):(dg l).getD k 0=(kZ l k).page:=by
 unfold dg kZ;rw[fG,fG,AH];cases l[k]? <;> rfl
theorem GG {l:List jW} {k:Nat} (h:k<l.length):kZ l k∈l:=by
 grind [kZ]
theorem BH {l:List jW} {p:jW} (h:p∈l):∃k,k<l.length/\kZ l k=p:=by
 grind [List.getElem?_of_mem,List.getElem?_eq_none,kZ]
open Go.RowKit
theorem N2:∀(n:Nat) (p:Int),mn p (n+1)=mn p n++[p+(n:Int)]
 | 0,p=>by show [p]=[]++[p+0];rw[Dj];rfl
 | n+1,p=>by
  show p::mn (p+1) (n+1)=(p::mn (p+1) n)++[p+((n+1:Nat):Int)];rw[N2 n (p+1),Dn,show p+1+(n:Int)=p+((n+1:Nat):Int) by omega]
theorem BG:∀a b:List aX,dH (a++b)=dH a++dH b
 | [],b=>rfl
 | x::a,b=>by
  show mn x.page x.aQ.toNat++dH (a++b)=(mn x.page x.aQ.toNat++dH a)++dH b;rw[BG a b,vM]
def xC (l:List aX) (i:Nat):List Int:=dH (l.take i)
theorem OM (l:List aX) (i:Nat) (h:i<l.length):xC l (i+1)=xC l i++mn (bC l i).page (bC l i).aQ.toNat:=by
 unfold xC;rw[acX h,BG];have e:bC l i=l[i]:=by
  unfold bC;rw[fG,lW h];rfl
 rw[e];show _++(mn l[i].page l[i].aQ.toNat++[])=_;rw[Dl]
open Go.RowKit
def vA (l:List bT) (lv:Nat->Bool) (k:Nat):Bool:=fA (aN l k)&&lv k==decide ((aN l k).st=1)
def kv (l:List bT) (lv:Nat->Bool):Nat->Bool
 | 0=>true
 | k+1=>kv l lv k&&vA l lv k
def Ao (o:sI) (n:Nat):Bool:=decide (0<=o.proc/\o.proc<(n:Int))
def ku (o:List sI) (n:Nat):Nat->Bool
 | 0=>true
 | k+1=>ku o n k&&Ao (oW o k) n
theorem GF {l:List bT} {lv:Nat->Bool} {k:Nat} (h:kv l lv k=false):∀n,k<=n->kv l lv n=false
 | 0, hn => by obtain rfl:k=0 := by omega
               exact h
 | n+1,hn=>by
  by_cases e:k=n+1
  · subst e;exact h
  · show(kv l lv n&&_)=false;rw[GF h n (by omega),GZ]
theorem GD {o:List sI} {m k:Nat} (h:ku o m k=false):∀n,k<=n->ku o m n=false
 | 0, hn => by obtain rfl:k=0 := by omega
               exact h
 | n+1,hn=>by
  by_cases e:k=n+1
  · subst e;exact h
  · show(ku o m n&&_)=false;rw[GD h n (by omega),GZ]
theorem Ey (l:List bT) (lv:Nat->Bool):∀n,(List.range n).all (fun i=>vA l lv i)=kv l lv n
 | 0=>rfl
 | n+1=>by
  rw[Pn,List.all_append,Ey l lv n];show(kv l lv n&&(vA l lv n&&true))=(kv l lv n&&vA l lv n);rw[Bool.and_true]
theorem I5 (o:List sI) (m:Nat):∀n,n<=o.length->(o.take n).all (fun x=>Ao x m)=ku o m n
 | 0,_=>rfl
 | n+1,h=>by
  rw[acX (show n<o.length by omega),List.all_append,I5 o m n (by omega)];have e:oW o n=o[n]:=by
   unfold oW;rw[fG,lW (show n<o.length by omega)];rfl
  show(ku o m n&&(Ao o[n] m&&true))=(ku o m n&&Ao (oW o n) m);rw[Bool.and_true,e]
theorem LO (o:List sI) (m:Nat):o.all (fun x=>Ao x m)=ku o m o.length:=by
 rw[<- I5 o m o.length (aI _),vK]
def jF (l:List bT) (o:List sI) (lv:Nat->Bool):Bool:=kv l lv l.length&&ku o l.length o.length
open Go.RowKit
theorem pT (p n t:Int) (z:Bool) (w:World) (h1:-9223372036854775808<=p+n) (h2:p+n<=9223372036854775807) :
  Calls Tryz.prog 128 #[.agg #[I p,I n,I t,.bool z]] w fun e w'=>e=.returned (I (p+n))/\Below w.heap.size w w':=by
 go_enter Tryz.func128,Tryz.ntmps128;go_wp2;go_ret;exact⟨rfl,(aK _ _).alloc (aI _) _⟩
theorem fN (p n:Int) (w:World) (hp:-9223372036854775808<=p/\p<=9223372036854775807) (hn:-9223372036854775808<=n/\n<=9223372036854775807) :
  Calls Tryz.prog 174 #[I p,I n] w fun e w'=>e=.returned (.bool (fT p n))/\w=w':=by
 by_cases h1:1<=p
 · by_cases h2:1<=n
   · by_cases h3:n<=256-p
     · have e:fT p n=true:=by grind [fT]
       have h4:n<=255-p+1:=by omega
       rw[e];go_enter Tryz.func174,Tryz.ntmps174;go_wp2;go_ret
       simp_all
     · have e:fT p n=false:=by grind [fT]
       have h4:decide (n<=255-p+1)=false:=by grind
       rw[e];go_enter Tryz.func174,Tryz.ntmps174;go_wp2;go_ret
       simp_all
   · have e:fT p n=false:=by grind [fT]
     rw[e];go_enter Tryz.func174,Tryz.ntmps174;go_wp2;go_ret
     simp_all
 · have e:fT p n=false:=by grind [fT]
   rw[e];go_enter Tryz.func174,Tryz.ntmps174;go_wp2;go_ret
   simp_all
theorem jn (p:Int) (w:World) :
  Calls Tryz.prog 175 #[I p] w fun e w'=>e=.returned (.bool (kr p))/\w=w':=by
 by_cases h1:0<=p
 · by_cases h2:p<=3
   · have e:kr p=true:=by grind [kr]
     rw[e];go_enter Tryz.func175,Tryz.ntmps175;go_wp2;go_ret
     simp_all
   · have e:kr p=false:=by grind [kr]
     rw[e];go_enter Tryz.func175,Tryz.ntmps175;go_wp2;go_ret
     simp_all
 · have e:kr p=false:=by grind [kr]
   rw[e];go_enter Tryz.func175,Tryz.ntmps175;go_wp2;go_ret
   simp_all
open Go.RowKit
structure dV (B:Nat) (w:World) where
 world:World
 keeps:Below B w world
theorem jq (w:World):Nonempty (dV w.heap.size w):=⟨⟨w,aK _ _⟩⟩
theorem dx {P:Program} {id:Nat} {Q:Exit->Act->World->Prop} {a:Act} {w:World} {l:List Oper} (hm:P.follows .mixedOrders=true) (hB:Region.lexB .any l.toArray=true)
  (h:wpQuiet P l.toArray (fun w'=>∃x:dV w.heap.size w,w'=x.world) (fun a'=>∀w',(∃x:dV w.heap.size w,w'=x.world)->Q .normal a' w') l a):(Code.region id l.toArray true).wp P Q a w :=
 wp_region_quiet (C:=fun w'=>∃x:dV w.heap.size w,w'=x.world) hm hB ⟨⟨_,(aK _ _).drew⟩,rfl⟩ (by simpa using h)
theorem fV {P:Program} {f:FuncId} {args:Array Value} {v:Value} {w:World} (h:∀W,Calls P f args W fun e w'=>e=.returned v/\Below W.heap.size W w') (x:dV w.heap.size w) :
  Calls P f args x.world fun e w''=>e=.returned v/\∃y:dV w.heap.size w,w''=y.world :=
 (h x.world).mono fun e w'' ⟨he,hb⟩=>⟨he,⟨w'',x.keeps.trans (hb.mono x.keeps.size)⟩,rfl⟩
theorem fO {w:World} (x:dV w.heap.size w) (b o:Nat) (h:b<w.heap.size):x.world.cell? (Ad b o)=w.cell? (Ad b o):=x.keeps.cell (p:=(Ad b o)) h
open Go.RowKit
theorem OT (ap an XO bp bn bt:Int) (az bz:Bool) (w:World) (h1:-9223372036854775808<=ap+an) (h2:ap+an<=9223372036854775807) (he:bp=ap+an) :
  Calls Tryz.prog 176 #[.agg #[I ap,I an,I XO,.bool az],.agg #[I bp,I bn,I bt,.bool bz]] w fun e w'=>e=.returned (.bool (bt != XO || bz != az))/\Below w.heap.size w w':=by
 obtain⟨W,hW⟩:=ex ((w.alloc (.cells #[I ap,I an,I XO,.bool az] 139)).alloc (.cells #[I bp,I bn,I bt,.bool bz] 139));have hs:W.heap.size=w.heap.size+2:=by simp_all
 have CL:=jq W;have hkc:=@fO W;have c0:∀x:dV W.heap.size W,x.world.cell? (Ad w.heap.size 0)=some (I ap):=fun x=>by rw[hkc x _ _ (by omega),hW];simp
 have c1:∀x:dV W.heap.size W,x.world.cell? (Ad w.heap.size 1)=some (I an):=fun x=>by rw[hkc x _ _ (by omega),hW];simp
 have c2:∀x:dV W.heap.size W,x.world.cell? (Ad w.heap.size 2)=some (I XO):=fun x=>by rw[hkc x _ _ (by omega),hW];simp
 have c3:∀x:dV W.heap.size W,x.world.cell? (Ad w.heap.size 3)=some (.bool az):=fun x=>by rw[hkc x _ _ (by omega),hW];simp
 have d0:∀x:dV W.heap.size W,x.world.cell? (Ad (w.heap.size+1) 0)=some (I bp):=fun x=>by simp_all
 have d2:∀x:dV W.heap.size W,x.world.cell? (Ad (w.heap.size+1) 2)=some (I bt):=fun x=>by simp_all
 have d3:∀x:dV W.heap.size W,x.world.cell? (Ad (w.heap.size+1) 3)=some (.bool bz):=fun x=>by simp_all
 have hbW:Hid (Below w.heap.size w W):=by show Below _ _ _;simp_all [aK,pZ]
 have HW:Hid (W=(w.alloc (.cells #[I ap,I an,I XO,.bool az] 139)).alloc (.cells #[I bp,I bn,I bt,.bool bz] 139)):=hW;clear hW hs hkc;have hx:(bp==ap+an)=true:=by simp[he]
 clear he;go_enter Tryz.func176,Tryz.ntmps176;go_wp2_with fail
 rw[<- HW.o];refine dx (by rfl) (by kernel_rfl) ?_
 repeat (first | go_big_quiet_step ((go_at_call 128;exact fV (fun W=>pT _ _ _ _ W h1 h2) _)) | quiet_step ((go_at_call 128;exact fV (fun W=>pT _ _ _ _ W h1 h2) _)))
 refine jk ?_;intro _ hw';obtain⟨x,hw''⟩:=hw';subst hw'';go_wp2
 all_goals go_ret
 all_goals exact⟨by first | (simp[*];done) | (simp[*];grind),hbW.out.trans (x.keeps.mono hbW.out.size)⟩
theorem OS (ap an XO bp bn bt:Int) (az bz:Bool) (w:World) (h1:-9223372036854775808<=ap+an) (h2:ap+an<=9223372036854775807) (he:¬bp=ap+an) :
  Calls Tryz.prog 176 #[.agg #[I ap,I an,I XO,.bool az],.agg #[I bp,I bn,I bt,.bool bz]] w fun e w'=>e=.returned (.bool (decide (ap+an<bp)))/\Below w.heap.size w w':=by
 obtain⟨W,hW⟩:=ex ((w.alloc (.cells #[I ap,I an,I XO,.bool az] 139)).alloc (.cells #[I bp,I bn,I bt,.bool bz] 139));have hs:W.heap.size=w.heap.size+2:=by simp_all
 have CL:=jq W;have hkc:=@fO W;have c0:∀x:dV W.heap.size W,x.world.cell? (Ad w.heap.size 0)=some (I ap):=fun x=>by rw[hkc x _ _ (by omega),hW];simp
 have c1:∀x:dV W.heap.size W,x.world.cell? (Ad w.heap.size 1)=some (I an):=fun x=>by rw[hkc x _ _ (by omega),hW];simp
 have c2:∀x:dV W.heap.size W,x.world.cell? (Ad w.heap.size 2)=some (I XO):=fun x=>by rw[hkc x _ _ (by omega),hW];simp
 have c3:∀x:dV W.heap.size W,x.world.cell? (Ad w.heap.size 3)=some (.bool az):=fun x=>by rw[hkc x _ _ (by omega),hW];simp
 have d0:∀x:dV W.heap.size W,x.world.cell? (Ad (w.heap.size+1) 0)=some (I bp):=fun x=>by simp_all
 have hbW:Hid (Below w.heap.size w W):=by show Below _ _ _;simp_all [aK,pZ]
 have HW:Hid (W=(w.alloc (.cells #[I ap,I an,I XO,.bool az] 139)).alloc (.cells #[I bp,I bn,I bt,.bool bz] 139)):=hW;have hs2:Hid (w.heap.size+2<=W.heap.size):=by grind
 clear hW hs hkc;have hx:(bp==ap+an)=false:=by simp[he]
 clear he;go_enter Tryz.func176,Tryz.ntmps176;go_wp2_with fail
 rw[<- HW.o];refine dx (by rfl) (by kernel_rfl) ?_
 repeat (first | go_big_quiet_step ((go_at_call 128;exact fV (fun W=>pT _ _ _ _ W h1 h2) _)) | quiet_step ((go_at_call 128;exact fV (fun W=>pT _ _ _ _ W h1 h2) _)))
 refine jk ?_;intro _ hw';obtain⟨x,hw''⟩:=hw';subst hw'';have c0x:=c0 x;have c1x:=c1 x;have c2x:=c2 x;have c3x:=c3 x;have d0x:=d0 x;have hsx:Hid (w.heap.size+2<=x.world.heap.size):=gY hs2.out x.keeps.size;have hbx:Hid (Below w.heap.size w x.world):=hbW.out.trans (x.keeps.mono hbW.out.size);clear HW c0 c1 c2 c3 d0 CL hbW hs2;obtain⟨V,hV⟩:=ex x.world;rw[<- hV] at c0x c1x c2x c3x d0x hsx hbx ⊢;clear hV;have CL:=jq V;have hkc:=@fO V;have apU:=hsx.out;have c0:∀x:dV V.heap.size V,x.world.cell? (Ad w.heap.size 0)=some (I ap):=fun x=>by grind
 have c1:∀x:dV V.heap.size V,x.world.cell? (Ad w.heap.size 1)=some (I an):=fun x=>by grind
 have c2:∀x:dV V.heap.size V,x.world.cell? (Ad w.heap.size 2)=some (I XO):=fun x=>by grind
 have c3:∀x:dV V.heap.size V,x.world.cell? (Ad w.heap.size 3)=some (.bool az):=fun x=>by grind
 have d0:∀x:dV V.heap.size V,x.world.cell? (Ad (w.heap.size+1) 0)=some (I bp):=fun x=>by grind
 clear hkc apU;go_wp2_with fail
 refine dx (by rfl) (by kernel_rfl) ?_
 repeat (first | go_big_quiet_step ((go_at_call 128;exact fV (fun W=>pT _ _ _ _ W h1 h2) _)) | quiet_step ((go_at_call 128;exact fV (fun W=>pT _ _ _ _ W h1 h2) _)))
 refine jk ?_;intro _ hw';obtain⟨y,hw''⟩:=hw';subst hw'';go_wp2;go_ret;exact⟨rfl,hbx.out.trans (y.keeps.mono hbx.out.size)⟩
theorem ud (a b:aX) (w:World) (h1:-9223372036854775808<=a.page+a.aQ) (h2:a.page+a.aQ<=9223372036854775807) :
  Calls Tryz.prog 176 #[.agg #[I a.page,I a.aQ,I a.jG,.bool a.zero],.agg #[I b.page,I b.aQ,I b.jG,.bool b.zero]] w fun e w'=>e=.returned (.bool (mq a b))/\Below w.heap.size w w':=by
 unfold mq aX.wU;split
 · exact OT _ _ _ _ _ _ _ _ w h1 h2 (by omega)
 · exact OS _ _ _ _ _ _ _ _ w h1 h2 (by omega)
end Go.Proofs.YtlgoihmkgaaemaaGreat
