import Derived.Deep.AppendLies
import Derived.Deep.Upon
import Derived.WalkLawsBesides
import Derived.WalkSpells
import Derived.BigQuiet
import Derived.Lib.Endian
import Derived.Lib.EndianBits
import Derived.Lib.Strings
import Derived.Test.YtlgoihmkgaaemaaGreatProg
set_option maxHeartbeats 20000000
set_option linter.unusedVariables false
set_option maxRecDepth 100000
set_option linter.unusedSimpArgs false
namespace Go.Proofs.YtlgoihmkgaaemaaGreat
abbrev I (n : Int) : Value := .int .i64 n
abbrev Nl : Value := .slice none 0 0
abbrev Ad (b o : Nat) : Addr := ⟨b, o, none⟩
theorem ex {A : Type} (e : A) : ∃ n, n = e := ⟨e, rfl⟩
theorem _root_.Go.RowKit.Hid.o {p : Prop} (h : Go.RowKit.Hid p) : p := h.out
abbrev aH:=@Nat.le_refl
abbrev aJ:=@Go.RowKit.Below.refl
abbrev au:=@if_neg
abbrev dC:=@List.setIfInBounds_toArray
abbrev aB:=@if_pos
abbrev bK:=@Go.bodyPost_ret
abbrev fy:=@List.getD_eq_getElem?_getD
abbrev fM:=@Go.World.size_alloc
abbrev dh:=@List.set_cons_succ
abbrev dw:=@List.set_cons_zero
abbrev fD:=@List.length_append
abbrev fV:=@Nat.lt_of_lt_of_le
abbrev eG:=@Bool.and_eq_true
abbrev kT:=@List.eq_nil_of_length_eq_zero
abbrev fC:=@List.length_set
abbrev lR:=@List.getElem?_eq_getElem
abbrev gV:=@List.length_map
abbrev gU:=@decide_eq_true
abbrev lG:=@beq_eq_false_iff_ne
abbrev oJ:=@Go.World.block_lt_of_cell?
abbrev je:=@decide_eq_false
abbrev kR:=@decide_eq_true_eq
abbrev gT:=@Nat.le_trans
abbrev lD:=@Int.toNat_natCast
abbrev kr:=@Nat.not_lt_zero
abbrev mC:=@Go.World.ownsRow_nil
abbrev dY:=@congrArg
abbrev lQ:=@List.mem_append
abbrev nM:=@List.flatMap_cons
abbrev oI:=@of_decide_eq_true
abbrev jd:=@Go.wpQuiet_nil
abbrev qB:=@of_decide_eq_false
abbrev jm:=@Go.info_parts
abbrev lO:=@Nat.zero_add
abbrev uA:=@List.length_replicate
abbrev kQ:=@Nat.le_succ
abbrev pS:=@List.all_eq_true
abbrev mA:=@Nat.add_zero
abbrev yP:=@List.getElem?_append_right
abbrev pR:=@Go.RowKit.Below.alloc
abbrev pQ:=@List.set_set
abbrev tA:=@Go.Addr.add_lit
abbrev yO:=@Go.Lib.run_eql_slice_nil
abbrev xw:=@List.flatMap_append
abbrev vq:=@List.length_take
abbrev vk:=@List.append_assoc
abbrev Dh:=@List.mem_cons_self
abbrev Av:=@List.pairwise_cons
abbrev vh:=@List.take_length
abbrev vg:=@List.mem_flatMap
abbrev Au:=@List.set_append_right
abbrev Ar:=@List.length_singleton
abbrev pP:=@Prod.mk.inj
abbrev uy:=@List.mem_range
abbrev yN:=@Go.World.ownsRow_made
abbrev GQ:=@Go.World.cell?_of_block
abbrev ve:=@Go.IntWalk.i64_in
abbrev tv:=@Bool.true_and
abbrev xu:=@List.length_cons
abbrev Dg:=@Nat.lt_of_succ_lt_succ
abbrev GN:=@List.getElem?_append_left
abbrev aco:=@List.pairwise_iff_getElem
abbrev yM:=@Classical.not_not
abbrev ux:=@List.mem_cons
abbrev rN:=@Nat.zero_le
abbrev Pc:=@List.findIdx?_eq_some_iff_getElem
abbrev Aq:=@List.getElem?_map
abbrev tu:=@Go.setRow_heap
abbrev JI:=@List.exists_mem_of_ne_nil
abbrev GM:=@Go.RowKit.ownsRow_setCell_below
abbrev vd:=@List.mem_map
abbrev uZ:=@Go.bodyPost_end
abbrev acn:=@Go.Lib.byteCells_length
abbrev GL:=@List.pairwise_append
abbrev GK:=@List.mem_cons_of_mem
abbrev Df:=@List.ext_getElem?
abbrev De:=@not_true_eq_false
abbrev C9:=@not_false_eq_true
abbrev Ap:=@List.cons.injEq
abbrev Ao:=@List.map_append
abbrev JH:=@Go.ByteArray.toList_eq
abbrev yL:=@Nat.add_assoc
abbrev yK:=@List.map_cons
abbrev C8:=@List.cons_append
abbrev Pb:=@Int.tdiv_eq_ediv_of_nonneg
abbrev O9:=@List.getElem?_eq_none
abbrev C7:=@Go.wpList_load_row
abbrev C6:=@List.append_nil
abbrev JG:=@List.set_append_left
abbrev acm:=@List.take_succ_eq_append_getElem
abbrev GJ:=@List.getElem?_set
abbrev JF:=@Bool.or_eq_false_iff
abbrev O8:=@Option.isSome_iff_exists
abbrev C5:=@Go.DataW.trod_int
abbrev GI:=@List.not_mem_nil
abbrev C4:=@Go.below_drewN
abbrev JE:=@List.length_drop
abbrev O7:=@ByteArray.size_extract
abbrev O6:=@List.getElem?_set_self
abbrev O5:=@List.append_eq_nil_iff
abbrev O4:=@List.range_succ
abbrev tq:=@if_false
abbrev O0:=@List.eq_nil_or_concat
abbrev OZ:=@List.concat_eq_append
abbrev UG:=@List.take_append_drop
abbrev OY:=@Go.run_convert_bytes_arg
abbrev amB:=@List.take_add_one
abbrev GH:=@Bool.false_and
abbrev OW:=@List.mem_erase_of_ne
abbrev Am:=@Int.le_refl
abbrev JC:=@Go.wpList_store_row
abbrev C3:=@Int.add_zero
abbrev OV:=@Go.IntKind.wrap_i64
abbrev UF:=@List.getElem?_eq_some_iff
abbrev UE:=@List.findIdx?_eq_none_iff
abbrev UD:=@List.mem_of_find?_eq_some
abbrev UC:=@List.map_congr_left
abbrev tj:=@if_true
abbrev OU:=@Go.wpList_append_lies
abbrev C2:=@Nat.min_def
abbrev ack:=@Go.DataW.weights_mem_each
abbrev OT:=@Go.World.cells?_some
abbrev OS:=@Go.DataW.trod_struct
abbrev Jz:=@Go.wp_loop_rounds
abbrev Jy:=@Go.run_underlying
abbrev GG:=@Nat.sub_self
abbrev UB:=@ByteArray.size_append
abbrev UA:=@List.Pairwise.sublist
abbrev OQ:=@Go.World.cell?_spot
abbrev OP:=@Go.RowKit.Below.cell
abbrev OO:=@Nat.lt_succ_self
abbrev OM:=@Nat.zero_lt_succ
abbrev OL:=@Nat.succ_lt_succ
abbrev acj:=@List.eq_nil_iff_forall_not_mem
abbrev aci:=@Nat.and_two_pow_sub_one_eq_mod
abbrev Uz:=@List.mem_of_mem_drop
abbrev Uy:=@Go.wpList_mapUpdate_own
abbrev OJ:=@List.length_nil
abbrev ach:=@List.dropLast_concat_getLast
abbrev agK:=@Go.run_firstCells_some
abbrev Ux:=@List.drop_succ_cons
abbrev Uw:=@List.take_succ_cons
abbrev OI:=@Go.heap_alloc_new
abbrev Uv:=@List.getElem?_drop
abbrev acg:=@List.takeWhile_cons_of_pos
abbrev acf:=@List.takeWhile_cons_of_neg
abbrev Uu:=@List.map_singleton
abbrev OH:=@List.drop_drop
abbrev Ut:=@Nat.add_sub_cancel
abbrev ace:=@Int.tmod_eq_emod_of_nonneg
abbrev agJ:=@List.drop_eq_getElem_cons
abbrev acd:=@List.mem_or_eq_of_mem_set
abbrev acb:=@Array.getElem?_eq_getElem
abbrev Jx:=@Go.rounds_succ
abbrev Us:=@Go.Result.andThen_ok
abbrev Ur:=@Decidable.not_not
abbrev agI:=@Int.emod_eq_of_lt
abbrev C0:=@and_true
abbrev agH:=@Go.IntKind.wrap_u64
abbrev Uq:=@List.drop_length
abbrev Uo:=@List.ext_getElem
abbrev OG:=@List.map_set
abbrev OE:=@Nat.le_of_lt
abbrev Un:=@Bool.or_eq_true
abbrev Um:=@Nat.min_eq_left
abbrev Ul:=@List.mem_filter
abbrev Uk:=@Go.cell_of_row
abbrev OD:=@Nat.mul_one
open Go.RowKit
structure aX where
 page:Int
 aO:Int
 jE:Int
 zero:Bool
def aX.wH (a:aX):Int:=a.page+a.aO
def xp:aX:=⟨0,0,0,false⟩
def bB (l:List aX) (i:Nat):aX:=l.getD i xp
def fL (p n:Int):Bool:=decide (1<=p/\1<=n/\n<=256-p)
def kj (p:Int):Bool:=decide (0<=p/\p<=3)
def mi (a b:aX):Bool:=if b.page=a.wH then (b.jE != a.jE || b.zero != a.zero) else decide (a.wH<b.page)
def yF (w:World) (b jc:Nat) (l:List aX):Prop:=∀i,i<l.length ->
 w.cell? (Ad b (jc+i*4))=some (I (bB l i).page)/\w.cell? (Ad b (jc+i*4+1))=some (I (bB l i).aO) /\
 w.cell? (Ad b (jc+i*4+2))=some (I (bB l i).jE)/\w.cell? (Ad b (jc+i*4+3))=some (.bool (bB l i).zero)
def Br (a:aX):Prop:=(-9223372036854775808<=a.page/\a.page<=9223372036854775807)/\(-9223372036854775808<=a.aO/\a.aO<=9223372036854775807)/\(-9223372036854775808<=a.jE/\a.jE<=9223372036854775807)
def nB (l:List aX) (i:Nat):Bool:=fL (bB l i).page (bB l i).aO&&kj (bB l i).jE&&(i==0 || mi (bB l (i-1)) (bB l i))
def kK (l:List aX):Nat->Bool
 | 0=>true
 | k+1=>kK l k&&nB l k
def tV (l:List aX):Bool:=kK l l.length
def bj (l:List aX):Int:=if 255<l.length then 2 else if tV l then 0 else 1
theorem EI (l:List aX):∀(k n:Nat),k<=n->kK l k=false->kK l n=false
 | k,0,h,hk=>by grind
 | k,n+1,h,hk=>by
  by_cases e:k=n+1
  · grind
  · simp[kK,EI l k n (by omega) hk]
theorem Es (l:List aX):∀(n:Nat),kK l n=true->∀i,i<n->nB l i=true
 | 0,_,i,hi=>by omega
 | n+1,h,i,hi=>by
  simp only[kK,eG] at h;by_cases e:i=n
  · grind
  · exact Es l n h.1 i (by omega)
theorem yF.lt {w:World} {b jc:Nat} {l:List aX} (h:yF w b jc l) (i:Nat) (hi:i<l.length):b<w.heap.size :=
 oJ w _ (h i hi).1
theorem yF.below {w w':World} {b jc:Nat} {l:List aX} (h:yF w b jc l) (hb:Below w.heap.size w w'):yF w' b jc l:=fun i hi=>by
 have hlt:=h.lt i hi;obtain⟨h0,h1,h2,h3⟩:=h i hi
 grind [Below.cell]
theorem MG (l:List aX) (k:Nat) (hk:k<l.length) (h:nB l k=false):tV l=false :=
 EI l (k+1) l.length (by omega) (by simp[kK,h])
theorem Rz (l:List aX) (k:Nat) (h:kK l k=true) (h':nB l k=true):kK l (k+1)=true:=by grind [kK]
def iJ (a:aX) (p:Int):Bool:=decide (a.page<=p/\p<a.wH)
def bV:List aX->Int->aX×Bool
 | [],_=>(xp,false)
 | a::r,p=>if iJ a p then (a,true) else bV r p
def aW (l:List aX) (p:Int):aX×Bool:=if bj l=0 then bV l p else (xp,false)
def kP (l:List aX):Nat->Int
 | 0=>0
 | k+1=>kP l k+(bB l k).aO
def bg (l:List aX):Int:=if bj l=0 then kP l l.length else 0
theorem tW:∀(l:List aX) (p:Int),(∀i,i<l.length->iJ (bB l i) p=false)->bV l p=(xp,false)
 | [],_,_=>rfl
 | a::r,p,h=>by
  have h0:iJ a p=false:=h 0 (by simp);have hr:∀i,i<r.length->iJ (bB r i) p=false:=fun i hi=>h (i+1) (by grind)
  simp[bV,h0,tW r p hr]
theorem s8:∀(l:List aX) (p:Int) (k:Nat),k<l.length->(∀i,i<k->iJ (bB l i) p=false)->iJ (bB l k) p=true->bV l p=(bB l k,true)
 | [],_,k,hk,_,_=>by grind
 | a::r,p,0,hk,_,h1=>by
  grind [bV,bB]
 | a::r,p,k+1,hk,h,h1=>by
  have h0:iJ a p=false:=h 0 (by omega);have hr:=s8 r p k (by grind) (fun i hi=>h (i+1) (by omega)) h1
  grind [bV,bB]
theorem gQ (l:List aX) (h:bj l=0) (i:Nat) (hi:i<l.length):nB l i=true:=by
 unfold bj at h;split at h
 · simp at h
 · split at h
   · exact Es l l.length (by assumption) i hi
   omega
theorem oa (l:List aX) (h:bj l=0):l.length<=255:=by
 grind [bj]
theorem il (l:List aX) (i:Nat) (h:nB l i=true):1<=(bB l i).page/\1<=(bB l i).aO/\(bB l i).aO<=256-(bB l i).page/\0<=(bB l i).jE/\(bB l i).jE<=3:=by
 grind [nB,fL,kj]
theorem Gz (l:List aX) (h:bj l=0):∀k,k<=l.length->0<=kP l k/\kP l k<=255*k
 | 0,_=>by simp[kP]
 | k+1,hk=>by
  have ih:=Gz l h k (by omega);have ho:=il l k (gQ l h k (by omega))
  grind [kP]
open Go.RowKit
def nD (jE way:Int):Bool:=decide ((way=1/\jE%2=0)∨(way=2/\jE<2))
def iN (l:List aX) (p way:Int):Int×Int :=
 if p<0∨(aW l (p/16)).2=false then (1,p) else if nD (aW l (p/16)).1.jE way=true then (2,p) else (0,0)
def bZ (l:List aX) (a way:Int):Nat->Int×Int
 | 0=>(0,0)
 | n+1=>if (bZ l a way n).1=0 then iN l (a+n) way else bZ l a way n
def bN (l:List aX) (a size way:Int):Int×Int:=if way=2/\¬a%8=0 then (3,a) else bZ l a way size.toNat
theorem pD {l:List aX} {p way:Int} (h:(iN l p way).1=0):iN l p way=(0,0)/\0<=p/\(aW l (p/16)).2=true/\nD (aW l (p/16)).1.jE way=false:=by
 grind [iN]
theorem Bp {l:List aX} {p way:Int} (h:p<0∨(aW l (p/16)).2=false):iN l p way=(1,p):=by grind [iN]
theorem IJ {l:List aX} {p way:Int} (h:0<=p) (h2:(aW l (p/16)).2=true) (h3:nD (aW l (p/16)).1.jE way=true):iN l p way=(2,p):=by
 grind [iN]
theorem Rj {l:List aX} {p way:Int} (h:0<=p) (h2:(aW l (p/16)).2=true) (h3:nD (aW l (p/16)).1.jE way=false):iN l p way=(0,0):=by
 grind [iN]
theorem Cj {l:List aX} {a way:Int} {k:Nat} {f:Int×Int} (h:bZ l a way k=f) (hf:¬f.1=0):∀n,k<=n->bZ l a way n=f
 | 0,hn=>by grind
 | n+1,hn=>by
  by_cases e:k=n+1
  · grind
  · have ih:=Cj h hf n (by omega)
    grind [bZ]
theorem uu {l:List aX} {a way:Int} {k:Nat} (h:bZ l a way k=(0,0)):bZ l a way (k+1)=iN l (a+k) way:=by
 grind [bZ]
theorem Bo:∀(l:List aX) (q:Int),(bV l q).2=true->∃k,k<l.length/\iJ (bB l k) q=true/\(bV l q).1=bB l k
 | [],q,h=>by cases h
 | a::r,q,h=>by
  unfold bV at h ⊢;by_cases c:iJ a q=true
  · rw[aB c];exact⟨0,by simp,c,rfl⟩
  · rw[au c] at h ⊢;obtain⟨k,h1,h2,h3⟩:=Bo r q h;exact⟨k+1,by grind,h2,h3⟩
theorem ik {l:List aX} {q:Int} (hc:bj l=0) (h:(aW l q).2=true):1<=q/\q<256/\0<=(aW l q).1.jE/\(aW l q).1.jE<=3:=by
 have e:aW l q=bV l q:=by grind [aW]
 rw[e] at h ⊢;obtain⟨k,h1,h2,h4⟩:=Bo l q h;have h5:=il l _ (gQ l hc _ h1);have h6:(bB l k).page<=q/\q<(bB l k).page+(bB l k).aO:=oI h2
 grind
theorem s7 {l:List aX} {q:Int} (h:(aW l q).2=true):bj l=0:=by
 grind [aW]
theorem wj {l:List aX} {a way:Int}:∀{k:Nat},bZ l a way (k+1)=(0,0)->16<=a/\a+k<4096
 | 0,h=>by
  rw[uu rfl] at h;obtain⟨_,h1,h2,_⟩:=pD (by rw[h]);have:=ik (s7 h2) h2;omega
 | k+1,h=>by
  have h0:bZ l a way (k+1)=(0,0):=by
   grind [bZ,pD]
  have ih:=wj h0;rw[uu h0] at h;obtain⟨_,h1,h2,_⟩:=pD (by rw[h]);have:=ik (s7 h2) h2;omega
open Go.RowKit
theorem mQ:∀(qs ps:List Int),ps.Pairwise (·<·)->qs.Pairwise (·<·)->(∀x∈ps,x∈qs)->ps.length<=qs.length
 | [],[],_,_,_=>aH _
 | [],p::ps,_,_,h=>by cases h p Dh
 | q::qs,[],_,_,_=>by simp
 | q::qs,p::ps,h1,h2,h=>by
  rw[Av] at h1 h2;by_cases e:p=q
  · subst e;have:=mQ qs ps h1.2 h2.2 (fun x hx=>by
     grind)
    grind
  · have hp:p∈qs:=by
     grind
    have hq:=h2.1 p hp;have:=mQ qs (p::ps) (Av.2 h1) h2.2 (fun x hx=>by
     grind)
    grind
theorem LB:∀(qs ps:List Int),ps.Pairwise (·<·)->qs.Pairwise (·<·)->(∀x∈ps,x∈qs)->ps.length=qs.length->ps=qs
 | [],[],_,_,_,_=>rfl
 | [],p::ps,_,_,_,h=>by simp at h
 | q::qs,[],_,_,_,h=>by simp at h
 | q::qs,p::ps,h1,h2,h,hl=>by
  have h1':=h1;rw[Av] at h1 h2;simp only[xu] at hl;by_cases e:p=q
  · subst e;rw[LB qs ps h1.2 h2.2 (fun x hx=>by
     grind) (by omega)]
  · have hp:p∈qs:=by
     grind
    have hq:=h2.1 p hp;have:=mQ qs (p::ps) h1' h2.2 (fun x hx=>by
     grind)
    grind
def mg (p:Int):Nat->List Int
 | 0=>[]
 | n+1=>p::mg (p+1) n
theorem Ch (p:Int):∀n,(mg p n).length=n:=fun n=>by
 induction n generalizing p with
 | zero=>rfl
 | succ n ih=>grind [mg]
theorem pK:∀(n:Nat) (p x:Int),x∈mg p n↔p<=x/\x<p+n
 | 0,p,x=>by constructor <;> intro h;cases h;omega
 | n+1,p,x=>by
  show x∈p::mg (p+1) n↔_;rw[ux,pK n (p+1) x];omega
theorem uq:∀(n:Nat) (p:Int),(mg p n).Pairwise (·<·)
 | 0,p=>List.Pairwise.nil
 | n+1,p=>Av.2 ⟨fun x hx=>by grind [pK],uq n (p+1)⟩
def dB:List aX->List Int
 | []=>[]
 | a::r=>mg a.page a.aO.toNat++dB r
theorem LF:∀(l:List aX) (x:Int),x∈dB l↔(bV l x).2=true
 | [],x=>by constructor <;> intro h <;> cases h
 | a::r,x=>by
  show x∈mg a.page a.aO.toNat++dB r↔_;rw[lQ,pK,LF r x];show _↔(if iJ a x=true then (a,true) else bV r x).2=true;by_cases c:iJ a x=true
  · have h6:a.page<=x/\x<a.page+a.aO:=oI c
    grind
  · have h6:¬(a.page<=x/\x<a.page+a.aO):=fun g=>c (gU g)
    grind
def yB:Int->List aX->Prop
 | _,[]=>True
 | lo,a::r=>lo<=a.page/\1<=a.aO/\yB (a.page+a.aO) r
theorem yB.low:∀{l:List aX} {lo:Int},yB lo l->∀x∈dB l,lo<=x
 | [],lo,h,x,hx=>by cases hx
 | a::r,lo,h,x,hx=>by
  obtain⟨h1,h2,h3⟩:=h;rcases lQ.1 hx with g | g
  · grind [pK]
  · have:=h3.low x g;omega
theorem yB.sorted:∀{l:List aX} {lo:Int},yB lo l->(dB l).Pairwise (·<·)
 | [],lo,h=>List.Pairwise.nil
 | a::r,lo,h=>by
  obtain⟨h1,h2,h3⟩:=h;show(mg a.page a.aO.toNat++dB r).Pairwise (·<·);rw[GL];refine⟨uq _ _,h3.sorted,fun x hx y hy=>?_⟩;have:=(pK _ _ _).1 hx;have:=h3.low y hy;omega
def LG (l:List aX):Prop:=∀i,i<l.length->(1<=(bB l i).page/\1<=(bB l i).aO)/\(0<i->(bB l (i-1)).page+(bB l (i-1)).aO<=(bB l i).page)
theorem LG.tail {a:aX} {r:List aX} (h:LG (a::r)):LG r:=fun i hi=>by
 have h1:=h (i+1) (by grind);refine⟨h1.1,fun g=>?_⟩;have h2:=h1.2 (by omega);obtain⟨j,rfl⟩:∃j,i=j+1:=⟨i-1,by omega⟩;exact h2
theorem NL:∀(l:List aX) (lo:Int),LG l->(∀a r,l=a::r->lo<=a.page)->yB lo l
 | [],lo,h,_=>trivial
 | a::r,lo,h,hlo=>by
  have h0:=(h 0 (by simp)).1;refine⟨hlo a r rfl,h0.2,NL r _ h.tail (fun b q e=>?_)⟩;subst e;exact(h 1 (by simp)).2 (by omega)
theorem Ri {l:List aX} (hc:bj l=0):LG l:=fun i hi=>by
 have h:=gQ l hc i hi;have h1:=il l i h
 grind [nB,mi,aX.wH]
theorem om {l:List aX} (hc:bj l=0):yB 1 l:=NL l 1 (Ri hc) (fun a r e=>by
 subst e;exact((Ri hc) 0 (by simp)).1.1)
theorem NJ (a:aX) (r:List aX):∀k,kP (a::r) (k+1)=a.aO+kP r k
 | 0=>by show(0:Int)+a.aO=a.aO+0;omega
 | k+1=>by
  show kP (a::r) (k+1)+(bB (a::r) (k+1)).aO=a.aO+(kP r k+(bB r k).aO);rw[NJ a r k]
  grind [bB]
theorem EH:∀{l:List aX} {lo:Int},yB lo l->((dB l).length:Int)=kP l l.length
 | [],lo,h=>rfl
 | a::r,lo,h=>by
  obtain⟨h1,h2,h3⟩:=h;show(((mg a.page a.aO.toNat++dB r).length:Nat):Int)=kP (a::r) (r.length+1);rw[NJ,fD,Ch,<- EH h3];omega
theorem sZ {l:List aX} (hc:bj l=0):bg l=((dB l).length:Int):=by
 unfold bg;rw[aB hc,EH (om hc)]
theorem qQ {l:List aX} (hc:bj l=0) (x:Int):(aW l x).2=true↔x∈dB l:=by
 grind [LF,aW]
open Go.RowKit
theorem Gu:∀l:List UInt8,Lib.leNat l<256 ^ l.length
 | []=>by simp[Lib.leNat]
 | b::r=>by
  have h:=Gu r;have hb:b.toNat<256:=b.toNat_lt
  grind [Lib.leNat]
theorem Xa (l:List UInt8) (h:l.length<=7):Lib.leNat l<72057594037927936:=by
 have h1:=Gu l;have h2:256 ^ l.length<=256 ^ 7:=Nat.pow_le_pow_right (by decide) h;omega
theorem Xb (s:ByteArray) (k:Nat) (h0:0<k) (hk:k<=s.size):s.data.toList.drop (k-1)=s[k-1]::s.data.toList.drop k:=by
 have h:k-1<s.data.toList.length:=by grind [Lib.size_eq]
 have e:=agJ h;rw[show k-1+1=k from by omega] at e;exact e
theorem Tv (s:ByteArray) (k:Nat) (h0:0<k) (hk:k<=s.size) :
  ((Lib.leNat (s.data.toList.drop (k-1)):Nat):Int)=(s[k-1].toNat:Int)+256*(Lib.leNat (s.data.toList.drop k):Nat):=by
 grind [Xb,Lib.leNat]
theorem aed (N b:Int) (h0:0<=N) (h1:N<72057594037927936) (b0:0<=b) (b1:b<256) :
  bits .or .u64 (IntKind.u64.wrap (N*256)) (IntKind.u64.wrap b)=b+256*N:=by
 rw[u64_wrap_id _ (by omega) (by omega),u64_wrap_id b b0 (by omega)];have hc:bits .or .u64 (N*256) b=bits .or .u64 b (N*256):=by grind [bits]
 grind [u64_or8]
def yC (n:Int) (k:Nat):Int:=n/256 ^ k
def mz (n:Int):Nat:=(n%18446744073709551616).toNat
theorem ZV (n:Int):yC n 0=n:=by simp[yC]
theorem ZW (n:Int) (k:Nat):yC n k/256=yC n (k+1):=by
 grind [yC,Int.ediv_ediv_of_nonneg]
theorem yD:∀(k v:Nat),Lib.leBytes (k+1) v=Lib.leBytes k v++[(v/256 ^ k%256).toUInt8]
 | 0,v=>by simp[Lib.leBytes]
 | k+1,v=>by
  rw[Lib.leBytes,yD k (v/256)]
  grind [Lib.leBytes,Nat.div_div_eq_div_mul]
theorem ZX (n:Int) (k:Nat) (h:k<8):yC n k%256=((mz n/256 ^ k%256:Nat):Int):=by
 unfold yC mz
 match k,h with
 | 0,_=>omega
 | 1,_=>omega
 | 2,_=>omega
 | 3,_=>omega
 | 4,_=>omega
 | 5,_=>omega
 | 6,_=>omega
 | 7,_=>omega
theorem LI (n:Int) (k:Nat) (h:k<8):strOfNums [yC n k%256]=⟨#[(mz n/256 ^ k%256).toUInt8]⟩:=by
 grind [ZX,strOfNums]
theorem W9 (a b:List UInt8):(⟨a.toArray⟩:ByteArray)++⟨b.toArray⟩=⟨(a++b).toArray⟩:=ByteArray.mk_append_mk a b
def Cl (size k V:Nat):List Value:=Lib.byteCells (Lib.leBytes k V)++List.replicate (size-k) (.int .u8 0)
theorem ZY (size V:Nat):Cl size 0 V=List.replicate size (.int .u8 0):=by rfl
theorem ab6 (size k V:Nat) (h:k<size):(Cl size k V)[k]?=some (.int .u8 0):=by
 grind [Cl,Lib.byteCells_length,Lib.leBytes_length]
theorem Rn (x:Nat):(((x%256).toUInt8.toNat:Nat):Int)=(x:Int)%256:=by
 simp_all
theorem ab5 (size k V:Nat) (h:k<size):(Cl size k V).set k (.int .u8 (((V/256 ^ k:Nat):Int)%256))=Cl size (k+1) V:=by
 unfold Cl;rw[Au _ _ (by grind [Lib.byteCells_length,Lib.leBytes_length]),acn,Lib.leBytes_length,GG];obtain⟨m,hm⟩:∃m,size-k=m+1:=⟨size-k-1,by omega⟩
 grind [yD,Lib.byteCells,Rn]
theorem ZZ (size V:Nat):Cl size size V=Lib.byteCells (Lib.leBytes size V):=by simp[Cl]
theorem ab7 (n:Int) (k:Nat):((mz n/256 ^ k:Nat):Int)/256=((mz n/256 ^ (k+1):Nat):Int):=by
 rw[Nat.pow_succ,<- Nat.div_div_eq_div_mul];omega
theorem uQ (l:List UInt8):strOfNums (l.map fun b=>(b.toNat:Int))=⟨l.toArray⟩:=by
 simp only[strOfNums,List.map_map];congr 1;congr 1;induction l with
 | nil=>rfl
 | cons b r ih=>simp[ih]
theorem ab4 (n:Int):IntKind.u64.wrap n=((mz n:Nat):Int):=by
 grind [IntKind.wrap_u64,mz]
theorem CT (l:List UInt8) (i:Nat) (h:i<l.length):(Lib.byteCells l)[i]?=some (.int .u8 ((l.map fun b=>(b.toNat:Int)).getD i 0)):=by
 simp[Lib.byteCells,h]
theorem aee (n:Int) (h:(Lit.int .i64 n).wf=true):-9223372036854775808<=n/\n<=9223372036854775807:=by
 grind [Lit.wf,IntKind.min,IntKind.max,IntKind.signed,IntKind.bits]
open Go.RowKit
def wI (k:Nat) (n:Int):ByteArray:=⟨(Lib.leBytes k (mz n)).toArray⟩
theorem zz (k:Nat) (n:Int):(wI k n).size=k:=by
 grind [wI,Lib.size_eq,Lib.leBytes_length]
structure dR where
 op:Int
 a:Int
 b:Int
 c:Int
 m:Int
def dR.cells (i:dR):Array Value:=#[I i.op,I i.a,I i.b,I i.c,I i.m]
def qC (n:Int):Prop:=0<=n/\n<=255
instance (n:Int):Decidable (qC n):=by unfold qC;infer_instance
def dR.fits (i:dR):Prop:=qC i.op/\qC i.a/\qC i.b/\qC i.c/\-2147483648<=i.m/\i.m<=2147483647
instance (i:dR):Decidable i.fits:=by unfold dR.fits;infer_instance
def dR.bytes (i:dR):ByteArray:=(((wI 1 i.op++wI 1 i.a)++wI 1 i.b)++wI 1 i.c)++wI 4 i.m
theorem Ho (i:dR):i.bytes.size=8:=by
 rfl
def uR (n:Int):Int:=if 2147483648<=n then n-4294967296 else n
def rM (s:ByteArray) (k:Nat):Int:=((s.data.toList.getD k 0).toNat:Int)
def iB (s:ByteArray):dR:=⟨rM s 0,rM s 1,rM s 2,rM s 3,uR (Lib.leNat (s.data.toList.drop 4))⟩
theorem Cy (s:ByteArray) (k:Nat):qC (rM s k):=by
 unfold qC rM;have:=(s.data.toList.getD k 0).toNat_lt;omega
theorem Dl (s:ByteArray) (k:Nat):wrap64 (rM s k)=rM s k:=by
 grind [Cy,qC,wrap64]
theorem GX (s:ByteArray) (k:Nat) (h:k<s.size):((s[k].toNat:Nat):Int)=rM s k:=by
 unfold rM;have h':k<s.data.toList.length:=by simp_all
 rw[fy,lR h'];rfl
theorem PO (s:ByteArray) (h:s.size=8):Lib.leNat (s.data.toList.drop 4)<4294967296:=by
 grind [Gu,List.length_drop,Lib.size_eq]
theorem Hn (n:Int) (h0:0<=n) (h1:n<4294967296):-2147483648<=uR n/\uR n<=2147483647:=by
 grind [uR]
theorem Az (s:ByteArray) (h:s.size=8):(iB s).fits:=by
 have h4:=PO s h;have h5:=Hn (Lib.leNat (s.data.toList.drop 4)) (by omega) (by omega);exact⟨Cy s 0,Cy s 1,Cy s 2,Cy s 3,h5.1,h5.2⟩
theorem adg (n:Int) (h0:0<=n) (h1:n<4294967296):IntKind.i32.wrap n=uR n:=by
 grind [uR,IntKind.wrap_i32]
theorem N0 (s:ByteArray) (h:s.size=8):(s.extract 4 8).data.toList=s.data.toList.drop 4:=by
 grind [Lib.extract_data,List.take_of_length_le,Lib.size_eq]
open Go.RowKit
def fI (l:List Int):Bool:=l.all fun x=>decide (0<=x/\x<8)
def oc (n:Int):Bool:=decide (n=1∨n=2∨n=4∨n=8)
def dR.bad (i:dR):Bool :=
 if i.op=12 then false
 else if i.op=16 then !(decide (1<=i.m/\i.m<=6))
 else if i.op=1∨i.op=11∨i.op=15 then decide (8<=i.a)
 else if 2<=i.op/\i.op<=7 then decide (8<=i.a∨8<=i.b∨8<=i.c)
 else if i.op=8∨i.op=13∨i.op=14 then decide (8<=i.a∨8<=i.b)
 else if i.op=9∨i.op=10 then decide (8<=i.a∨8<=i.b) || !(oc i.c)
 else true
theorem ae5 (a:Int) (ha:qC a):(!fI [a])=decide (8<=a):=by
 grind [qC,fI]
theorem ae4 (a b:Int) (ha:qC a) (hb:qC b):(!fI [a,b])=decide (8<=a∨8<=b):=by
 grind [qC,fI]
theorem ae3 (a b c:Int) (ha:qC a) (hb:qC b) (hc:qC c):(!fI [a,b,c])=decide (8<=a∨8<=b∨8<=c):=by
 grind [qC,fI]
theorem R4 (l:List Int) (k:Nat) (x:Int) (h:l[k]?=some x) (hx:¬(0<=x/\x<8)):fI l=false:=by
 unfold fI;rw[List.all_eq_false];exact⟨x,List.mem_of_getElem? h,by grind⟩
theorem PQ (l:List Int) (h:∀(k:Nat) (x:Int),l[k]?=some x->0<=x/\x<8):fI l=true:=by
 grind [fI,List.getElem?_of_mem]
structure bO where
 r:Nat->Int
 pc:Int
 st:Int
 cd:Int
 fk:Int
 fa:Int
def bO.row (p:bO):Array Value:=#[I (p.r 0),I (p.r 1),I (p.r 2),I (p.r 3),I (p.r 4),I (p.r 5),I (p.r 6),I (p.r 7),I p.pc,I p.st,I p.cd,I p.fk,I p.fa]
def bO.val (p:bO):Value:=.agg p.row
def bO.set (p:bO) (j:Nat) (v:Int):bO:={ p with r:=fun k=>if k=j then v else p.r k }
theorem PN (p:bO) (j:Nat) (v:Int) (h:j<8):p.row.setIfInBounds j (I v)=(p.set j v).row:=by
 match j,h with
 | 0,_=>rfl
 | 1,_=>rfl
 | 2,_=>rfl
 | 3,_=>rfl
 | 4,_=>rfl
 | 5,_=>rfl
 | 6,_=>rfl
 | 7,_=>rfl
theorem zy (p:bO) (j:Nat) (h:j<8):p.row[j]?=some (I (p.r j)):=by
 match j,h with
 | 0,_=>rfl
 | 1,_=>rfl
 | 2,_=>rfl
 | 3,_=>rfl
 | 4,_=>rfl
 | 5,_=>rfl
 | 6,_=>rfl
 | 7,_=>rfl
theorem pX (p:bO) (v:Int):p.row.setIfInBounds 8 (I v)=({ p with pc:=v }:bO).row:=rfl
theorem pW (p:bO) (v:Int):p.row.setIfInBounds 9 (I v)=({ p with st:=v }:bO).row:=rfl
theorem pY (p:bO) (v:Int):p.row.setIfInBounds 10 (I v)=({ p with cd:=v }:bO).row:=rfl
theorem mR (p:bO):p.row.size=13:=rfl
theorem pV:(∀(q:bO) (h:0<q.row.size),q.row[0]=I (q.r 0))/\(∀(q:bO) (h:1<q.row.size),q.row[1]=I (q.r 1))/\(∀(q:bO) (h:2<q.row.size),q.row[2]=I (q.r 2))/\(∀(q:bO) (h:3<q.row.size),q.row[3]=I (q.r 3))/\(∀(q:bO) (h:4<q.row.size),q.row[4]=I (q.r 4))/\(∀(q:bO) (h:5<q.row.size),q.row[5]=I (q.r 5))/\(∀(q:bO) (h:6<q.row.size),q.row[6]=I (q.r 6))/\(∀(q:bO) (h:7<q.row.size),q.row[7]=I (q.r 7))/\(∀(q:bO) (h:8<q.row.size),q.row[8]=I q.pc)/\(∀(q:bO) (h:9<q.row.size),q.row[9]=I q.st)/\(∀(q:bO) (h:10<q.row.size),q.row[10]=I q.cd)/\(∀(q:bO) (h:11<q.row.size),q.row[11]=I q.fk)/\(∀(q:bO) (h:12<q.row.size),q.row[12]=I q.fa):=⟨fun q h=>rfl,fun q h=>rfl,fun q h=>rfl,fun q h=>rfl,fun q h=>rfl,fun q h=>rfl,fun q h=>rfl,fun q h=>rfl,fun q h=>rfl,fun q h=>rfl,fun q h=>rfl,fun q h=>rfl,fun q h=>rfl⟩
theorem vt (n:Nat) (hn:n<8):(∀(q:bO) (v:Int),q.row.setIfInBounds n (I v)=(q.set n v).row)/\(∀(q:bO),q.row[n]?=some (I (q.r n)))/\(∀(q:bO) (h:n<q.row.size),q.row[n]=I (q.r n)):=⟨fun q v=>PN q n v hn,fun q=>zy q n hn,fun q h=>Option.some.inj ((acb h).symm.trans (zy q n hn))⟩
theorem UQ (n:Int):bits .and .u64 (IntKind.u64.wrap n) 63=n%64:=by
 have h63:(BitVec.ofInt 64 63).toNat=2 ^ 6-1:=by decide
 have key:(BitVec.ofInt 64 (IntKind.u64.wrap n) &&& BitVec.ofInt 64 63).toNat=((IntKind.u64.wrap n)%((2 ^ 64:Nat):Int)).toNat%2 ^ 6:=by
  rw[BitVec.toNat_and,BitVec.toNat_ofInt,h63,aci]
 show IntKind.u64.wrap ((BitVec.ofInt 64 (IntKind.u64.wrap n) &&& BitVec.ofInt 64 63).toNat:Nat)=n%64
 grind [IntKind.wrap_u64]
theorem UR (n:Int):bits .and .i64 n 63=n%64:=by
 have h63:(BitVec.ofInt 64 63).toNat=2 ^ 6-1:=by decide
 have key:(BitVec.ofInt 64 n &&& BitVec.ofInt 64 63).toNat=(n%((2 ^ 64:Nat):Int)).toNat%2 ^ 6:=by
  rw[BitVec.toNat_and,BitVec.toNat_ofInt,h63,aci]
 show IntKind.i64.wrap ((BitVec.ofInt 64 n &&& BitVec.ofInt 64 63).toNat:Nat)=n%64
 grind [IntKind.wrap_i64]
def MP (op b c:Int):Int :=
 if op=2 then wrap64 (b+c) else if op=3 then wrap64 (b-c) else if op=4 then wrap64 (b*c) else if op=5 then bits .and .i64 b c else if op=6 then bits .xor .i64 b c
 else wrap64 (IntKind.u64.wrap b/2 ^ min (c%64).toNat 64)
def cX (p:bO) (i:dR) (v:Int):bO :=
 let nx:bO:={ p with pc:=wrap64 (p.pc+8) }
 let tgt:Int:=wrap64 (p.pc+i.m)
 if i.op=1 then nx.set i.a.toNat i.m
 else if 2<=i.op/\i.op<=7 then nx.set i.a.toNat (MP i.op (p.r i.b.toNat) (p.r i.c.toNat))
 else if i.op=8 then nx.set i.a.toNat (wrap64 (p.r i.b.toNat+i.m))
 else if i.op=9 then nx.set i.a.toNat v
 else if i.op=10 then nx
 else if i.op=11 then nx.set i.a.toNat tgt
 else if i.op=12 then { p with pc:=tgt }
 else if i.op=13 then (if p.r i.a.toNat=p.r i.b.toNat then { p with pc:=tgt } else nx)
 else if i.op=14 then (if p.r i.a.toNat<p.r i.b.toNat then { p with pc:=tgt } else nx)
 else if i.op=15 then { p with pc:=p.r i.a.toNat }
 else if i.m=6 then { nx with st:=2,cd:=p.r 0 }
 else if i.m=1 then nx
 else nx.set 0 v
def oX (p:bO) (i:dR):Array Value :=
 if i.bad then #[I 4,I 0,I 0,I 0,I 0]
 else if i.op=9 then #[I 1,I (wrap64 (p.r i.b.toNat+i.m)),I i.c,I 0,I 0]
 else if i.op=10 then #[I 2,I (wrap64 (p.r i.b.toNat+i.m)),I i.c,I (p.r i.a.toNat),I 0]
 else if i.op=16 then #[I 3,I 0,I 0,I 0,I i.m]
 else #[I 0,I 0,I 0,I 0,I 0]
open Go.RowKit
structure jS where
 page:Int
 data:ByteArray
structure mW where
 live:Bool
 aT:List aX
 aO:List jS
structure rY where
 proc:Int
 value:Int
def agf:jS:=⟨0,⟨#[]⟩⟩
def Jo:mW:=⟨false,[],[]⟩
def W8:rY:=⟨0,0⟩
def Ci:bO:=⟨fun _=>0,0,0,0,0,0⟩
def kW (l:List jS) (i:Nat):jS:=l.getD i agf
def bq (l:List mW) (i:Nat):mW:=l.getD i Jo
def oL (l:List rY) (i:Nat):rY:=l.getD i W8
def aK (l:List bO) (i:Nat):bO:=l.getD i Ci
def xk (p:bO):Bool:=decide (p.fk=0/\p.fa=0)
def fp (p:bO):Bool:=if p.st=1 then decide (p.cd=0)&&xk p else if p.st=2 then xk p else if p.st=3 then decide (p.cd=0)&&decide (1<=p.fk/\p.fk<=4) else false
def LC (l:List jS):Bool:=l.all fun p=>decide (p.data.size=16)
def cZ (l:List jS):List Int:=l.map (·.page)
def lN (s:mW):Bool:=if s.live then decide (bj s.aT=0)&&(decide (cZ s.aO=dB s.aT)&&LC s.aO) else decide (s.aT.length=0)&&decide (s.aO.length=0)
def qq (l:List mW):Nat->Int
 | 0=>0
 | k+1=>qq l k+bg (bq l k).aT
def iY (l:List mW):Int:=qq l l.length
theorem Aa:∀(l:List Int),(∀k,0<k->k<l.length->l.getD (k-1) 0<l.getD k 0)->l.Pairwise (·<·)
 | [],_=>List.Pairwise.nil
 | [a],_=>List.pairwise_singleton _ _
 | a::b::r,h=>by
  have ih:=Aa (b::r) (fun k h1 h2=>by
   have:=h (k+1) (by omega) (by grind)
   grind)
  have h0:a<b:=h 1 (by omega) (by simp)
  grind [List.pairwise_cons]
theorem Jp {l:List Int} (h:l.Pairwise (·<·)) (k:Nat) (h1:0<k) (h2:k<l.length):l.getD (k-1) 0<l.getD k 0:=by
 grind [List.pairwise_iff_getElem]
theorem II (l:List jS) (k:Nat):(cZ l).getD k 0=(kW l k).page:=by
 unfold cZ kW;rw[fy,fy,Aq];cases l[k]? <;> rfl
theorem Gs {l:List jS} {k:Nat} (h:k<l.length):kW l k∈l:=by
 grind [kW]
theorem Bn {l:List jS} {p:jS} (h:p∈l):∃k,k<l.length/\kW l k=p:=by
 grind [List.getElem?_of_mem,List.getElem?_eq_none,kW]
open Go.RowKit
theorem NK:∀(n:Nat) (p:Int),mg p (n+1)=mg p n++[p+(n:Int)]
 | 0,p=>by show [p]=[]++[p+0];rw[C3];rfl
 | n+1,p=>by
  show p::mg (p+1) (n+1)=(p::mg (p+1) n)++[p+((n+1:Nat):Int)];rw[NK n (p+1),C8,show p+1+(n:Int)=p+((n+1:Nat):Int) by omega]
theorem Bl:∀a b:List aX,dB (a++b)=dB a++dB b
 | [],b=>rfl
 | x::a,b=>by
  show mg x.page x.aO.toNat++dB (a++b)=(mg x.page x.aO.toNat++dB a)++dB b;rw[Bl a b,vk]
def xj (l:List aX) (i:Nat):List Int:=dB (l.take i)
theorem Ot (l:List aX) (i:Nat) (h:i<l.length):xj l (i+1)=xj l i++mg (bB l i).page (bB l i).aO.toNat:=by
 unfold xj;rw[acm h,Bl];have e:bB l i=l[i]:=by
  unfold bB;rw[fy,lR h];rfl
 rw[e];show _++(mg l[i].page l[i].aO.toNat++[])=_;rw[C6]
open Go.RowKit
def uX (l:List bO) (lv:Nat->Bool) (k:Nat):Bool:=fp (aK l k)&&lv k==decide ((aK l k).st=1)
def ko (l:List bO) (lv:Nat->Bool):Nat->Bool
 | 0=>true
 | k+1=>ko l lv k&&uX l lv k
def zZ (o:rY) (n:Nat):Bool:=decide (0<=o.proc/\o.proc<(n:Int))
def km (o:List rY) (n:Nat):Nat->Bool
 | 0=>true
 | k+1=>km o n k&&zZ (oL o k) n
theorem Gr {l:List bO} {lv:Nat->Bool} {k:Nat} (h:ko l lv k=false):∀n,k<=n->ko l lv n=false
 | 0, hn => by obtain rfl:k=0 := by omega
               exact h
 | n+1,hn=>by
  by_cases e:k=n+1
  · subst e;exact h
  · show(ko l lv n&&_)=false;rw[Gr h n (by omega),GH]
theorem Gq {o:List rY} {m k:Nat} (h:km o m k=false):∀n,k<=n->km o m n=false
 | 0, hn => by obtain rfl:k=0 := by omega
               exact h
 | n+1,hn=>by
  by_cases e:k=n+1
  · subst e;exact h
  · show(km o m n&&_)=false;rw[Gq h n (by omega),GH]
theorem Em (l:List bO) (lv:Nat->Bool):∀n,(List.range n).all (fun i=>uX l lv i)=ko l lv n
 | 0=>rfl
 | n+1=>by
  rw[O4,List.all_append,Em l lv n];show(ko l lv n&&(uX l lv n&&true))=(ko l lv n&&uX l lv n);rw[Bool.and_true]
theorem IH (o:List rY) (m:Nat):∀n,n<=o.length->(o.take n).all (fun x=>zZ x m)=km o m n
 | 0,_=>rfl
 | n+1,h=>by
  rw[acm (show n<o.length by omega),List.all_append,IH o m n (by omega)];have e:oL o n=o[n]:=by
   unfold oL;rw[fy,lR (show n<o.length by omega)];rfl
  show(km o m n&&(zZ o[n] m&&true))=(km o m n&&zZ (oL o n) m);rw[Bool.and_true,e]
theorem LA (o:List rY) (m:Nat):o.all (fun x=>zZ x m)=km o m o.length:=by
 rw[<- IH o m o.length (aH _),vh]
def jB (l:List bO) (o:List rY) (lv:Nat->Bool):Bool:=ko l lv l.length&&km o l.length o.length
open Go.RowKit
theorem pL (p n t:Int) (z:Bool) (w:World) (h1:-9223372036854775808<=p+n) (h2:p+n<=9223372036854775807) :
  Calls Tryz.prog 128 #[.agg #[I p,I n,I t,.bool z]] w fun e w'=>e=.returned (I (p+n))/\Below w.heap.size w w':=by
 go_enter Tryz.func128,Tryz.ntmps128;go_wp2;go_ret;exact⟨rfl,(aJ _ _).alloc (aH _) _⟩
theorem fG (p n:Int) (w:World) (hp:-9223372036854775808<=p/\p<=9223372036854775807) (hn:-9223372036854775808<=n/\n<=9223372036854775807) :
  Calls Tryz.prog 174 #[I p,I n] w fun e w'=>e=.returned (.bool (fL p n))/\w=w':=by
 by_cases h1:1<=p
 · by_cases h2:1<=n
   · by_cases h3:n<=256-p
     · have e:fL p n=true:=by grind [fL]
       have h4:n<=255-p+1:=by omega
       rw[e];go_enter Tryz.func174,Tryz.ntmps174;go_wp2;go_ret
       simp_all
     · have e:fL p n=false:=by grind [fL]
       have h4:decide (n<=255-p+1)=false:=by grind
       rw[e];go_enter Tryz.func174,Tryz.ntmps174;go_wp2;go_ret
       simp_all
   · have e:fL p n=false:=by grind [fL]
     rw[e];go_enter Tryz.func174,Tryz.ntmps174;go_wp2;go_ret
     simp_all
 · have e:fL p n=false:=by grind [fL]
   rw[e];go_enter Tryz.func174,Tryz.ntmps174;go_wp2;go_ret
   simp_all
theorem jg (p:Int) (w:World) :
  Calls Tryz.prog 175 #[I p] w fun e w'=>e=.returned (.bool (kj p))/\w=w':=by
 by_cases h1:0<=p
 · by_cases h2:p<=3
   · have e:kj p=true:=by grind [kj]
     rw[e];go_enter Tryz.func175,Tryz.ntmps175;go_wp2;go_ret
     simp_all
   · have e:kj p=false:=by grind [kj]
     rw[e];go_enter Tryz.func175,Tryz.ntmps175;go_wp2;go_ret
     simp_all
 · have e:kj p=false:=by grind [kj]
   rw[e];go_enter Tryz.func175,Tryz.ntmps175;go_wp2;go_ret
   simp_all
open Go.RowKit
structure dM (B:Nat) (w:World) where
 world:World
 keeps:Below B w world
theorem jh (w:World):Nonempty (dM w.heap.size w):=⟨⟨w,aJ _ _⟩⟩
theorem di {P:Program} {id:Nat} {Q:Exit->Act->World->Prop} {a:Act} {w:World} {l:List Oper} (hm:P.follows .mixedOrders=true) (hB:Region.lexB .any l.toArray=true)
  (h:wpQuiet P l.toArray (fun w'=>∃x:dM w.heap.size w,w'=x.world) (fun a'=>∀w',(∃x:dM w.heap.size w,w'=x.world)->Q .normal a' w') l a):(Code.region id l.toArray true).wp P Q a w :=
 wp_region_quiet (C:=fun w'=>∃x:dM w.heap.size w,w'=x.world) hm hB ⟨⟨_,(aJ _ _).drew⟩,rfl⟩ (by simpa using h)
theorem fO {P:Program} {f:FuncId} {args:Array Value} {v:Value} {w:World} (h:∀W,Calls P f args W fun e w'=>e=.returned v/\Below W.heap.size W w') (x:dM w.heap.size w) :
  Calls P f args x.world fun e w''=>e=.returned v/\∃y:dM w.heap.size w,w''=y.world :=
 (h x.world).mono fun e w'' ⟨he,hb⟩=>⟨he,⟨w'',x.keeps.trans (hb.mono x.keeps.size)⟩,rfl⟩
theorem fH {w:World} (x:dM w.heap.size w) (b o:Nat) (h:b<w.heap.size):x.world.cell? (Ad b o)=w.cell? (Ad b o):=x.keeps.cell (p:=(Ad b o)) h
open Go.RowKit
theorem Oy (ap an Xl bp bn bt:Int) (az bz:Bool) (w:World) (h1:-9223372036854775808<=ap+an) (h2:ap+an<=9223372036854775807) (he:bp=ap+an) :
  Calls Tryz.prog 176 #[.agg #[I ap,I an,I Xl,.bool az],.agg #[I bp,I bn,I bt,.bool bz]] w fun e w'=>e=.returned (.bool (bt != Xl || bz != az))/\Below w.heap.size w w':=by
 obtain⟨W,hW⟩:=ex ((w.alloc (.cells #[I ap,I an,I Xl,.bool az] 139)).alloc (.cells #[I bp,I bn,I bt,.bool bz] 139));have hs:W.heap.size=w.heap.size+2:=by simp_all
 have Cv:=jh W;have hkc:=@fH W;have c0:∀x:dM W.heap.size W,x.world.cell? (Ad w.heap.size 0)=some (I ap):=fun x=>by rw[hkc x _ _ (by omega),hW];simp
 have c1:∀x:dM W.heap.size W,x.world.cell? (Ad w.heap.size 1)=some (I an):=fun x=>by rw[hkc x _ _ (by omega),hW];simp
 have c2:∀x:dM W.heap.size W,x.world.cell? (Ad w.heap.size 2)=some (I Xl):=fun x=>by rw[hkc x _ _ (by omega),hW];simp
 have c3:∀x:dM W.heap.size W,x.world.cell? (Ad w.heap.size 3)=some (.bool az):=fun x=>by rw[hkc x _ _ (by omega),hW];simp
 have d0:∀x:dM W.heap.size W,x.world.cell? (Ad (w.heap.size+1) 0)=some (I bp):=fun x=>by simp_all
 have d2:∀x:dM W.heap.size W,x.world.cell? (Ad (w.heap.size+1) 2)=some (I bt):=fun x=>by simp_all
 have d3:∀x:dM W.heap.size W,x.world.cell? (Ad (w.heap.size+1) 3)=some (.bool bz):=fun x=>by simp_all
 have hbW:Hid (Below w.heap.size w W):=by show Below _ _ _;simp_all [aJ,pR]
 have HW:Hid (W=(w.alloc (.cells #[I ap,I an,I Xl,.bool az] 139)).alloc (.cells #[I bp,I bn,I bt,.bool bz] 139)):=hW;clear hW hs hkc;have hx:(bp==ap+an)=true:=by simp[he]
 clear he;go_enter Tryz.func176,Tryz.ntmps176;go_wp2_with fail
 rw[<- HW.o];refine di (by rfl) (by kernel_rfl) ?_
 repeat (first | go_big_quiet_step ((go_at_call 128;exact fO (fun W=>pL _ _ _ _ W h1 h2) _)) | quiet_step ((go_at_call 128;exact fO (fun W=>pL _ _ _ _ W h1 h2) _)))
 refine jd ?_;intro _ hw';obtain⟨x,hw''⟩:=hw';subst hw'';go_wp2
 all_goals go_ret
 all_goals exact⟨by first | (simp[*];done) | (simp[*];grind),hbW.out.trans (x.keeps.mono hbW.out.size)⟩
theorem Ox (ap an Xl bp bn bt:Int) (az bz:Bool) (w:World) (h1:-9223372036854775808<=ap+an) (h2:ap+an<=9223372036854775807) (he:¬bp=ap+an) :
  Calls Tryz.prog 176 #[.agg #[I ap,I an,I Xl,.bool az],.agg #[I bp,I bn,I bt,.bool bz]] w fun e w'=>e=.returned (.bool (decide (ap+an<bp)))/\Below w.heap.size w w':=by
 obtain⟨W,hW⟩:=ex ((w.alloc (.cells #[I ap,I an,I Xl,.bool az] 139)).alloc (.cells #[I bp,I bn,I bt,.bool bz] 139));have hs:W.heap.size=w.heap.size+2:=by simp_all
 have Cv:=jh W;have hkc:=@fH W;have c0:∀x:dM W.heap.size W,x.world.cell? (Ad w.heap.size 0)=some (I ap):=fun x=>by rw[hkc x _ _ (by omega),hW];simp
 have c1:∀x:dM W.heap.size W,x.world.cell? (Ad w.heap.size 1)=some (I an):=fun x=>by rw[hkc x _ _ (by omega),hW];simp
 have c2:∀x:dM W.heap.size W,x.world.cell? (Ad w.heap.size 2)=some (I Xl):=fun x=>by rw[hkc x _ _ (by omega),hW];simp
 have c3:∀x:dM W.heap.size W,x.world.cell? (Ad w.heap.size 3)=some (.bool az):=fun x=>by rw[hkc x _ _ (by omega),hW];simp
 have d0:∀x:dM W.heap.size W,x.world.cell? (Ad (w.heap.size+1) 0)=some (I bp):=fun x=>by simp_all
 have hbW:Hid (Below w.heap.size w W):=by show Below _ _ _;simp_all [aJ,pR]
 have HW:Hid (W=(w.alloc (.cells #[I ap,I an,I Xl,.bool az] 139)).alloc (.cells #[I bp,I bn,I bt,.bool bz] 139)):=hW;have hs2:Hid (w.heap.size+2<=W.heap.size):=by grind
 clear hW hs hkc;have hx:(bp==ap+an)=false:=by simp[he]
 clear he;go_enter Tryz.func176,Tryz.ntmps176;go_wp2_with fail
 rw[<- HW.o];refine di (by rfl) (by kernel_rfl) ?_
 repeat (first | go_big_quiet_step ((go_at_call 128;exact fO (fun W=>pL _ _ _ _ W h1 h2) _)) | quiet_step ((go_at_call 128;exact fO (fun W=>pL _ _ _ _ W h1 h2) _)))
 refine jd ?_;intro _ hw';obtain⟨x,hw''⟩:=hw';subst hw'';have c0x:=c0 x;have c1x:=c1 x;have c2x:=c2 x;have c3x:=c3 x;have d0x:=d0 x;have hsx:Hid (w.heap.size+2<=x.world.heap.size):=gT hs2.out x.keeps.size;have hbx:Hid (Below w.heap.size w x.world):=hbW.out.trans (x.keeps.mono hbW.out.size);clear HW c0 c1 c2 c3 d0 Cv hbW hs2;obtain⟨V,hV⟩:=ex x.world;rw[<- hV] at c0x c1x c2x c3x d0x hsx hbx ⊢;clear hV;have Cv:=jh V;have hkc:=@fH V;have an1:=hsx.out;have c0:∀x:dM V.heap.size V,x.world.cell? (Ad w.heap.size 0)=some (I ap):=fun x=>by grind
 have c1:∀x:dM V.heap.size V,x.world.cell? (Ad w.heap.size 1)=some (I an):=fun x=>by grind
 have c2:∀x:dM V.heap.size V,x.world.cell? (Ad w.heap.size 2)=some (I Xl):=fun x=>by grind
 have c3:∀x:dM V.heap.size V,x.world.cell? (Ad w.heap.size 3)=some (.bool az):=fun x=>by grind
 have d0:∀x:dM V.heap.size V,x.world.cell? (Ad (w.heap.size+1) 0)=some (I bp):=fun x=>by grind
 clear hkc an1;go_wp2_with fail
 refine di (by rfl) (by kernel_rfl) ?_
 repeat (first | go_big_quiet_step ((go_at_call 128;exact fO (fun W=>pL _ _ _ _ W h1 h2) _)) | quiet_step ((go_at_call 128;exact fO (fun W=>pL _ _ _ _ W h1 h2) _)))
 refine jd ?_;intro _ hw';obtain⟨y,hw''⟩:=hw';subst hw'';go_wp2;go_ret;exact⟨rfl,hbx.out.trans (y.keeps.mono hbx.out.size)⟩
theorem tT (a b:aX) (w:World) (h1:-9223372036854775808<=a.page+a.aO) (h2:a.page+a.aO<=9223372036854775807) :
  Calls Tryz.prog 176 #[.agg #[I a.page,I a.aO,I a.jE,.bool a.zero],.agg #[I b.page,I b.aO,I b.jE,.bool b.zero]] w fun e w'=>e=.returned (.bool (mi a b))/\Below w.heap.size w w':=by
 unfold mi aX.wH;split
 · exact Oy _ _ _ _ _ _ _ _ w h1 h2 (by omega)
 · exact Ox _ _ _ _ _ _ _ _ w h1 h2 (by omega)
end Go.Proofs.YtlgoihmkgaaemaaGreat
