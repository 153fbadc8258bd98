import Derived.Deep.AppendLies
import Derived.Deep.Upon
import Derived.WalkLawsBesides
import Derived.WalkSpells
import Derived.BigQuiet
import Derived.Lib.Endian
import Derived.Lib.EndianBits
import Derived.Lib.Strings
import Derived.Test.YtlgoihmkgaaemaaGreatProg
set_option maxHeartbeats 20000000
set_option linter.unusedVariables false
set_option maxRecDepth 100000
set_option linter.unusedSimpArgs false
namespace Go.Proofs.YtlgoihmkgaaemaaGreat
theorem ω{p:Prop}(h:p:=by omega):p:=h
theorem ξ{p:Prop}(h:p:=by simp):p:=h
theorem κ{p:Prop}(h:p:=by kernel_rfl):p:=h
theorem ρ{p:Prop}(h:p:=by rfl):p:=h
theorem Δ{p:Prop}(h:p:=by decide):p:=h
theorem Γ{p:Prop}(h:p:=by grind):p:=h
abbrev I (n : Int) : Value := .int .i64 n
abbrev Nl : Value := .slice none 0 0
abbrev Ad (b o : Nat) : Addr := ⟨b, o, none⟩
theorem ex {A : Type} (e : A) : ∃ n, n = e := ⟨e, rfl⟩
theorem _root_.Go.RowKit.Hid.o {p : Prop} (h : Go.RowKit.Hid p) : p := h.out
abbrev aJ:=@Nat.le_refl
abbrev aN:=@Go.RowKit.Below.refl
abbrev aH:=@if_neg
abbrev eQ:=@List.setIfInBounds_toArray
abbrev aQ:=@if_pos
abbrev fp:=@Go.World.size_alloc
abbrev bW:=@Go.bodyPost_ret
abbrev cV:=@Bool.and_eq_true
abbrev ed:=@List.set_cons_succ
abbrev eI:=@List.set_cons_zero
abbrev gm:=@Nat.lt_of_lt_of_le
abbrev eH:=@decide_eq_false
abbrev jI:=@List.getD_eq_getElem?_getD
abbrev dW:=@decide_eq_true
abbrev gM:=@List.length_append
abbrev mR:=@List.eq_nil_of_length_eq_zero
abbrev jx:=@beq_eq_false_iff_ne
abbrev iP:=@decide_eq_true_eq
abbrev gY:=@Nat.not_lt_zero
abbrev gX:=@List.length_set
abbrev nu:=@Go.World.block_lt_of_cell?
abbrev gj:=@Nat.le_trans
abbrev fL:=@Go.wpQuiet_nil
abbrev kr:=@of_decide_eq_true
abbrev kq:=@Int.toNat_natCast
abbrev jw:=@List.length_map
abbrev pX:=@List.getElem?_eq_getElem
abbrev dO:=@congrArg
abbrev ju:=@Bool.true_and
abbrev nt:=@Go.World.ownsRow_nil
abbrev qL:=@List.length_replicate
abbrev lJ:=@Go.below_drewN
abbrev jt:=@Nat.add_zero
abbrev mj:=@List.mem_append
abbrev iO:=@Nat.le_succ
abbrev pG:=@Go.RowKit.Below.alloc
abbrev oF:=@List.flatMap_cons
abbrev mi:=@Nat.zero_add
abbrev rG:=@Go.Addr.add_lit
abbrev sW:=@List.take_length
abbrev sV:=@List.all_eq_true
abbrev tS:=@Go.DataW.trod_struct
abbrev rE:=@List.cons.injEq
abbrev qK:=@Bool.false_and
abbrev rD:=@List.set_set
abbrev wk:=@List.flatMap_append
abbrev mQ:=@Go.info_parts
abbrev zJ:=@List.set_append_right
abbrev zI:=@List.length_singleton
abbrev Eb:=@List.getElem?_append_right
abbrev uP:=@List.mem_flatMap
abbrev rC:=@List.mem_cons
abbrev wj:=@List.append_assoc
abbrev BH:=@List.pairwise_cons
abbrev BG:=@Nat.lt_of_succ_lt_succ
abbrev ye:=@List.length_take
abbrev pW:=@Go.setRow_heap
abbrev Hn:=@List.mem_cons_self
abbrev uO:=@List.mem_range
abbrev Hm:=@Go.World.cell?_of_block
abbrev wh:=@Go.IntWalk.i64_in
abbrev zG:=@of_decide_eq_false
abbrev vZ:=@Go.wpList_load_row
abbrev yc:=@Go.wpList_store_row
abbrev Ea:=@Go.ByteArray.toList_eq
abbrev rB:=@Nat.zero_le
abbrev D9:=@List.eq_nil_or_concat
abbrev D8:=@List.concat_eq_append
abbrev zF:=@List.not_mem_nil
abbrev Qs:=@List.findIdx?_eq_some_iff_getElem
abbrev uN:=@Nat.le_of_lt
abbrev BC:=@Classical.not_not
abbrev Kz:=@List.getElem?_append_left
abbrev aj8:=@List.pairwise_iff_getElem
abbrev Ky:=@List.exists_mem_of_ne_nil
abbrev Hl:=@Go.RowKit.ownsRow_setCell_below
abbrev vY:=@Go.bodyPost_end
abbrev Hk:=@List.set_append_left
abbrev zE:=@Go.wp_loop_rounds
abbrev ae4:=@Go.Lib.byteCells_length
abbrev Hj:=@Bool.or_eq_false_iff
abbrev D7:=@List.ext_getElem?
abbrev zC:=@Nat.add_assoc
abbrev D5:=@List.length_cons
abbrev D4:=@Go.DataW.trod_int
abbrev qJ:=@and_true
abbrev Kw:=@Go.run_convert_bytes_arg
abbrev Qr:=@List.mem_of_find?_eq_some
abbrev D3:=@Bool.or_eq_true
abbrev ae3:=@List.take_succ_eq_append_getElem
abbrev zB:=@List.mem_map
abbrev arz:=@List.take_add_one
abbrev Kv:=@List.mem_cons_of_mem
abbrev Hi:=@List.cons_append
abbrev Qq:=@decide_eq_false_iff_not
abbrev zz:=@Go.rounds_succ
abbrev Ku:=@Go.wpList_append_lies
abbrev Qp:=@List.getElem?_set_self
abbrev Qo:=@List.append_eq_nil_iff
abbrev Kt:=@Go.World.cells?_some
abbrev Ks:=@List.getElem?_map
abbrev Wt:=@Int.tdiv_eq_ediv_of_nonneg
abbrev Bz:=@Prod.mk.inj
abbrev Hh:=@Bool.and_false
abbrev Qn:=@List.mem_erase_of_ne
abbrev Bx:=@Int.le_refl
abbrev Kq:=@Go.World.cell?_spot
abbrev Kp:=@Nat.lt_succ_self
abbrev Qm:=@List.length_drop
abbrev Ql:=@Go.IntKind.wrap_i64
abbrev Ws:=@List.getElem?_eq_some_iff
abbrev Wq:=@List.findIdx?_eq_none_iff
abbrev Qk:=@List.length_pos_iff
abbrev Ko:=@List.append_nil
abbrev Wp:=@List.range_succ
abbrev Qj:=@Nat.add_sub_cancel
abbrev DZ:=@Nat.min_def
abbrev Wo:=@List.getElem?_replicate
abbrev ae2:=@Go.DataW.weights_mem_each
abbrev Kn:=@Go.run_underlying
abbrev ae1:=@List.take_of_length_le
abbrev Km:=@Bool.not_false
abbrev Qi:=@List.getElem?_set
abbrev Qh:=@not_true_eq_false
abbrev Qg:=@not_false_eq_true
abbrev Qf:=@Go.DataW.trod_string
abbrev Qe:=@Bool.not_eq_true'
abbrev Qd:=@Go.RowKit.Below.cell
abbrev Qc:=@Nat.zero_lt_succ
abbrev Qb:=@Nat.succ_lt_succ
abbrev ae0:=@List.eq_nil_iff_forall_not_mem
abbrev aeZ:=@Nat.and_two_pow_sub_one_eq_mod
abbrev Kl:=@List.map_cons
abbrev Wn:=@List.pairwise_append
abbrev Wm:=@Go.wpList_mapUpdate_own
abbrev Qa:=@Go.DataW.trod_bool
abbrev P9:=@List.nil_append
abbrev P8:=@List.length_nil
abbrev P7:=@List.map_append
abbrev aeY:=@List.dropLast_concat_getLast
abbrev Wl:=@Int.toNat_of_nonneg
abbrev aj7:=@Go.run_firstCells_some
abbrev Kk:=@Int.add_zero
abbrev Hg:=@beq_iff_eq
abbrev P6:=@Go.heap_alloc_new
abbrev Wk:=@List.getElem?_drop
abbrev Bw:=@if_false
abbrev P5:=@List.drop_drop
abbrev aeX:=@Int.tmod_eq_emod_of_nonneg
abbrev aj6:=@List.drop_eq_getElem_cons
abbrev aeW:=@List.mem_or_eq_of_mem_set
abbrev aeV:=@Array.getElem?_eq_getElem
abbrev Wj:=@Go.Result.andThen_ok
abbrev aj5:=@Int.emod_eq_of_lt
abbrev Wi:=@Go.results_cell_tmp
abbrev aj4:=@Go.IntKind.wrap_u64
abbrev Wh:=@Array.toList_inj
abbrev P4:=@Nat.sub_self
abbrev Bv:=@if_true
abbrev Kj:=@bne_iff_ne
abbrev Wf:=@Go.run_loadVar_row
abbrev We:=@Nat.min_eq_left
abbrev Hf:=@or_false
abbrev Wd:=@Go.cell_of_row
abbrev PZ:=@Nat.mul_one
open Go.RowKit Tryz
structure aU where
 page:Int
 aY:Int
 gh:Int
 zero:Bool
def aU.pL (a:aU):Int:=a.page+a.aY
def vB:aU:=⟨0,0,0,false⟩
def bw (l:List aU) (i:Nat):aU:=l.getD i vB
def fF (p n:Int):Bool:=decide (1<=p/\1<=n/\n<=256-p)
def jg (p:Int):Bool:=decide (0<=p/\p<=3)
def jH (a b:aU):Bool:=if b.page=a.pL then (b.gh != a.gh || b.zero != a.zero) else decide (a.pL<b.page)
def ru (w:World) (b iE:Nat) (l:List aU):Prop:=∀i,i<l.length ->
 w.cell? (Ad b (iE+i*4))=some (I (bw l i).page)/\w.cell? (Ad b (iE+i*4+1))=some (I (bw l i).aY) /\
 w.cell? (Ad b (iE+i*4+2))=some (I (bw l i).gh)/\w.cell? (Ad b (iE+i*4+3))=some (.bool (bw l i).zero)
def Ag (a:aU):Prop:=(-9223372036854775808<=a.page/\a.page<=9223372036854775807)/\(-9223372036854775808<=a.aY/\a.aY<=9223372036854775807)/\(-9223372036854775808<=a.gh/\a.gh<=9223372036854775807)
def nD (l:List aU) (i:Nat):Bool:=fF (bw l i).page (bw l i).aY&&jg (bw l i).gh&&(i==0 || jH (bw l (i-1)) (bw l i))
def jS (l:List aU):Nat->Bool
 | 0=>true
 | k+1=>jS l k&&nD l k
def nE (l:List aU):Bool:=jS l l.length
def bf (l:List aU):Int:=if 255<l.length then 2 else if nE l then 0 else 1
theorem Fy (l:List aU):∀(k n:Nat),k<=n->jS l k=false->jS l n=false
 | k,0,h,hk=>by grind
 | k,n+1,h,hk=>by
  by_cases e:k=n+1
  . grind
  simp[jS,Fy l k n ω hk]
theorem E4 (l:List aU):∀(n:Nat),jS l n=true->∀i,i<n->nD l i=true
 | 0,_,i,hi=>by omega
 | n+1,h,i,hi=>by
  simp only[jS,cV] at h;by_cases e:i=n
  . grind
  exact E4 l n h.1 i ω
variable {way:Int} (s:ByteArray) (n:Int) (size:Nat) {l:List aU}
theorem ru.lt {w:World} {b iE:Nat} (h:ru w b iE l) (i:Nat) (hi:i<l.length):b<w.heap.size :=
 nu w _ (h i hi).1
theorem ru.below {w w':World} {b iE:Nat} (h:ru w b iE l) (hb:Below w.heap.size w w'):ru w' b iE l:=λi hi=>by
 have hlt:=h.lt i hi;obtain⟨h0,h1,h2,h3⟩:=h i hi
 grind [Below.cell]
theorem NN (l:List aU) (k:Nat) (hk:k<l.length) (h:nD l k=false):nE l=false :=
 Fy l (k+1) l.length ω (by simp[jS,h])
theorem S9 (l:List aU) (k:Nat) (h:jS l k=true) (h':nD l k=true):jS l (k+1)=true:=by grind [jS]
def gW (a:aU) (p:Int):Bool:=decide (a.page<=p/\p<a.pL)
def bE:List aU->Int->aU×Bool
 | [],_=>(vB,false)
 | a::r,p=>if gW a p then (a,true) else bE r p
def bc (l:List aU) (p:Int):aU×Bool:=if bf l=0 then bE l p else (vB,false)
def iy (l:List aU):Nat->Int
 | 0=>0
 | k+1=>iy l k+(bw l k).aY
def bR (l:List aU):Int:=if bf l=0 then iy l l.length else 0
theorem rh:∀(l:List aU) (p:Int),(∀i,i<l.length->gW (bw l i) p=false)->bE l p=(vB,false)
 | [],_,_=>rfl
 | a::r,p,h=>by
  have h0:gW a p=false:=h 0 ξ;have hr:∀i,i<r.length->gW (bw r i) p=false:=λi hi=>h (i+1) Γ
  simp[bE,h0,rh r p hr]
theorem rp:∀(l:List aU) (p:Int) (k:Nat),k<l.length->(∀i,i<k->gW (bw l i) p=false)->gW (bw l k) p=true->bE l p=(bw l k,true)
 | [],_,k,hk,_,_=>by grind
 | a::r,p,0,hk,_,h1=>by
  grind [bE,bw]
 | a::r,p,k+1,hk,h,h1=>by
  have h0:gW a p=false:=h 0 ω;have hr:=rp r p k Γ (λi hi=>h (i+1) ω) h1
  grind [bE,bw]
theorem gp (l:List aU) (h:bf l=0) (i:Nat) (hi:i<l.length):nD l i=true:=by
 unfold bf at h;split at h
 . simp at h
 split at h
 . exact E4 l l.length (by assumption) i hi
 omega
theorem mK (l:List aU) (h:bf l=0):l.length<=255:=by
 grind [bf]
theorem gB (l:List aU) (i:Nat) (h:nD l i=true):1<=(bw l i).page/\1<=(bw l i).aY/\(bw l i).aY<=256-(bw l i).page/\0<=(bw l i).gh/\(bw l i).gh<=3:=by
 grind [nD,fF,jg]
theorem CG (l:List aU) (h:bf l=0):∀k,k<=l.length->0<=iy l k/\iy l k<=255*k
 | 0,_=>by simp[iy]
 | k+1,hk=>by
  have ih:=CG l h k ω;have ho:=gB l k (gp l h k ω)
  grind [iy]
def rU (gh way:Int):Bool:=decide ((way=1/\gh%2=0)\/(way=2/\gh<2))
def mE (l:List aU) (p way:Int):Int×Int :=
 if p<0\/(bc l (p/16)).2=false then (1,p) else if rU (bc l (p/16)).1.gh way=true then (2,p) else (0,0)
def dw (l:List aU) (a way:Int):Nat->Int×Int
 | 0=>(0,0)
 | n+1=>if (dw l a way n).1=0 then mE l (a+n) way else dw l a way n
def dh (l:List aU) (a size way:Int):Int×Int:=if way=2/\¬a%8=0 then (3,a) else dw l a way size.toNat
theorem xj {p:Int} (h:(mE l p way).1=0):mE l p way=(0,0)/\0<=p/\(bc l (p/16)).2=true/\rU (bc l (p/16)).1.gh way=false:=by
 grind [mE]
theorem OQ {p:Int} (h:p<0\/(bc l (p/16)).2=false):mE l p way=(1,p):=by grind [mE]
theorem UQ {p:Int} (h:0<=p) (h2:(bc l (p/16)).2=true) (h3:rU (bc l (p/16)).1.gh way=true):mE l p way=(2,p):=by
 grind [mE]
theorem aeH {p:Int} (h:0<=p) (h2:(bc l (p/16)).2=true) (h3:rU (bc l (p/16)).1.gh way=false):mE l p way=(0,0):=by
 grind [mE]
theorem Ji {l:List aU} {a way:Int} {k:Nat} {f:Int×Int} (h:dw l a way k=f) (hf:¬f.1=0):∀n,k<=n->dw l a way n=f
 | 0,hn=>by grind
 | n+1,hn=>by
  by_cases e:k=n+1
  . grind
  have ih:=Ji h hf n ω
  grind [dw]
theorem yG {a:Int} {k:Nat} (h:dw l a way k=(0,0)):dw l a way (k+1)=mE l (a+k) way:=by
 grind [dw]
theorem CE:∀(l:List aU) (q:Int),(bE l q).2=true->∃k,k<l.length/\gW (bw l k) q=true/\(bE l q).1=bw l k
 | [],q,h=>by cases h
 | a::r,q,h=>by
  unfold bE at h ⊢;by_cases c:gW a q=true
  . rw[aQ c];exact⟨0,ξ,c,rfl⟩
  rw[aH c] at h ⊢;obtain⟨k,h1,h2,h3⟩:=CE r q h;exact⟨k+1,Γ,h2,h3⟩
theorem sM {q:Int} (hc:bf l=0) (h:(bc l q).2=true):1<=q/\q<256/\0<=(bc l q).1.gh/\(bc l q).1.gh<=3:=by
 have e:bc l q=bE l q:=by grind [bc]
 rw[e] at h ⊢;obtain⟨k,h1,h2,h4⟩:=CE l q h;have h5:=gB l _ (gp l hc _ h1);have h6:(bw l k).page<=q/\q<(bw l k).page+(bw l k).aY:=kr h2
 grind
theorem xh {q:Int} (h:(bc l q).2=true):bf l=0:=by
 grind [bc]
theorem Bj {l:List aU} {a way:Int}:∀{k:Nat},dw l a way (k+1)=(0,0)->16<=a/\a+k<4096
 | 0,h=>by
  rw[yG rfl] at h;obtain⟨_,h1,h2,_⟩:=xj (by rw[h]);have:=sM (xh h2) h2;omega
 | k+1,h=>by
  have h0:dw l a way (k+1)=(0,0):=by
   grind [dw,xj]
  have ih:=Bj h0;rw[yG h0] at h;obtain⟨_,h1,h2,_⟩:=xj (by rw[h]);have:=sM (xh h2) h2;omega
theorem Af:∀(qs ps:List Int),ps.Pairwise (·<·)->qs.Pairwise (·<·)->(∀x∈ps,x∈qs)->ps.length<=qs.length
 | [],[],_,_,_=>aJ _
 | [],p::ps,_,_,h=>by cases h p Hn
 | q::qs,[],_,_,_=>by simp
 | q::qs,p::ps,h1,h2,h=>by
  rw[BH] at h1 h2;by_cases e:p=q
  . subst e;have:=Af qs ps h1.2 h2.2 (λx hx=>by
     grind)
    grind
  have hp:p∈qs:=by
   grind
  have hq:=h2.1 p hp;have:=Af qs (p::ps) (BH.2 h1) h2.2 (λx hx=>by
   grind)
  grind
def q9 (p:Int):Nat->List Int
 | 0=>[]
 | n+1=>p::q9 (p+1) n
theorem Jh (p:Int):∀n,(q9 p n).length=n:=λn=>by
 induction n generalizing p with
 | zero=>rfl
 | succ n ih=>grind [q9]
theorem xV:∀(n:Nat) (p x:Int),x∈q9 p n↔p<=x/\x<p+n
 | 0,p,x=>by constructor <;> intro h;cases h;omega
 | n+1,p,x=>by
  show x∈p::q9 (p+1) n↔_;rw[rC,xV n (p+1) x];omega
theorem C4:∀(n:Nat) (p:Int),(q9 p n).Pairwise (·<·)
 | 0,p=>List.Pairwise.nil
 | n+1,p=>BH.2 ⟨λx hx=>by grind [xV],C4 n (p+1)⟩
def gG:List aU->List Int
 | []=>[]
 | a::r=>q9 a.page a.aY.toNat++gG r
theorem Mr:∀(l:List aU) (x:Int),x∈gG l↔(bE l x).2=true
 | [],x=>by constructor <;> intro h <;> cases h
 | a::r,x=>by
  show x∈q9 a.page a.aY.toNat++gG r↔_;rw[mj,xV,Mr r x];show _↔(if gW a x=true then (a,true) else bE r x).2=true;by_cases c:gW a x=true
  . have h6:a.page<=x/\x<a.page+a.aY:=kr c
    grind
  have h6:¬(a.page<=x/\x<a.page+a.aY):=λg=>c (dW g)
  grind
def EU:Int->List aU->Prop
 | _,[]=>True
 | lo,a::r=>lo<=a.page/\1<=a.aY/\EU (a.page+a.aY) r
theorem EU.low:∀{l:List aU} {lo:Int},EU lo l->∀x∈gG l,lo<=x
 | [],lo,h,x,hx=>by cases hx
 | a::r,lo,h,x,hx=>by
  obtain⟨h1,h2,h3⟩:=h;rcases mj.1 hx with g | g
  . grind [xV]
  have:=h3.low x g;omega
theorem EU.sorted:∀{l:List aU} {lo:Int},EU lo l->(gG l).Pairwise (·<·)
 | [],lo,h=>List.Pairwise.nil
 | a::r,lo,h=>by
  obtain⟨h1,h2,h3⟩:=h;show(q9 a.page a.aY.toNat++gG r).Pairwise (·<·);rw[Wn];refine⟨C4 _ _,h3.sorted,λx hx y hy=>?_⟩;have:=(xV _ _ _).1 hx;have:=h3.low y hy;omega
def Mt (l:List aU):Prop:=∀i,i<l.length->(1<=(bw l i).page/\1<=(bw l i).aY)/\(0<i->(bw l (i-1)).page+(bw l (i-1)).aY<=(bw l i).page)
theorem Mt.tail {a:aU} {r:List aU} (h:Mt (a::r)):Mt r:=λi hi=>by
 have h1:=h (i+1) Γ;refine⟨h1.1,λg=>?_⟩;have h2:=h1.2 ω;obtain⟨j,rfl⟩:∃j,i=j+1:=⟨i-1,ω⟩;exact h2
theorem OP:∀(l:List aU) (lo:Int),Mt l->(∀a r,l=a::r->lo<=a.page)->EU lo l
 | [],lo,h,_=>trivial
 | a::r,lo,h,hlo=>by
  have h0:=(h 0 ξ).1;refine⟨hlo a r rfl,h0.2,OP r _ h.tail (λb q e=>?_)⟩;subst e;exact(h 1 ξ).2 ω
theorem SI (hc:bf l=0):Mt l:=λi hi=>by
 have h:=gp l hc i hi;have h1:=gB l i h
 grind [nD,jH,aU.pL]
theorem NG (hc:bf l=0):EU 1 l:=OP l 1 (SI hc) (λa r e=>by
 subst e;exact((SI hc) 0 ξ).1.1)
theorem OM (a:aU) (r:List aU):∀k,iy (a::r) (k+1)=a.aY+iy r k
 | 0=>by show(0:Int)+a.aY=a.aY+0;omega
 | k+1=>by
  show iy (a::r) (k+1)+(bw (a::r) (k+1)).aY=a.aY+(iy r k+(bw r k).aY);rw[OM a r k]
  grind [bw]
theorem Fv:∀{l:List aU} {lo:Int},EU lo l->((gG l).length:Int)=iy l l.length
 | [],lo,h=>rfl
 | a::r,lo,h=>by
  obtain⟨h1,h2,h3⟩:=h;show(((q9 a.page a.aY.toNat++gG r).length:Nat):Int)=iy (a::r) (r.length+1);rw[OM,gM,Jh,<- Fv h3];omega
theorem SH (hc:bf l=0):bR l=((gG l).length:Int):=by
 unfold bR;rw[aQ hc,Fv (NG hc)]
theorem Ms (hc:bf l=0) (x:Int):(bc l x).2=true↔x∈gG l:=by
 grind [Mr,bc]
theorem G0:∀l:List UInt8,Lib.leNat l<256 ^ l.length
 | []=>by simp[Lib.leNat]
 | b::r=>by
  have h:=G0 r;have hb:b.toNat<256:=b.toNat_lt
  grind [Lib.leNat]
theorem Zh (l:List UInt8) (h:l.length<=7):Lib.leNat l<72057594037927936:=by
 have h1:=G0 l;have h2:256 ^ l.length<=256 ^ 7:=Nat.pow_le_pow_right Δ h;omega
theorem Zi (k:Nat) (h0:0<k) (hk:k<=s.size):s.data.toList.drop (k-1)=s[k-1]::s.data.toList.drop k:=by
 have h:k-1<s.data.toList.length:=by grind [Lib.size_eq]
 have e:=aj6 h;rw[show k-1+1=k from by omega] at e;exact e
theorem UR (k:Nat) (h0:0<k) (hk:k<=s.size) :
  ((Lib.leNat (s.data.toList.drop (k-1)):Nat):Int)=(s[k-1].toNat:Int)+256*(Lib.leNat (s.data.toList.drop k):Nat):=by
 grind [Zi,Lib.leNat]
theorem agT (N b:Int) (h0:0<=N) (h1:N<72057594037927936) (b0:0<=b) (b1:b<256) :
  bits .or .u64 (IntKind.u64.wrap (N*256)) (IntKind.u64.wrap b)=b+256*N:=by
 rw[u64_wrap_id _ ω ω,u64_wrap_id b b0 ω];have hc:bits .or .u64 (N*256) b=bits .or .u64 b (N*256):=by grind [bits]
 grind [u64_or8]
def zn (n:Int) (k:Nat):Int:=n/256 ^ k
def mP (n:Int):Nat:=(n%18446744073709551616).toNat
theorem abV:zn n 0=n:=by simp[zn]
theorem abW (k:Nat):zn n k/256=zn n (k+1):=by
 grind [zn,Int.ediv_ediv_of_nonneg]
theorem zo:∀(k v:Nat),Lib.leBytes (k+1) v=Lib.leBytes k v++[(v/256 ^ k%256).toUInt8]
 | 0,v=>by simp[Lib.leBytes]
 | k+1,v=>by
  rw[Lib.leBytes,zo k (v/256)]
  grind [Lib.leBytes,Nat.div_div_eq_div_mul]
theorem abX (k:Nat) (h:k<8):zn n k%256=((mP n/256 ^ k%256:Nat):Int):=by
 unfold zn mP
 match k,h with
 | 0,_=>omega
 | 1,_=>omega
 | 2,_=>omega
 | 3,_=>omega
 | 4,_=>omega
 | 5,_=>omega
 | 6,_=>omega
 | 7,_=>omega
theorem Mv (k:Nat) (h:k<8):strOfNums [zn n k%256]=⟨#[(mP n/256 ^ k%256).toUInt8]⟩:=by
 grind [abX,strOfNums]
theorem Zg (a b:List UInt8):(⟨a.toArray⟩:ByteArray)++⟨b.toArray⟩=⟨(a++b).toArray⟩:=ByteArray.mk_append_mk a b
def C7 (size k V:Nat):List Value:=Lib.byteCells (Lib.leBytes k V)++List.replicate (size-k) (.int .u8 0)
theorem abY (V:Nat):C7 size 0 V=List.replicate size (.int .u8 0):=by rfl
theorem aeM (k V:Nat) (h:k<size):(C7 size k V)[k]?=some (.int .u8 0):=by
 grind [C7,Lib.byteCells_length,Lib.leBytes_length]
theorem SM (x:Nat):(((x%256).toUInt8.toNat:Nat):Int)=(x:Int)%256:=by
 simp_all
theorem aeL (k V:Nat) (h:k<size):(C7 size k V).set k (.int .u8 (((V/256 ^ k:Nat):Int)%256))=C7 size (k+1) V:=by
 unfold C7;rw[zJ _ _ (by grind [Lib.byteCells_length,Lib.leBytes_length]),ae4,Lib.leBytes_length,P4];obtain⟨m,hm⟩:∃m,size-k=m+1:=⟨size-k-1,ω⟩
 grind [zo,Lib.byteCells,SM]
theorem abZ (V:Nat):C7 size size V=Lib.byteCells (Lib.leBytes size V):=by simp[C7]
theorem aeN (k:Nat):((mP n/256 ^ k:Nat):Int)/256=((mP n/256 ^ (k+1):Nat):Int):=by
 rw[Nat.pow_succ,<- Nat.div_div_eq_div_mul];omega
theorem vA (l:List UInt8):strOfNums (l.map λb=>(b.toNat:Int))=⟨l.toArray⟩:=by
 simp only[strOfNums,List.map_map];congr 1;congr 1;induction l with
 | nil=>rfl
 | cons b r ih=>simp[ih]
theorem aeK:IntKind.u64.wrap n=((mP n:Nat):Int):=by
 grind [IntKind.wrap_u64,mP]
theorem DL (l:List UInt8) (i:Nat) (h:i<l.length):(Lib.byteCells l)[i]?=some (.int .u8 ((l.map λb=>(b.toNat:Int)).getD i 0)):=by
 simp[Lib.byteCells,h]
theorem agU (h:(Lit.int .i64 n).wf=true):-9223372036854775808<=n/\n<=9223372036854775807:=by
 grind [Lit.wf,IntKind.min,IntKind.max,IntKind.signed,IntKind.bits]
def xD (k:Nat) (n:Int):ByteArray:=⟨(Lib.leBytes k (mP n)).toArray⟩
theorem Av (k:Nat) (n:Int):(xD k n).size=k:=by
 grind [xD,Lib.size_eq,Lib.leBytes_length]
structure eJ where
 op:Int
 a:Int
 b:Int
 c:Int
 m:Int
def eJ.cells (i:eJ):Array Value:=#[I i.op,I i.a,I i.b,I i.c,I i.m]
def rH (n:Int):Prop:=0<=n/\n<=255
instance (n:Int):Decidable (rH n):=by unfold rH;infer_instance
def eJ.fits (i:eJ):Prop:=rH i.op/\rH i.a/\rH i.b/\rH i.c/\-2147483648<=i.m/\i.m<=2147483647
instance (i:eJ):Decidable i.fits:=by unfold eJ.fits;infer_instance
def eJ.bytes (i:eJ):ByteArray:=(((xD 1 i.op++xD 1 i.a)++xD 1 i.b)++xD 1 i.c)++xD 4 i.m
theorem Iq (i:eJ):i.bytes.size=8:=by
 rfl
def vI (n:Int):Int:=if 2147483648<=n then n-4294967296 else n
def sP (s:ByteArray) (k:Nat):Int:=((s.data.toList.getD k 0).toNat:Int)
def iq (s:ByteArray):eJ:=⟨sP s 0,sP s 1,sP s 2,sP s 3,vI (Lib.leNat (s.data.toList.drop 4))⟩
theorem Dm (k:Nat):rH (sP s k):=by
 unfold rH sP;have:=(s.data.toList.getD k 0).toNat_lt;omega
theorem Eg (k:Nat):wrap64 (sP s k)=sP s k:=by
 grind [Dm,rH,wrap64]
theorem Hr (k:Nat) (h:k<s.size):((s[k].toNat:Nat):Int)=sP s k:=by
 unfold sP;have h':k<s.data.toList.length:=by simp_all
 rw[jI,pX h'];rfl
theorem QQ (h:s.size=8):Lib.leNat (s.data.toList.drop 4)<4294967296:=by
 grind [G0,List.length_drop,Lib.size_eq]
theorem Ip (h0:0<=n) (h1:n<4294967296):-2147483648<=vI n/\vI n<=2147483647:=by
 grind [vI]
theorem BV (h:s.size=8):(iq s).fits:=by
 have h4:=QQ s h;have h5:=Ip (Lib.leNat (s.data.toList.drop 4)) ω ω;exact⟨Dm s 0,Dm s 1,Dm s 2,Dm s 3,h5.1,h5.2⟩
theorem af0 (h0:0<=n) (h1:n<4294967296):IntKind.i32.wrap n=vI n:=by
 grind [vI,IntKind.wrap_i32]
theorem Pe (h:s.size=8):(s.extract 4 8).data.toList=s.data.toList.drop 4:=by
 grind [Lib.extract_data,List.take_of_length_le,Lib.size_eq]
def fW (l:List Int):Bool:=l.all λx=>decide (0<=x/\x<8)
def pR (n:Int):Bool:=decide (n=1\/n=2\/n=4\/n=8)
def eJ.bad (i:eJ):Bool :=
 if i.op=12 then false
 else if i.op=16 then !(decide (1<=i.m/\i.m<=6))
 else if i.op=1\/i.op=11\/i.op=15 then decide (8<=i.a)
 else if 2<=i.op/\i.op<=7 then decide (8<=i.a\/8<=i.b\/8<=i.c)
 else if i.op=8\/i.op=13\/i.op=14 then decide (8<=i.a\/8<=i.b)
 else if i.op=9\/i.op=10 then decide (8<=i.a\/8<=i.b) || !(pR i.c)
 else true
theorem ahO (a:Int) (ha:rH a):(!fW [a])=decide (8<=a):=by
 grind [rH,fW]
theorem ahN (a b:Int) (ha:rH a) (hb:rH b):(!fW [a,b])=decide (8<=a\/8<=b):=by
 grind [rH,fW]
theorem ahM (a b c:Int) (ha:rH a) (hb:rH b) (hc:rH c):(!fW [a,b,c])=decide (8<=a\/8<=b\/8<=c):=by
 grind [rH,fW]
theorem Ty (l:List Int) (k:Nat) (x:Int) (h:l[k]?=some x) (hx:¬(0<=x/\x<8)):fW l=false:=by
 unfold fW;rw[List.all_eq_false];exact⟨x,List.mem_of_getElem? h,Γ⟩
theorem QR (l:List Int) (h:∀(k:Nat) (x:Int),l[k]?=some x->0<=x/\x<8):fW l=true:=by
 grind [fW,List.getElem?_of_mem]
structure bQ where
 r:Nat->Int
 pc:Int
 st:Int
 cd:Int
 fk:Int
 fa:Int
variable (p:bQ)
def bQ.row (p:bQ):Array Value:=#[I (p.r 0),I (p.r 1),I (p.r 2),I (p.r 3),I (p.r 4),I (p.r 5),I (p.r 6),I (p.r 7),I p.pc,I p.st,I p.cd,I p.fk,I p.fa]
def bQ.val (p:bQ):Value:=.agg p.row
def bQ.set (p:bQ) (j:Nat) (v:Int):bQ:={ p with r:=λk=>if k=j then v else p.r k }
theorem Jx (j:Nat) (v:Int) (h:j<8):p.row.setIfInBounds j (I v)=(p.set j v).row:=by
 match j,h with
 | 0,_=>rfl
 | 1,_=>rfl
 | 2,_=>rfl
 | 3,_=>rfl
 | 4,_=>rfl
 | 5,_=>rfl
 | 6,_=>rfl
 | 7,_=>rfl
theorem Au (j:Nat) (h:j<8):p.row[j]?=some (I (p.r j)):=by
 match j,h with
 | 0,_=>rfl
 | 1,_=>rfl
 | 2,_=>rfl
 | 3,_=>rfl
 | 4,_=>rfl
 | 5,_=>rfl
 | 6,_=>rfl
 | 7,_=>rfl
theorem pP (v:Int):p.row.setIfInBounds 8 (I v)=({ p with pc:=v }:bQ).row:=rfl
theorem pO (v:Int):p.row.setIfInBounds 9 (I v)=({ p with st:=v }:bQ).row:=rfl
theorem pQ (v:Int):p.row.setIfInBounds 10 (I v)=({ p with cd:=v }:bQ).row:=rfl
theorem mG:p.row.size=13:=rfl
theorem pN:(∀(q:bQ) (h:0<q.row.size),q.row[0]=I (q.r 0))/\(∀(q:bQ) (h:1<q.row.size),q.row[1]=I (q.r 1))/\(∀(q:bQ) (h:2<q.row.size),q.row[2]=I (q.r 2))/\(∀(q:bQ) (h:3<q.row.size),q.row[3]=I (q.r 3))/\(∀(q:bQ) (h:4<q.row.size),q.row[4]=I (q.r 4))/\(∀(q:bQ) (h:5<q.row.size),q.row[5]=I (q.r 5))/\(∀(q:bQ) (h:6<q.row.size),q.row[6]=I (q.r 6))/\(∀(q:bQ) (h:7<q.row.size),q.row[7]=I (q.r 7))/\(∀(q:bQ) (h:8<q.row.size),q.row[8]=I q.pc)/\(∀(q:bQ) (h:9<q.row.size),q.row[9]=I q.st)/\(∀(q:bQ) (h:10<q.row.size),q.row[10]=I q.cd)/\(∀(q:bQ) (h:11<q.row.size),q.row[11]=I q.fk)/\(∀(q:bQ) (h:12<q.row.size),q.row[12]=I q.fa):=⟨λq h=>rfl,λq h=>rfl,λq h=>rfl,λq h=>rfl,λq h=>rfl,λq h=>rfl,λq h=>rfl,λq h=>rfl,λq h=>rfl,λq h=>rfl,λq h=>rfl,λq h=>rfl,λq h=>rfl⟩
theorem wu (n:Nat) (hn:n<8):(∀(q:bQ) (v:Int),q.row.setIfInBounds n (I v)=(q.set n v).row)/\(∀(q:bQ),q.row[n]?=some (I (q.r n)))/\(∀(q:bQ) (h:n<q.row.size),q.row[n]=I (q.r n)):=⟨λq v=>Jx q n v hn,λq=>Au q n hn,λq h=>Option.some.inj ((aeV h).symm.trans (Au q n hn))⟩
theorem WK:bits .and .u64 (IntKind.u64.wrap n) 63=n%64:=by
 have b:(BitVec.ofInt 64 63).toNat=2 ^ 6-1:=by decide
 have h:(BitVec.ofInt 64 (IntKind.u64.wrap n) &&& BitVec.ofInt 64 63).toNat=((IntKind.u64.wrap n)%((2 ^ 64:Nat):Int)).toNat%2 ^ 6:=by
  rw[BitVec.toNat_and,BitVec.toNat_ofInt,b,aeZ]
 show IntKind.u64.wrap ((BitVec.ofInt 64 (IntKind.u64.wrap n) &&& BitVec.ofInt 64 63).toNat:Nat)=n%64
 grind [IntKind.wrap_u64]
theorem WN:bits .and .i64 n 63=n%64:=by
 have b:(BitVec.ofInt 64 63).toNat=2 ^ 6-1:=by decide
 have h:(BitVec.ofInt 64 n &&& BitVec.ofInt 64 63).toNat=(n%((2 ^ 64:Nat):Int)).toNat%2 ^ 6:=by
  rw[BitVec.toNat_and,BitVec.toNat_ofInt,b,aeZ]
 show IntKind.i64.wrap ((BitVec.ofInt 64 n &&& BitVec.ofInt 64 63).toNat:Nat)=n%64
 grind [IntKind.wrap_i64]
def NY (op b c:Int):Int :=
 if op=2 then wrap64 (b+c) else if op=3 then wrap64 (b-c) else if op=4 then wrap64 (b*c) else if op=5 then bits .and .i64 b c else if op=6 then bits .xor .i64 b c
 else wrap64 (IntKind.u64.wrap b/2 ^ min (c%64).toNat 64)
def di (p:bQ) (i:eJ) (v:Int):bQ :=
 let nx:bQ:={ p with pc:=wrap64 (p.pc+8) }
 let tgt:Int:=wrap64 (p.pc+i.m)
 if i.op=1 then nx.set i.a.toNat i.m
 else if 2<=i.op/\i.op<=7 then nx.set i.a.toNat (NY i.op (p.r i.b.toNat) (p.r i.c.toNat))
 else if i.op=8 then nx.set i.a.toNat (wrap64 (p.r i.b.toNat+i.m))
 else if i.op=9 then nx.set i.a.toNat v
 else if i.op=10 then nx
 else if i.op=11 then nx.set i.a.toNat tgt
 else if i.op=12 then { p with pc:=tgt }
 else if i.op=13 then (if p.r i.a.toNat=p.r i.b.toNat then { p with pc:=tgt } else nx)
 else if i.op=14 then (if p.r i.a.toNat<p.r i.b.toNat then { p with pc:=tgt } else nx)
 else if i.op=15 then { p with pc:=p.r i.a.toNat }
 else if i.m=6 then { nx with st:=2,cd:=p.r 0 }
 else if i.m=1 then nx
 else nx.set 0 v
def pZ (p:bQ) (i:eJ):Array Value :=
 if i.bad then #[I 4,I 0,I 0,I 0,I 0]
 else if i.op=9 then #[I 1,I (wrap64 (p.r i.b.toNat+i.m)),I i.c,I 0,I 0]
 else if i.op=10 then #[I 2,I (wrap64 (p.r i.b.toNat+i.m)),I i.c,I (p.r i.a.toNat),I 0]
 else if i.op=16 then #[I 3,I 0,I 0,I 0,I i.m]
 else #[I 0,I 0,I 0,I 0,I 0]
structure ajf where
 page:Int
 data:ByteArray
structure aje where
 live:Bool
 bu:List aU
 aY:List ajf
structure ra where
 proc:Int
 value:Int
def aoz:ajf:=⟨0,⟨#[]⟩⟩
def aoy:aje:=⟨false,[],[]⟩
def Ze:ra:=⟨0,0⟩
def C5:bQ:=⟨λ_=>0,0,0,0,0,0⟩
def mD (l:List ra) (i:Nat):ra:=l.getD i Ze
def aR (l:List bQ) (i:Nat):bQ:=l.getD i C5
def tP (p:bQ):Bool:=decide (p.fk=0/\p.fa=0)
def eX (p:bQ):Bool:=if p.st=1 then decide (p.cd=0)&&tP p else if p.st=2 then tP p else if p.st=3 then decide (p.cd=0)&&decide (1<=p.fk/\p.fk<=4) else false
def qu (p:bQ) (live:Bool):Bool :=
 if !(decide (1<=p.st/\p.st<=3)) || (!(decide (p.cd=0))&&!(decide (p.st=2))) || live != decide (p.st=1) then false
 else if p.st=3 then decide (1<=p.fk/\p.fk<=4) else tP p
theorem Zf (live:Bool):qu p live=(eX p&&live==decide (p.st=1)):=by
 grind [qu,eX]
theorem Bh:∀(l:List Int),(∀k,0<k->k<l.length->l.getD (k-1) 0<l.getD k 0)->l.Pairwise (·<·)
 | [],_=>List.Pairwise.nil
 | [a],_=>List.pairwise_singleton _ _
 | a::b::r,h=>by
  have ih:=Bh (b::r) (λk h1 h2=>by
   have:=h (k+1) ω Γ
   grind)
  have h0:a<b:=h 1 ω ξ
  grind [List.pairwise_cons]
theorem J3 {l:List Int} (h:l.Pairwise (·<·)) (k:Nat) (h1:0<k) (h2:k<l.length):l.getD (k-1) 0<l.getD k 0:=by
 grind [List.pairwise_iff_getElem]
theorem OO:∀(n:Nat) (p:Int),q9 p (n+1)=q9 p n++[p+(n:Int)]
 | 0,p=>by show [p]=[]++[p+0];rw[Kk];rfl
 | n+1,p=>by
  show p::q9 (p+1) (n+1)=(p::q9 (p+1) n)++[p+((n+1:Nat):Int)];rw[OO n (p+1),Hi,show p+1+(n:Int)=p+((n+1:Nat):Int) by omega]
theorem CC:∀a b:List aU,gG (a++b)=gG a++gG b
 | [],b=>rfl
 | x::a,b=>by
  show q9 x.page x.aY.toNat++gG (a++b)=(q9 x.page x.aY.toNat++gG a)++gG b;rw[CC a b,wj]
def xW (l:List aU) (i:Nat):List Int:=gG (l.take i)
theorem PM (l:List aU) (i:Nat) (h:i<l.length):xW l (i+1)=xW l i++q9 (bw l i).page (bw l i).aY.toNat:=by
 unfold xW;rw[ae3 h,CC];have e:bw l i=l[i]:=by
  unfold bw;rw[jI,pX h];rfl
 rw[e];show _++(q9 l[i].page l[i].aY.toNat++[])=_;rw[Ko]
def vV (l:List bQ) (lv:Nat->Bool) (k:Nat):Bool:=eX (aR l k)&&lv k==decide ((aR l k).st=1)
def gT (l:List bQ) (lv:Nat->Bool):Nat->Bool
 | 0=>true
 | k+1=>gT l lv k&&vV l lv k
def xg (o:ra) (n:Nat):Bool:=decide (0<=o.proc/\o.proc<(n:Int))
def fK (o:List ra) (n:Nat):Nat->Bool
 | 0=>true
 | k+1=>fK o n k&&xg (mD o k) n
theorem Bi {l:List bQ} {lv:Nat->Bool} {k:Nat} (h:gT l lv k=false):∀n,k<=n->gT l lv n=false
 | 0, hn => by obtain rfl:k=0 := by omega
               exact h
 | n+1,hn=>by
  by_cases e:k=n+1
  . subst e;exact h
  show(gT l lv n&&_)=false;rw[Bi h n ω,qK]
theorem Bg {o:List ra} {m k:Nat} (h:fK o m k=false):∀n,k<=n->fK o m n=false
 | 0, hn => by obtain rfl:k=0 := by omega
               exact h
 | n+1,hn=>by
  by_cases e:k=n+1
  . subst e;exact h
  show(fK o m n&&_)=false;rw[Bg h n ω,qK]
theorem ET (l:List bQ) (lv:Nat->Bool):∀n,(List.range n).all (λi=>vV l lv i)=gT l lv n
 | 0=>rfl
 | n+1=>by
  rw[Wp,List.all_append,ET l lv n];show(gT l lv n&&(vV l lv n&&true))=(gT l lv n&&vV l lv n);rw[Bool.and_true]
theorem Jg (o:List ra) (m:Nat):∀n,n<=o.length->(o.take n).all (λx=>xg x m)=fK o m n
 | 0,_=>rfl
 | n+1,h=>by
  rw[ae3 (ω:n<o.length),List.all_append,Jg o m n ω];have e:mD o n=o[n]:=by
   unfold mD;rw[jI,pX (ω:n<o.length)];rfl
  show(fK o m n&&(xg o[n] m&&true))=(fK o m n&&xg (mD o n) m);rw[Bool.and_true,e]
theorem Mq (o:List ra) (m:Nat):o.all (λx=>xg x m)=fK o m o.length:=by
 rw[<- Jg o m o.length (aJ _),sW]
def iK (l:List bQ) (o:List ra) (lv:Nat->Bool):Bool:=gT l lv l.length&&fK o l.length o.length
theorem qD (p n t:Int) (z:Bool) (w:World) (h1:-9223372036854775808<=p+n) (h2:p+n<=9223372036854775807) :
  Calls prog 128 #[.agg #[I p,I n,I t,.bool z]] w λe w'=>e=.returned (I (p+n))/\Below w.heap.size w w':=by
 go_enter func128,ntmps128;go_wp2;go_ret;exact⟨rfl,(aN _ _).alloc (aJ _) _⟩
theorem fU (p n:Int) (w:World) (hp:-9223372036854775808<=p/\p<=9223372036854775807) (hn:-9223372036854775808<=n/\n<=9223372036854775807) :
  Calls prog 174 #[I p,I n] w λe w'=>e=.returned (.bool (fF p n))/\w=w':=by
 by_cases h1:1<=p
 . by_cases h2:1<=n
   . by_cases h3:n<=256-p
     . have e:fF p n=true:=by grind [fF]
       have h4:n<=255-p+1:=by omega
       rw[e];go_enter func174,ntmps174;go_wp2;go_ret
       simp_all
     have e:fF p n=false:=by grind [fF]
     have h4:decide (n<=255-p+1)=false:=by grind
     rw[e];go_enter func174,ntmps174;go_wp2;go_ret
     simp_all
   have e:fF p n=false:=by grind [fF]
   rw[e];go_enter func174,ntmps174;go_wp2;go_ret
   simp_all
 have e:fF p n=false:=by grind [fF]
 rw[e];go_enter func174,ntmps174;go_wp2;go_ret
 simp_all
theorem jC (p:Int) (w:World) :
  Calls prog 175 #[I p] w λe w'=>e=.returned (.bool (jg p))/\w=w':=by
 by_cases h1:0<=p
 . by_cases h2:p<=3
   . have e:jg p=true:=by grind [jg]
     rw[e];go_enter func175,ntmps175;go_wp2;go_ret
     simp_all
   have e:jg p=false:=by grind [jg]
   rw[e];go_enter func175,ntmps175;go_wp2;go_ret
   simp_all
 have e:jg p=false:=by grind [jg]
 rw[e];go_enter func175,ntmps175;go_wp2;go_ret
 simp_all
structure cM (B:Nat) (w:World) where
 world:World
 keeps:Below B w world
theorem iH (w:World):Nonempty (cM w.heap.size w):=⟨⟨w,aN _ _⟩⟩
theorem cB {P:Program} {id:Nat} {Q:Exit->Act->World->Prop} {a:Act} {w:World} {l:List Oper} (hm:P.follows .mixedOrders=true) (hB:Region.lexB .any l.toArray=true)
  (h:wpQuiet P l.toArray (λw'=>∃x:cM w.heap.size w,w'=x.world) (λa'=>∀w',(∃x:cM w.heap.size w,w'=x.world)->Q .normal a' w') l a):(Code.region id l.toArray true).wp P Q a w :=
 wp_region_quiet (C:=λw'=>∃x:cM w.heap.size w,w'=x.world) hm hB ⟨⟨_,(aN _ _).drew⟩,rfl⟩ (by simpa using h)
theorem ig {P:Program} {f:FuncId} {args:Array Value} {v:Value} {w:World} (h:∀W,Calls P f args W λe w'=>e=.returned v/\Below W.heap.size W w') (x:cM w.heap.size w) :
  Calls P f args x.world λe w''=>e=.returned v/\∃y:cM w.heap.size w,w''=y.world :=
 (h x.world).mono λe w'' ⟨he,hb⟩=>⟨he,⟨w'',x.keeps.trans (hb.mono x.keeps.size)⟩,rfl⟩
theorem fG {w:World} (x:cM w.heap.size w) (b o:Nat) (h:b<w.heap.size):x.world.cell? (Ad b o)=w.cell? (Ad b o):=x.keeps.cell (p:=(Ad b o)) h
theorem PV (ap an Zy bp bn bt:Int) (az bz:Bool) (w:World) (h1:-9223372036854775808<=ap+an) (h2:ap+an<=9223372036854775807) (he:bp=ap+an) :
  Calls prog 176 #[.agg #[I ap,I an,I Zy,.bool az],.agg #[I bp,I bn,I bt,.bool bz]] w λe w'=>e=.returned (.bool (bt != Zy || bz != az))/\Below w.heap.size w w':=by
 obtain⟨W,hW⟩:=ex ((w.alloc (.cells #[I ap,I an,I Zy,.bool az] 139)).alloc (.cells #[I bp,I bn,I bt,.bool bz] 139));have hs:W.heap.size=w.heap.size+2:=by simp_all
 have yL:=iH W;have b:=@fG W;have c0:∀x:cM W.heap.size W,x.world.cell? (Ad w.heap.size 0)=some (I ap):=λx=>by rw[b x _ _ ω,hW];simp
 have c1:∀x:cM W.heap.size W,x.world.cell? (Ad w.heap.size 1)=some (I an):=λx=>by rw[b x _ _ ω,hW];simp
 have c2:∀x:cM W.heap.size W,x.world.cell? (Ad w.heap.size 2)=some (I Zy):=λx=>by rw[b x _ _ ω,hW];simp
 have c3:∀x:cM W.heap.size W,x.world.cell? (Ad w.heap.size 3)=some (.bool az):=λx=>by rw[b x _ _ ω,hW];simp
 have d0:∀x:cM W.heap.size W,x.world.cell? (Ad (w.heap.size+1) 0)=some (I bp):=λx=>by simp_all
 have d2:∀x:cM W.heap.size W,x.world.cell? (Ad (w.heap.size+1) 2)=some (I bt):=λx=>by simp_all
 have d3:∀x:cM W.heap.size W,x.world.cell? (Ad (w.heap.size+1) 3)=some (.bool bz):=λx=>by simp_all
 have h:Hid (Below w.heap.size w W):=by show Below _ _ _;simp_all [aN,pG]
 have HW:Hid (W=(w.alloc (.cells #[I ap,I an,I Zy,.bool az] 139)).alloc (.cells #[I bp,I bn,I bt,.bool bz] 139)):=hW;clear hW hs b;have hx:(bp==ap+an)=true:=by simp[he]
 clear he;go_enter func176,ntmps176;go_wp2_with fail;rw[<- HW.o];refine cB ρ κ ?_
 repeat (first | go_big_quiet_step ((go_at_call 128;exact ig (λW=>qD _ _ _ _ W h1 h2) _)) | quiet_step ((go_at_call 128;exact ig (λW=>qD _ _ _ _ W h1 h2) _)))
 refine fL ?_;intro _ r;obtain⟨x,q⟩:=r;subst q;go_wp2
 all_goals go_ret
 all_goals exact⟨by first | (simp[*];done) | (simp[*];grind),h.out.trans (x.keeps.mono h.out.size)⟩
theorem PU (ap an Zy bp bn bt:Int) (az bz:Bool) (w:World) (h1:-9223372036854775808<=ap+an) (h2:ap+an<=9223372036854775807) (he:¬bp=ap+an) :
  Calls prog 176 #[.agg #[I ap,I an,I Zy,.bool az],.agg #[I bp,I bn,I bt,.bool bz]] w λe w'=>e=.returned (.bool (decide (ap+an<bp)))/\Below w.heap.size w w':=by
 obtain⟨W,hW⟩:=ex ((w.alloc (.cells #[I ap,I an,I Zy,.bool az] 139)).alloc (.cells #[I bp,I bn,I bt,.bool bz] 139));have hs:W.heap.size=w.heap.size+2:=by simp_all
 have yL:=iH W;have b:=@fG W;have c0:∀x:cM W.heap.size W,x.world.cell? (Ad w.heap.size 0)=some (I ap):=λx=>by rw[b x _ _ ω,hW];simp
 have c1:∀x:cM W.heap.size W,x.world.cell? (Ad w.heap.size 1)=some (I an):=λx=>by rw[b x _ _ ω,hW];simp
 have c2:∀x:cM W.heap.size W,x.world.cell? (Ad w.heap.size 2)=some (I Zy):=λx=>by rw[b x _ _ ω,hW];simp
 have c3:∀x:cM W.heap.size W,x.world.cell? (Ad w.heap.size 3)=some (.bool az):=λx=>by rw[b x _ _ ω,hW];simp
 have d0:∀x:cM W.heap.size W,x.world.cell? (Ad (w.heap.size+1) 0)=some (I bp):=λx=>by simp_all
 have q:Hid (Below w.heap.size w W):=by show Below _ _ _;simp_all [aN,pG]
 have HW:Hid (W=(w.alloc (.cells #[I ap,I an,I Zy,.bool az] 139)).alloc (.cells #[I bp,I bn,I bt,.bool bz] 139)):=hW;have B:Hid (w.heap.size+2<=W.heap.size):=by grind
 clear hW hs b;have hx:(bp==ap+an)=false:=by simp[he]
 clear he;go_enter func176,ntmps176;go_wp2_with fail;rw[<- HW.o];refine cB ρ κ ?_
 repeat (first | go_big_quiet_step ((go_at_call 128;exact ig (λW=>qD _ _ _ _ W h1 h2) _)) | quiet_step ((go_at_call 128;exact ig (λW=>qD _ _ _ _ W h1 h2) _)))
 refine fL ?_;intro _ r;obtain⟨x,h⟩:=r;subst h;have K:=c0 x;have L:=c1 x;have J:=c2 x;have M:=c3 x;have F:=d0 x;have A:Hid (w.heap.size+2<=x.world.heap.size):=gj B.out x.keeps.size;have E7:Hid (Below w.heap.size w x.world):=q.out.trans (x.keeps.mono q.out.size);clear HW c0 c1 c2 c3 d0 yL q B;generalize x.world=V at K L J M F A E7 ⊢;have yL:=iH V;have b:=@fG V;have G:=A.out;have c0:∀x:cM V.heap.size V,x.world.cell? (Ad w.heap.size 0)=some (I ap):=λx=>by grind
 have c1:∀x:cM V.heap.size V,x.world.cell? (Ad w.heap.size 1)=some (I an):=λx=>by grind
 have c2:∀x:cM V.heap.size V,x.world.cell? (Ad w.heap.size 2)=some (I Zy):=λx=>by grind
 have c3:∀x:cM V.heap.size V,x.world.cell? (Ad w.heap.size 3)=some (.bool az):=λx=>by grind
 have d0:∀x:cM V.heap.size V,x.world.cell? (Ad (w.heap.size+1) 0)=some (I bp):=λx=>by grind
 clear b G;go_wp2_with fail;refine cB ρ κ ?_
 repeat (first | go_big_quiet_step ((go_at_call 128;exact ig (λW=>qD _ _ _ _ W h1 h2) _)) | quiet_step ((go_at_call 128;exact ig (λW=>qD _ _ _ _ W h1 h2) _)))
 refine fL ?_;intro _ r;obtain⟨y,h⟩:=r;subst h;go_wp2;go_ret;exact⟨rfl,E7.out.trans (y.keeps.mono E7.out.size)⟩
theorem uq (a b:aU) (w:World) (h1:-9223372036854775808<=a.page+a.aY) (h2:a.page+a.aY<=9223372036854775807) :
  Calls prog 176 #[.agg #[I a.page,I a.aY,I a.gh,.bool a.zero],.agg #[I b.page,I b.aY,I b.gh,.bool b.zero]] w λe w'=>e=.returned (.bool (jH a b))/\Below w.heap.size w w':=by
 unfold jH aU.pL;split
 . exact PV _ _ _ _ _ _ _ _ w h1 h2 ω
 exact PU _ _ _ _ _ _ _ _ w h1 h2 ω
end Go.Proofs.YtlgoihmkgaaemaaGreat
