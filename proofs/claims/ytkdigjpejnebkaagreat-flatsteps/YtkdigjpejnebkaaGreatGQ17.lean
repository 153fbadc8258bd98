import Derived.Test.YtkdigjpejnebkaaGreatGQ00
import Derived.Test.YtkdigjpejnebkaaGreatGQ14
import Derived.Test.YtkdigjpejnebkaaGreatGQ15
import Derived.Test.YtkdigjpejnebkaaGreatGQ16
import Derived.Test.YtkdigjpejnebkaaGreatGQ12
set_option maxHeartbeats 20000000
set_option linter.unusedVariables false
set_option maxRecDepth 100000
set_option linter.unusedSimpArgs false
namespace Go.Proofs.YtkdigjpejnebkaaGreat
namespace LW
open Go.RowKit
open W (ai)
theorem pT (w:World):Calls Tryz.prog 141 #[.string ⟨#[0]⟩,I 16] w fun e w'=>e=.returned (.string LM.kP)/\Below w.heap.size w w' :=
 Tryz.strings_Repeat_main ⟨#[0]⟩ 16 w (by decide) (by decide) (by decide) (by decide)
theorem FA (s:M.Sg) (n:Nat) (w:World) (hn:n<=1000) (hs:s.data.size<=100000) :
  Calls Tryz.prog 119 #[.agg #[I s.page,I s.aj,.string s.data,.bool s.wr,.bool s.ex],I n] w fun e w'=>e=.returned (.string (LM.sK s n))/\Below w.heap.size w w':=by
 obtain⟨pg,pn,dt,wr,qZ0⟩:=s
 simp only at hs
 have XO:dt.size<=maxLen:=by unfold maxLen;omega
 obtain⟨b,hb⟩:∃b:Nat,b=min (n*16) dt.size:=⟨_,rfl⟩
 obtain⟨e,he⟩:∃e:Nat,e=min (b+16) dt.size:=⟨_,rfl⟩
 have Wk:Hid (LM.sK ⟨pg,pn,dt,wr,qZ0⟩ n=CL.over LM.kP 0 (dt.extract b e)):=by
  show _=_
  unfold LM.sK
  simp only
  rw[<- hb,<- he]
 have hbI:min ((n:Int)*16) (dt.size:Int)=(b:Int):=by omega
 have heI:min ((b:Int)+16) (dt.size:Int)=(e:Int):=by omega
 have h1:b<=e:=by omega
 have h2:e<=dt.size:=by omega
 have h3:e<=b+16:=by omega
 have Wm:Hid (∀V,Calls Tryz.prog 68 #[.string LM.kP,I 0,.string (dt.extract b e)] V fun e w'=>e=.returned (.tuple #[.string (LM.sK ⟨pg,pn,dt,wr,qZ0⟩ n),I 0])/\Below V.heap.size V w'):=fun V=>by
  rw[Wk.o]
  exact CW.Bh LM.kP (dt.extract b e) 0 V (by rw[LM.sj];omega) (by rw[LM.sj,LM.extract_size _ _ _ h1 h2];omega)
 have BX:=ai (B.new w #[I pg,I pn,.string dt,.bool wr,.bool qZ0] 129)
 have HB:=ai ((Below.refl w.heap.size w).alloc (Nat.le_refl _) (.cells #[I pg,I pn,.string dt,.bool wr,.bool qZ0] 129))
 obtain⟨W,hW⟩:=ex (w.alloc (.cells #[I pg,I pn,.string dt,.bool wr,.bool qZ0] 129))
 rw[<- hW] at BX HB
 have HW:=ai hW
 clear hW hb he
 have UF:=B.isLt BX.o
 have qx:=Q.dZ W
 have hkc:=@Q.cD W
 have e2:∀x:Q.dG W.heap.size W,x.world.cell? (Ad w.heap.size 2)=some (.string dt):=fun x=>by rw[hkc x _ _ UF];exact B.cell BX.o 2 rfl
 have HZ:Hid (∀V,Below W.heap.size W V->Calls Tryz.prog 141 #[.string ⟨#[0]⟩,I 16] V fun e w'=>e=.returned (.string LM.kP)/\Below V.heap.size V w'):=fun V _=>pT V
 have oo:Hid (∀V,Below W.heap.size W V->Calls Tryz.prog 68 #[.string LM.kP,I 0,.string (dt.extract b e)] V fun e w'=>e=.returned (.tuple #[.string (LM.sK ⟨pg,pn,dt,wr,qZ0⟩ n),I 0])/\Below V.heap.size V w'):=fun V _=>Wm.o V
 clear hkc Wm
 go_enter Tryz.func119,Tryz.ntmps119
 go_wp2
 rw[<- HW.o]
 refine Q.aX (by kernel_rfl) (by kernel_rfl) ?_
 repeat (first | go_big_quiet_step ((first | (go_at_call 141;exact bN _ HZ.o) | (go_at_call 68;exact bN _ oo.o))) | quiet_step ((first | (go_at_call 141;exact bN _ HZ.o) | (go_at_call 68;exact bN _ oo.o))))
 refine wpQuiet_nil ?_
 intro _ hw'
 obtain⟨x,hw''⟩:=hw'
 subst hw''
 go_wp2
 go_ret
 exact⟨rfl,HB.o.trans (x.keeps.mono HB.o.size)⟩
theorem Uj:(Tryz.prog.info? 121).map (fun i=>(i.zero,i.size,i.bytes))=some (some (.agg #[I 0,.string ⟨#[]⟩]),2,24):=by kernel_rfl
theorem DL (page:Int) (ps:List LM.Pt) (ao:Option Addr) (cap:Nat) (w:World) (h0:0<=page) (h1:page<=3000) (h:LM.iN w ao ps) (hn:ps.length<=1000) (hf:∀k,k<ps.length->LM.ot (LM.yR ps k)) :
  Calls Tryz.prog 120 #[I page,.slice ao ps.length cap] w fun e w'=>(∃v,e=.returned v/\w'.ownsRow w.heap.size 121 2 v (LM.gv page ps).length ((LM.gv page ps).flatMap LM.Ak))/\Below w.heap.size w w':=by
 have HH:=ai h
 have HF:=ai hf
 clear h hf
 obtain⟨i0,hi,hz0,hz1,hz2⟩:=info_parts Uj
 go_enter Tryz.func120,Tryz.ntmps120
 go_wp2
 go_loopw [17,6] (fun i v wr=>∃k:Nat,k<=ps.length/\i=I k/\wr.ownsRow w.heap.size 121 2 v (LM.gv page (ps.take k)).length ((LM.gv page (ps.take k)).flatMap LM.Ak)/\Below w.heap.size w wr) (fun i _ _=>ps.length-(intOf i).toNat)
 case atStart=>exact⟨0,by omega,rfl,World.ownsRow_nil _ _ _ _,Below.refl _ _⟩
 case round =>
  obtain⟨k,hk,rfl,hown,hb⟩:=hrel
  have HOW:=ai hown
  have kI:=ai hb
  have hsz:=hb.size
  by_cases hlt:k<ps.length
  · obtain⟨b,off,hao,hbl,bQ⟩:=(HH.o.below hb) (by omega)
    subst hao
    obtain⟨c0,c1⟩:=bQ k hlt
    obtain⟨f1,f2,f3⟩:=HF.o k hlt
    have HT:Hid (LM.gv page (ps.take (k+1))=LM.gv page (ps.take k)++LM.GI page (LM.yR ps k)):=by
     show _=_
     rw[LM.lj ps LM.pt0 k hlt,LM.DM]
     rfl
    have hlen:=LM.Ae page (ps.take k)
    rw[List.length_take] at hlen
    obtain⟨G,hG⟩:=ex (LM.gv page (ps.take k))
    rw[<- hG] at HOW HT hlen
    obtain⟨p,hp⟩:=ex (LM.yR ps k)
    rw[<- hp] at c0 c1 f1 f2 f3 HT
    clear hG hp bQ hb hown
    obtain⟨P,Ry⟩:=p
    simp only at c0 c1 f1 f2 f3
    have dH:=ai (kI.o.alloc kI.o.size (.cells #[I P,.string Ry] 228))
    have jq:=ai ((Below.refl wr.heap.size wr).alloc (Nat.le_refl _) (.cells #[I P,.string Ry] 228))
    obtain⟨A,hA⟩:=ex (max (page*16) P)
    obtain⟨E,hE⟩:=ex (min (page*16+16) (P+8))
    have hAb:page*16<=A/\P<=A/\A<=1000000:=by omega
    have hEb:E<=page*16+16/\E<=P+8:=by omega
    have hA':max (page*16) P=A:=hA.symm
    have hE':min (page*16+16) (P+8)=E:=hE.symm
    have Ss:Hid (LM.GI page ⟨P,Ry⟩=if A<E then [⟨A-page*16,Ry.extract (A-P).toNat (A-P+(E-A)).toNat⟩] else []):=by
     show _=_
     unfold LM.GI
     simp only
     rw[hA',hE']
    clear hA hE
    by_cases hAE:A<E
    · rw[Ss.o,if_pos hAE] at HT
      obtain⟨u,hu⟩:∃u:Nat,A-P=(u:Int):=⟨(A-P).toNat,by omega⟩
      obtain⟨n,hn⟩:∃n:Nat,E-A=(n:Int):=⟨(E-A).toNat,by omega⟩
      have hun:(A-P+(E-A)).toNat=u+n:=by omega
      have hu2:(A-P).toNat=u:=by omega
      rw[hun,hu2] at HT
      have Hj:Hid (∀V,Calls Tryz.prog 142 #[.string Ry,I (A-P),I (E-A)] V fun e w'=>e=.returned (.tuple #[.string (Ry.extract u (u+n)),I 0])/\Below V.heap.size V w'):=fun V=>by
       rw[hu,hn]
       exact CW.wX Ry u n V (by omega) (by omega)
      obtain⟨s,hs⟩:=ex (Ry.extract u (u+n))
      rw[<- hs] at Hj HT
      clear hu hn hun hu2 hs Ss
      have acO:¬E<=A:=by omega
      go_wp2_with (first
       | (go_at_call 142;refine(Hj.o _).mono ?_;rintro e w1 ⟨rfl,hb⟩;have bh:=ai (dH.o.trans (hb.mono dH.o.size));have Zm:=ai ((tW HOW.o (jq.o.trans (hb.mono jq.o.size))).alloc (.cells #[I (A-page*16),.string s] 121));have XD:=Zm.o.lt;have Es:=ai (B.new w1 #[I (A-page*16),.string s] 121);have BP:=ai (B.below (B.new wr #[I P,.string Ry] 228) hb (by simp));have y0:=B.cell BP.o 0 rfl;have y1:=B.cell BP.o 1 rfl;clear hb)
       | (at_builtin;refine wpList_append_lies _ rfl _ _ 60 rfl w.heap.size 121 i0 (.agg #[I 0,.string ⟨#[]⟩]) 2 24 Tryz.underlying60 hi hz0 hz1 hz2 rfl (by decide) _ _ _ rfl Zm.o (Ad w1.heap.size 0) 1 1 [I (A-page*16),.string s] rfl rfl (B.news Es.o) (by intro u hu;simp at hu;rcases hu with rfl | rfl <;> rfl) (by decide) (by unfold maxLen;omega) (by omega) (by have:=bh.o.size;simp;omega) (w1.heap.size+1) (by simp) ?_;intro gg YO w2 hown2 hgrow QR yZ;have Er:=ai hown2;have bY:=ai ((bh.o.alloc bh.o.size (.cells #[I (A-page*16),.string s] 121)).grown hgrow (by have:=bh.o.size;simp;omega) (fun q hq=>(XD _ hq).1));clear hown2 hgrow QR))
      go_roundw
      case rel=>exact⟨k+1,by omega,by go_num,by rw[HT.o,List.length_append,List.flatMap_append];exact Er.o,bY.o⟩
      case measure=>simp[intOf];omega
    · rw[Ss.o,if_neg hAE,List.append_nil] at HT
      have acO:E<=A:=by omega
      clear Ss
      go_wp2
      go_roundw
      case rel=>exact⟨k+1,by omega,by go_num,by rw[HT.o];exact HOW.o.alloc _,dH.o⟩
      case measure=>simp[intOf];omega
  · obtain rfl:k=ps.length:=by omega
    rw[List.take_length] at HOW
    clear hown hb
    go_wp2
    go_ret
    exact⟨⟨_,rfl,HOW.o⟩,kI.o⟩
end LW
namespace GF
open Go.RowKit GK
open FW (ai aB)
theorem Jq:LM.kP=GM.gT:=by decide
theorem CE (p:Int) (n:Nat):GM.gS p (n+1)=GM.gS p n++[⟨p+(n:Int),GM.gT⟩]:=by
 unfold GM.gS
 rw[FM.jY,List.map_append]
 rfl
theorem qT (p:Int) (n:Nat):(GM.gS p n).length=n:=by
 unfold GM.gS
 rw[List.length_map,FM.nN]
theorem pT (p:Int) (n:Nat) (w:World) (hp:0<=p) (hp2:p<=1000) (hn:n<=1000) :
  Calls Tryz.prog 200 #[I p,I (n:Int)] w fun e w'=>∃v,e=.returned v/\w'.ownsRow w.heap.size 65 2 v n ((GM.gS p n).flatMap aH)/\Below w.heap.size w w':=by
 have HZ:Hid (∀V,Calls Tryz.prog 141 #[.string ⟨#[0]⟩,I 16] V fun e w'=>e=.returned (.string GM.gT)/\Below V.heap.size V w'):=fun V=>by rw[<- Jq];exact LW.pT V
 have HSN:=ai (CE p)
 obtain⟨i0,hin,hz0,hz1,hz2⟩:=info_parts ru
 have nC:=ai hin
 have vM:=ai hz0
 have rR:=ai hz1
 have mU:=ai hz2
 obtain⟨Z,hZ⟩:=ex GM.gT
 rw[<- hZ] at HZ HSN
 clear hin hz0 hz1 hz2 hZ
 go_enter Tryz.func200,Tryz.ntmps200
 go_wp2
 go_loopw [5,8] (fun v iv wr=>∃k:Nat,k<=n/\iv=I (k:Int)/\wr.ownsRow w.heap.size 65 2 v k ((GM.gS p k).flatMap aH)/\Below w.heap.size w wr) (fun _ iv _=>n-(intOf iv).toNat)
 case atStart=>exact⟨0,by omega,rfl,World.ownsRow_nil _ _ _ _,Below.refl _ _⟩
 case round =>
  obtain⟨k,hk,rfl,hown,hb⟩:=hrel
  have HO:=ai hown
  have HB:=ai hb
  by_cases hlt:k<n
  · have jc:(k:Int)<(n:Int):=by omega
    clear hown hb
    go_wp2_with (first
     | (at_builtin;refine b9 (P:=Tryz.prog) rfl _ _ 51 rfl w.heap.size 65 i0 (.agg #[I 0,.string ⟨#[]⟩]) 2 24 Tryz.underlying51 nC.o vM.o rR.o mU.o rfl (by decide) _ k ((GM.gS p k).flatMap aH) rfl Jg.o (some (Ad w1.heap.size 0)) 1 1 [I (p+(k:Int)),.string Z] rfl rfl (fun _=>⟨_,rfl,B.news (B.new w1 _ _)⟩) (by intro u hu;simp at hu;rcases hu with rfl | rfl <;> rfl) (by unfold maxLen;omega) (by omega) (by have:=bh.o.size;simp;omega) ?_;intro v' w' hown hgr hat;have Cl:=ai hown;have bY:=ai ((bh.o.alloc bh.o.size (.cells #[I (p+(k:Int)),.string Z] 65)).grown hgr (by have:=bh.o.size;simp;omega) (fun q hq=>(Jg.o.lt q hq).1));clear hown hgr hat)
     | (go_at_call 141;refine(HZ.o _).mono ?_;rintro e w1 ⟨rfl,hb1⟩;have bh:=ai (HB.o.trans (hb1.mono HB.o.size));have Jg:=ai (((Kp.aF (D:=fun _=>False) hb1).row HO.o (fun _ _ g=>g)).alloc (.cells #[I (p+(k:Int)),.string Z] 65));clear hb1))
    go_roundw
    case rel=>exact⟨k+1,by omega,by go_num,by rw[HSN.o k,List.flatMap_append];simpa [aH] using Cl.o,bY.o⟩
    case measure=>simp[intOf];omega
  · obtain rfl:k=n:=by omega
    clear hown hb
    go_wp2
    go_ret
    exact⟨_,rfl,HO.o,HB.o⟩
theorem CP (w:World):(sizeOf 65).run Tryz.prog w=.ok 2 w:=by kernel_rfl
theorem Ww (w:World):(zeroValue 65).run Tryz.prog w=.ok (.agg #[I 0,.string ⟨#[]⟩]) w:=by kernel_rfl
def jK (lo:Nat) (vp:Value) (l:List FM.Pg) (w:World) (e:Ending) (w':World):Prop:=∃v',e=.returned v'/\w'.ownsRow lo 65 2 v' l.length (l.flatMap aH)/\Kp (blk vp) w w'/\(∀b,blk v' b->blk vp b∨w.heap.size<=b)
theorem oY {α:Type} {w:World} {lo:Nat} {e:TypeId} {k n:Nat} {ao:Option Addr} {cap:Nat} {xs:List Value} (h:w.ownsRow lo e k (.slice ao n cap) n xs):From w ao n xs:=fun hm=>by
 rcases h.2 with⟨h0,h1⟩ | ⟨g,cap',cur,hv,_,hg,_,_,_,ht⟩
 · omega
 · injection hv with e1 e2 e3
   refine⟨(Ad g 0),e1,fun j u hu=>?_⟩
   rw[Addr.add_lit,Nat.zero_add,cell_of_row w g j cur e (0,0) hg]
   rw[<- ht,List.getElem?_take] at hu
   split at hu
   · simpa using hu
   · cases hu
theorem F5 (lo:Nat) (ps zs:List FM.Pg) (ao az:Option Addr) (cap cz wz:Nat) (w:World) (h:w.ownsRow lo 65 2 (.slice ao ps.length cap) ps.length (ps.flatMap aH)) (hz:w.ownsRow wz 65 2 (.slice az zs.length cz) zs.length (zs.flatMap aH)) (hlo:lo<=w.heap.size) (hm:1<=zs.length) (hn:ps.length<=100000) (l6:zs.length<=100000) :
  Calls Tryz.prog 199 #[.slice ao ps.length cap,I (ps.length:Int),.slice az zs.length cz] w (jK lo (.slice ao ps.length cap) (ps++zs) w):=by
 have HH:=ai h
 have HF:=ai (oY (α:=Unit) hz)
 have HL:=ai (bu aH 2 bl zs)
 have H1:=ai (jH zs)
 obtain⟨_,_,e0,Gk,_⟩:=aJ h
 injection e0 with e1 e2 e3
 subst e3
 obtain⟨n,hne⟩:=ex ps.length
 obtain⟨m,hme⟩:=ex zs.length
 have dx:Hid (∀v' (w':World),w'.ownsRow lo 65 2 v' (n+m) (ps.flatMap aH++zs.flatMap aH)->Kp (blk (.slice ao n cap)) w w'->(∀b,blk v' b->blk (.slice ao n cap) b∨w.heap.size<=b)->jK lo (.slice ao n cap) (ps++zs) w (.returned v') w'):=fun v' w' h1 h2 h3=>⟨v',rfl,by rw[List.length_append,List.flatMap_append,<- hne,<- hme];exact h1,h2,h3⟩
 rw[<- hne] at HH hn Gk ⊢
 rw[<- hme] at HF HL hm l6 ⊢
 obtain⟨P,hP⟩:=ex (jK lo (.slice ao n cap) (ps++zs) w)
 rw[<- hP] at dx ⊢
 obtain⟨XS,Ll⟩:=ex (ps.flatMap aH)
 obtain⟨ZS,Po⟩:=ex (zs.flatMap aH)
 rw[<- Ll] at HH dx
 rw[<- Po] at HF HL H1 dx
 obtain⟨i0,hin,hz0,hz1,hz2⟩:=info_parts ru
 have nC:=ai hin
 have vM:=ai hz0
 have rR:=ai hz1
 have mU:=ai hz2
 have hm0:((m:Int)==0)=false:=by rw[beq_eq_false_iff_ne];omega
 clear h hz hne hme hP Ll Po hin hz0 hz1 hz2 e1 e2
 go_enter Tryz.func199,Tryz.ntmps199
 go_wp2_with (at_builtin;refine b9 (P:=Tryz.prog) rfl _ _ 51 rfl lo 65 i0 (.agg #[I 0,.string ⟨#[]⟩]) 2 24 Tryz.underlying51 nC.o vM.o rR.o mU.o rfl (by decide) (.slice ao n cap) n XS rfl HH.o az m cz ZS rfl HL.o HF.o H1.o (by unfold maxLen;omega) (by omega) hlo ?_;intro v' w' hown hgr hat;have Cl:=ai hown;have HG2:=ai hgr;have fL:=ai hat;clear hown hgr hat)
 all_goals
  refine dx.o _ _ Cl.o (Kp.grown HG2.o (fun _ e=>e)) (fun b hb=>?_)
  unfold blk at hb ⊢
  rcases fL.o with e | e
  · exact .inl (by rw[<- e];exact hb)
  · right
    rw[e] at hb
    injection hb with hb
    omega
theorem take_left' {α:Type} (a b:List α) (n:Nat) (h:a.length=n):(a++b).take n=a:=by subst h;exact List.take_left
theorem drop_left' {α:Type} (a b:List α) (n:Nat) (h:a.length=n):(a++b).drop n=b:=by subst h;exact List.drop_left
theorem JL {α:Type} (R Y X:List α) (a b:Nat) (hb:b=a+Y.length) (h:b+X.length<=R.length):(splice (splice R a Y) b X).take (b+X.length)=R.take a++(Y++X):=by
 subst hb
 have h1:(splice R a Y).take (a+Y.length)=R.take a++Y:=by
  unfold splice
  rw[<- List.append_assoc]
  exact take_left' _ _ _ (by rw[List.length_append,List.length_take];omega)
 unfold splice at h1 ⊢
 rw[h1,<- List.append_assoc,List.append_assoc (R.take a) Y X]
 exact take_left' _ _ _ (by rw[List.length_append,List.length_take,List.length_append];omega)
theorem CO {α:Type} (R Y X:List α) (a b:Nat) (hb:b=a+Y.length) (h:b+X.length<=R.length):(splice (splice R b X) a Y).take (b+X.length)=R.take a++(Y++X):=by
 subst hb
 have h1:(splice R (a+Y.length) X).take a=R.take a:=by
  unfold splice
  rw[List.take_append_of_le_length (by rw[List.length_take];omega),List.take_take,Nat.min_eq_left (by omega)]
 have h2:(splice R (a+Y.length) X).drop (a+Y.length)=X++R.drop (a+Y.length+X.length):=by
  unfold splice
  exact drop_left' _ _ _ (by rw[List.length_take];omega)
 have h3:splice (splice R (a+Y.length) X) a Y=R.take a++(Y++(X++R.drop (a+Y.length+X.length))):=by
  rw[<- h2,<- h1]
  rfl
 rw[h3,<- List.append_assoc,<- List.append_assoc,List.append_assoc (R.take a) Y X]
 exact take_left' _ _ _ (by rw[List.length_append,List.length_take,List.length_append];omega)
theorem Ah (ps:List FM.Pg) (i:Nat):(ps.flatMap aH).drop (i*2)=(ps.drop i).flatMap aH:=by
 induction ps generalizing i with
 | nil=>simp
 | cons a r ih =>
  cases i with
  | zero=>simp
  | succ i =>
   rw[List.flatMap_cons,List.drop_succ_cons,<- ih i,show(i+1)*2=i*2+2 by omega]
   rfl
theorem tR (ps:List FM.Pg) (i:Nat):(ps.flatMap aH).take (i*2)=(ps.take i).flatMap aH:=by
 induction ps generalizing i with
 | nil=>simp
 | cons a r ih =>
  cases i with
  | zero=>simp
  | succ i =>
   rw[List.flatMap_cons,List.take_succ_cons,List.flatMap_cons,<- ih i,show(i+1)*2=i*2+2 by omega]
   rfl
theorem tV (w:World) (g:Nat) (cs:Array Value):Kp (fun b=>b=g) w (w.setRow g cs):=⟨rfl,rfl,rfl,by simp[World.setRow],fun b _ hn=>setRow_other w g b cs hn⟩
theorem Bk (lo:Nat) (ps zs:List FM.Pg) (pb zb cap cz wz i:Nat) (w:World) (h:w.ownsRow lo 65 2 (.slice (some (Ad pb 0)) ps.length cap) ps.length (ps.flatMap aH)) (hz:w.ownsRow wz 65 2 (.slice (some (Ad zb 0)) zs.length cz) zs.length (zs.flatMap aH)) (hne:zb≠pb) (hi:i<ps.length) (hm:1<=zs.length) (hn:ps.length<=100000) (l6:zs.length<=100000) (hroom:ps.length+zs.length<=cap) :
  Calls Tryz.prog 199 #[.slice (some (Ad pb 0)) ps.length cap,I (i:Int),.slice (some (Ad zb 0)) zs.length cz] w (jK lo (.slice (some (Ad pb 0)) ps.length cap) (ps.take i++(zs++ps.drop i)) w):=by
 have yz:=ai (oY (α:=Unit) hz)
 have kq:=ai (oY (α:=Unit) h)
 have H1:=ai (jH zs)
 have PK:=ai (jH ps)
 obtain⟨cur,hcz,Uz,hcs,hct,hlo,hcm⟩:∃cur:Array Value,cur.size=cap*2/\w.heap[pb]?=some (.cells cur 65 (0,0))/\cap<=maxLen/\cur.toList.take (ps.length*2)=ps.flatMap aH/\lo<=pb/\ps.length<=cap:=by
  rcases h.2 with⟨h0,_⟩ | ⟨g,cap',cur,hv,hb,hg,h1,h2,h3,h4⟩
  · cases h0
  · injection hv with e1 e2 e3
    injection e1 with e1
    injection e1 with e1 _ _
    subst e1 e3
    exact⟨cur,h3,hg,h2,h4,hb,h1⟩
 obtain⟨LH,Z4,abB⟩:∃LH:Array Value,w.heap[zb]?=some (.cells LH 65 (0,0))/\0<LH.size:=by
  rcases hz.2 with⟨h0,_⟩ | ⟨g,cap',zc,hv,hb,hg,h1,h2,h3,h4⟩
  · cases h0
  · injection hv with e1 e2 e3
    injection e1 with e1
    injection e1 with e1 _ _
    subst e1
    exact⟨zc,hg,by rw[h3];omega⟩
 have hlx:=bu aH 2 bl ps
 have Dz:=bu aH 2 bl zs
 obtain⟨R,hR⟩:=ex cur.toList
 have Nj:R.length=cap*2:=by rw[hR];simpa using hcz
 have hRg:w.heap[pb]?=some (.cells R.toArray 65 (0,0)):=by rw[hR];simpa using Uz
 rw[<- hR] at hct
 obtain⟨n,Gf⟩:=ex ps.length
 obtain⟨m,hme⟩:=ex zs.length
 obtain⟨XS,Ll⟩:=ex (ps.flatMap aH)
 obtain⟨ZS,Po⟩:=ex (zs.flatMap aH)
 rw[<- Po] at yz H1 Dz
 rw[<- Ll] at kq hlx hct PK
 rw[<- hme] at yz Dz hm l6 hroom ⊢
 rw[<- Gf] at kq hlx hct hi hn hroom hcm ⊢
 obtain⟨DS,Nq⟩:=ex (XS.drop (i*2))
 have hDl:DS.length=(n-i)*2:=by rw[Nq,List.length_drop,hlx];omega
 obtain⟨R1,xJ⟩:=ex (splice R ((i+m)*2) DS)
 have Bt:R1.length=cap*2:=by rw[xJ,length_splice _ _ _ (by rw[hDl,Nj];omega)];exact Nj
 obtain⟨R2,Br⟩:=ex (splice R1 (i*2) ZS)
 have Gq:R2.length=cap*2:=by rw[Br,length_splice _ _ _ (by rw[Dz,Bt];omega)];exact Bt
 have Nk:R2.take ((n+m)*2)=XS.take (i*2)++(ZS++DS):=by
  have:=CO R ZS DS (i*2) ((i+m)*2) (by rw[Dz];omega) (by rw[hDl,Nj];omega)
  rw[<- xJ,<- Br,hDl,show(i+m)*2+(n-i)*2=(n+m)*2 by omega] at this
  rw[this,<- hct,List.take_take,Nat.min_eq_left (by omega)]
 have M8:∀ty dc sc,(Builtin.copy_ #[51,51] ty #[.slice (some (Ad pb ((i+m)*2))) (n+m-(i+m)) dc,.slice (some (Ad pb (i*2))) (n+m-i) sc]).run Tryz.prog w.drew=.ok (goInt (n-i)) (w.drew.setRow pb R1.toArray):=fun ty dc sc=>by
  have:=jN (P:=Tryz.prog) w.drew 51 51 ty 65 2 Tryz.underlying51 CP pb ((i+m)*2) (n+m-(i+m)) dc (some (Ad pb (i*2))) (n+m-i) sc R 65 hRg DS (by rw[hDl];simp only[Nat.min_def];split <;> omega) (fun _=>⟨_,rfl,fun j u hu=>by
   obtain⟨ad,e,hc⟩:=kq.o (by omega)
   injection e with e
   subst e
   have:=hc (i*2+j) u (by rw[Nq,List.getElem?_drop] at hu;exact hu)
   rw[Addr.add_lit] at this ⊢
   rw[Nat.zero_add] at this
   exact this⟩) (by rw[hDl,Nj];omega) (fun u hu=>PK.o u (by rw[Nq] at hu;exact List.mem_of_mem_drop hu))
  rw[this,<- xJ]
  congr 2
  simp only[Nat.min_def];split <;> omega
 have hg1:(w.drew.setRow pb R1.toArray).heap[pb]?=some (.cells R1.toArray 65 (0,0)):=setRow_heap w.drew pb _ _ _ _ hRg
 obtain⟨W1,hW1⟩:=ex (w.drew.setRow pb R1.toArray)
 rw[<- hW1] at M8 hg1
 have Ue:Kp (fun b=>b=pb) w W1:=by rw[hW1];exact(Kp.drew _ w).trans (tV w.drew pb R1.toArray) (fun _ _ g=>g)
 have UD:∀ty dc,(Builtin.copy_ #[51,51] ty #[.slice (some (Ad pb (i*2))) (n+m-i) dc,.slice (some (Ad zb 0)) m cz]).run Tryz.prog W1=.ok (goInt m) (W1.setRow pb R2.toArray):=fun ty dc=>by
  have:=jN (P:=Tryz.prog) W1 51 51 ty 65 2 Tryz.underlying51 CP pb (i*2) (n+m-i) dc (some (Ad zb 0)) m cz R1 65 hg1 ZS (by rw[Dz];simp only[Nat.min_def];split <;> omega) (fun _=>⟨_,rfl,fun j u hu=>by
   obtain⟨ad,e,hc⟩:=yz.o (by omega)
   injection e with e
   subst e
   have:=hc j u hu
   exact Ue.cell this (by rw[Addr.add_lit];exact hne)⟩) (by rw[Dz,Bt];omega) H1.o
  rw[this,<- Br]
  congr 2
  simp only[Nat.min_def];split <;> omega
 have hg2:(W1.setRow pb R2.toArray).heap[pb]?=some (.cells R2.toArray 65 (0,0)):=setRow_heap W1 pb _ _ _ _ hg1
 have dx:Hid (jK lo (.slice (some (Ad pb 0)) n cap) (ps.take i++(zs++ps.drop i)) w (.returned (.slice (some (Ad pb 0)) (n+m) cap)) (W1.setRow pb R2.toArray)):=by
  have hl:(ps.take i++(zs++ps.drop i)).length=n+m:=by rw[List.length_append,List.length_append,List.length_take,List.length_drop,<- Gf,<- hme];omega
  refine⟨_,rfl,?_,(Ue.trans (tV W1 pb _) (fun _ _ g=>g)).mono (fun b _ e=>by rw[e];rfl),fun b hb=>.inl hb⟩
  rw[hl]
  have hx:(ps.take i++(zs++ps.drop i)).flatMap aH=R2.take ((n+m)*2):=by
   rw[Nk,Ll,Po,Nq,Ll,tR,Ah,List.flatMap_append,List.flatMap_append]
  rw[hx]
  exact⟨by rw[List.length_take,Gq];omega,.inr ⟨pb,cap,R2.toArray,rfl,hlo,hg2,hroom,hcs,by simpa using Gq,by simp⟩⟩
 obtain⟨P,hP⟩:=ex (jK lo (.slice (some (Ad pb 0)) n cap) (ps.take i++(zs++ps.drop i)) w)
 rw[<- hP] at dx ⊢
 have hov:∀lb cb,(callFunc 206 #[.slice (some (Ad zb 0)) m cz,.slice (some (Ad pb ((i+m)*2))) lb cb]).run Tryz.prog w=.ok (.value (.bool false)) w:=fun lb cb=>by
  rw[run_callFunc_extern Tryz.func206 (by kernel_rfl) (by kernel_rfl) (by kernel_rfl) (e:=Extern.SlicesOverlaps.overlaps #[51,51] #[4]) (by kernel_rfl),
   Lib.run_overlaps_apart w 51 4 65 Tryz.underlying51 2 CP (Ad zb 0) (Ad pb ((i+m)*2)) m cz lb cb hne 65 65 LH.size cur.size (by simp[World.shape?,Z4]) (by simp[World.shape?,Uz]) (by omega) (B.free Z4 0) (B.free Z4 LH.size)]
  rfl
 have hm0:((m:Int)==0)=false:=by rw[beq_eq_false_iff_ne];omega
 have hi0:((i:Int)==(n:Int))=false:=by rw[beq_eq_false_iff_ne];omega
 have hw1:IntKind.i64.wrap ((i:Int)+(m:Int))=(i:Int)+(m:Int):=IntWalk.i64_in _ (by omega)
 have hb1:(0:Int)<=(i:Int)+(m:Int):=by omega
 have hin:i<=n:=by omega
 have htn:((i:Int)+(m:Int)).toNat=i+m:=by omega
 have hb2:¬(cap=i+m):=by omega
 have hb3:(i:Int)<=(n:Int)+(m:Int):=by omega
 have hb4:¬(cap=i):=by omega
 have hr2:¬((cap:Int)<(n:Int)+(m:Int)):=by omega
 have Yn:cap<=9223372036854775807:=by unfold maxLen at hcs;omega
 clear h hz Gf hme Ll Po Nq hDl xJ Br hW1 hR Nj hRg Bt Gq Nk hlx Dz hct Uz hcz Z4 abB hP hg1 hg2 Ue yz kq H1 PK hcs
 go_enter Tryz.func199,Tryz.ntmps199
 go_wp2_with (simp only[hov])
 go_region_law (refine yG rfl _ _ 51 51 rfl _ _ (by simp[Act.eval,Act.put]) (by simp[Act.eval,Act.put]) (M8 _ _ _) ?_)
 go_wp2_with (at_builtin;refine vq _ rfl _ _ 51 51 rfl _ _ rfl rfl (UD _ _) ?_)
 exact dx.o
theorem Dp (lo:Nat) (ps zs:List FM.Pg) (pb zb cap cz wz i:Nat) (w:World) (h:w.ownsRow lo 65 2 (.slice (some (Ad pb 0)) ps.length cap) ps.length (ps.flatMap aH)) (hz:w.ownsRow wz 65 2 (.slice (some (Ad zb 0)) zs.length cz) zs.length (zs.flatMap aH)) (hlo:lo<=w.heap.size) (hi:i<ps.length) (hm:1<=zs.length) (hn:ps.length<=100000) (l6:zs.length<=100000) (hroom:cap<ps.length+zs.length) :
  Calls Tryz.prog 199 #[.slice (some (Ad pb 0)) ps.length cap,I (i:Int),.slice (some (Ad zb 0)) zs.length cz] w (jK lo (.slice (some (Ad pb 0)) ps.length cap) (ps.take i++(zs++ps.drop i)) w):=by
 have yz:=ai (oY (α:=Unit) hz)
 have kq:=ai (oY (α:=Unit) h)
 have H1:=ai (jH zs)
 have PK:=ai (jH ps)
 have hpb:pb<w.heap.size:=(h.lt pb rfl).2
 have hzb:zb<w.heap.size:=(hz.lt zb rfl).2
 have hcm:ps.length<=cap:=by
  obtain⟨_,_,e0,hcm,_⟩:=aJ h
  injection e0 with _ _ e3
  omega
 have hlx:=bu aH 2 bl ps
 have Dz:=bu aH 2 bl zs
 obtain⟨n,Gf⟩:=ex ps.length
 obtain⟨m,hme⟩:=ex zs.length
 obtain⟨XS,Ll⟩:=ex (ps.flatMap aH)
 obtain⟨ZS,Po⟩:=ex (zs.flatMap aH)
 rw[<- Po] at yz H1 Dz
 rw[<- Ll] at kq hlx PK
 rw[<- hme] at yz Dz hm l6 hroom ⊢
 rw[<- Gf] at kq hlx hi hn hroom hcm ⊢
 obtain⟨i0,hin,hz0,hz1,hz2⟩:=info_parts ru
 have hold:(Builtin.firstCells i0.size i (.slice (some (Ad pb 0)) i cap)).run Tryz.prog w.drew=.ok (XS.take (i*2)).toArray w.drew:=by
  rw[hz1]
  exact run_firstCells_some w.drew 2 i (Ad pb 0) i cap (XS.take (i*2)) (by rw[List.length_take,hlx];omega) (fun j u hu=>by
   rw[List.getElem?_take] at hu
   split at hu
   · obtain⟨ad,e,hc⟩:=kq.o (by omega)
     injection e with e
     subst e
     exact hc j u hu
   · cases hu)
 have hik:i+(n+m-i)=n+m:=by omega
 have hkk:(n:Int)+(m:Int)-(i:Int)=((n+m-i:Nat):Int):=by omega
 obtain⟨G,hG⟩:=ex (grownCap w (n+m) cap 65)
 obtain⟨R,hR⟩:∃R:List Value,R=XS.take (i*2)++fe [I 0,.string ⟨#[]⟩] (n+m-i)++fe [I 0,.string ⟨#[]⟩] (G-(n+m)):=⟨_,rfl⟩
 have hGn:n+m<=G:=by rw[hG];exact grownCap_ge w _ _ _
 have UO:G<=maxLen:=by rw[hG];exact grownCap_le_maxLen w (n+m) cap _ (by unfold maxLen;omega)
 have Nj:R.length=G*2:=by
  rw[hR,List.length_append,List.length_append,fG,fG,List.length_take,hlx]
  simp only[List.length_cons,List.length_nil]
  omega
 have hRt:R.take (i*2)=XS.take (i*2):=by
  rw[hR,List.append_assoc]
  exact take_left' _ _ _ (by rw[List.length_take,hlx];omega)
 have hrz:∀ty,(Builtin.append_ #[51,3] ty #[.slice (some (Ad pb 0)) i cap,I ((n:Int)+(m:Int)-(i:Int))]).run Tryz.prog w=.ok (.slice (some (Ad w.heap.size 0)) (n+m) G) (w.drew.alloc (.cells R.toArray 65)):=fun ty=>by
  have h:=Lib.run_append_grow_zeros (P:=Tryz.prog) w 51 3 ty 65 i0 _ .i64 .i64 Tryz.underlying51 Tryz.underlying3 hin hz0 (some (Ad pb 0)) i cap (XS.take (i*2)) hold (n+m-i) (by omega) (by omega) (by omega) (by omega) (by rw[hz2];omega) (by rw[hz2,hik];exact growslice_fits hroom (by omega))
  rw[hik,<- hG] at h
  rw[hkk,h]
  congr 3
  rw[hR]
  have e1:=qU (Value.cells (.agg #[I 0,.string ⟨#[]⟩])) (n+m-i) (by decide)
  have e2:=qU (Value.cells (.agg #[I 0,.string ⟨#[]⟩])) (G-(n+m)) (by decide)
  apply Array.toList_inj.1
  rw[Array.toList_append,Array.toList_append,e1,e2]
  rfl
 have hg0:(w.drew.alloc (.cells R.toArray 65)).heap[w.heap.size]?=some (.cells R.toArray 65 (0,0)):=B.new w.drew _ _
 obtain⟨W0,hW0⟩:=ex (w.drew.alloc (.cells R.toArray 65))
 rw[<- hW0] at hrz hg0
 have kp0:Below w.heap.size w W0:=by rw[hW0];exact(Below.refl _ _).drew.alloc (Nat.le_refl _) _
 obtain⟨H,hH⟩:=ex w.heap.size
 rw[<- hH] at hrz hg0 hlo
 obtain⟨DS,Nq⟩:=ex (XS.drop (i*2))
 have hDl:DS.length=(n-i)*2:=by rw[Nq,List.length_drop,hlx];omega
 obtain⟨R1,xJ⟩:=ex (splice R (i*2) ZS)
 have Bt:R1.length=G*2:=by rw[xJ,length_splice _ _ _ (by rw[Dz,Nj];omega)];exact Nj
 obtain⟨R2,Br⟩:=ex (splice R1 ((i+m)*2) DS)
 have Gq:R2.length=G*2:=by rw[Br,length_splice _ _ _ (by rw[hDl,Bt];omega)];exact Bt
 have Nk:R2.take ((n+m)*2)=XS.take (i*2)++(ZS++DS):=by
  have:=JL R ZS DS (i*2) ((i+m)*2) (by rw[Dz];omega) (by rw[hDl,Nj];omega)
  rw[<- xJ,<- Br,hDl,show(i+m)*2+(n-i)*2=(n+m)*2 by omega] at this
  rw[this,hRt]
 have M8:∀ty dc,(Builtin.copy_ #[51,51] ty #[.slice (some (Ad H (i*2))) (n+m-i) dc,.slice (some (Ad zb 0)) m cz]).run Tryz.prog W0=.ok (goInt m) (W0.setRow H R1.toArray):=fun ty dc=>by
  have:=jN (P:=Tryz.prog) W0 51 51 ty 65 2 Tryz.underlying51 CP H (i*2) (n+m-i) dc (some (Ad zb 0)) m cz R 65 hg0 ZS (by rw[Dz];simp only[Nat.min_def];split <;> omega) (fun _=>⟨_,rfl,fun j u hu=>by
   obtain⟨ad,e,hc⟩:=yz.o (by omega)
   injection e with e
   subst e
   have:=hc j u hu
   rw[Addr.add_lit] at this ⊢
   exact(kp0.cell (p:=(Ad zb (0+j))) hzb).trans this⟩) (by rw[Dz,Nj];omega) H1.o
  rw[this,<- xJ]
  congr 2
  simp only[Nat.min_def];split <;> omega
 have hg1:(W0.setRow H R1.toArray).heap[H]?=some (.cells R1.toArray 65 (0,0)):=setRow_heap W0 H _ _ _ _ hg0
 obtain⟨W1,hW1⟩:=ex (W0.setRow H R1.toArray)
 rw[<- hW1] at M8 hg1
 have Ue:Below w.heap.size w W1:=by rw[hW1];exact below_setRow kp0 (by omega) _
 have UD:∀ty dc sc,(Builtin.copy_ #[51,51] ty #[.slice (some (Ad H ((i+m)*2))) (n+m-(i+m)) dc,.slice (some (Ad pb (i*2))) (n-i) sc]).run Tryz.prog W1.drew=.ok (goInt (n-i)) (W1.drew.setRow H R2.toArray):=fun ty dc sc=>by
  have:=jN (P:=Tryz.prog) W1.drew 51 51 ty 65 2 Tryz.underlying51 CP H ((i+m)*2) (n+m-(i+m)) dc (some (Ad pb (i*2))) (n-i) sc R1 65 hg1 DS (by rw[hDl];simp only[Nat.min_def];split <;> omega) (fun _=>⟨_,rfl,fun j u hu=>by
   obtain⟨ad,e,hc⟩:=kq.o (by omega)
   injection e with e
   subst e
   have:=hc (i*2+j) u (by rw[Nq,List.getElem?_drop] at hu;exact hu)
   rw[Addr.add_lit] at this ⊢
   rw[Nat.zero_add] at this
   exact(Ue.cell (p:=(Ad pb (i*2+j))) hpb).trans this⟩) (by rw[hDl,Bt];omega) (fun u hu=>PK.o u (by rw[Nq] at hu;exact List.mem_of_mem_drop hu))
  rw[this,<- Br]
  congr 2
  simp only[Nat.min_def];split <;> omega
 have hg2:(W1.drew.setRow H R2.toArray).heap[H]?=some (.cells R2.toArray 65 (0,0)):=setRow_heap W1.drew H _ _ _ _ hg1
 have MJ:Below w.heap.size w (W1.drew.setRow H R2.toArray):=below_setRow Ue.drew (by omega) _
 have dx:Hid (jK lo (.slice (some (Ad pb 0)) n cap) (ps.take i++(zs++ps.drop i)) w (.returned (.slice (some (Ad H 0)) (n+m) G)) (W1.drew.setRow H R2.toArray)):=by
  have hl:(ps.take i++(zs++ps.drop i)).length=n+m:=by rw[List.length_append,List.length_append,List.length_take,List.length_drop,<- Gf,<- hme];omega
  refine⟨_,rfl,?_,Kp.aF MJ,fun b hb=>.inr (by have:some H=some b:=hb;injection this;omega)⟩
  rw[hl]
  have hx:(ps.take i++(zs++ps.drop i)).flatMap aH=R2.take ((n+m)*2):=by
   rw[Nk,Ll,Po,Nq,Ll,tR,Ah,List.flatMap_append,List.flatMap_append]
  rw[hx]
  exact⟨by rw[List.length_take,Gq];omega,.inr ⟨H,G,R2.toArray,rfl,hlo,hg2,hGn,UO,by simpa using Gq,by simp⟩⟩
 obtain⟨P,hP⟩:=ex (jK lo (.slice (some (Ad pb 0)) n cap) (ps.take i++(zs++ps.drop i)) w)
 rw[<- hP] at dx ⊢
 have hm0:((m:Int)==0)=false:=by rw[beq_eq_false_iff_ne];omega
 have ahK:((i:Int)==(n:Int))=false:=by rw[beq_eq_false_iff_ne];omega
 have hw1:IntKind.i64.wrap ((i:Int)+(m:Int))=(i:Int)+(m:Int):=IntWalk.i64_in _ (by omega)
 have hb1:(0:Int)<=(i:Int)+(m:Int):=by omega
 have ahH:i<=n:=by omega
 have htn:((i:Int)+(m:Int)).toNat=i+m:=by omega
 have hb2:¬(G=i+m):=by omega
 have hb3:(i:Int)<=(n:Int):=by omega
 have hb4:¬(cap=i):=by omega
 have kV:¬(G=i):=by omega
 have hr2:(cap:Int)<(n:Int)+(m:Int):=by omega
 have Yn:G<=9223372036854775807:=by unfold maxLen at UO;omega
 clear h hz Gf hme Ll Po Nq hDl xJ Br hW1 hW0 hR Nj hRt Bt Gq Nk hlx Dz hP hg0 hg1 hg2 kp0 Ue MJ yz kq H1 PK UO hG hH hold hin hz0 hz1 hz2 hik hkk
 go_enter Tryz.func199,Tryz.ntmps199
 go_wp2_with (first
  | (at_builtin;refine Lib.wpList_append_run _ rfl _ _ _ _ rfl _ _ rfl rfl _ _ (hrz _) ?_)
  | (at_builtin;refine vq _ rfl _ _ 51 51 rfl _ _ rfl rfl (M8 _ _) ?_))
 go_region_law (refine yG rfl _ _ 51 51 rfl _ _ (by simp[Act.eval,Act.put]) (by simp[Act.eval,Act.put]) (UD _ _ _) ?_)
 go_wp2
 exact dx.o
theorem F6 (lo:Nat) (ps zs:List FM.Pg) (vp vz:Value) (wz i:Nat) (w:World) (h:w.ownsRow lo 65 2 vp ps.length (ps.flatMap aH)) (hz:w.ownsRow wz 65 2 vz zs.length (zs.flatMap aH)) (hlo:lo<=w.heap.size) (hne:∀b,blk vz b->¬blk vp b) (hi:i<=ps.length) (hm:1<=zs.length) (hn:ps.length<=100000) (l6:zs.length<=100000) :
  Calls Tryz.prog 199 #[vp,I (i:Int),vz] w (jK lo vp (ps.take i++(zs++ps.drop i)) w):=by
 obtain⟨ao,cap,rfl,Gk,hg⟩:=aJ h
 obtain⟨az,cz,rfl,_,hgz⟩:=aJ hz
 by_cases c:i=ps.length
 · subst c
   have e:ps.take ps.length++(zs++ps.drop ps.length)=ps++zs:=by rw[List.take_length,List.drop_length,List.append_nil]
   rw[e]
   exact F5 lo ps zs ao az cap cz wz w h hz hlo hm hn l6
 · obtain⟨pb,rfl,_,_⟩:=hg (by omega)
   obtain⟨zb,rfl,_,_⟩:=hgz (by omega)
   by_cases d:ps.length+zs.length<=cap
   · exact Bk lo ps zs pb zb cap cz wz i w h hz (fun e=>hne zb rfl (by rw[e];rfl)) (by omega) hm hn l6 d
   · exact Dp lo ps zs pb zb cap cz wz i w h hz hlo (by omega) hm hn l6 (by omega)
end GF
end Go.Proofs.YtkdigjpejnebkaaGreat
