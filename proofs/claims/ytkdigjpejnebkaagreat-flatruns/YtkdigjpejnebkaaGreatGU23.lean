import Derived.Test.YtkdigjpejnebkaaGreatGU00
import Derived.Test.YtkdigjpejnebkaaGreatGU22
import Derived.Test.YtkdigjpejnebkaaGreatGU18
import Derived.Test.YtkdigjpejnebkaaGreatGU07
import Derived.Test.YtkdigjpejnebkaaGreatGU06
import Derived.Test.YtkdigjpejnebkaaGreatGU13
set_option maxHeartbeats 20000000
set_option linter.unusedVariables false
set_option maxRecDepth 100000
set_option linter.unusedSimpArgs false
namespace Go.Proofs.YtkdigjpejnebkaaGreat
namespace GW
open Go.RowKit GK GG
open FW (ai aB)
section
variable {σ:Type} {Hd:World->(Nat->Prop)->σ->Prop} {Ok:σ->List Bool->Prop} {o:vM σ} {lo mb gb:Nat} {w w':World} {D:Nat->Prop} {vo:Value} {st:St σ}
theorem km.abp (C:gP lo mb Hd Ok o) {pb n cap:Nat} (h:km Hd lo mb gb w D (.slice (some ⟨pb,0,none⟩) n cap) vo st) (k:Nat) (hk:k<st.ps.length) (hn:n=st.ps.length) (x:Int×Int) :
  GW.Left Hd lo mb gb w D (.slice (some ⟨pb,0,none⟩) n cap) vo { st with ps:=st.ps.set k (FW.kI (FM.au st.ps k) x) } (((w.setCell ⟨pb,k*13+9,none⟩ (I 3)).setCell ⟨pb,k*13+11,none⟩ (I x.1)).setCell ⟨pb,k*13+12,none⟩ (I x.2)):=by
 have hb:blk (.slice (some ⟨pb,0,none⟩) n cap) pb:=rfl
 have kS:Kp (fun b=>b=pb) w (((w.setCell ⟨pb,k*13+9,none⟩ (I 3)).setCell ⟨pb,k*13+11,none⟩ (I x.1)).setCell ⟨pb,k*13+12,none⟩ (I x.2)):=sO w pb _ _ _ _ _ _ rfl
 refine⟨D,.slice (some ⟨pb,0,none⟩) n cap,vo,⟨kS.keep h.head (fun e=>h.n2 (e ▸ hb)),C.kp _ _ _ _ _ h.mem kS (fun b hd e=>h.n4 pb hb (e ▸ hd)),?_,kS.row h.outs (fun g hg e=>h.n6 pb hb (e ▸ hg)),h.base,h.n1,h.n2,h.n3,h.n4,h.n5,h.n6⟩,kS.mono (fun b _ e=>.inr (.inr (.inl (e ▸ hb)))),fun b hb=>.inl hb⟩
 have hp:=h.procs
 rw[<- hn] at hp
 show World.ownsRow _ lo _ 13 _ (st.ps.set k _).length _
 rw[List.length_set,<- hn]
 obtain⟨q,hq⟩:=ex (FM.au st.ps k)
 rw[<- hq]
 have h0:(st.ps.set k q).flatMap aI=st.ps.flatMap aI:=qc aI FM.vV st.ps k q hk (by rw[hq];rfl)
 rw[<- h0] at hp
 have r1:=bY hp (k*13+9) (I 3)
 rw[<- dM st.ps k hk q { q with st:=3 } 9 (by omega) _ rfl] at r1
 have r2:=bY r1 (k*13+11) (I x.1)
 rw[<- dM st.ps k hk { q with st:=3 } { q with st:=3,fk:=x.1 } 11 (by omega) _ rfl] at r2
 have r3:=bY r2 (k*13+12) (I x.2)
 rw[<- dM st.ps k hk { q with st:=3,fk:=x.1 } { q with st:=3,fk:=x.1,fa:=x.2 } 12 (by omega) _ rfl] at r3
 exact r3
end
variable {σ:Type} {Hd:World->(Nat->Prop)->σ->Prop} {Ok:σ->List Bool->Prop} {o:vM σ} {lo mb gb:Nat} {D:Nat->Prop} {vr vo:Value} {st:St σ}
theorem LQ (C:gP lo mb Hd Ok o) (pick:Int) (w:World) (h:km Hd lo mb gb w D vr vo st) (hok:lZ Ok st) :
  Calls Tryz.prog 46 #[.pointer (some ⟨gb,0,none⟩),I pick] w fun e w'=>e=.returned (I (GG.stepG o st pick).1)/\GW.Left Hd lo mb gb w D vr vo (GG.stepG o st pick).2 w':=by
 have HG:=ai h
 have HC:=ai C
 have tH:=ai hok
 have vH:st.ps.length<=4:=by have:=C.ok.few _ _ hok.mem;unfold running at this;rw[List.length_map] at this;exact this
 obtain⟨ar,cr,nu,_,_⟩:=aL h.procs
 obtain⟨ao,co,MZ,_,_⟩:=aL h.outs
 have HVR:=ai nu
 have HVO:=ai MZ
 have uu:Hid (GG.stepG o st pick=if ¬(0<=pick/\pick<(st.ps.length:Int)) then (6,st) else if ¬(FM.au st.ps pick.toNat).st=1 then (0,st) else if 2000<=st.out.length then (2,st) else if (oM o st pick.toNat).1.1=0 then (0,(oM o st pick.toNat).2) else (0,{ (oM o st pick.toNat).2 with mem:=o.drop (oM o st pick.toNat).2.mem pick.toNat,ps:=(oM o st pick.toNat).2.ps.set pick.toNat (FW.kI (FM.au (oM o st pick.toNat).2.ps pick.toNat) (oM o st pick.toNat).1) })):=rfl
 obtain⟨RR,uS⟩:=ex (GG.stepG o st pick)
 rw[<- uS] at uu ⊢
 obtain⟨n,hn⟩:=ex st.ps.length
 obtain⟨no,hno⟩:=ex st.out.length
 rw[<- hn] at nu vH uu
 rw[<- hno] at MZ uu
 have HN:=ai hn
 have mS:=ai hno
 have ahS:no<=2000:=by rw[hno];exact hok.out
 subst nu MZ
 obtain⟨g0,g1,g2⟩:=B.c3 h.head
 clear uS hn hno HVR HVO
 by_cases hp0:pick<0
 · have HR:Hid (RR=(6,st)):=by rw[uu.o,if_pos (by omega)];exact rfl
   clear uu h C hok
   go_enter Tryz.func46,Tryz.ntmps46
   go_wp2
   go_ret
   rw[HR.o]
   exact⟨rfl,Left.refl HG.o⟩
 · by_cases hp1:(n:Int)<=pick
   · have HR:Hid (RR=(6,st)):=by rw[uu.o,if_pos (by omega)];exact rfl
     clear uu h C hok
     go_enter Tryz.func46,Tryz.ntmps46
     go_wp2
     go_ret
     rw[HR.o]
     exact⟨rfl,Left.refl HG.o⟩
   · obtain⟨k,rfl⟩:∃k:Nat,pick=(k:Int):=⟨pick.toNat,by omega⟩
     have hk:k<n:=by omega
     have hks:k<st.ps.length:=by rw[<- HN.o];exact hk
     obtain⟨pb,cap,nu,hpb,hpc,uN⟩:=h.proc k hks
     injection nu with e1 e2 e3
     subst e1 e3
     clear e2
     have dI:=ai hpc
     have Vn:=ai uN
     have jd:(k:Int)<(n:Int):=by omega
     have Vh:=uu.o
     rw[if_neg (by omega),Int.toNat_natCast] at Vh
     have yx:=ai Vh
     obtain⟨s9,hs9⟩:=ex ((FM.au st.ps k).st)
     have c9:w.cell? ⟨pb,k*13+9,none⟩=some (I s9):=by rw[hs9];exact hpc 9 (by omega)
     rw[<- hs9] at yx
     have HS9:=ai hs9
     clear uu Vh hpc uN hs9
     by_cases hs1:s9=1
     · subst hs1
       have h1:(FM.au st.ps k).st=1:=HS9.o.symm
       by_cases QE:2000<=no
       · have HR:Hid (RR=(2,st)):=by rw[yx.o,if_neg (fun g=>g rfl),if_pos QE];exact rfl
         have ab6:(2000:Int)<=(no:Int):=by omega
         clear yx h C hok QE
         go_enter Tryz.func46,Tryz.ntmps46
         go_wp2
         go_ret
         rw[HR.o]
         exact⟨rfl,Left.refl HG.o⟩
       · have ab6:¬(2000:Int)<=(no:Int):=by omega
         have Eo:=ai (U7 C k w h hok hks h1)
         have ZN:=ai (IP C.ok hok (by rw[<- mS.o];omega) k hks h1)
         have Ti:Hid (RR=if (oM o st k).1.1=0 then (0,(oM o st k).2) else (0,{ (oM o st k).2 with mem:=o.drop (oM o st k).2.mem k,ps:=(oM o st k).2.ps.set k (FW.kI (FM.au (oM o st k).2.ps k) (oM o st k).1) })):=by rw[yx.o,if_neg (fun g=>g rfl),if_neg QE];exact rfl
         obtain⟨X,hX⟩:=ex (oM o st k)
         rw[<- hX] at Eo ZN Ti
         obtain⟨⟨X1,X2⟩,s2⟩:=X
         unfold FW.dm at Eo
         simp only at Eo ZN Ti
         clear yx hX h C hok QE
         by_cases hX1:X1=0
         · subst hX1
           have HR:Hid (RR=(0,s2)):=by rw[Ti.o,if_pos rfl];exact rfl
           clear Ti
           go_enter Tryz.func46,Tryz.ntmps46
           go_wp2_with (go_at_call 81;refine Eo.o.mono ?_;rintro e w1 ⟨rfl,mK⟩;have R5:=ai mK;clear mK)
           go_ret
           rw[HR.o]
           exact⟨rfl,R5.o.more HC.o ((Below.refl _ _).alloc (Nat.le_refl _) _)⟩
         · have HR:Hid (RR=(0,{ s2 with mem:=o.drop s2.mem k,ps:=s2.ps.set k (FW.kI (FM.au s2.ps k) (X1,X2)) })):=by rw[Ti.o,if_neg hX1];exact rfl
           have hXi:(X1==0)=false:=by rw[beq_eq_false_iff_ne];exact hX1
           have hsame:s2.ps=st.ps:=ZN.o.same hX1
           have XR:lZ Ok s2:=ZN.o.ok
           have yY:(running s2.ps).getD k false=true:=by rw[hsame];exact ek k hks h1
           have Vp:=ai XR
           have adM:=ai yY
           have HSM:=ai hsame
           have hm:=xn ⟨mb,0,none⟩
           have ha:=Al ⟨mb,0,none⟩
           clear Ti hsame XR yY hX1 ZN
           go_enter Tryz.func46,Tryz.ntmps46
           go_wp2_with (first
            | (go_at_call 81;refine Eo.o.mono ?_;rintro e w1 ⟨rfl,mK⟩;obtain⟨D1,r1,o1,hg1,hk1,hd1⟩:=mK;have vk:=ai hg1;have qp:=ai hk1;have WD:=ai hd1;have HBF:=ai ((Below.refl w1.heap.size w1).alloc (Nat.le_refl _) (.cells #[I X1,I X2] 68));have x0:=B.cell (v:=.iface 144 (.pointer (some ⟨mb,0,none⟩))) hg1.head 0 rfl;have x0a:(w1.alloc (.cells #[I X1,I X2] 68)).cell? ⟨gb,0,none⟩=some (.iface 144 (.pointer (some ⟨mb,0,none⟩))):=B.cell (B.alloc hg1.head _) 0 rfl;clear hg1 hk1 hd1)
            | (go_at_call 190;refine(HC.o.drop _ D1 s2.mem _ k (vk.o.below HC.o HBF.o).mem Vp.o.mem adM.o).mono ?_;rintro e w2 ⟨D2,rfl,hm2,hk2,hd2⟩;have HG2:=ai ((vk.o.below HC.o HBF.o).turn HC.o hm2 hk2 hd2);have je:=ai hk2;have Cq:=ai hd2;have mQ:=ai (hk2.keep (B.new w1 #[I X1,I X2] 68) (fun g=>(by have:=HC.o.dom _ _ _ vk.o.mem _ g;omega)));clear hm2 hk2 hd2))
           obtain⟨WW,cap2,hv2,Uu,Qz,Qy⟩:=HG2.o.proc k (by show k<s2.ps.length;rw[HSM.o];exact hks)
           have hl2:s2.ps.length=n:=by rw[HSM.o];exact HN.o.symm
           have abT:r1=.slice (some ⟨WW,0,none⟩) n cap2:=by rw[hv2];show Value.slice _ s2.ps.length _=_;rw[hl2]
           subst abT
           have x1:w2.cell? ⟨gb,1,none⟩=some (.slice (some ⟨WW,0,none⟩) n cap2):=B.cell HG2.o.head 1 rfl
           have z0:=B.cell (v:=I X1) mQ.o 0 rfl
           have z1:=B.cell (v:=I X2) mQ.o 1 rfl
           have d9:w2.cell? ⟨WW,k*13+9,none⟩=some (I (FM.au s2.ps k).st):=Qz 9 (by omega)
           have d11:w2.cell? ⟨WW,k*13+11,none⟩=some (I (FM.au s2.ps k).fk):=Qz 11 (by omega)
           have d12:w2.cell? ⟨WW,k*13+12,none⟩=some (I (FM.au s2.ps k).fa):=Qz 12 (by omega)
           have f9:=Qy (k*13+9)
           have f11:=Qy (k*13+11)
           have f12:=Qy (k*13+12)
           have oa:=ai hl2
           clear hv2 Qz Qy hl2
           go_region
           all_goals
            go_wp2
            go_ret
            rw[HR.o]
            have hs:=(HG2.o.abp HC.o k (by show k<s2.ps.length;rw[HSM.o];exact hks) (by show n=s2.ps.length;rw[oa.o]) (X1,X2)).more HC.o (Below.refl _ _).drew
            refine⟨rfl,Left.trans qp.o WD.o (Left.after HBF.o (Left.trans (je.o.mono (fun b _ g=>.inr (.inl g))) (fun b hb=>?_) hs))⟩
            rcases hb with g | g | g | g
            · exact .inl (.inl g)
            · rcases Cq.o b g with x | x
              · exact .inl (.inr (.inl x))
              · exact .inr x
            · exact .inl (.inr (.inr (.inl g)))
            · exact .inl (.inr (.inr (.inr g)))
     · have HR:Hid (RR=(0,st)):=by rw[yx.o,if_pos hs1];exact rfl
       have hsi:(s9==1)=false:=by rw[beq_eq_false_iff_ne];exact hs1
       clear yx h C hok hs1
       go_enter Tryz.func46,Tryz.ntmps46
       go_wp2
       go_ret
       rw[HR.o]
       exact⟨rfl,Left.refl HG.o⟩
def rS (w:World) (ao:Option Addr) (l:List Int):Prop:=0<l.length->∃b off,ao=some ⟨b,off,none⟩/\b<w.heap.size/\∀i,i<l.length->w.cell? ⟨b,off+i,none⟩=some (I (l.getD i 0))
def uq (Hd:World->(Nat->Prop)->σ->Prop) (lo mb gb:Nat) (w:World) (D:Nat->Prop) (vr vo:Value) (r:Int×Option (St σ)) (e:Ending) (w':World):Prop:=e=.returned (I r.1)/\Kp (jY gb D vr vo) w w'/\∀s,r.2=some s->GW.Left Hd lo mb gb w D vr vo s w'
theorem vU (C:gP lo mb Hd Ok o) (picks:List Int) (ap:Option Addr) (cp:Nat) (w:World) (h:km Hd lo mb gb w D vr vo st) (hok:lZ Ok st) (hp:rS w ap picks) (hps:0<picks.length->∀b,ap=some b->¬jY gb D vr vo b.block) (FY:picks.length<=140737488351232) :
  Calls Tryz.prog 59 #[.pointer (some ⟨gb,0,none⟩),.slice ap picks.length cp] w (uq Hd lo mb gb w D vr vo (tV o st picks)):=by
 have HG:=ai h
 have HC:=ai C
 have tH:=ai hok
 have HP:=ai hp
 have RU:=ai hps
 have RT:Hid (tV o st picks=if 2000<picks.length then ((2:Int),none) else match ez o picks picks.length (some st) with | none=>(2,none) | some s=>(0,some s)):=rfl
 have Ha:Hid (∀n s,ez o picks n (some st)=some s->ez o picks (n+1) (some st)=if (GG.stepG o s (picks.getD n 0)).1=2 then none else some (GG.stepG o s (picks.getD n 0)).2):=fun n s e=>by
  show(match ez o picks n (some st) with | none=>none | some s=>if (GG.stepG o s (picks.getD n 0)).1=2 then none else some (GG.stepG o s (picks.getD n 0)).2)=_
  rw[e]
 have HRN:Hid (∀n,ez o picks n (some st)=none->∀m,n<=m->ez o picks m (some st)=none):=fun n e m hm=>by
  induction m with
  | zero => obtain rfl:n=0 := by omega
            exact e
  | succ m ih =>
   by_cases c:n=m+1
   · subst c;exact e
   · show(match ez o picks m (some st) with | none=>none | some s=>if (GG.stepG o s (picks.getD m 0)).1=2 then none else some (GG.stepG o s (picks.getD m 0)).2)=_
     rw[ih (by omega)]
 have I6:=ai (sk C.ok hok picks)
 have KR:Hid (ez o picks 0 (some st)=some st):=rfl
 obtain⟨RR,uS⟩:=ex (tV o st picks)
 rw[<- uS] at RT ⊢
 obtain⟨np,fB⟩:=ex picks.length
 rw[<- fB] at RT FY ⊢
 have uv:=ai fB
 have dz:Hid (∀e w',uq Hd lo mb gb w D vr vo RR e w'↔(e=.returned (I RR.1)/\Kp (jY gb D vr vo) w w'/\∀s,RR.2=some s->GW.Left Hd lo mb gb w D vr vo s w')):=fun e w'=>Iff.rfl
 obtain⟨P,hP⟩:=ex (uq Hd lo mb gb w D vr vo RR)
 rw[<- hP] at dz ⊢
 clear uS fB h C hok hp hps hP
 by_cases hbig:2000<np
 · have HR:Hid (RR=(2,none)):=by rw[RT.o,if_pos hbig];exact rfl
   have ED:(2000:Int)<(np:Int):=by omega
   clear RT Ha HRN I6 KR hbig
   go_enter Tryz.func59,Tryz.ntmps59
   go_wp2
   refine(dz.o _ _).2 ?_
   rw[HR.o]
   exact⟨rfl,Kp.refl _ _,fun s e=>by cases e⟩
 · have ED:¬(2000:Int)<(np:Int):=by omega
   have lu:Hid (RR=match ez o picks np (some st) with | none=>((2:Int),none) | some s=>(0,some s)):=by have:=RT.o;rw[if_neg hbig] at this;exact this
   clear RT
   go_enter Tryz.func59,Tryz.ntmps59
   go_wp2
   go_loopw [12] (fun iv wr=>∃(j:Nat) (s:St σ),j<=np/\iv=I (j:Int)/\ez o picks j (some st)=some s/\GW.Left Hd lo mb gb w D vr vo s wr) (fun iv _=>np-(intOf iv).toNat)
   case atStart=>exact⟨0,st,by omega,rfl,KR.o,Left.refl HG.o⟩
   case round =>
    obtain⟨j,s,hj,rfl,hrun,hl⟩:=hrel
    have Tj:=ai hrun
    have HL:=ai hl
    have HOS:=ai (I6.o j s hrun)
    obtain⟨D1,r1,o1,hg1,hk1,hd1⟩:=hl
    have vk:=ai hg1
    have qp:=ai hk1
    have WD:=ai hd1
    clear hrun hg1 hk1 hd1
    by_cases hlt:j<np
    · obtain⟨b,off,hao,hbl,hcell⟩:=HP.o (by rw[<- uv.o];omega)
      subst hao
      have hc0:wr.cell? ⟨b,off+j,none⟩=some (I (picks.getD j 0)):=qp.o.cell (hcell j (by rw[<- uv.o];exact hlt)) (RU.o (by rw[<- uv.o];omega) ⟨b,off,none⟩ rfl)
      have HST:=ai (Ha.o j s Tj.o)
      obtain⟨pk,hpk⟩:=ex (picks.getD j 0)
      rw[<- hpk] at hc0 HST
      have Vi:=ai (LQ HC.o pk wr vk.o HOS.o)
      obtain⟨X,hX⟩:=ex (GG.stepG o s pk)
      rw[<- hX] at HST Vi
      obtain⟨x1,s2⟩:=X
      simp only at HST Vi
      have hji:(j:Int)<(np:Int):=by omega
      clear hpk hX hcell
      by_cases hx:x1=2
      · subst hx
        have mS:=ai (HRN.o (j+1) (by rw[HST.o,if_pos rfl]) np (by omega))
        have HR:Hid (RR=(2,none)):=by have:=lu.o;rw[mS.o] at this;exact this
        clear HST lu mS
        go_wp2_with (go_at_call 46;refine Vi.o.mono ?_;rintro e w2 ⟨rfl,hl2⟩;have oa:=ai (Left.trans qp.o WD.o hl2);clear hl2)
        refine(dz.o _ _).2 ?_
        rw[HR.o]
        obtain⟨_,_,_,_,hkk,_⟩:=oa.o
        exact⟨rfl,hkk,fun s e=>by cases e⟩
      · have hxi:(x1==2)=false:=by rw[beq_eq_false_iff_ne];exact hx
        have kG:Hid (ez o picks (j+1) (some st)=some s2):=by rw[HST.o,if_neg hx];exact rfl
        clear HST hx
        go_wp2_with (go_at_call 46;refine Vi.o.mono ?_;rintro e w2 ⟨rfl,hl2⟩;have oa:=ai (Left.trans qp.o WD.o hl2);clear hl2)
        go_roundw
        case rel=>exact⟨j+1,s2,by omega,by go_num,kG.o,oa.o⟩
        case measure=>simp[intOf];omega
    · obtain rfl:j=np:=by omega
      have HR:Hid (RR=(0,some s)):=by have:=lu.o;rw[Tj.o] at this;exact this
      clear lu
      go_wp2
      refine(dz.o _ _).2 ?_
      rw[HR.o]
      obtain⟨_,_,_,_,hkk,_⟩:=HL.o
      exact⟨rfl,hkk,fun s' e=>by injection e with e;rw[<- e];exact HL.o⟩
end GW
namespace GH
open Go.RowKit GK
open GW (aI bR bg cB)
def aZ (f:FM.Fl):GG.St GM.Mf:=⟨⟨f.slots,f.ak⟩,f.procs,f.out⟩
def AB (s:GG.St GM.Mf):FM.Fl:=⟨s.mem.slots,s.mem.ak,s.ps,s.out⟩
def oL:FM.Fl:=⟨0,[],[],[]⟩
def mD (f:FM.Fl) (r:Int×Option (GG.St GM.Mf)):FM.Fl×Int :=
 if ¬FM.cT f=0 then (oL,FM.cT f) else if ¬r.1=0 then (oL,r.1) else match r.2 with
  | none=>(oL,r.1)
  | some s=>(AB s,0)
def l6 (f:FM.Fl) (picks:List Int):FM.Fl×Int:=mD f (GG.tV GM.aQ (aZ f) picks)
def qR (ps:List PM.Pr):Prop:=∀k,k<ps.length->GG.oc (FM.au ps k)
theorem counts_of {f:FM.Fl} (h:FM.cT f=0):(1<=f.ak.length/\f.ak.length<=4)/\f.procs.length=f.ak.length/\(0<=f.slots/\f.slots<=512)/\f.out.length<=2000:=by
 unfold FM.cT at h
 by_cases c:FM.ct f=false
 · rw[if_pos c] at h;cases h
 · have c:FM.ct f=true:=by cases e:FM.ct f;exact(c e).elim;rfl
   unfold FM.ct at c
   simp only[Bool.and_eq_true,decide_eq_true_eq] at c
   exact c
theorem lF {f:FM.Fl} (h:FM.cT f=0):FM.gF f=true/\FM.iE f=true:=by
 unfold FM.cT at h
 by_cases c:FM.ct f=false
 · rw[if_pos c] at h;cases h
 · rw[if_neg c] at h
   by_cases d:(FM.gF f&&FM.iE f)=true
   · simpa using d
   · rw[if_neg d] at h;cases h
theorem Bo {f:FM.Fl} (h:FM.cT f=0) (hf:qR f.procs):GG.lZ GM.qy (aZ f):=by
 obtain⟨c1,c2,c3,c4⟩:=counts_of h
 obtain⟨h1,h2⟩:=lF h
 unfold FM.gF at h1
 unfold FM.iE at h2
 simp only[Bool.and_eq_true,decide_eq_true_eq,List.all_eq_true,List.mem_range] at h1 h2
 obtain⟨h1,hroom⟩:=h1
 obtain⟨h2,h3⟩:=h2
 have hsp:∀k,k<f.ak.length->FM.ax f.ak k∈f.ak:=fun k hk=>by
  unfold FM.ax
  rw[List.getD_eq_getElem?_getD,List.getElem?_eq_getElem hk]
  exact List.getElem_mem hk
 refine⟨⟨?_,fun k hk=>h1 _ (hsp k hk),hroom,c3,c1⟩,hf,fun k hk=>(h2 k hk).1,h3,c4⟩
 show GG.running f.procs=f.ak.map (·.live)
 unfold GG.running
 apply List.ext_getElem
 · rw[List.length_map,List.length_map,c2]
 · intro k hk1 hk2
   rw[List.length_map] at hk1 hk2
   rw[List.getElem_map,List.getElem_map]
   have:=(h2 k hk1).2
   unfold FM.Dh FM.ax FM.au at this
   rw[List.getD_eq_getElem?_getD,List.getElem?_eq_getElem hk2,List.getD_eq_getElem?_getD,List.getElem?_eq_getElem hk1] at this
   have e:=eq_of_beq this
   exact e.symm
theorem H8 {w:World} {ao:Option Addr} {l:List PM.Pr} (h:FW.yu w ao l):From w ao l.length (l.flatMap aI):=fun hm=>by
 obtain⟨b,off,rfl,hb,hl⟩:=h hm
 refine⟨_,rfl,fun j u hu=>?_⟩
 have hlen:=bC aI 13 bg l
 have hj:j<l.length*13:=by rw[<- hlen];exact(List.getElem?_eq_some_iff.1 hu).1
 have hi:j/13<l.length:=by omega
 have hr:j%13<13:=Nat.mod_lt _ (by omega)
 have he:j=j/13*13+j%13:=by omega
 obtain⟨i,hi0⟩:=ex (j/13)
 obtain⟨r,oF⟩:=ex (j%13)
 rw[<- hi0,<- oF] at he
 rw[<- hi0] at hi
 rw[<- oF] at hr
 subst he
 rw[jW aI 13 bg FM.vV l i r hi hr] at hu
 obtain⟨c0,c1,c2,c3,c4,c5,c6,c7,c8,c9,c10,c11,c12⟩:=hl i hi
 rw[Addr.add_lit]
 have hx:∀n v,(aI (FM.au l i))[r]?=some u->r=n->(aI (FM.au l i))[n]?=some v->w.cell? (Ad b (off+i*13+n))=some v->w.cell? (Ad b (off+(i*13+r)))=some u:=fun n v h1 h2 h3 h4=>by
  subst h2
  rw[h1] at h3
  injection h3 with h3
  subst h3
  rw[<- Nat.add_assoc]
  exact h4
 have hu':(aI (FM.au l i))[r]?=some u:=hu
 rcases(show r=0∨r=1∨r=2∨r=3∨r=4∨r=5∨r=6∨r=7∨r=8∨r=9∨r=10∨r=11∨r=12 by omega) with e | e | e | e | e | e | e | e | e | e | e | e | e
 · exact hx 0 _ hu' e rfl c0
 · exact hx 1 _ hu' e rfl c1
 · exact hx 2 _ hu' e rfl c2
 · exact hx 3 _ hu' e rfl c3
 · exact hx 4 _ hu' e rfl c4
 · exact hx 5 _ hu' e rfl c5
 · exact hx 6 _ hu' e rfl c6
 · exact hx 7 _ hu' e rfl c7
 · exact hx 8 _ hu' e rfl c8
 · exact hx 9 _ hu' e rfl c9
 · exact hx 10 _ hu' e rfl c10
 · exact hx 11 _ hu' e rfl c11
 · exact hx 12 _ hu' e rfl c12
theorem Hw {w:World} {ao:Option Addr} {l:List FM.Wd} (h:FW.yt w ao l):From w ao l.length (l.flatMap bR):=fun hm=>by
 obtain⟨b,off,rfl,hb,hl⟩:=h hm
 refine⟨_,rfl,fun j u hu=>?_⟩
 have hlen:=bC bR 2 cB l
 have hj:j<l.length*2:=by rw[<- hlen];exact(List.getElem?_eq_some_iff.1 hu).1
 have hi:j/2<l.length:=by omega
 have hr:j%2<2:=Nat.mod_lt _ (by omega)
 have he:j=j/2*2+j%2:=by omega
 obtain⟨i,hi0⟩:=ex (j/2)
 obtain⟨r,oF⟩:=ex (j%2)
 rw[<- hi0,<- oF] at he
 rw[<- hi0] at hi
 rw[<- oF] at hr
 subst he
 rw[jW bR 2 cB FM.Z7 l i r hi hr] at hu
 obtain⟨c0,c1⟩:=hl i hi
 rw[Addr.add_lit]
 have hu':(bR (FM.lA l i))[r]?=some u:=hu
 rcases(show r=0∨r=1 by omega) with e | e
 · subst e
   have h3:some (I (FM.lA l i).proc)=some u:=hu'
   rw[<- h3];exact c0
 · subst e
   have h3:some (I (FM.lA l i).value)=some u:=hu'
   rw[<- h3,<- Nat.add_assoc];exact c1
theorem Ml {w:World} {lo:Nat} {ao:Option Addr} {cap:Nat} {l:List PM.Pr} (h:w.ownsRow lo 70 13 (.slice ao l.length cap) l.length (l.flatMap aI)):FW.yu w ao l:=fun hm=>by
 obtain⟨ov,cap',e,_,hg⟩:=aL h
 injection e with ea _ _
 subst ea
 obtain⟨g,rfl,_,hlt⟩:=hg hm
 refine⟨g,0,rfl,hlt,fun i hi=>?_⟩
 have hc:∀j,j<13->w.cell? (Ad g (i*13+j))=(aI (FM.au l i))[j]?:=fun j hj=>cZ aI bg FM.vV h i j hi hj
 rw[Nat.zero_add]
 exact⟨hc 0 (by omega),hc 1 (by omega),hc 2 (by omega),hc 3 (by omega),hc 4 (by omega),hc 5 (by omega),hc 6 (by omega),hc 7 (by omega),hc 8 (by omega),hc 9 (by omega),hc 10 (by omega),hc 11 (by omega),hc 12 (by omega)⟩
theorem LF {w:World} {lo:Nat} {ao:Option Addr} {cap:Nat} {l:List FM.Wd} (h:w.ownsRow lo 78 2 (.slice ao l.length cap) l.length (l.flatMap bR)):FW.yt w ao l:=fun hm=>by
 obtain⟨ov,cap',e,_,hg⟩:=aL h
 injection e with ea _ _
 subst ea
 obtain⟨g,rfl,_,hlt⟩:=hg hm
 refine⟨g,0,rfl,hlt,fun i hi=>?_⟩
 have hc:∀j,j<2->w.cell? (Ad g (i*2+j))=(bR (FM.lA l i))[j]?:=fun j hj=>cZ bR cB FM.Z7 h i j hi hj
 rw[Nat.zero_add]
 exact⟨hc 0 (by omega),hc 1 (by omega)⟩
theorem Fg (l:List PM.Pr):∀u∈l.flatMap aI,u.oneCell'=true:=fun u hu=>by
 obtain⟨p,_,h⟩:=List.mem_flatMap.1 hu
 simp only[aI,List.mem_cons,List.not_mem_nil,or_false] at h
 rcases h with rfl | rfl | rfl | rfl | rfl | rfl | rfl | rfl | rfl | rfl | rfl | rfl | rfl <;> rfl
theorem LD (l:List FM.Wd):∀u∈l.flatMap bR,u.oneCell'=true:=fun u hu=>by
 obtain⟨p,_,h⟩:=List.mem_flatMap.1 hu
 simp only[bR,List.mem_cons,List.not_mem_nil,or_false] at h
 rcases h with rfl | rfl <;> rfl
end GH
namespace GO
open Go.RowKit GK
open GF (Lc vY bu bH aH eP blk eT eQ dw bl)
open GW (aI bR bg cB)
open FW (ai aB)
theorem mB {N:Nat} {w0 w w':World} {row:Option Nat} (h:Below N w0 w) (hN:N<=w0.heap.size) (g:w.grownBy w' row) (hr:∀k,row=some k->N<=k):Below N w0 w' :=
 h.trans ⟨g.os,g.tape,g.output,g.size,fun b hb=>g.block b (Nat.lt_of_lt_of_le hb (Nat.le_trans hN h.size)) (fun e=>by have:=hr b e.symm;omega)⟩
theorem jB {w w':World} (g:w.grownBy w' none):Below w.heap.size w w':=mB (Below.refl _ _) (Nat.le_refl _) g (fun _ e=>nomatch e)
theorem Mem.PN {lo mb j:Nat} {w:World} {D:Nat->Prop} {sl:Int} {vr vo vr' vo' u:Value} {v:Value} {L:List Lc} {ss:List FM.Sp} (h:Mem lo mb w D sl vr vo v L ss) (hj:(#[I sl,v,vr,vo]:Array Value).setIfInBounds j u=#[I sl,v,vr',vo']):Mem lo mb (w.setCell (Ad mb j) u) D sl vr' vo' v L ss:=by
 have hk:Kp (fun b=>b=mb) w (w.setCell (Ad mb j) u):=Kp.set _ _ _ _ rfl
 exact⟨h.len,by rw[<- hj];exact B.set h.head j u,hk.row h.row (fun g hg e=>h.n1 (e ▸ hg)),fun k hl=>(h.each k hl).kp hk (fun b hb e=>(h.n2 k hl).1 (e ▸ hb)) (fun b hb e=>(h.n2 k hl).2 (e ▸ hb)),h.base,h.n1,h.n2,h.n3,h.n4,h.d1,h.d2,h.d3⟩
theorem Mem.at {lo mb Xg:Nat} {w:World} {D D':Nat->Prop} {sl:Int} {vr vo:Value} {v:Value} {L:List Lc} {ss:List FM.Sp} (h:Mem lo mb w D sl vr vo v L ss) (hh:w.heap[Xg]?=some (.cells #[I sl,v,vr,vo] 30 (0,0))) (hl:lo<=Xg) (hD:D' Xg) (hd:∀b,D b->b≠Xg) (hdd:∀b,D b->D' b):Mem lo Xg w D' sl vr vo v L ss :=
 ⟨h.len,hh,h.row,h.each,hl,fun g=>hd _ (h.d2 _ g) rfl,fun k hk=>⟨fun g=>hd _ (h.d3 k hk _ (.inl g)) rfl,fun g=>hd _ (h.d3 k hk _ (.inr g)) rfl⟩,h.n3,h.n4,hD,fun b hb=>hdd _ (h.d2 b hb),fun k hk b hb=>hdd _ (h.d3 k hk b hb)⟩
def Ap (vr vo:Value) (b:Nat):Prop:=¬blk vr b/\¬blk vo b
structure Fo (lo mb:Nat) (w:World) (f:FM.Fl) (v:Value) (L:List Lc) (vr vo:Value):Prop where
 mem:Mem lo mb w (Ap vr vo) f.slots vr vo v L f.ak
 procs:w.ownsRow lo 70 13 vr f.procs.length (f.procs.flatMap aI)
 words:w.ownsRow lo 78 2 vo f.out.length (f.out.flatMap bR)
 apart:∀b,blk vr b->¬blk vo b
theorem Fo.kp {lo mb:Nat} {w w':World} {E:Nat->Prop} {f:FM.Fl} {v:Value} {L:List Lc} {vr vo:Value} (h:Fo lo mb w f v L vr vo) (hk:Kp E w w') (hd:∀b,E b->b<lo∨w.heap.size<=b):Fo lo mb w' f v L vr vo:=by
 have hm:=h.mem.dom (D':=fun b=>lo<=b/\b<w.heap.size/\Ap vr vo b) (fun b h1 h2 h3=>⟨h1,h2,h3⟩)
 refine⟨(hm.kp hk (fun b hb g=>?_)).dom (fun b _ _ hb=>hb.2.2),hk.row h.procs (fun g hg e=>?_),hk.row h.words (fun g hg e=>?_),h.apart⟩
 · have:=hd b g;omega
 · have:=hd g e;have:=h.procs.lt g hg;omega
 · have:=hd g e;have:=h.words.lt g hg;omega
theorem Fo.below {lo mb:Nat} {w w':World} {f:FM.Fl} {v:Value} {L:List Lc} {vr vo:Value} (h:Fo lo mb w f v L vr vo) (hb:Below w.heap.size w w'):Fo lo mb w' f v L vr vo:=h.kp (Kp.aF (D:=fun _=>False) hb) (fun _ g=>g.elim)
theorem Fo.has {lo mb:Nat} {w:World} {f:FM.Fl} {v:Value} {L:List Lc} {vr vo:Value} (h:Fo lo mb w f v L vr vo):∃az ar ao cs cr co,v=.slice az f.ak.length cs/\vr=.slice ar f.procs.length cr/\vo=.slice ao f.out.length co/\FW.fK w f az ar ao:=by
 obtain⟨az,cs,hv,hs⟩:=h.mem.has
 obtain⟨ar,cr,hr,_,_⟩:=aL h.procs
 obtain⟨ao,co,ho,_,_⟩:=aL h.words
 refine⟨az,ar,ao,cs,cr,co,hv,hr,ho,hs,?_,?_⟩
 · have:=h.procs
   rw[hr] at this
   exact GH.Ml this
 · have:=h.words
   rw[ho] at this
   exact GH.LF this
theorem UZ {ob:Nat} {wr w1 w2:World} {sl:Int} {v vr vo:Value} {L:List Lc} {ss:List FM.Sp} {ps:List PM.Pr} {os:List FM.Wd} (hm:Mem ob ob wr (fun b=>ob<=b/\b<wr.heap.size) sl Nl Nl v L ss)
  (g1:wr.grownBy w1 none) (hr:w1.ownsRow ob 70 13 vr ps.length (ps.flatMap aI)) (ha:vr.ownBlock=none∨vr.ownBlock=some wr.heap.size)
  (g2:(w1.setCell (Ad ob 2) vr).grownBy w2 none) (ho:w2.ownsRow ob 78 2 vo os.length (os.flatMap bR)) (hb:vo.ownBlock=none∨vo.ownBlock=some (w1.setCell (Ad ob 2) vr).heap.size) :
  Fo ob ob (w2.setCell (Ad ob 3) vo) ⟨sl,ss,ps,os⟩ v L vr vo:=by
 have Ct:=B.isLt hm.head
 have b1:=jB g1
 have b2:=jB g2
 have z1:(w1.setCell (Ad ob 2) vr).heap.size=w1.heap.size:=by simp
 rw[z1] at hb
 have s1:=b1.size
 have s2:=b2.size
 rw[z1] at s2
 have nu:∀b,blk vr b->b=wr.heap.size:=fun b g=>by
  have g':vr.ownBlock=some b:=g
  rcases ha with e | e
  · rw[e] at g';cases g'
  · rw[e] at g';injection g' with g';exact g'.symm
 have MZ:∀b,blk vo b->b=w1.heap.size:=fun b g=>by
  have g':vo.ownBlock=some b:=g
  rcases hb with e | e
  · rw[e] at g';cases g'
  · rw[e] at g';injection g' with g';exact g'.symm
 have hap:∀b,blk vr b->¬blk vo b:=fun b x y=>by
  have h1:=nu b x
  have h2:=MZ b y
  have h3:=(hr.lt b x).2
  omega
 have m1:=(hm.below b1).PN (j:=2) (u:=vr) (vr':=vr) (vo':=Nl) rfl
 have m2:=(m1.below b2).PN (j:=3) (u:=vo) (vr':=vr) (vo':=vo) rfl
 refine⟨m2.dom (fun b h1 h2 hD=>⟨fun g=>?_,fun g=>?_⟩),?_,?_,hap⟩
 · have:=nu b g;omega
 · have:=MZ b g;omega
 · have k1:Kp (fun b=>b=ob) w1 (w1.setCell (Ad ob 2) vr):=Kp.set _ _ _ _ rfl
   have k2:Kp (fun b=>b=ob) w2 (w2.setCell (Ad ob 3) vo):=Kp.set _ _ _ _ rfl
   have hn:∀g,vr.ownBlock=some g->¬g=ob:=fun g hg e=>by have:=nu g hg;omega
   exact k2.row (Kp.row (Kp.aF (D:=fun _=>False) b2) (k1.row hr hn) (fun _ _ g=>g)) hn
 · have k2:Kp (fun b=>b=ob) w2 (w2.setCell (Ad ob 3) vo):=Kp.set _ _ _ _ rfl
   exact k2.row ho (fun g hg e=>by have:=MZ g hg;omega)
end GO
namespace GH
open Go.RowKit GK
def tY (s:LM.Sh):FM.Pg:=⟨s.page,(LM.ou s).1⟩
def Qb (l:List AM.Ar) (hs:List LM.Sh) (en slots:Int):FM.Fl×Int :=
 if ¬LM.lO l hs en=0 then (oL,LM.lO l hs en) else if ¬(0<=slots/\slots<=512) then (oL,3) else if slots<AM.br l then (oL,8)
 else (⟨slots,[⟨true,l,hs.map tY⟩],[FW.pI en],[]⟩,0)
theorem JH (p:Int):∀n,FM.run p n=(List.range n).map (fun m:Nat=>p+(m:Int)):=fun n=>by
 induction n with
 | zero=>rfl
 | succ n ih=>rw[FM.jV,ih,List.range_succ,List.map_append];rfl
theorem xe (l:List AM.Ar):LM.bk l=FM.bk l:=by
 have:∀n,n<=l.length->LM.bN l n=FM.bN l n:=fun n=>by
  induction n with
  | zero=>intro _;unfold FM.bN;rfl
  | succ n ih =>
   intro h
   rw[FM.iZ l n (by omega),<- ih (by omega),JH]
   rfl
 unfold LM.bk
 rw[this l.length (Nat.le_refl _)]
 unfold FM.bN
 rw[List.take_length]
theorem u9 {l:List AM.Ar} {hs:List LM.Sh} {en:Int} (h:LM.lO l hs en=0):AM.aD l=0/\hs.map (·.page)=LM.bk l/\(∀i,i<hs.length->LM.fq (LM.gm hs i)=true):=by
 unfold LM.lO at h
 by_cases c:AM.aD l=0
 · rw[if_pos c] at h
   by_cases d:(!LM.iu l&&(LM.eX l hs&&(LM.mj hs&&LM.Gr l en)))=true
   · simp only[Bool.and_eq_true] at d
     refine⟨c,?_,?_⟩
     · have:=d.2.1
       unfold LM.eX at this
       exact of_decide_eq_true this
     · exact LM.uC hs hs.length d.2.2.1
   · rw[if_neg d] at h;cases h
 · rw[if_neg c] at h;exact(c h).elim
theorem E2 {l:List AM.Ar} {hs:List LM.Sh} {en:Int} (h:LM.lO l hs en=0):(hs.length:Int)=AM.br l/\hs.length<=65025:=by
 obtain⟨h1,h2,_⟩:=u9 h
 have e:hs.length=(FM.bk l).length:=by rw[<- xe,<- h2,List.length_map]
 have t:=FM.mg h1
 have b:=FW.gB l
 omega
theorem Ki {en:Int} (he:M.dF en):qR [FW.pI en]:=fun k hk=>by
 have hk':k<1:=hk
 obtain rfl:k=0:=by omega
 exact⟨fun j _=>by show M.dF 0;unfold M.dF;omega,he⟩
end GH
namespace GR
open Go.RowKit GK GH
open FW (ai aB)
def lL (l:List FM.Sp):Nat->Int
 | 0=>0
 | k+1=>lL l k+((FM.ax l k).aj.length:Int)
theorem J9 {l:List FM.Sp} (h:∀k,k<l.length->FM.aU (FM.ax l k)=true):∀n,n<=l.length->lL l n=FM.eU l n:=fun n=>by
 induction n with
 | zero=>intro _;rfl
 | succ n ih =>
  intro hn
  show lL l n+((FM.ax l n).aj.length:Int)=FM.eU l n+AM.br (FM.ax l n).aw
  rw[ih (by omega)]
  have hr:=h n (by omega)
  cases hl:(FM.ax l n).live with
  | true =>
   have:=GM.ed (GM.gp hr hl)
   omega
  | false =>
   unfold FM.aU at hr
   rw[hl] at hr
   simp only[Bool.false_eq_true,if_false,Bool.and_eq_true,decide_eq_true_eq] at hr
   have ha:(FM.ax l n).aw=[]:=List.length_eq_zero_iff.1 hr.1
   rw[ha,hr.2]
   rfl
theorem sW (f:FM.Fl) (az ar ao:Option Addr) (cs cr co:Nat) (w:World) (h:FW.vN w az f.ak) (hn:f.ak.length<=4) (hp:∀k,k<f.ak.length->(FM.ax f.ak k).aj.length<=100000) :
  Calls Tryz.prog 84 #[.agg (FW.bw f az ar ao cs cr co)] w fun e w'=>e=.returned (I (lL f.ak f.ak.length))/\Below w.heap.size w w':=by
 have HH:=ai h
 have Ek:=ai hp
 have HHS:Hid (∀k,lL f.ak (k+1)=lL f.ak k+((FM.ax f.ak k).aj.length:Int)):=fun k=>rfl
 have qQ:Hid (∀k,k<=f.ak.length->0<=lL f.ak k/\lL f.ak k<=100000*(k:Int)):=fun k=>by
  induction k with
  | zero=>intro _;exact⟨Int.le_refl _,Int.le_refl _⟩
  | succ k ih =>
   intro hk
   have h1:=ih (by omega)
   have h2:=hp k (by omega)
   rw[HHS.o]
   omega
 unfold FW.bw
 obtain⟨ss,XD⟩:=ex f.ak
 rw[<- XD] at HH Ek HHS qQ hn ⊢
 obtain⟨np,fB⟩:=ex f.procs.length
 obtain⟨no,hno⟩:=ex f.out.length
 obtain⟨sl,hsl⟩:=ex f.slots
 rw[<- fB,<- hno,<- hsl]
 clear h hp fB hno hsl XD
 have cM:=ai ((Below.refl w.heap.size w).alloc (Nat.le_refl _) (.cells #[I sl,.slice az ss.length cs,.slice ar np cr,.slice ao no co] 30))
 have BX:=ai (B.new w #[I sl,.slice az ss.length cs,.slice ar np cr,.slice ao no co] 30)
 go_enter Tryz.func84,Tryz.ntmps84
 go_wp2
 go_loopw [3,4] (fun tv iv wr=>∃k:Nat,k<=ss.length/\iv=I (k:Int)/\tv=I (lL ss k)/\wr=w.alloc (.cells #[I sl,.slice az ss.length cs,.slice ar np cr,.slice ao no co] 30)) (fun _ iv _=>ss.length-(intOf iv).toNat)
 case atStart=>exact⟨0,by omega,rfl,rfl,rfl⟩
 case round =>
  obtain⟨k,hk,rfl,rfl,hw⟩:=hrel
  have HB:Hid (Below w.heap.size w wr):=by rw[hw];exact cM.o
  have hx:wr.heap[w.heap.size]?=some (.cells #[I sl,.slice az ss.length cs,.slice ar np cr,.slice ao no co] 30 (0,0)):=by rw[hw];exact BX.o
  have x1:wr.cell? (Ad w.heap.size 1)=some (.slice az ss.length cs):=B.cell hx 1 rfl
  have HW:=ai hw
  clear hw hx
  by_cases hlt:k<ss.length
  · have jd:(k:Int)<(ss.length:Int):=by omega
    obtain⟨b,off,hao,hbl,bP⟩:=(HH.o.below HB.o) (by omega)
    subst hao
    obtain⟨va,ap,cp,c0,c1,c2,_,_,_⟩:=bP k hlt
    have qI:=qQ.o k hk
    have hpl:=Ek.o k hlt
    have HS:=ai (HHS.o k)
    obtain⟨T,hT⟩:=ex (lL ss k)
    obtain⟨pl,XN⟩:=ex ((FM.ax ss k).aj.length)
    rw[<- hT] at HS qI ⊢
    rw[<- XN] at HS c2 hpl
    clear bP hT XN c0 c1
    go_wp2
    go_roundw
    case rel=>exact⟨k+1,by omega,by go_num,by rw[HS.o],HW.o⟩
    case measure=>simp[intOf];omega
  · obtain rfl:ss.length=k:=by omega
    go_wp2
    go_ret
    exact⟨rfl,HB.o⟩
def jQ (ps:List FM.Pg) (a:Int):Nat->ByteArray
 | 0=>⟨#[]⟩
 | k+1=>jQ ps a k++(GM.rX ps ((a+(k:Int))/16)).extract ((a+(k:Int))%16).toNat (((a+(k:Int))%16+1).toNat)
theorem PZ (ps:List FM.Pg) (p:Int):(FW.xg (FW.cJ p ps)).1=GM.rX ps p:=by
 unfold GM.rX
 cases FW.cJ p ps <;> rfl
theorem BK {ps:List FM.Pg} {a:Int} {n:Nat} (h:∀k,k<n->(GM.rX ps ((a+(k:Int))/16)).size=16):∀k,k<=n->(jQ ps a k).size=k:=fun k=>by
 induction k with
 | zero=>intro _;rfl
 | succ k ih =>
  intro hk
  show(jQ ps a k++_).size=k+1
  rw[ByteArray.size_append,ih (by omega),ByteArray.size_extract,h k (by omega)]
  omega
theorem zi (s:FM.Sp) (va:Value) (ap:Option Addr) (cp:Nat) (a:Int) (n:Nat) (w:World) (sQ:∃ao m c,va=.slice ao m c) (h:FW.iL w ap s.aj) (hl:s.aj.length<=100000) (ha:0<=a) (ha2:a<=100000) (hn:n<=1000) (hz:∀k,k<n->(GM.rX s.aj ((a+(k:Int))/16)).size=16) :
  Calls Tryz.prog 50 #[.agg #[.bool s.live,va,.slice ap s.aj.length cp],I a,I (n:Int)] w fun e w'=>e=.returned (.string (jQ s.aj a n))/\Below w.heap.size w w':=by
 obtain⟨a1,n1,c1,rfl⟩:=sQ
 have yz:Hid (∀V p,Below w.heap.size w V->Calls Tryz.prog 20 #[.agg #[.bool s.live,.slice a1 n1 c1,.slice ap s.aj.length cp],I p] V fun e w'=>∃fo,e=.returned (.tuple #[.string (GM.rX s.aj p),.bool fo])/\Below V.heap.size V w'):=fun V p hV=>by
  refine(FW.sX s.aj p s.live _ ap cp V (h.below hV) (by omega)).mono ?_
  rintro e w' ⟨rfl,hb⟩
  exact⟨_,by rw[PZ],hb⟩
 have HST:Hid (∀k,jQ s.aj a (k+1)=jQ s.aj a k++(GM.rX s.aj ((a+(k:Int))/16)).extract ((a+(k:Int))%16).toNat (((a+(k:Int))%16+1).toNat)):=fun k=>rfl
 have tM:=ai (BK hz)
 have HZ:=ai hz
 obtain⟨lv,hlv⟩:=ex s.live
 obtain⟨ps,hps⟩:=ex s.aj
 rw[<- hlv] at yz ⊢
 rw[<- hps] at yz HST tM HZ ⊢
 obtain⟨pl,hpl⟩:=ex ps.length
 rw[<- hpl] at yz ⊢
 clear h hz hl hlv hps hpl
 have cM:=ai ((Below.refl w.heap.size w).alloc (Nat.le_refl _) (.cells #[.bool lv,.slice a1 n1 c1,.slice ap pl cp] 53))
 have BX:=ai (B.new w #[.bool lv,.slice a1 n1 c1,.slice ap pl cp] 53)
 go_enter Tryz.func50,Tryz.ntmps50
 go_wp2
 go_loopw [7,8] (fun sv iv wr=>∃k:Nat,k<=n/\iv=I (a+(k:Int))/\sv=.string (jQ ps a k)/\wr.heap[w.heap.size]?=some (.cells #[.bool lv,.slice a1 n1 c1,.slice ap pl cp] 53 (0,0))/\Below w.heap.size w wr) (fun _ iv _=>(a+(n:Int)-intOf iv).toNat)
 case atStart=>exact⟨0,by omega,by go_num,rfl,BX.o,cM.o⟩
 case round =>
  obtain⟨k,hk,rfl,rfl,hx,hb⟩:=hrel
  have HB:=ai hb
  have HX:=ai hx
  obtain⟨x0,x1,x2⟩:=B.c3 hx
  by_cases hlt:k<n
  · have Qw:=HZ.o k hlt
    have hsz:=tM.o k hk
    have HS:=ai (HST.o k)
    have mR:=ai (yz.o wr ((a+(k:Int))/16) hb)
    obtain⟨D,hD⟩:=ex (GM.rX ps ((a+(k:Int))/16))
    obtain⟨A,hA⟩:=ex (jQ ps a k)
    rw[<- hD] at HS mR Qw
    rw[<- hA] at HS hsz ⊢
    have hq0:0<=a+(k:Int):=by omega
    have yZ:a+(k:Int)<a+(n:Int):=by omega
    clear hD hA hx hb
    go_wp2_with (go_at_call 20;refine mR.o.mono ?_;rintro e w1 ⟨fo,rfl,hb1⟩;have bj:=ai (HB.o.trans (hb1.mono HB.o.size));have Za:=ai (B.below HX.o hb1 (B.isLt HX.o));clear hb1)
    go_roundw
    case rel=>exact⟨k+1,by omega,by go_num,by rw[HS.o],Za.o,bj.o⟩
    case measure=>simp[intOf];omega
  · obtain rfl:n=k:=by omega
    clear hx hb
    go_wp2
    go_ret
    exact⟨rfl,HB.o⟩
end GR
namespace GR
open Go.RowKit GK GH
theorem yj {x y:ByteArray} (h:x.data.toList=y.data.toList):x=y:=by
 cases x;cases y
 congr 1
 exact Array.toList_inj.1 h
theorem il (x:ByteArray) (i j:Nat):(x.extract i j).data.toList=(x.data.toList.take j).drop i:=by
 rw[ByteArray.data_extract,Array.toList_extract]
 simp[List.extract,List.take_drop]
 by_cases h:i<=j
 · rw[Nat.add_sub_cancel' h]
 · rw[List.drop_eq_nil_of_le (by rw[List.length_take];omega),List.drop_eq_nil_of_le (by rw[List.length_take];omega)]
theorem NJ (x:ByteArray) (i j:Nat) (h:i<=j):x.extract i j++x.extract j (j+1)=x.extract i (j+1):=by
 apply yj
 rw[ByteArray.data_append,Array.toList_append,il,il,il]
 by_cases hj:j<=x.data.toList.length
 · have e:x.data.toList.take (j+1)=x.data.toList.take j++(x.data.toList.take (j+1)).drop j:=by
    have:=List.take_append_drop j (x.data.toList.take (j+1))
    rw[List.take_take,Nat.min_eq_left (by omega)] at this
    exact this.symm
   conv=>rhs;rw[e]
   rw[List.drop_append_of_le_length (by rw[List.length_take];omega)]
 · rw[List.take_of_length_le (by omega),List.take_of_length_le (by omega),show x.data.toList.drop j=[] from List.drop_eq_nil_of_le (by omega),List.append_nil]
theorem GL (J:ByteArray) (o:Nat) (f:Nat->ByteArray) (n:Nat) (h:∀k,k<n->f k=J.extract (o+k) (o+k+1)):∀k,k<=n->(List.range k).foldl (fun s j=>s++f j) (⟨#[]⟩:ByteArray)=J.extract o (o+k):=fun k=>by
 induction k with
 | zero =>
  intro _
  apply yj
  rw[il,List.drop_eq_nil_of_le (by rw[List.length_take];omega)]
  rfl
 | succ k ih =>
  intro hk
  rw[List.range_succ,List.foldl_append,ih (by omega)]
  show J.extract o (o+k)++f k=_
  rw[h k (by omega)]
  exact NJ J o (o+k) (by omega)
theorem BL (ps:List FM.Pg) (a:Int):∀k,jQ ps a k=(List.range k).foldl (fun s (j:Nat)=>s++(GM.rX ps ((a+(j:Int))/16)).extract ((a+(j:Int))%16).toNat (((a+(j:Int))%16+1).toNat)) (⟨#[]⟩:ByteArray):=fun k=>by
 induction k with
 | zero=>rfl
 | succ k ih =>
  rw[List.range_succ,List.foldl_append,<- ih]
  rfl
theorem NK (x y:ByteArray) (j:Nat) (h:j<x.size):(x++y).extract j (j+1)=x.extract j (j+1):=by
 apply yj
 have hx:x.data.toList.length=x.size:=rfl
 rw[il,il,ByteArray.data_append,Array.toList_append,List.take_append_of_le_length (by omega)]
theorem Kn (x y:ByteArray) (j:Nat):(x++y).extract (x.size+j) (x.size+j+1)=y.extract j (j+1):=by
 apply yj
 have hx:x.data.toList.length=x.size:=rfl
 rw[il,il,ByteArray.data_append,Array.toList_append,List.drop_take,List.drop_take,<- hx,List.drop_length_add_append]
 congr 1
 omega
theorem GJ (ps:List FM.Pg) (a:Int) (n:Nat) (ha:0<=a) (hn:1<=n) (QF:n<=8) (hz:∀k,k<n->(GM.rX ps ((a+(k:Int))/16)).size=16):jQ ps a n=GM.ig ps a (n:Int):=by
 unfold GM.ig
 rw[BL]
 refine GL _ _ _ n (fun k hk=>?_) n (Nat.le_refl _)
 unfold GM.eI
 by_cases c:GM.cV a (n:Int)=a/16
 · rw[if_pos c]
   unfold GM.cV at c
   have e1:(a+(k:Int))/16=a/16:=by omega
   have e2:((a+(k:Int))%16).toNat=(a%16).toNat+k:=by omega
   have e3:((a+(k:Int))%16+1).toNat=(a%16).toNat+k+1:=by omega
   rw[e1,e2,e3]
 · rw[if_neg c]
   have h0:=hz 0 (by omega)
   have e0:(a+((0:Nat):Int))/16=a/16:=by omega
   rw[e0] at h0
   unfold GM.cV at c ⊢
   by_cases d:(a%16).toNat+k<16
   · have e1:(a+(k:Int))/16=a/16:=by omega
     have e2:((a+(k:Int))%16).toNat=(a%16).toNat+k:=by omega
     have e3:((a+(k:Int))%16+1).toNat=(a%16).toNat+k+1:=by omega
     rw[e1,e2,e3,NK _ _ _ (by rw[h0];exact d)]
   · have e1:(a+(k:Int))/16=(a+(n:Int)-1)/16:=by omega
     obtain⟨j,hj⟩:∃j,(a%16).toNat+k=16+j:=⟨(a%16).toNat+k-16,by omega⟩
     have e2:((a+(k:Int))%16).toNat=j:=by omega
     have e3:((a+(k:Int))%16+1).toNat=j+1:=by omega
     rw[e1,e2,e3,hj]
     have:=Kn (GM.rX ps (a/16)) (GM.rX ps ((a+(n:Int)-1)/16)) j
     rw[h0] at this
     exact this.symm
end GR
end Go.Proofs.YtkdigjpejnebkaaGreat
