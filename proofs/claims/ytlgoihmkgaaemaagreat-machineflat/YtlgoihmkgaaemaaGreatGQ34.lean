import Derived.Test.YtlgoihmkgaaemaaGreatGQ33
set_option maxHeartbeats 20000000
set_option linter.unusedVariables false
set_option maxRecDepth 100000
set_option linter.unusedSimpArgs false
namespace Go.Proofs.YtlgoihmkgaaemaaGreat
open Go.RowKit Tryz
section
variable {MT:y7} {σ:Type} {Hd:World->(Nat->Prop)->σ->Prop} {Ok:σ->List Bool->Prop} {o:lK σ} {lo mb gb:Nat} {w w':World} {D:Nat->Prop} {vo:Value} {st:dB σ}
theorem fR.awG (C:ja MT lo mb Hd Ok o) {pb n cap:Nat} (h:fR MT Hd lo mb gb w D (.slice (some (Ad pb 0)) n cap) vo st) (k:Nat) (hk:k<st.ps.length) (hn:n=st.ps.length) (x:Int×Int) :
  cV MT Hd lo mb gb w D (.slice (some (Ad pb 0)) n cap) vo { st with ps:=st.ps.set k (Bi (aO st.ps k) x) } (((w.setCell (Ad pb (k*13+9)) (I 3)).setCell (Ad pb (k*13+11)) (I x.1)).setCell (Ad pb (k*13+12)) (I x.2)):=by
 have hb:si (.slice (some (Ad pb 0)) n cap) pb:=rfl;have kS:aH (λb=>b=pb) w (((w.setCell (Ad pb (k*13+9)) (I 3)).setCell (Ad pb (k*13+11)) (I x.1)).setCell (Ad pb (k*13+12)) (I x.2)):=xS w pb _ _ _ _ _ _ rfl;refine⟨D,.slice (some (Ad pb 0)) n cap,vo,⟨kS.keep h.head (λe=>h.n2 (e ▸ hb)),C.kp _ _ _ _ _ h.mem kS (λb hd e=>h.n4 pb hb (e ▸ hd)),?_,kS.row h.outs (λg hg e=>h.n6 pb hb (e ▸ hg)),h.base,h.n1,h.n2,h.n3,h.n4,h.n5,h.n6⟩,kS.mono (λb _ e=>.inr (.inr (.inl (e ▸ hb)))),λb hb=>.inl hb⟩;have hp:=h.procs;rw[<- hn] at hp;show World.ownsRow _ lo _ 13 _ (st.ps.set k _).length _;rw[dE,<- hn];obtain⟨q,hq⟩:=ex (aO st.ps k);rw[<- hq];have h0:(st.ps.set k q).flatMap bO=st.ps.flatMap bO:=CC bO Hz st.ps k q hk (by rw[hq];rfl);rw[<- h0] at hp;have r1:=dJ hp (k*13+9) (I 3);rw[<- jh st.ps k hk q { q with st:=3 } 9 ω _ rfl] at r1;have r2:=dJ r1 (k*13+11) (I x.1);rw[<- jh st.ps k hk { q with st:=3 } { q with st:=3,fk:=x.1 } 11 ω _ rfl] at r2;have r3:=dJ r2 (k*13+12) (I x.2);rw[<- jh st.ps k hk { q with st:=3,fk:=x.1 } { q with st:=3,fk:=x.1,fa:=x.2 } 12 ω _ rfl] at r3;exact r3
end
variable {MT:y7} {σ:Type} {Hd:World->(Nat->Prop)->σ->Prop} {Ok:σ->List Bool->Prop} {o:lK σ} {lo mb gb:Nat} {D:Nat->Prop} {vr vo:Value} {st:dB σ}
theorem ae1 (C:ja MT lo mb Hd Ok o) (pick:Int) (w:World) (h:fR MT Hd lo mb gb w D vr vo st) (hok:ez Ok st) :
  Calls prog 47 #[.pointer (some ⟨gb,0,none⟩),I pick] w λe w'=>e=.returned (I (gN o st pick).1)/\cV MT Hd lo mb gb w D vr vo (gN o st pick).2 w':=by
 have HG:=ai h;have HC:=ai C;have Qk:=ai hok;have Lm:st.ps.length<=4:=by have:=C.ok.few _ _ hok.mem;unfold bY at this;rw[fI] at this;exact this
 obtain⟨ar,cr,S0,_,_⟩:=aZ h.procs;obtain⟨ao,co,Y,_,_⟩:=aZ h.outs;have ad:=ai S0;have an:=ai Y;have q:Hid (gN o st pick=if ¬(0<=pick/\pick<(st.ps.length:Int)) then (6,st) else if ¬(aO st.ps pick.toNat).st=1 then (0,st) else if 2000<=st.out.length then (2,st) else if (oh o st pick.toNat).1.1=0 then (0,(oh o st pick.toNat).2) else (0,{ (oh o st pick.toNat).2 with mem:=o.drop (oh o st pick.toNat).2.mem pick.toNat,ps:=(oh o st pick.toNat).2.ps.set pick.toNat (Bi (aO (oh o st pick.toNat).2.ps pick.toNat) (oh o st pick.toNat).1) })):=rfl;generalize gN o st pick=RR at q ⊢;obtain⟨n,hn⟩:=ex st.ps.length;obtain⟨no,L⟩:=ex st.out.length;rw[<- hn] at S0 Lm q;rw[<- L] at Y q;have HN:=ai hn;have sk:=ai L;have ay:no<=2000:=by rw[L];exact hok.out
 subst S0 Y;obtain⟨g0,g1,g2⟩:=zn h.head;clear hn L ad an;by_cases hp0:pick<0
 . have HR:Hid (RR=(6,st)):=by rw[q.o,aC ω];exact rfl
   clear q h C hok;go_enter func47,ntmps47;go_wp2;go_ret;rw[HR.o];exact⟨rfl,cV.refl HG.o⟩
 by_cases hp1:(n:Int)<=pick
 . have HR:Hid (RR=(6,st)):=by rw[q.o,aC ω];exact rfl
   clear q h C hok;go_enter func47,ntmps47;go_wp2;go_ret;rw[HR.o];exact⟨rfl,cV.refl HG.o⟩
 obtain⟨k,rfl⟩:∃k:Nat,pick=(k:Int):=⟨pick.toNat,ω⟩;have hk:k<n:=by omega
 have B:k<st.ps.length:=by rw[<- HN.o];exact hk
 obtain⟨pb,cap,S0,aF,a3,a5⟩:=h.proc k B;injection S0 with e1 e2 e3;subst e1 e3;clear e2;have Xz:=ai a3;have aR:=ai a5;have C2:(k:Int)<(n:Int):=by omega
 have a1:=q.o;rw[aB ω,jW] at a1;have Gh:=ai a1;obtain⟨s9,N⟩:=ex ((aO st.ps k).st);have c9:w.cell? ⟨pb,(k*13+9),none⟩=some (I s9):=by rw[N];exact a3 9 ω
 rw[<- N] at Gh;have ag:=ai N;clear q a1 a3 a5 N;by_cases hs1:s9=1
 . subst hs1;have h1:(aO st.ps k).st=1:=ag.o.symm;by_cases ho2:2000<=no
   . have HR:Hid (RR=(2,st)):=by rw[Gh.o,aB (λg=>g rfl),aC ho2];exact rfl
     have ac:(2000:Int)<=(no:Int):=by omega
     clear Gh h C hok ho2;go_enter func47,ntmps47;go_wp2;go_ret;rw[HR.o];exact⟨rfl,cV.refl HG.o⟩
   have ac:¬(2000:Int)<=(no:Int):=by omega
   have J:=ai (akQ C k w h hok B h1);have F:=ai (Ni C.ok hok (by rw[<- sk.o];omega) k B h1);have A:Hid (RR=if (oh o st k).1.1=0 then (0,(oh o st k).2) else (0,{ (oh o st k).2 with mem:=o.drop (oh o st k).2.mem k,ps:=(oh o st k).2.ps.set k (Bi (aO (oh o st k).2.ps k) (oh o st k).1) })):=by rw[Gh.o,aB (λg=>g rfl),aB ho2];exact rfl
   generalize oh o st k=X at J F A;obtain⟨⟨X1,X2⟩,s2⟩:=X;unfold eI at J;simp only at J F A;clear Gh h C hok ho2;by_cases hX1:X1=0
   . subst hX1;have HR:Hid (RR=(0,s2)):=by rw[A.o,aC rfl];exact rfl
     clear A;go_enter func47,ntmps47;go_wp2_with (go_at_call 96;refine J.o.mono ?_;rintro e w1 ⟨rfl,ZK⟩;have ae:=ai ZK;clear ZK);go_ret;rw[HR.o];exact⟨rfl,ae.o.more HC.o ((aN _ _).alloc (aK _) _)⟩
   have HR:Hid (RR=(0,{ s2 with mem:=o.drop s2.mem k,ps:=s2.ps.set k (Bi (aO s2.ps k) (X1,X2)) })):=by rw[A.o,aB hX1];exact rfl
   have ap:(X1==0)=false:=by rw[gT];exact hX1
   have y:s2.ps=st.ps:=F.o.same hX1;have a7:ez Ok s2:=F.o.ok;have a8:(bY s2.ps).getD k false=true:=by rw[y];exact lY k B h1
   have aj:=ai a7;have al:=ai a8;have a2:=ai y;have hm:=MT.aiZ ⟨mb,0,none⟩;have ha:=MT.ajp ⟨mb,0,none⟩;have az:=MT.ajn;clear A y a7 a8 hX1 F;go_enter func47,ntmps47;go_wp2_with (first
    | (go_at_call 96;refine J.o.mono ?_;rintro e w1 ⟨rfl,ZK⟩;obtain⟨D1,r1,o1,K,aa,a6⟩:=ZK;have Z:=ai K;have Nc:=ai aa;have ah:=ai a6;have a4:=ai ((aN w1.heap.size w1).alloc (aK _) (.cells #[I X1,I X2] 75));have x0:=aA (v:=.iface MT.T (.pointer (some ⟨mb,0,none⟩))) K.head 0 rfl;have av:(w1.alloc (.cells #[I X1,I X2] 75)).cell? ⟨gb,0,none⟩=some (.iface MT.T (.pointer (some ⟨mb,0,none⟩))):=aA (bu K.head _) 0 rfl;clear K aa a6)
    | ((with_reducible refine(HC.o.drop _ D1 s2.mem _ k (Z.o.below HC.o a4.o).mem aj.o.mem al.o).mono ?_);rintro e w2 ⟨D2,rfl,a9,O,U⟩;have W:=ai ((Z.o.below HC.o a4.o).turn HC.o a9 O U);have uD:=ai O;have am:=ai U;have DY:=ai (O.keep (bH w1 #[I X1,I X2] 75) (λg=>(by have:=HC.o.dom _ _ _ Z.o.mem _ g;omega)));clear a9 O U))
   obtain⟨G,R,ab,aG,M,Q⟩:=W.o.proc k (by show k<s2.ps.length;rw[a2.o];exact B);have a0:s2.ps.length=n:=by rw[a2.o];exact HN.o.symm
   have af:r1=.slice (some ⟨G,0,none⟩) n R:=by rw[ab];show Value.slice _ s2.ps.length _=_;rw[a0]
   subst af;have x1:w2.cell? ⟨gb,1,none⟩=some (.slice (some ⟨G,0,none⟩) n R):=aA W.o.head 1 rfl;have z0:=aA (v:=I X1) DY.o 0 rfl;have z1:=aA (v:=I X2) DY.o 1 rfl;have d9:w2.cell? ⟨G,(k*13+9),none⟩=some (I (aO s2.ps k).st):=M 9 ω;have aP:w2.cell? ⟨G,(k*13+11),none⟩=some (I (aO s2.ps k).fk):=M 11 ω;have aE:w2.cell? ⟨G,(k*13+12),none⟩=some (I (aO s2.ps k).fa):=M 12 ω;have f9:=Q (k*13+9);have aL:=Q (k*13+11);have au:=Q (k*13+12);have DW:=ai a0;clear ab M Q a0;go_region
   all_goals
    go_wp2;go_ret;rw[HR.o];have hs:=(W.o.awG HC.o k (by show k<s2.ps.length;rw[a2.o];exact B) (by show n=s2.ps.length;rw[DW.o]) (X1,X2)).more HC.o (aN _ _).drew;refine⟨rfl,cV.trans Nc.o ah.o (cV.after a4.o (cV.trans (uD.o.mono (λb _ g=>.inr (.inl g))) (λb hb=>?_) hs))⟩;rcases hb with g | g | g | g
    . exact .inl (.inl g)
    . rcases am.o b g with x | x
      . exact .inl (.inr (.inl x))
      exact .inr x
    . exact .inl (.inr (.inr (.inl g)))
    exact .inl (.inr (.inr (.inr g)))
 have HR:Hid (RR=(0,st)):=by rw[Gh.o,aC hs1];exact rfl
 have aw:(s9==1)=false:=by rw[gT];exact hs1
 clear Gh h C hok hs1;go_enter func47,ntmps47;go_wp2;go_ret;rw[HR.o];exact⟨rfl,cV.refl HG.o⟩
def rI (w:World) (ao:Option Addr) (l:List Int):Prop:=0<l.length->∃b off,ao=some (Ad b off)/\b<w.heap.size/\∀i,i<l.length->w.cell? (Ad b (off+i))=some (I (l.getD i 0))
def wA (MT:y7) (Hd:World->(Nat->Prop)->σ->Prop) (lo mb gb:Nat) (w:World) (D:Nat->Prop) (vr vo:Value) (r:Int×Option (dB σ)) (e:Ending) (w':World):Prop:=e=.returned (I r.1)/\aH (kM gb D vr vo) w w'/\∀s,r.2=some s->cV MT Hd lo mb gb w D vr vo s w'
theorem Wq (C:ja MT lo mb Hd Ok o) (picks:List Int) (ap:Option Addr) (cp:Nat) (w:World) (h:fR MT Hd lo mb gb w D vr vo st) (hok:ez Ok st) (hp:rI w ap picks) (hps:0<picks.length->∀b,ap=some b->¬kM gb D vr vo b.block) (hpn:picks.length<=140737488351232) :
  Calls prog 62 #[.pointer (some ⟨gb,0,none⟩),.slice ap picks.length cp] w (wA MT Hd lo mb gb w D vr vo (qc o st picks)):=by
 have HG:=ai h;have HC:=ai C;have Qk:=ai hok;have HP:=ai hp;have W:=ai hps;have y:Hid (qc o st picks=if 2000<picks.length then ((2:Int),none) else match fq o picks picks.length (some st) with | none=>(2,none) | some s=>(0,some s)):=rfl;have Tu:Hid (∀n s,fq o picks n (some st)=some s->fq o picks (n+1) (some st)=if (gN o s (picks.getD n 0)).1=2 then none else some (gN o s (picks.getD n 0)).2):=λn s e=>by
  show(match fq o picks n (some st) with | none=>none | some s=>if (gN o s (picks.getD n 0)).1=2 then none else some (gN o s (picks.getD n 0)).2)=_;rw[e]
 have L:Hid (∀n,fq o picks n (some st)=none->∀m,n<=m->fq o picks m (some st)=none):=λn e m hm=>by
  induction m with
  | zero => obtain rfl:n=0 := by omega
            exact e
  | succ m ih =>
   by_cases c:n=m+1
   . subst c;exact e
   show(match fq o picks m (some st) with | none=>none | some s=>if (gN o s (picks.getD m 0)).1=2 then none else some (gN o s (picks.getD m 0)).2)=_;rw[ih ω]
 have U:=ai (yn C.ok hok picks);have Q:Hid (fq o picks 0 (some st)=some st):=rfl;generalize qc o st picks=RR at y ⊢;obtain⟨np,C0⟩:=ex picks.length;rw[<- C0] at y hpn ⊢;have J:=ai C0;have fV:Hid (∀e w',wA MT Hd lo mb gb w D vr vo RR e w'↔(e=.returned (I RR.1)/\aH (kM gb D vr vo) w w'/\∀s,RR.2=some s->cV MT Hd lo mb gb w D vr vo s w')):=λe w'=>Iff.rfl
 generalize wA MT Hd lo mb gb w D vr vo RR=P at fV ⊢;clear C0 h C hok hp hps;by_cases hbig:2000<np
 . have HR:Hid (RR=(2,none)):=by rw[y.o,aC hbig];exact rfl
   have Z:(2000:Int)<(np:Int):=by omega
   clear y Tu L U Q hbig;go_enter func62,ntmps62;go_wp2;refine(fV.o _ _).2 ?_;rw[HR.o];exact⟨rfl,aH.refl _ _,λs e=>by cases e⟩
 have Z:¬(2000:Int)<(np:Int):=by omega
 have Fm:Hid (RR=match fq o picks np (some st) with | none=>((2:Int),none) | some s=>(0,some s)):=by have:=y.o;rw[aB hbig] at this;exact this
 clear y;go_enter func62,ntmps62;go_wp2;go_loopw [12] (λiv wr=>∃(j:Nat) (s:dB σ),j<=np/\iv=I (j:Int)/\fq o picks j (some st)=some s/\cV MT Hd lo mb gb w D vr vo s wr) (λiv _=>np-(intOf iv).toNat)
 case atStart=>exact⟨0,st,ω,rfl,Q.o,cV.refl HG.o⟩
 case round =>
  obtain⟨j,s,hj,rfl,F,hl⟩:=hrel;have T:=ai F;have HL:=ai hl;have a1:=ai (U.o j s F);obtain⟨D1,r1,o1,M,R,O⟩:=hl;have Y:=ai M;have Nc:=ai R;have N:=ai O;clear F M R O;by_cases hlt:j<np
  . obtain⟨b,off,a0,a5,A⟩:=HP.o (by rw[<- J.o];omega);subst a0;have a2:wr.cell? ⟨b,(off+j),none⟩=some (I (picks.getD j 0)):=Nc.o.cell (A j (by rw[<- J.o];exact hlt)) (W.o (by rw[<- J.o];omega) ⟨b,off,none⟩ rfl);have q:=ai (Tu.o j s T.o);generalize picks.getD j 0=pk at a2 q;have G:=ai (ae1 HC.o pk wr Y.o a1.o);generalize gN o s pk=X at q G;obtain⟨x1,s2⟩:=X;simp only at q G;have a3:(j:Int)<(np:Int):=by omega
    clear A;by_cases hx:x1=2
    . subst hx;have sk:=ai (L.o (j+1) (by rw[q.o,aC rfl]) np ω);have HR:Hid (RR=(2,none)):=by have:=Fm.o;rw[sk.o] at this;exact this
      clear q Fm sk;go_wp2_with (go_at_call 47;refine G.o.mono ?_;rintro e w2 ⟨rfl,B⟩;have DW:=ai (cV.trans Nc.o N.o B);clear B);refine(fV.o _ _).2 ?_;rw[HR.o];obtain⟨_,_,_,_,K,_⟩:=DW.o;exact⟨rfl,K,λs e=>by cases e⟩
    have a4:(x1==2)=false:=by rw[gT];exact hx
    have zB:Hid (fq o picks (j+1) (some st)=some s2):=by rw[q.o,aB hx];exact rfl
    clear q hx;go_wp2_with (go_at_call 47;refine G.o.mono ?_;rintro e w2 ⟨rfl,B⟩;have DW:=ai (cV.trans Nc.o N.o B);clear B);go_roundw
    case rel=>exact⟨j+1,s2,ω,by go_num,zB.o,DW.o⟩
    case measure=>simp[intOf];omega
  obtain rfl:j=np:=by omega
  have HR:Hid (RR=(0,some s)):=by have:=Fm.o;rw[T.o] at this;exact this
  clear Fm;go_wp2;refine(fV.o _ _).2 ?_;rw[HR.o];obtain⟨_,_,_,_,K,_⟩:=HL.o;exact⟨rfl,K,λs' e=>by injection e with e;rw[<- e];exact HL.o⟩
open Go.RowKit
theorem Ws {w:World} {ao:Option Addr} {l:List bT} (h:xK w ao l):qK w ao l.length (l.flatMap bO):=λhm=>by
 obtain⟨b,off,rfl,hb,hl⟩:=h hm;refine⟨_,rfl,λj u hu=>?_⟩;have hlen:=fp bO 13 se l;have hj:j<l.length*13:=by rw[<- hlen];exact(aa1.1 hu).1
 have hi:j/13<l.length:=by omega
 have hr:j%13<13:=Nat.mod_lt _ ω;have he:j=j/13*13+j%13:=by omega
 obtain⟨r,S4⟩:=ex (j%13);generalize j/13=i at he hi;rw[<- S4] at he;rw[<- S4] at hr;subst he;rw[Bh bO 13 se Hz l i r hi hr] at hu;obtain⟨c0,c1,c2,c3,c4,c5,c6,c7,c8,c9,B,y,A⟩:=hl i hi;rw[Cj];have hx:∀n v,(bO (aO l i))[r]?=some u->r=n->(bO (aO l i))[n]?=some v->w.cell? (Ad b (off+i*13+n))=some v->w.cell? (Ad b (off+(i*13+r)))=some u:=λn v h1 h2 h3 h4=>by
  subst h2;rw[h1] at h3;injection h3 with h3;subst h3;rw[<- Cg];exact h4
 have q:(bO (aO l i))[r]?=some u:=hu;rcases(ω:r=0\/r=1\/r=2\/r=3\/r=4\/r=5\/r=6\/r=7\/r=8\/r=9\/r=10\/r=11\/r=12) with e | e | e | e | e | e | e | e | e | e | e | e | e
 . exact hx 0 _ q e rfl c0
 . exact hx 1 _ q e rfl c1
 . exact hx 2 _ q e rfl c2
 . exact hx 3 _ q e rfl c3
 . exact hx 4 _ q e rfl c4
 . exact hx 5 _ q e rfl c5
 . exact hx 6 _ q e rfl c6
 . exact hx 7 _ q e rfl c7
 . exact hx 8 _ q e rfl c8
 . exact hx 9 _ q e rfl c9
 . exact hx 10 _ q e rfl B
 . exact hx 11 _ q e rfl y
 exact hx 12 _ q e rfl A
theorem Wp {w:World} {ao:Option Addr} {l:List uN} (h:zj w ao l):qK w ao l.length (l.flatMap kH):=λhm=>by
 obtain⟨b,off,rfl,hb,hl⟩:=h hm;refine⟨_,rfl,λj u hu=>?_⟩;have hlen:=fp kH 2 xg l;have hj:j<l.length*2:=by rw[<- hlen];exact(aa1.1 hu).1
 have hi:j/2<l.length:=by omega
 have hr:j%2<2:=Nat.mod_lt _ ω;have he:j=j/2*2+j%2:=by omega
 obtain⟨r,S4⟩:=ex (j%2);generalize j/2=i at he hi;rw[<- S4] at he;rw[<- S4] at hr;subst he;rw[Bh kH 2 xg aiP l i r hi hr] at hu;obtain⟨c0,c1⟩:=hl i hi;rw[Cj];have q:(kH (qM l i))[r]?=some u:=hu;rcases(ω:r=0\/r=1) with e | e
 . subst e;have h3:some (I (qM l i).proc)=some u:=q;rw[<- h3];exact c0
 subst e;have h3:some (I (qM l i).value)=some u:=q;rw[<- h3,<- Cg];exact c1
theorem aai {w:World} {lo:Nat} {ao:Option Addr} {cap:Nat} {l:List bT} (h:w.ownsRow lo 77 13 (.slice ao l.length cap) l.length (l.flatMap bO)):xK w ao l:=λhm=>by
 obtain⟨Fl,cap',e,_,hg⟩:=aZ h;injection e with ea _ _;subst ea;obtain⟨g,rfl,_,hlt⟩:=hg hm;refine⟨g,0,rfl,hlt,λi hi=>?_⟩;have hc:∀j,j<13->w.cell? (Ad g (i*13+j))=(bO (aO l i))[j]?:=λj hj=>gw bO se Hz h i j hi hj
 rw[nj];exact⟨hc 0 ω,hc 1 ω,hc 2 ω,hc 3 ω,hc 4 ω,hc 5 ω,hc 6 ω,hc 7 ω,hc 8 ω,hc 9 ω,hc 10 ω,hc 11 ω,hc 12 ω⟩
theorem aag {w:World} {lo:Nat} {ao:Option Addr} {cap:Nat} {l:List uN} (h:w.ownsRow lo 91 2 (.slice ao l.length cap) l.length (l.flatMap kH)):zj w ao l:=λhm=>by
 obtain⟨Fl,cap',e,_,hg⟩:=aZ h;injection e with ea _ _;subst ea;obtain⟨g,rfl,_,hlt⟩:=hg hm;refine⟨g,0,rfl,hlt,λi hi=>?_⟩;have hc:∀j,j<2->w.cell? (Ad g (i*2+j))=(kH (qM l i))[j]?:=λj hj=>gw kH xg aiP h i j hi hj
 rw[nj];exact⟨hc 0 ω,hc 1 ω⟩
theorem aah (l:List bT):∀u∈l.flatMap bO,u.oneCell'=true:=λu hu=>by
 obtain⟨p,_,h⟩:=vO.1 hu;simp only[bO,qZ,Ci,Kv] at h;rcases h with rfl | rfl | rfl | rfl | rfl | rfl | rfl | rfl | rfl | rfl | rfl | rfl | rfl <;> rfl
theorem aaf (l:List uN):∀u∈l.flatMap kH,u.oneCell'=true:=λu hu=>by
 obtain⟨p,_,h⟩:=vO.1 hu;simp only[kH,qZ,Ci,Kv] at h;rcases h with rfl | rfl <;> rfl
open Go.RowKit
def mQ (m:iT):dB aT:=⟨m.iF,m.procs,m.out⟩
def E4 (s:dB aT):iT:=⟨s.mem,s.ps,s.out⟩
def Ew:iT:=⟨kg,[],[]⟩
def oC (m:iT) (hs:List bC):iT:=⟨aY m.iF hs,m.procs,m.out⟩
def Dx (m:iT) (r:Int×Option (dB aT)):iT×Int :=
 if ¬jZ m=0 then (Ew,jZ m) else if ¬r.1=0 then (Ew,r.1) else match r.2 with
  | none=>(Ew,r.1)
  | some s=>(E4 s,0)
def sL (m:iT) (picks:List Int):iT×Int:=Dx m (qc dY (mQ m) picks)
def Wu (ps:List bT):Prop:=∀k,k<ps.length->tY (aO ps k)
theorem Ev {m:iT} (h:jZ m=0):aW m.iF/\m.out.length<=2000/\m.procs.length=m.iF.aj.length/\iO m.procs m.out (λk=>(ak m.iF.aj k).live)=true:=by
 unfold jZ at h;by_cases c:gu m.iF=0
 . rw[aB (λg=>g c)] at h;by_cases c2:2000<m.out.length
   . rw[aC c2] at h;cases h
   rw[aB c2] at h;by_cases c3:m.procs.length=m.iF.aj.length/\iO m.procs m.out (λk=>(ak m.iF.aj k).live)=true
   . exact⟨(qa _).1 c,ω,c3.1,c3.2⟩
   rw[aB c3] at h;cases h
 rw[aC c] at h;exact absurd h c
theorem ae9 {m:iT} (h1:aW m.iF) (h2:m.out.length<=2000) (h3:m.procs.length=m.iF.aj.length) (h4:iO m.procs m.out (λk=>(ak m.iF.aj k).live)=true):jZ m=0:=by
 unfold jZ;rw[aB (λg=>g ((qa _).2 h1)),aB ω,aC ⟨h3,h4⟩]
theorem akS {m:iT} (h:jZ m=0) (hf:Wu m.procs):ez fO (mQ m):=by
 obtain⟨h1,h2,h3,h4⟩:=Ev h;unfold iO at h4;rw[<- CP,<- Hx,cK,nB,nB] at h4;obtain⟨h5,h6⟩:=h4;have h5:∀k,k<m.procs.length->eV (aO m.procs k)=true/\(ak m.iF.aj k).live=decide ((aO m.procs k).st=1):=λk hk=>by
  have:=h5 k (vN.2 hk);unfold yo at this;rw[cK] at this;exact⟨this.1,eq_of_beq this.2⟩
 refine⟨⟨h1,?_⟩,hf,λk hk=>(h5 k hk).1,λx hx=>?_,h2⟩
 . show bY m.procs=m.iF.aj.map (·.live);unfold bY;apply TZ
   . rw[fI,fI,h3]
   intro k b q;rw[fI] at b q;rw[TY,TY];have:=(h5 k b).2;unfold ak aO at this;rw[cB,fF q,cB,fF b] at this;exact this.symm
 have:=h6 x hx;unfold DI at this;exact jY this
theorem Tp {s:dB aT} (h:ez fO s):jZ (E4 s)=0:=by
 have b:=h.mem.flags;have q:s.ps.length=s.mem.aj.length:=by
  have:=dC List.length b;simpa [bY] using this
 refine ae9 h.mem.right h.out q ?_;show iO s.ps s.out _=true;unfold iO;rw[<- CP,<- Hx,cK,nB,nB];refine⟨λk hk=>?_,λx hx=>?_⟩
 . have hk:=vN.1 hk;unfold yo;rw[cK];refine⟨h.right k hk,?_⟩;rw[Gi];have e:=Mm s.ps k;rw[b,fD hk,tE] at e;rw[<- e];have y:k<s.mem.aj.length:=by omega
   show(ak s.mem.aj k).live=_;unfold ak;rw[cB,cB,vQ,fF y];rfl
 have:=h.words x hx;simpa [DI] using this
open Go.RowKit
structure vC where
 live:Bool
 aJ:List aX
 pg:Int->ByteArray
structure zJ where
 slots:Int
 DX:List vC
def Hj:vC:=⟨false,[],λ_=>⟨#[]⟩⟩
def ia (l:List vC) (j:Nat):vC:=l.getD j Hj
def mi (ar:List aX) (f:Int->ByteArray) (p:Int):ByteArray:=if (aV ar p).2=true then f p else ⟨#[]⟩
def Dy (old new:List aX) (f:Int->ByteArray) (p:Int):ByteArray:=if (aV new p).2=true then (if (aV old p).2=true then f p else yj) else ⟨#[]⟩
def rM:List vC->Int
 | []=>0
 | s::r=>bf s.aJ+rM r
def Av (A:zJ) (j:Nat) (s:vC):zJ:=⟨A.slots,A.DX.set j s⟩
def JQ (A:zJ) (j:Nat) (a n way:Int):(ByteArray×(Int×Int))×zJ :=
 if (bB (ia A.DX j).aJ a n way).1=0 then ((wZ (ia A.DX j).pg a n,(0,0)),A) else ((⟨#[]⟩,bB (ia A.DX j).aJ a n way),A)
def FM (A:zJ) (j:Nat) (a:Int) (d:ByteArray):(Int×Int)×zJ :=
 if (bB (ia A.DX j).aJ a d.size 1).1=0 then ((0,0),Av A j ⟨(ia A.DX j).live,(ia A.DX j).aJ,pA (ia A.DX j).pg a d⟩) else (bB (ia A.DX j).aJ a d.size 1,A)
def rK (A:zJ) (j:Nat) (r:List aX×Int) (n:Int):Int×zJ :=
 if ¬r.2=0 then (r.2,A) else if A.slots<rM A.DX+n then (8,A) else (0,Av A j ⟨(ia A.DX j).live,r.1,Dy (ia A.DX j).aJ r.1 (ia A.DX j).pg⟩)
def JS (A:zJ) (j:Nat):Int×zJ :=
 if 4<=A.DX.length then (2,A) else if A.slots<rM A.DX+bf (ia A.DX j).aJ then (8,A) else (0,⟨A.slots,A.DX++[ia A.DX j]⟩)
def afN:lK zJ:=⟨JQ,FM,λA j p n q=>rK A j (dZ (ia A.DX j).aJ p n q) n,λA j p n=>rK A j (cU (ia A.DX j).aJ p n) 0,λA j p n q=>rK A j (cu (ia A.DX j).aJ p n q) 0,JS,λA j=>Av A j Hj⟩
theorem SC {f g:Int->ByteArray} {a n:Int} (h1:f (a/16)=g (a/16)) (h2:f (cN a n)=g (cN a n)):oN f a n=oN g a n:=by grind [oN]
theorem Sz {f g:Int->ByteArray} {a n:Int} (h1:f (a/16)=g (a/16)) (h2:f (cN a n)=g (cN a n)):wZ f a n=wZ g a n:=by unfold wZ;rw[SC h1 h2]
theorem Mg {ar:List aX} {f:Int->ByteArray} {a:Int} {d:ByteArray} (h1:(aV ar (a/16)).2=true) (h2:(aV ar (cN a d.size)).2=true):pA (mi ar f) a d=mi ar (pA f a d):=by
 funext p;have e:yX (mi ar f) a d=yX f a d:=by
  unfold yX;rw[SC (g:=f) (by grind [mi]) (by grind [mi])]
 grind [pA,mi]
def mR (k:aT) (j:Nat):vC:=⟨(ak k.aj j).live,dX k j,mi (dX k j) (b7 k j)⟩
def dD (k:aT):zJ:=⟨k.slots.length,(List.range k.aj.length).map (mR k)⟩
variable {k k':aT} {fl:List Bool} {j:Nat}
theorem su (k:aT):(dD k).DX.length=k.aj.length:=by simp[dD]
theorem qU (hj:j<k.aj.length):ia (dD k).DX j=mR k j:=by
 unfold ia dD;simp[List.getD,hj]
theorem aao {l r:List vC} (hn:l.length=r.length) (h:∀m,m<r.length->ia l m=ia r m):l=r:=by
 apply TZ hn;intro i h1 h2;have:=h i h2;unfold ia at this
 grind
theorem ak2 (l:List vC) (j m:Nat) (s:vC) (hj:j<l.length):ia (l.set j s) m=if m=j then s else ia l m:=by unfold ia;grind
theorem aid (l:List vC) (m:Nat) (s:vC):ia (l++[s]) m=if m<l.length then ia l m else if m=l.length then s else Hj:=by unfold ia;grind
theorem Mh (l:List vC) (s:vC):rM (l++[s])=rM l+bf s.aJ:=by
 induction l with
 | nil=>simp[rM]
 | cons a r ih=>simp only[D5,rM,ih];omega
theorem Wy (k:aT):∀n,rM ((List.range n).map (mR k))=kG k.aj n
 | 0=>rfl
 | n+1=>by
  rw[NM,tF,aaQ,Mh,Wy k n];rfl
theorem Sy (k:aT):rM (dD k).DX=eU k.aj:=Wy k _
theorem afJ (hs:k'.slots.length=k.slots.length) (hn:k'.aj.length=k.aj.length) (h:∀m,m<k.aj.length->mR k' m=mR k m):dD k'=dD k:=by
 unfold dD;rw[hs,hn];congr 1;exact aaY (λm hm=>h m (vN.1 hm))
theorem JT (hj:j<k.aj.length) (hs:k'.slots.length=k.slots.length) (hn:k'.aj.length=k.aj.length) (s:vC) (h:∀m,m<k.aj.length->mR k' m=if m=j then s else mR k m):dD k'=Av (dD k) j s:=by
 have e:(dD k').DX=((dD k).DX.set j s):=aao (by rw[dE,su,su,hn]) (λm hm=>by
  rw[dE,su] at hm;rw[qU ω,ak2 _ _ _ _ (by rw[su];exact hj),h m hm];split
  . rfl
  rw[qU hm])
 show(⟨(dD k').slots,(dD k').DX⟩:zJ)=_;rw[e,show(dD k').slots=(dD k).slots by show(k'.slots.length:Int)=k.slots.length;rw[hs]];rfl
theorem FN {m m':Nat} (h1:(ak k'.aj m').live=(ak k.aj m).live) (h2:(ak k'.aj m').aJ=(ak k.aj m).aJ) (h3:∀p,dM k m p->b7 k' m' p=b7 k m p):mR k' m'=mR k m:=by
 unfold mR dX;rw[h1,h2];congr 1;funext p;unfold mi;split
 . exact h3 p (by assumption)
 rfl
theorem afK (h:fO k fl) (hk:fl.getD j false=true) {a n way:Int} (h1:1<=n) (h8:n<=8):JQ (dD k) j a n way=((iu k j a n way).1,dD (iu k j a n way).2):=by
 obtain⟨hj,hl⟩:=h.at_ hk;unfold JQ;rw[qU hj];by_cases g:(bB (dX k j) a n way).1=0
 . rw[tC h1 h8 g,aC (show(bB (mR k j).aJ a n way).1=0 from g)];obtain⟨m1,m2,_⟩:=nO h1 h8 g;have R:=rD h.right hj a n way m1 m2;have e1:wZ (mR k j).pg a n=rG k j a n way:=by
    rw[zR h.right hj a n way m1 m2];exact Sz (aC m1) (aC m2)
   have e2:dD (bg k j a n way).2=dD k:=afJ R.kept.ns R.kept.np (λm hm=>FN (R.kept.live m hm) (R.kept.aJ m hm) (λp _=>R.kept.XK m hm p));rw[e1,e2]
 rw[vB h1 h8 g,aB (show ¬(bB (mR k j).aJ a n way).1=0 from g)];rfl
theorem acK (h:fO k fl) (hk:fl.getD j false=true) {a:Int} {d:ByteArray} (h1:1<=d.size) (h8:d.size<=8):FM (dD k) j a d=((jJ k j a d).1,dD (jJ k j a d).2):=by
 obtain⟨hj,hl⟩:=h.at_ hk;unfold FM;rw[qU hj];by_cases g:(bB (dX k j) a d.size 1).1=0
 . rw[tU g,aC (show(bB (mR k j).aJ a d.size 1).1=0 from g)];obtain⟨m1,m2,_⟩:=nO ω ω g;have R:=yQ h.right hj a d ω ω m1 m2;rw[JT (k':=nX k j a d) hj R.ns R.np ⟨(mR k j).live,(mR k j).aJ,pA (mR k j).pg a d⟩ (λm hm=>?_)];by_cases c:m=j
   . subst c;rw[aC rfl];show(⟨_,_,_⟩:vC)=⟨_,_,pA (mi (dX k m) (b7 k m)) a d⟩;rw[Mg (ar:=dX k m) m1 m2];have ea:dX (nX k m a d) m=dX k m:=R.aJ m hm;have ep:b7 (nX k m a d) m=pA (b7 k m) a d:=funext λp=>by rw[R.XK m hm,aC rfl]
     rw[R.live m hm,ea,ep];rfl
   rw[aB c];exact FN (R.live m hm) (R.aJ m hm) (λp _=>by rw[R.XK m hm,aB c])
 rw[vw g,aB (show ¬(bB (mR k j).aJ a d.size 1).1=0 from g)];rfl
theorem Hk (h:fO k fl) (hk:fl.getD j false=true) {r:List aX×Int} (n:Int) (hr:r.2=0->zS (dX k j) r.1) (hn:r.2=0->(eU k.aj-bf (dX k j)+bf r.1>(k.slots.length:Int)↔(k.slots.length:Int)<eU k.aj+n)):rK (dD k) j r n=((gL k j r).1,dD (gL k j r).2):=by
 obtain⟨hj,hl⟩:=h.at_ hk;unfold rK;rw[qU hj,Sy];by_cases c:r.2=0
 . rw[aB (λx=>x c)];have e:=hn c;by_cases c2:eU k.aj-bf (dX k j)+bf r.1>(k.slots.length:Int)
   . rw[show gL k j r=(8,k) by grind [gL],aC (show(dD k).slots<_ from e.1 c2)]
   rw[show gL k j r=(0,iN k j r.1) by grind [gL],aB (show ¬(dD k).slots<_ from λx=>c2 (e.2 x))];obtain⟨p1,p2,p3,p4,p5,p6⟩:=sY k hj r.1;rw[JT (k':=iN k j r.1) hj p4 p5 ⟨(mR k j).live,r.1,Dy (mR k j).aJ r.1 (mR k j).pg⟩ (λm hm=>?_)];have q:=p6 m hm;by_cases cm:m=j
   . subst cm;rw[aC rfl] at q ⊢;unfold mR dX;rw[q];show(⟨_,_,mi r.1 (b7 (iN k m r.1) m)⟩:vC)=⟨_,_,Dy (dX k m) r.1 (mi (dX k m) (b7 k m))⟩;congr 1;funext p;unfold mi Dy;by_cases f:(aV r.1 p).2=true
     . rw[aC f,aC f,Md h.right hm (hr c) hm (.inr f)];unfold dX;by_cases f2:(aV (ak k.aj m).aJ p).2=true
       . simp[f2]
       simp[f2]
     rw[aB f,aB f]
   rw[aB cm];rw[aB (λe=>cm e.symm)] at q;exact FN (by rw[q]) (by rw[q]) (λp _=>by rw[Md h.right hj (hr c) hm (.inl cm),aB (λx=>cm x.1)])
 rw[aC c,show gL k j r=(r.2,k) by grind [gL]]
theorem afL (h:fO k fl) (hk:fl.getD j false=true):JS (dD k) j=((gM k j).1,dD (gM k j).2):=by
 obtain⟨hj,hl⟩:=h.at_ hk;have hc:=h.right.c.2.2.1;unfold JS;rw[qU hj,Sy,su];by_cases c:k.aj.length=4
 . rw[show gM k j=(2,k) by grind [gM],aC ω]
 rw[aB ω];by_cases c2:eU k.aj+bf (dX k j)>(k.slots.length:Int)
 . rw[show gM k j=(8,k) by grind [gM],aC (show(dD k).slots<_+bf (mR k j).aJ from c2)]
 rw[show gM k j=(0,jq k j) by grind [gM],aB (show ¬(dD k).slots<_+bf (mR k j).aJ from c2)];have F:=yl h.right hj;have e:(dD (jq k j)).DX=(dD k).DX++[mR k j]:=aao (by rw[su,F.aj,ft,ft,su];rfl) (λm hm=>by
  rw[ft,su] at hm;have hm:m<k.aj.length+1:=hm;have hs:ak (jq k j).aj m=if m<k.aj.length then ak k.aj m else ak k.aj j:=by
   rw[F.aj,O0];by_cases z:m<k.aj.length
   . rw[aC z,aC z]
   rw[aB z,aB z,aC ω]
  rw[qU (by rw[F.aj,ft];exact hm),aid,su];by_cases z:m<k.aj.length
  . rw[aC z] at hs ⊢;rw[qU z];exact FN (by rw[hs]) (by rw[hs]) (λp _=>Pg h.right hj m m z hs p)
  rw[aB z] at hs;rw[aB z,aC ω];exact FN (by rw[hs]) (by rw[hs]) (λp _=>Pg h.right hj m j hj hs p))
 show(_,(⟨(dD k).slots,_⟩:zJ))=(0,dD (jq k j));rw[show dD (jq k j)=⟨(dD (jq k j)).slots,(dD (jq k j)).DX⟩ from rfl,e,show(dD (jq k j)).slots=(dD k).slots by show((jq k j).slots.length:Int)=k.slots.length;rw[F.ns]]
theorem afM (h:fO k fl) (hk:fl.getD j false=true):Av (dD k) j Hj=dD (mE k j):=by
 obtain⟨hj,hl⟩:=h.at_ hk;have b:(mE k j).aj=k.aj.set j tR:=by
  show(df k j (λ_=>true)).aj.set j tR=_;rw[ij,pS]
 have hn:(mE k j).aj.length=k.aj.length:=by rw[b,dE]
 rw[JT (k':=mE k j) hj (oO k j (λ_=>true)).2.2.2 hn Hj (λm hm=>?_)];have hs:ak (mE k j).aj m=if m=j then tR else ak k.aj m:=by rw[b];grind [jd]
 by_cases c:m=j
 . rw[aC c] at hs ⊢;unfold mR dX;rw[hs];show(⟨false,[],mi [] _⟩:vC)=Hj;unfold Hj;congr 1
 rw[aB c] at hs ⊢;exact FN (by rw[hs]) (by rw[hs]) (λp _=>acb h.right hj hm c p)
theorem E5 (h:fO k fl) (hj:j<k.aj.length):bj (dX k j)=0:=(h.right.sp hj).aJ
theorem afH:E6 dY afN fO dD where
 load:=λs fl k a n way h hk h1 h8=>afK h hk h1 h8
 store:=λs fl k a d h hk h1 h8=>acK h hk h1 h8
 map:=λs fl k p n q h hk=>by
  have hj:=(h.at_ hk).1;show rK (dD s) k (dZ (ia (dD s).DX k).aJ p n q) n=_;rw[qU hj];exact Hk h hk n (λe=>(LX e).2) (λe=>by have h1:=ab0 e (E5 h hj);have h0:bf (mR s k).aJ=bf (dX s k):=rfl;omega)
 qX:=λs fl k p n h hk=>by
  have hj:=(h.at_ hk).1;show rK (dD s) k (cU (ia (dD s).DX k).aJ p n) 0=_;rw[qU hj];refine Hk h hk 0 (λe=>(Bu e).2) (λe=>?_);have h1:=VW e (E5 h hj);have h0:bf (mR s k).aJ=bf (dX s k):=rfl;have h2:=h.right.room;exact⟨λx=>ω,λx=>ω⟩
 ko:=λs fl k p n q h hk=>by
  have hj:=(h.at_ hk).1;show rK (dD s) k (cu (ia (dD s).DX k).aJ p n q) 0=_;rw[qU hj];refine Hk h hk 0 (λe=>(En e).2) (λe=>?_);have h1:=QG e (E5 h hj);have h0:bf (mR s k).aJ=bf (dX s k):=rfl;have h2:=h.right.room;exact⟨λx=>ω,λx=>ω⟩
 fork:=λs fl k h hk=>afL h hk
 drop:=λs fl k h hk=>afM h hk
open Go.RowKit
theorem Ey (p q:Int) (d:ByteArray) (ps:List dK):cR q (pQ p d ps)=if q=p then (cR p ps).map (λ_=>d) else cR q ps:=by
 induction ps with
 | nil=>simp[pQ,cR]
 | cons x r ih=>unfold pQ at ih ⊢;simp only[Cf,cR];grind
theorem JO (q:Int) (a b:List dK):cR q (a++b)=(cR q a).or (cR q b):=by
 induction a with
 | nil=>rfl
 | cons x r ih=>simp only[D5,cR];grind
theorem Mi (q:Int):∀(n:Nat) (p:Int),cR q (mo p n)=if p<=q/\q<p+n then some zU else none
 | 0,p=>by simp[mo,jT,cR]
 | n+1,p=>by
  have ih:=Mi q n (p+1);unfold mo at ih ⊢;simp only[jT,Cf,cR,ih]
  grind
theorem afD (q p n:Int) (ps:List dK):cR q (jy ps p n)=if p<=q/\q<p+n then none else cR q ps:=by
 induction ps with
 | nil=>simp[jy,cR]
 | cons x r ih=>unfold jy at ih ⊢;simp only[List.filter_cons,cR];grind [cR]
theorem acF (q:Int) (ps:List dK):(cR q ps).isSome=true↔q∈bX ps:=by
 induction ps with
 | nil=>simp[bX,cR]
 | cons x r ih=>unfold bX at ih ⊢;simp only[Cf,cR];grind
theorem afE (q p:Int) (n:Nat) (ps:List dK) (h:p<=q/\q<p+n->cR q ps=none):cR q (kN ps p n)=if p<=q/\q<p+n then some zU else cR q ps:=by
 have e:cR q ps=(cR q (ps.take (rO ps p))).or (cR q (ps.drop (rO ps p))):=by rw[<- JO,NR]
 unfold kN;rw[JO,JO,Mi];by_cases c:p<=q/\q<p+n
 . rw[aC c,aC c];have:=h c
   grind
 rw[aB c,aB c,e]
 grind
def y8 (s:ek):vC:=⟨s.live,s.aJ,mi s.aJ (pG s.aD)⟩
def gj (m:m7):zJ:=⟨m.slots,m.aj.map y8⟩
variable {m:m7} {fl:List Bool} {j:Nat}
theorem sA (hj:j<m.aj.length):ia (gj m).DX j=y8 (aI m.aj j):=by
 unfold ia gj aI
 grind
theorem PB {s:ek} (h:oU s) (q:Int):(cR q s.aD).isSome=true↔(aV s.aJ q).2=true:=by
 rw[acF,h.nums];exact fP h.check
theorem Hl (m:m7) (j:Nat) (s:ek):gj (kv m j s)=Av (gj m) j (y8 s):=by
 unfold gj kv Av;rw[Ny]
theorem JM:∀(n:Nat) (l:List ek),l.length=n->rM (l.map y8)=fu l
 | 0,l,h=>by rw[o9 h];rfl
 | n+1,l,h=>by
  rcases Uf l with rfl | ⟨r,s,rfl⟩
  . cases h
  rw[Ue] at h ⊢;rw[tF,aaQ,Mh,JM n r (by simpa using h),PF];rfl
theorem QS.liv (h:kY m fl) (hk:fl.getD j false=true):j<m.aj.length/\oU (aI m.aj j)/\(aI m.aj j).live=true:=by
 obtain⟨hj,hl⟩:=h.live hk;exact⟨hj,lJ (h.each j hj) hl,hl⟩
theorem afA {s:ek} (hs:oU s) {a:Int} {d:ByteArray} (h1:(aV s.aJ (a/16)).2=true) (h2:(aV s.aJ (cN a d.size)).2=true) (q:Int):pG (nY s.aD a d) q=pA (pG s.aD) a d q:=by
 have f1:=(PB hs _).2 h1;have f2:=(PB hs _).2 h2;have ej:iw s.aD a d.size=oN (pG s.aD) a d.size:=rfl;unfold nY;rw[ej];unfold pA yX;generalize gB (oN (pG s.aD) a d.size) (a%16).toNat d=L;have el:eG a d.size=cN a d.size:=rfl;rw[el];unfold pG;obtain⟨x1,e1⟩:=NQ.1 f1;obtain⟨x2,e2⟩:=NQ.1 f2;by_cases c:cN a d.size=a/16
 . rw[aC c,Ey,e1];by_cases q1:q=a/16
   . simp[q1]
   simp[q1,c]
 rw[aB c,Ey,Ey,Ey,e1,e2];by_cases q1:q=a/16
 . have:¬a/16=cN a d.size:=λe=>c e.symm
   simp[q1,this]
 by_cases q2:q=cN a d.size
 . simp[q2,c]
 simp[q1,q2]
theorem YZ (h:kY m fl) (hk:fl.getD j false=true) {a:Int} {d:ByteArray} (h1:1<=d.size) (h8:d.size<=8):FM (gj m) j a d=((mq m j a d).1,gj (mq m j a d).2):=by
 obtain⟨hj,hs,hl⟩:=QS.liv h hk;unfold FM;rw[sA hj];by_cases g:(bB (aI m.aj j).aJ a d.size 1).1=0
 . rw[aC (show(bB (y8 (aI m.aj j)).aJ a d.size 1).1=0 from g),show mq m j a d=((0,0),kv m j { aI m.aj j with aD:=nY (aI m.aj j).aD a d }) by grind [mq]];obtain⟨_,q,y,b⟩:=uA (ω:1<=(d.size:Int)) ω g;have m1:(aV (aI m.aj j).aJ (a/16)).2=true:=by have:=b 0 ω ω;rw[Gj] at this;exact this
   have m2:(aV (aI m.aj j).aJ (cN a d.size)).2=true:=by
    have:=b ((d.size:Int)-1) ω ω;unfold cN;rw[show a+(d.size:Int)-1=a+((d.size:Int)-1) by omega];exact this
   show(_,Av (gj m) j _)=(_,gj (kv m j _));rw[Hl];congr 2;show(⟨_,_,pA (mi (aI m.aj j).aJ (pG (aI m.aj j).aD)) a d⟩:vC)=⟨_,_,mi (aI m.aj j).aJ (pG (nY (aI m.aj j).aD a d))⟩;rw[Mg m1 m2,show pG (nY (aI m.aj j).aD a d)=pA (pG (aI m.aj j).aD) a d from funext (afA hs m1 m2)];rfl
 rw[aB (show ¬(bB (y8 (aI m.aj j)).aJ a d.size 1).1=0 from g),show mq m j a d=(bB (aI m.aj j).aJ a d.size 1,m) by grind [mq]];rfl
theorem acI (h:kY m fl) (hk:fl.getD j false=true) {a n way:Int} (h1:1<=n) (h8:n<=8):JQ (gj m) j a n way=((gF m j a n way).1,gj (gF m j a n way).2):=by
 obtain⟨hj,hs,hl⟩:=QS.liv h hk;unfold JQ;rw[sA hj];by_cases g:(bB (aI m.aj j).aJ a n way).1=0
 . rw[aC (show(bB (y8 (aI m.aj j)).aJ a n way).1=0 from g),show gF m j a n way=((y9 (aI m.aj j).aD a n,(0,0)),m) by grind [gF]];obtain⟨_,q,y,b⟩:=uA h1 h8 g;have m1:(aV (aI m.aj j).aJ (a/16)).2=true:=by have:=b 0 ω ω;rw[Gj] at this;exact this
   have m2:(aV (aI m.aj j).aJ (cN a n)).2=true:=by
    have:=b (n-1) ω ω;unfold cN;rw[show a+n-1=a+(n-1) by omega];exact this
   rw[show wZ (y8 (aI m.aj j)).pg a n=y9 (aI m.aj j).aD a n from Sz (aC m1) (aC m2)]
 rw[aB (show ¬(bB (y8 (aI m.aj j)).aJ a n way).1=0 from g),show gF m j a n way=((⟨#[]⟩,bB (aI m.aj j).aJ a n way),m) by grind [gF]];rfl
theorem Hi (h:kY m fl) (hk:fl.getD j false=true) {r:List aX×Int} {ps:List dK} (hp:∀q,(aV r.1 q).2=true->pG ps q=if (aV (aI m.aj j).aJ q).2=true then pG (aI m.aj j).aD q else yj):Av (gj m) j ⟨(y8 (aI m.aj j)).live,r.1,Dy (y8 (aI m.aj j)).aJ r.1 (y8 (aI m.aj j)).pg⟩=gj (kv m j { aI m.aj j with aJ:=r.1,aD:=ps }):=by
 rw[Hl];congr 1;show(⟨_,_,Dy (aI m.aj j).aJ r.1 (mi (aI m.aj j).aJ (pG (aI m.aj j).aD))⟩:vC)=⟨_,_,mi r.1 (pG ps)⟩;congr 1;funext q;unfold Dy mi;by_cases c:(aV r.1 q).2=true
 . rw[aC c,aC c,hp q c];by_cases c2:(aV (aI m.aj j).aJ q).2=true
   . simp[c2]
   simp[c2]
 rw[aB c,aB c]
theorem Wz {s:ek} (hs:oU s) {q:Int} (h:¬(aV s.aJ q).2=true):cR q s.aD=none:=by
 have:=PB hs q;cases e:cR q s.aD with
 | none=>rfl
 | some x=>rw[e] at this;exact absurd (this.1 rfl) h
theorem afI:E6 nR afN kY gj where
 load:=λs fl k a n way h hk h1 h8=>acI h hk h1 h8
 store:=λs fl k a d h hk h1 h8=>YZ h hk h1 h8
 map:=λs fl k p n q h hk=>by
  obtain⟨hj,hs,hl⟩:=QS.liv h hk;show rK (gj s) k (dZ (ia (gj s).DX k).aJ p n q) n=((wC s k p n q).1,gj (wC s k p n q).2);rw[sA hj];unfold rK wC;rw[sA hj,show rM (gj s).DX=fu s.aj from JM _ _ rfl];show(if ¬(dZ (aI s.aj k).aJ p n q).2=0 then _ else _)=_;by_cases c:(dZ (aI s.aj k).aJ p n q).2=0
  . simp only[c,Gm,qY];by_cases c2:s.slots<fu s.aj+n
    . rw[aC (show(gj s).slots<_ from c2),aC c2]
    rw[aB (show ¬(gj s).slots<_ from c2),aB c2];obtain⟨g1,g2,g3,g4⟩:=CH hs.check c;have:=Hi h hk (r:=dZ (aI s.aj k).aJ p n q) (ps:=kN (aI s.aj k).aD p n.toNat) (λx hx=>by
     have hn:((n.toNat:Nat):Int)=n:=by omega
     have e:=afE x p n.toNat (aI s.aj k).aD (λy=>Wz hs (λz=>g4 x y.1 ω ((fP hs.check).2 z)));unfold pG;rw[e,hn];have hx:=(g3 x).1 ((fP g1).2 hx);by_cases z:p<=x/\x<p+n
     . rw[aC z,aB (λy=>g4 x z.1 z.2 ((fP hs.check).2 y))];rfl
     rw[aB z,aC ((fP hs.check).1 (hx.resolve_right z))])
    rw[<- this];rfl
  simp only[c,Gl,vK];rfl
 qX:=λs fl k p n h hk=>by
  obtain⟨hj,hs,hl⟩:=QS.liv h hk;show rK (gj s) k (cU (ia (gj s).DX k).aJ p n) 0=((qp s k p n).1,gj (qp s k p n).2);rw[sA hj];unfold rK qp;rw[sA hj,show rM (gj s).DX=fu s.aj from JM _ _ rfl];show(if ¬(cU (aI s.aj k).aJ p n).2=0 then _ else _)=_;have hr:=h.room;by_cases c:(cU (aI s.aj k).aJ p n).2=0
  . simp only[c,Gm,qY];rw[aB (show ¬(gj s).slots<fu s.aj+0 from λx=>by have x:s.slots<fu s.aj+0:=x;omega)];obtain⟨g1,g2,g3⟩:=DA hs.check c;have:=Hi h hk (r:=cU (aI s.aj k).aJ p n) (ps:=jy (aI s.aj k).aD p n) (λx hx=>by
     have hx:=(g3 x).1 ((fP g1).2 hx);unfold pG;rw[afD,aB hx.2,aC ((fP hs.check).1 hx.1)])
    rw[<- this];rfl
  simp only[c,Gl,vK];rfl
 ko:=λs fl k p n q h hk=>by
  obtain⟨hj,hs,hl⟩:=QS.liv h hk;show rK (gj s) k (cu (ia (gj s).DX k).aJ p n q) 0=((m6 s k p n q).1,gj (m6 s k p n q).2);rw[sA hj];unfold rK m6;rw[sA hj,show rM (gj s).DX=fu s.aj from JM _ _ rfl];show(if ¬(cu (aI s.aj k).aJ p n q).2=0 then _ else _)=_;have hr:=h.room;by_cases c:(cu (aI s.aj k).aJ p n q).2=0
  . simp only[c,Gm,qY];rw[aB (show ¬(gj s).slots<fu s.aj+0 from λx=>by have x:s.slots<fu s.aj+0:=x;omega)];obtain⟨g1,g2⟩:=FW hs.check c;have:=Hi h hk (r:=cu (aI s.aj k).aJ p n q) (ps:=(aI s.aj k).aD) (λx hx=>by
     have hx:=(fP g1).2 hx;rw[g2] at hx;rw[aC ((fP hs.check).1 hx)])
    rw[show kv s k { live:=(aI s.aj k).live,aJ:=(cu (aI s.aj k).aJ p n q).1,aD:=(aI s.aj k).aD }=kv s k { aI s.aj k with aJ:=(cu (aI s.aj k).aJ p n q).1,aD:=(aI s.aj k).aD } from rfl,<- this];rfl
  simp only[c,Gl,vK];rfl
 fork:=λs fl k h hk=>by
  obtain⟨hj,hs,hl⟩:=QS.liv h hk;show JS (gj s) k=((rP s k).1,gj (rP s k).2);unfold JS rP;rw[sA hj,show rM (gj s).DX=fu s.aj from JM _ _ rfl,show(gj s).DX.length=s.aj.length by simp[gj]];show(if 4<=s.aj.length then _ else if s.slots<fu s.aj+bf (aI s.aj k).aJ then _ else _)=_;by_cases c:4<=s.aj.length
  . simp only[c,vK]
  by_cases c2:s.slots<fu s.aj+bf (aI s.aj k).aJ
  . simp only[c,c2,vK,qY]
  simp only[c,c2,qY];simp[gj]
 drop:=λs fl k h hk=>by
  show Av (gj s) k Hj=gj (kv s k Kh);rw[Hl];rfl
open Go.RowKit
variable {σ τ υ:Type}
theorem acE {o:lK σ} {o':lK τ} {b:lK υ} {Ok:σ->List Bool->Prop} {Ok':τ->List Bool->Prop} {f:σ->υ} {g:τ->υ} (S:E6 o b Ok f) (S':E6 o' b Ok' g) (ho:tj o Ok) (ho':tj o' Ok') {s:dB σ} {s':dB τ} (h:ez Ok s) (h':ez Ok' s') (e:jO f s=jO g s') (picks:List Int) (n:Nat):(fq o picks n (some s)).map (jO f)=(fq o' picks n (some s')).map (jO g):=by
 rw[<- CE S ho h,<- CE S' ho' h',e]
end Go.Proofs.YtlgoihmkgaaemaaGreat
