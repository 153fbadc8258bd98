import Derived.Test.YtpgifpeohlllfaaGreatGP00
import Derived.Test.YtpgifpeohlllfaaGreatGP25
import Derived.Test.YtpgifpeohlllfaaGreatGP20
import Derived.Test.YtpgifpeohlllfaaGreatGP16
set_option maxHeartbeats 20000000
set_option linter.unusedVariables false
set_option maxRecDepth 100000
set_option linter.unusedSimpArgs false
namespace Go.Proofs.YtpgifpeohlllfaaGreat
namespace KX
open Go.RowKit GK KO
open FW (ai aC)
open KW (bE bD aI aU fe cO aH dH bQ dG)
open KS (Lc bO oD dm blk cT)
theorem qN {l:List AM.Ar} {a n way:Int} (h1:1<=n) (h8:n<=8) (h:(FM.eX l a n way).1=0):FM.eX l a n way=(0,0)/\16<=a/\a+n<=4096/\∀i,0<=i->i<n->(AM.aK l ((a+i)/16)).2=true:=by
 have hb:FM.eX l a n way=FM.ek l a way n.toNat:=by
  unfold FM.eX at h ⊢
  by_cases c:way=2/\¬a%8=0
  · rw[if_pos c] at h;cases h
  · rw[if_neg c]
 rw[hb] at h ⊢
 have all:∀m:Nat,(FM.ek l a way m).1=0->FM.ek l a way m=(0,0)/\∀i:Nat,i<m->(FM.je l (a+i) way).1=0:=fun m=>by
  induction m with
  | zero=>intro _;exact⟨rfl,fun i hi=>by omega⟩
  | succ m ih =>
   intro hm
   have h0:(FM.ek l a way m).1=0:=by
    by_cases c:(FM.ek l a way m).1=0
    · exact c
    · rw[FM.ek,if_neg c] at hm;exact hm
   obtain⟨e,hi⟩:=ih h0
   rw[FM.lU e] at hm ⊢
   refine⟨(FM.nz hm).1,fun i hlt=>?_⟩
   by_cases c:i=m
   · subst c;exact hm
   · exact hi i (by omega)
 obtain⟨e,hi⟩:=all n.toNat h
 obtain⟨m,hm⟩:∃m,n.toNat=m+1:=⟨n.toNat-1,by omega⟩
 have hs:=FM.mI (l:=l) (a:=a) (way:=way) (k:=m) (by rw[<- hm];exact e)
 refine⟨e,hs.1,by omega,fun i h0 hn=>?_⟩
 have:=hi i.toNat (by omega)
 rw[show a+(i.toNat:Int)=a+i by omega] at this
 exact(FM.nz this).2.2.1
theorem tX {lo mb:Nat} {tt:TypeId} {X:List Value} (k:KM.Kn) (S:St) (w:World) (j:Nat) (a n way:Int) (h:Km lo mb tt X w S k) (hR:KM.aQ k) (hj:j<k.aj.length) (ha:M.fR a) (hn:1<=n/\n<=8) (hf:(FM.eX (KM.aq k.aj j).aA a n way).1≠0) :
  Calls Tryz.prog 52 #[.pointer (some (Ad mb 0)),I (j:Int),I a,I n,I way] w fun e w'=>e=.returned (.tuple #[Nl,.agg #[I (FM.eX (KM.aq k.aj j).aA a n way).1,I (FM.eX (KM.aq k.aj j).aA a n way).2]])/\Below w.heap.size w w':=by
 have hcc:=hR.c
 obtain⟨pb,cP,A⟩:=h.toKr.sp (by omega)
 have c3:=h.c3
 rw[A.v] at c3
 have a1:=A.x1 j hj
 have hfit:AW.eH (KM.aq k.aj j).aA:=AM.gu _ (hR.sp hj).aA
 have oo:=ai (fun V (hb:Below w.heap.size w V)=>FW.Ls _ _ a n way V (AW.Has.below (h.toKr.aA hj) hb) hfit ha (by omega))
 obtain⟨ax,cx,rU,_,_⟩:=aR (h.each j hj).aA
 rw[rU] at oo a1
 have AU:(j:Int)<(k.aj.length:Int):=by omega
 have mU:=h.lt
 have hpl:=A.lt
 unfold FW.A9 at oo
 obtain⟨F,hF⟩:=ex (FM.eX (KM.aq k.aj j).aA a n way)
 rw[<- hF] at oo hf ⊢
 obtain⟨f0,f1⟩:=F
 simp only at oo hf ⊢
 have fb:(f0 != 0)=true:=by simpa using hf
 have bI:=ai ((Below.refl w.heap.size w).alloc (Nat.le_refl _) (.cells #[I 0,I 0] 36))
 have R0:=ai (B.new w #[I 0,I 0] 36)
 have d3:=(bI.o.cell (p:=(Ad mb 3)) mU).trans c3
 have d1:=(bI.o.cell (p:=(Ad pb (j*3+1))) hpl).trans a1
 obtain⟨np,rV⟩:=ex k.aj.length
 rw[<- rV] at d3 AU
 obtain⟨na,p9⟩:=ex ((KM.aq k.aj j).aA.length)
 rw[<- p9] at d1 oo
 clear h hR hj A c3 a1 hfit rU hF hf hcc rV p9 ha hn
 go_enter Tryz.func52,Tryz.ntmps52
 go_upto_region 3 with(go_at_call 96;refine(oo.o _ bI.o).mono ?_;rintro e w1 ⟨rfl,hb1⟩;have aZ:=ai (aC bI.o hb1);have R1:=ai (B.below R0.o hb1 (B.isLt R0.o));have FX:=ai (B.new w1 #[I f0,I f1] 36);obtain⟨y0,y1⟩:=B.c2 FX.o;clear hb1)
 have cj:=ai (aZ.o.alloc aZ.o.size (.cells #[I f0,I f1] 36))
 have Bt:=B.isLt R1.o
 have R2:=ai (B.alloc R1.o (.cells #[I f0,I f1] 36))
 obtain⟨z0,z1⟩:=B.c2 R2.o
 have q0:=B.free R2.o 0
 have q1:=B.free R2.o 1
 have hne:¬w.heap.size=w1.heap.size:=by omega
 obtain⟨W,hW⟩:=ex (w1.alloc (.cells #[I f0,I f1] 36))
 rw[<- hW] at cj R2 z0 z1 q0 q1 y0 y1 ⊢
 clear hW
 go_region
 go_wp2
 have R3:((W.setCell (Ad w.heap.size 0) (I f0)).setCell (Ad w.heap.size 1) (I f1)).heap[w.heap.size]?=some (.cells #[I f0,I f1] 36 (0,0)):=B.set (B.set R2.o 0 _) 1 _
 obtain⟨v0,v1⟩:=B.c2 R3
 refine bodyPost_ret (v:=.tuple #[Nl,.agg #[I f0,I f1]]) (by simp[results,Tryz.results52,go_sem,v0,v1]) rfl ?_
 exact⟨rfl,by first | exact((cj.o.setCell (p:=(Ad w.heap.size 0)) (Nat.le_refl _) _).setCell (p:=(Ad w.heap.size 1)) (Nat.le_refl _) _).drew | exact(cj.o.setCell (p:=(Ad w.heap.size 0)) (Nat.le_refl _) _).setCell (p:=(Ad w.heap.size 1)) (Nat.le_refl _) _⟩
def x9 (k:KM.Kn) (j:Nat) (a n way:Int):Nat->KM.Kn
 | 0=>k
 | 1=>(KM.cX k j a way).2
 | _=>(KM.ia k j a n way).2
def xZ (k:KM.Kn) (j:Nat) (a n way:Int):Nat->List Int
 | 0=>[]
 | 1=>[((KM.cX k j a way).1:Int)]
 | _=>[((KM.cX k j a way).1:Int),((KM.ia k j a n way).1:Int)]
def ids (l:List Nat):List Int:=l.map fun x:Nat=>(x:Int)
def pU (a n:Int):Nat:=if KM.bT a n=a/16 then 1 else 2
theorem rq (k:KM.Kn) (j:Nat) (a n way:Int):KM.aM k j a n way=((KM.aM k j a n way).1,x9 k j a n way (pU a n))/\ids (KM.aM k j a n way).1=xZ k j a n way (pU a n)/\(KM.aM k j a n way).1.length=pU a n:=by
 unfold KM.aM pU
 by_cases c:KM.bT a n=a/16
 · rw[if_pos c,if_pos c];exact⟨rfl,rfl,rfl⟩
 · rw[if_neg c,if_neg c];exact⟨rfl,rfl,rfl⟩
theorem st0 (k:KM.Kn) (j:Nat) (a n way:Int):x9 k j a n way 0=k:=rfl
theorem st1 (k:KM.Kn) (j:Nat) (a n way:Int):x9 k j a n way 1=(KM.bV k j (a/16) way []).2:=by unfold x9 KM.cX;rfl
theorem st2 (k:KM.Kn) (j:Nat) (a n way:Int):x9 k j a n way 2=(KM.bV (KM.bV k j (a/16) way []).2 j (KM.bT a n) way [((KM.bV k j (a/16) way []).1:Int)]).2:=by unfold x9 KM.ia KM.cX;rfl
theorem id0 (k:KM.Kn) (j:Nat) (a n way:Int):xZ k j a n way 0=[]:=rfl
theorem id1 (k:KM.Kn) (j:Nat) (a n way:Int):xZ k j a n way 1=[((KM.bV k j (a/16) way []).1:Int)]:=by unfold xZ KM.cX;rfl
theorem id2 (k:KM.Kn) (j:Nat) (a n way:Int):xZ k j a n way 2=[((KM.bV k j (a/16) way []).1:Int)]++[((KM.bV (KM.bV k j (a/16) way []).2 j (KM.bT a n) way [((KM.bV k j (a/16) way []).1:Int)]).1:Int)]:=by unfold xZ KM.ia KM.cX;rfl
theorem Ch.local {S S':St} {w w2 w3:World} {D:Nat->Prop} (h:Ch S w S' w2) (k:Kp D w2 w3) (hd:∀b,D b->w.heap.size<=b):Ch S w S' w3:=⟨⟨k.os.trans h.kp.os,k.tape.trans h.kp.tape,k.output.trans h.kp.output,Nat.le_trans h.kp.size k.size,fun b hb hn=>(k.block b (Nat.lt_of_lt_of_le hb h.kp.size) (fun g=>by have:=hd b g;omega)).trans (h.kp.block b hb hn)⟩,h.no,h.eS,h.eF,h.eL,h.eP⟩
theorem L3 (k:KM.Kn) (j:Nat) (a n way:Int) (m:Nat) (hm:m<=2):(xZ k j a n way m).length=m:=by
 rcases(show m=0∨m=1∨m=2 by omega) with rfl | rfl | rfl <;> rfl
theorem wH {lo mb:Nat} {tt:TypeId} {X:List Value} (k:KM.Kn) (S:St) (w:World) (j:Nat) (a n way:Int) (h:Km lo mb tt X w S k) (hR:KM.aQ k) (hj:j<k.aj.length) (ha:M.fR a) (hn:1<=n/\n<=8) (hf:(FM.eX (KM.aq k.aj j).aA a n way).1=0) (hX:tN X k.ak) :
  Calls Tryz.prog 52 #[.pointer (some (Ad mb 0)),I (j:Int),I a,I n,I way] w fun e w'=>∃av cv S',e=.returned (.tuple #[.slice av (KM.aM k j a n way).1.length cv,.agg #[I 0,I 0]])/\Held w' S' av (ids (KM.aM k j a n way).1)/\Km lo mb tt X w' S' (KM.aM k j a n way).2/\Ch S w S' w':=by
 have hcc:=hR.c
 obtain⟨Q8,hal,VS,hmap⟩:=qN hn.1 hn.2 hf
 have jE:KM.mapped k j (a/16):=by
  have:=hmap 0 (by omega) (by omega)
  rw[Int.add_zero] at this
  exact this
 have hm2:KM.mapped k j (KM.bT a n):=by
  have:=hmap (n-1) (by omega) (by omega)
  unfold KM.bT
  rw[show a+n-1=a+(n-1) by omega]
  exact this
 have hlast:KM.bT a n=a/16+((pU a n:Nat):Int)-1:=by
  unfold pU
  have:=KM.Es (a:=a) hn.1 hn.2
  by_cases c:KM.bT a n=a/16
  · rw[if_pos c];omega
  · rw[if_neg c];omega
 have hp2:pU a n=1∨pU a n=2:=by unfold pU;split <;> omega
 have A1:=(KM.jS hR hj jE way (held:=[]) (by simp)).1
 obtain⟨hr1,hr2,hr3⟩:=rq k j a n way
 have hpw:∀m,m<pU a n->KM.aQ (x9 k j a n way m)/\j<(x9 k j a n way m).aj.length/\KM.mapped (x9 k j a n way m) j (a/16+(m:Int))/\(x9 k j a n way m).ak=k.ak/\(KM.bV (x9 k j a n way m) j (a/16+(m:Int)) way (xZ k j a n way m)).2=x9 k j a n way (m+1)/\xZ k j a n way (m+1)=xZ k j a n way m++[((KM.bV (x9 k j a n way m) j (a/16+(m:Int)) way (xZ k j a n way m)).1:Int)]:=fun m hm=>by
  rcases(show m=0∨(m=1/\pU a n=2) by omega) with rfl | ⟨rfl,h2⟩
  · have e:a/16+((0:Nat):Int)=a/16:=by omega
    rw[e,st0,id0,Nat.zero_add,st1,id1]
    exact⟨hR,hj,jE,rfl,rfl,rfl⟩
  · have e:a/16+((1:Nat):Int)=KM.bT a n:=by omega
    have e2:1+1=2:=rfl
    rw[e,e2,st1,id1,st2,id2]
    obtain⟨BR,hBR⟩:=ex (KM.bV k j (a/16) way [])
    rw[<- hBR] at A1 ⊢
    refine⟨A1.right,?_,A1.kept.mapped hj hm2,A1.kept.ak,rfl,rfl⟩
    rw[A1.kept.np];exact hj
 have YB:Hid (∀V S' m av nv cv,m<pU a n->nv=m->Km lo mb tt X V S' (x9 k j a n way m)->Held V S' av (xZ k j a n way m)->Calls Tryz.prog 97 #[.pointer (some (Ad mb 0)),I (j:Int),I (a/16+(m:Int)),I way,.slice av nv cv] V fun e w'=>∃i:Nat,e=.returned (I (i:Int))/\xZ k j a n way (m+1)=xZ k j a n way m++[(i:Int)]/\∃S2,Km lo mb tt X w' S2 (x9 k j a n way (m+1))/\Ch S' V S2 w'):=fun V S' m av nv cv hm hnv hV hh=>by
  obtain⟨q1,q2,q3,q4,q5,q6⟩:=hpw m hm
  have hil:=L3 k j a n way m (by omega)
  have:=JE (x9 k j a n way m) S' V j (a/16+(m:Int)) way (xZ k j a n way m) av cv hV q1 q2 q3 (by rw[q4];exact hX) (by omega) hh
  rw[hil] at this
  subst hnv
  refine this.mono fun e w' ⟨g1,S2,g2,g3⟩=>⟨_,g1,q6,S2,q5 ▸ g2,g3⟩
 have bh:Hid (∀V S' av nv cv,nv=pU a n->Held V S' av (xZ k j a n way (pU a n))->Km lo mb tt X V S' (x9 k j a n way (pU a n))->Ch S w S' V->(∃av' cv' S'',Ending.returned (.tuple #[.slice av nv cv,.agg #[I 0,I 0]])=.returned (.tuple #[.slice av' (KM.aM k j a n way).1.length cv',.agg #[I 0,I 0]])/\Held V S'' av' (ids (KM.aM k j a n way).1)/\Km lo mb tt X V S'' (KM.aM k j a n way).2/\Ch S w S'' V)):=fun V S' av nv cv e1 g1 g2 g3=>by
  have e2:(KM.aM k j a n way).2=x9 k j a n way (pU a n):=congrArg Prod.snd hr1
  exact⟨av,cv,S',by rw[e1,hr3],by rw[hr2];exact g1,by rw[e2];exact g2,g3⟩
 obtain⟨P,hP⟩:∃P:Ending->World->Prop,P=fun e w'=>∃av cv S',e=.returned (.tuple #[.slice av (KM.aM k j a n way).1.length cv,.agg #[I 0,I 0]])/\Held w' S' av (ids (KM.aM k j a n way).1)/\Km lo mb tt X w' S' (KM.aM k j a n way).2/\Ch S w S' w':=⟨_,rfl⟩
 have ky:Hid (∀V S' av nv cv,nv=pU a n->Held V S' av (xZ k j a n way (pU a n))->Km lo mb tt X V S' (x9 k j a n way (pU a n))->Ch S w S' V->P (.returned (.tuple #[.slice av nv cv,.agg #[I 0,I 0]])) V):=fun V S' av nv cv e1 g1 g2 g3=>by rw[hP];exact bh.o V S' av nv cv e1 g1 g2 g3
 rw[<- hP]
 obtain⟨pb,cP,A⟩:=h.toKr.sp (by omega)
 have c3:=h.c3
 rw[A.v] at c3
 have a1:=A.x1 j hj
 have hfit:AW.eH (KM.aq k.aj j).aA:=AM.gu _ (hR.sp hj).aA
 have oo:=ai (fun V (hb:Below w.heap.size w V)=>FW.Ls _ _ a n way V (AW.Has.below (h.toKr.aA hj) hb) hfit ha (by omega))
 rw[Q8] at oo
 obtain⟨ax,cx,rU,_,_⟩:=aR (h.each j hj).aA
 rw[rU] at oo a1
 have AU:(j:Int)<(k.aj.length:Int):=by omega
 have mU:=h.lt
 have hpl:=A.lt
 unfold FW.A9 at oo
 simp only at oo
 have bI:=ai ((Below.refl w.heap.size w).alloc (Nat.le_refl _) (.cells #[I 0,I 0] 36))
 have R0:=ai (B.new w #[I 0,I 0] 36)
 have d3:=(bI.o.cell (p:=(Ad mb 3)) mU).trans c3
 have d1:=(bI.o.cell (p:=(Ad pb (j*3+1))) hpl).trans a1
 obtain⟨np,rV⟩:=ex k.aj.length
 rw[<- rV] at d3 AU
 obtain⟨na,p9⟩:=ex ((KM.aq k.aj j).aA.length)
 rw[<- p9] at d1 oo
 have n0:Hid (S.lab w.heap.size=.no):=h.toKr.new (Nat.le_refl _)
 have Qz:=ai h
 have SN:Hid (KM.bT a n=a/16+((pU a n:Nat):Int)-1):=hlast
 have XQ:(a+n-1)/16=a/16+((pU a n:Nat):Int)-1:=hlast
 have Ur:=ai (L3 k j a n way)
 obtain⟨PG,hPG⟩:=ex (pU a n)
 rw[<- hPG] at YB ky hp2 XQ
 have ha0:0<=a:=by omega
 have han:0<=a+n-1:=by omega
 have hw1:IntKind.i64.wrap (a+n)=a+n:=IntWalk.i64_in _ (by omega)
 have hw2:IntKind.i64.wrap (a+n-1)=a+n-1:=IntWalk.i64_in _ (by omega)
 obtain⟨i0,hin,hz0,hz1,hz2⟩:=info_parts EY
 have qX:=ai hin
 have vh:=ai hz0
 have vg:=ai hz1
 have tM:=ai hz2
 have ZW:a/16<=256:=by omega
 have hap:0<=a/16:=by omega
 obtain⟨Q,hQ⟩:=ex (a/16)
 have HQ:=ai hQ
 rw[<- hQ] at YB XQ ZW hap
 have hqa:a.tdiv 16=Q:=by rw[hQ];exact Int.tdiv_eq_ediv_of_nonneg ha0
 have hqb:(a+n-1).tdiv 16=Q+(PG:Int)-1:=by rw[<- XQ];exact Int.tdiv_eq_ediv_of_nonneg han
 clear h hR hj A c3 a1 hfit rU Q8 hcc rV p9 ha hmap jE hm2 hlast SN A1 hr1 hr2 hr3 hpw bh hP hPG hX hf hal VS ha0 han hQ hin hz0 hz1 hz2 XQ
 go_enter Tryz.func52,Tryz.ntmps52
 go_wp2_with (go_at_call 96;refine(oo.o _ bI.o).mono ?_;rintro e w1 ⟨rfl,hb1⟩;have aZ:=ai (aC bI.o hb1);have R1:=ai (B.below R0.o hb1 (B.isLt R0.o));have FX:=ai (B.new w1 #[I 0,I 0] 36);obtain⟨y0,y1⟩:=B.c2 FX.o;clear hb1)
 have cj:=ai (aZ.o.alloc aZ.o.size (.cells #[I 0,I 0] 36))
 have R2:=ai (B.alloc R1.o (.cells #[I 0,I 0] 36))
 obtain⟨W,hW⟩:=ex (w1.alloc (.cells #[I 0,I 0] 36))
 rw[<- hW] at cj R2 y0 y1 ⊢
 clear hW y0 y1 FX R1 aZ
 go_loopw [13,14] (fun fv pv wr=>∃(m:Nat) (S':St) (av:Option Addr) (cv:Nat),m<=PG/\pv=I (Q+(m:Int))/\fv=.slice av m cv/\wr.ownsRow W.heap.size 3 1 (.slice av m cv) m ((xZ k j a n way m).flatMap bQ)/\(∀b,blk (.slice av m cv) b->S'.lab b=.no)/\Km lo mb tt X wr S' (x9 k j a n way m)/\Ch S W S' wr) (fun _ pv _=>(Q+(PG:Int)-intOf pv).toNat)
 case atStart=>exact⟨0,S,none,0,by omega,by simp,rfl,World.ownsRow_nil _ _ _ _,fun b hb=>(by cases hb),Qz.o.below cj.o,Ch.refl _ _⟩
 case round =>
  obtain⟨m,S',av,cv,hm,rfl,rfl,hrow,hno,fQ,hch⟩:=hrel
  have Bi:=ai hrow
  have gP:=ai hno
  have BC:=ai hch
  by_cases hlt:m<PG
  · have hle:Q+(m:Int)<=Q+(PG:Int)-1:=by omega
    have hil:=Ur.o m (by omega)
    have hrow2:=hrow
    rw[<- hil] at hrow2
    have lK:=(xh (S:=S') (n:=m) (l:=xZ k j a n way m) (by rw[hil];exact hrow) hno).2
    have abh:=ai (YB.o wr S' m av m cv hlt rfl fQ lK)
    clear hrow hno fQ hch hrow2 lK hil Qz
    go_wp2_with (first
     | (at_builtin;refine ck (P:=Tryz.prog) rfl _ _ 99 rfl W.heap.size 3 i0 (I 0) 1 8 Tryz.underlying99 qX.o vh.o vg.o tM.o rfl (by decide) (.slice av m cv) m ((xZ k j a n way m).flatMap bQ) rfl om.o (some (Ad w2.heap.size 0)) 1 1 [I (i:Int)] rfl rfl (fun _=>⟨_,rfl,B.news (B.new w2 _ _)⟩) (by intro u hu;simp at hu;rw[hu];rfl) (by unfold maxLen;omega) (by omega) (by have:=kv.o.kp.size;simp;omega) ?_;intro v' w' hown hgr hat;obtain⟨aG,cG,O8,_,_⟩:=aR hown;subst O8;have HO3:=ai hown;have HG3:=ai hgr;have oF:=ai hat;clear hown hgr hat)
     | (go_at_call 97;refine abh.o.mono ?_;rintro e w2 ⟨i,rfl,hid,S2,hk2,hc2⟩;have HID:=ai hid;have jh:=ai hk2;have kv:=ai (BC.o.trans hc2);have Qv:=ai (hc2.kp.row Bi.o (fun b hb z=>z (gP.o b hb)));have DG:=ai (fun b (hb:blk (.slice av m cv) b)=>hc2.no b (Bi.o.lt b hb).2 (gP.o b hb));have om:=ai (Qv.o.alloc (.cells #[I (i:Int)] 3));clear hid hk2 hc2))
    go_roundw
    case rel =>
     have kA:Kp (fun b=>blk (.slice av m cv) b) w2 (w2.alloc (.cells #[I (i:Int)] 3)):=Kp.alloc _ _ _
     have kB:=kA.trans (Kp.grown (D:=fun b=>blk (.slice av m cv) b) HG3.o (fun q hq=>hq)) (fun _ _ g=>g)
     have hlab:∀b,blk (.slice aG (m+1) cG) b->S2.lab b=.no:=fun b hb=>by
      rcases oF.o with g | g
      · exact DG.o b (by show Value.ownBlock _=_;rw[<- g];exact hb)
      · have hb:Value.ownBlock _=some b:=hb
        rw[g] at hb
        injection hb with hb
        rw[World.size_alloc] at hb
        exact jh.o.toKr.new (by omega)
     refine⟨m+1,S2,aG,cG,by omega,by go_num,rfl,?_,hlab,?_,?_⟩
     · rw[HID.o,List.flatMap_append]
       have e:[(i:Int)].flatMap bQ=[I (i:Int)]:=rfl
       rw[e]
       exact HO3.o
     · exact jh.o.kp kB (fun b hb g=>hb (DG.o b g))
     · exact KX.Ch.local kv.o kB (fun b g=>(Qv.o.lt b g).1)
    case measure=>simp[intOf];omega
  · obtain rfl:m=PG:=by omega
    have hgt:¬Q+(m:Int)<=Q+(m:Int)-1:=by omega
    have hil:=Ur.o m (by omega)
    have lK:=(xh (S:=S') (n:=m) (l:=xZ k j a n way m) (by rw[hil];exact hrow) hno).2
    have HX:=ai (ky.o)
    have N6:=ai lK
    have Un:=ai fQ
    have RW:=ai (hch.keep R2.o n0.out)
    obtain⟨y0,y1⟩:=B.c2 RW.o
    have q0:=B.free RW.o 0
    have q1:=B.free RW.o 1
    have Xf:=ai ((Ch.below cj.o).trans hch)
    have hnl:S'.lab w.heap.size=.no:=hch.no _ (B.isLt R2.o) n0.out
    have QA:Hid (∀V,V=(wr.setCell (Ad w.heap.size 0) (I 0)).setCell (Ad w.heap.size 1) (I 0)->Held V S' av (xZ k j a n way m)/\Km lo mb tt X V S' (x9 k j a n way m)/\Ch S w S' V/\V.heap[w.heap.size]?=some (.cells #[I 0,I 0] 36 (0,0))):=fun V hV=>by
     have kp:Kp (fun b=>b=w.heap.size) wr V:=by rw[hV];exact(Kp.set (fun b=>b=w.heap.size) wr (Ad w.heap.size 0) _ rfl).trans (Kp.set (fun b=>b=w.heap.size) _ (Ad w.heap.size 1) _ rfl) (fun _ _ g=>g)
     refine⟨⟨KX.aU.kp N6.o.has kp (fun b off e z=>?_),N6.o.no,fun b off e=>Nat.lt_of_lt_of_le (N6.o.lt b off e) kp.size⟩,Un.o.kp kp (fun b hb z=>hb (by rw[z];exact hnl)),KX.Ch.local Xf.o kp (fun b z=>by omega),by rw[hV];exact B.set (B.set RW.o 0 _) 1 _⟩
     have:W.heap.size<=b:=by
      subst e
      rcases Bi.o.2 with⟨h0,_⟩ | ⟨g,cap',cur,hv,hbs,_⟩
      · cases h0
      · injection hv with e1 _ _
        injection e1 with e1
        injection e1 with e1 _ _
        omega
     have:=B.isLt R2.o
     omega
    have Rn:=ai (fun V (hV:V=(wr.setCell (Ad w.heap.size 0) (I 0)).setCell (Ad w.heap.size 1) (I 0))=>ky.o V S' av m cv rfl (QA.o V hV).1 (QA.o V hV).2.1 (QA.o V hV).2.2.1)
    clear hrow hno fQ hch lK hil Qz HX N6 Un Xf hnl YB
    go_wp2
    obtain⟨v0,v1⟩:=B.c2 (QA.o _ rfl).2.2.2
    refine bodyPost_ret (v:=.tuple #[.slice av m cv,.agg #[I 0,I 0]]) (by simp[results,Tryz.results52,go_sem,v0,v1]) rfl ?_
    exact Rn.o _ rfl
end KX
namespace KY
open Go.RowKit GK KO
open FW (ai aC)
open KW (bE bD aI aU fe cO aH dH bQ)
open KS (Lc bO oD dm blk cT)
structure Small (k:KM.Kn):Prop where
 ak:k.ak.length<=1000000
 bq:∀i,i<k.ak.length->(LM.aY k.ak i).bq.length<=1000000
 frames:k.frames.length<=1000000
 slots:k.slots.length<=1000000
 aj:k.aj.length<=1000000
 aA:∀i,i<k.aj.length->(KM.aq k.aj i).aA.length<=1000000
 au:∀i,i<k.aj.length->(KM.aq k.aj i).au.length<=1000000
def Ql (w:World) (k:KM.Kn) (e:Ending) (w':World):Prop:=∃S hs,KM.Same k.ak hs/\e=.returned (.agg #[S.vS,S.vF,S.vL,S.vP,I k.hand])/\Kr w.heap.size w' S (KM.bl k hs)/\Below w.heap.size w w'
end KY
namespace KY
open Go.RowKit GK KO
open FW (ai aC)
open KW (bE bD aI aU fe cO aH dH bQ kF eY)
open KS (Lc bO oD dm blk cT)
open KX (tN)
def l4:Prop:=∀(k:KM.Kn) (a:fe) (w:World),cO w a k->Small k->Calls Tryz.prog 55 #[.agg (aH a k)] w (Ql w k)
def fp (k:KM.Kn):List Value:=KW.qy (KW.js k.ak k.ak.length) 256
theorem Dh {k:KM.Kn} (hr:LM.cZ k.ak=true) {hs:List LM.Sh} (h:KM.Same k.ak hs):tN (fp k) hs:=fun n hn=>by
 unfold fp
 rw[KW.wj _ n 256 hn,KW.uG k.ak hr n,KM.tU h]
theorem wA {hs:List LM.Sh} (h:LM.cZ hs=true) (i:Nat) (hi:i<hs.length):(LM.aY hs i).bq.length<=16:=by
 have all:∀n,LM.b7 hs n=true->∀i,i<n->LM.bH (LM.aY hs i)=true:=fun n=>by
  induction n with
  | zero=>intro _ i hi;omega
  | succ n ih =>
   intro hn i hi
   unfold LM.b7 at hn
   rw[Bool.and_eq_true,Bool.and_eq_true] at hn
   by_cases c:i=n
   · rw[c];exact hn.2.1
   · exact ih hn.1 i (by omega)
 have hb:=all hs.length h i hi
 unfold LM.bH at hb
 rw[Bool.and_eq_true] at hb
 have:=LM.iK _ _ hb.2
 omega
theorem tQ {k:KM.Kn} (hR:KM.aQ k) (hF:eY k):Small k:=by
 have hc:=hR.c
 refine⟨by omega,fun i hi=>?_,by omega,by omega,by omega,fun i hi=>?_,fun i hi=>by have:=KX.iI hR hi;omega⟩
 · have:=wA hR.dU i hi
   omega
 · have:=AM.gm _ (hR.sp hi).aA
   omega
theorem UX {lo mb:Nat} {w' V:World} {S:St} {k:KM.Kn} {hs:List LM.Sh} {k0:KM.Kn} {a:fe} (hr:Kr lo w' S (KM.bl k hs)) (hm:w'.heap[mb]?=some (.cells (kF a k0) 104 (0,0))) (hlb:lo<=mb) (hno:S.lab mb=.no) (ht:fp k0=fp k)
  (hV:V=((((w'.setCell (Ad mb 0) S.vS).setCell (Ad mb 1) S.vF).setCell (Ad mb 2) S.vL).setCell (Ad mb 3) S.vP).setCell (Ad mb 4) (I k.hand)) :
  Km lo mb 104 (fp k) V ⟨fun b=>if b=mb then .head else S.lab b,S.vS,S.vF,S.vL,S.vP,S.L⟩ (KM.bl k hs):=by
 have kp:Kp (fun b=>b=mb) w' V:=by
  rw[hV]
  exact((((Kp.set (fun b=>b=mb) w' (Ad mb 0) _ rfl).trans (Kp.set (fun b=>b=mb) _ (Ad mb 1) _ rfl) (fun _ _ g=>g)).trans (Kp.set (fun b=>b=mb) _ (Ad mb 2) _ rfl) (fun _ _ g=>g)).trans (Kp.set (fun b=>b=mb) _ (Ad mb 3) _ rfl) (fun _ _ g=>g)).trans (Kp.set (fun b=>b=mb) _ (Ad mb 4) _ rfl) (fun _ _ g=>g)
 have r1:=hr.kp kp (fun b hb e=>hb (by rw[e];exact hno))
 have lb:∀b c,S.lab b=c->c≠.no->(if b=mb then Lb.head else S.lab b)=c:=fun b c e hc=>by
  rw[if_neg,e]
  intro x
  exact hc (by rw[<- e,x];exact hno)
 refine⟨⟨fun b hb=>?_,r1.ak,r1.bq,r1.frames,r1.slots,r1.aj,r1.len,r1.each,fun b hb=>lb b _ (r1.lS b hb) (by simp),fun i hi b hb=>lb b _ (r1.lX i hi b hb) (by simp),fun b hb=>lb b _ (r1.lF b hb) (by simp),fun b hb=>lb b _ (r1.lL b hb) (by simp),fun b hb=>lb b _ (r1.lP b hb) (by simp),fun i hi b hb=>lb b _ (r1.lA i hi b hb) (by simp),fun i hi b hb=>lb b _ (r1.lE i hi b hb) (by simp)⟩,?_,if_pos rfl⟩
 · by_cases c:b=mb
   · rw[c]
     exact⟨hlb,Nat.lt_of_lt_of_le (B.isLt hm) kp.size⟩
   · have hb:(if b=mb then Lb.head else S.lab b)≠.no:=hb
     rw[if_neg c] at hb
     exact r1.mW b hb
 · rw[hV,B.set (B.set (B.set (B.set (B.set hm 0 S.vS) 1 S.vF) 2 S.vL) 3 S.vP) 4 (I k.hand)]
   unfold kF KW.l7
   rw[<- ht]
   congr 2
theorem Gs (yw:l4) (k:KM.Kn) (a:fe) (mb:Nat) (w:World) (hK:cO w a k) (hsm:Small k) (hm:w.heap[mb]?=some (.cells (kF a k) 104 (0,0))) (lo:Nat) (hlo:lo<=mb) :
  Calls Tryz.prog 84 #[.pointer (some (Ad mb 0))] w fun e w'=>e=.returned (.tuple #[])/\∃S hs,KM.Same k.ak hs/\Km lo mb 104 (fp k) w' S (KM.bl k hs)/\(∀b,S.lab b≠.no->b=mb∨w.heap.size<=b)/\Kp (fun b=>b=mb) w w':=by
 have Kg:=ai (yw k a w hK hsm)
 have mU:=B.isLt hm
 have HM:=ai hm
 have bh:Hid (∀w1 S hs V,KM.Same k.ak hs->Kr w.heap.size w1 S (KM.bl k hs)->Below w.heap.size w w1->V=((((w1.setCell (Ad mb 0) S.vS).setCell (Ad mb 1) S.vF).setCell (Ad mb 2) S.vL).setCell (Ad mb 3) S.vP).setCell (Ad mb 4) (I k.hand)->∃S hs,KM.Same k.ak hs/\Km lo mb 104 (fp k) V S (KM.bl k hs)/\(∀b,S.lab b≠.no->b=mb∨w.heap.size<=b)/\Kp (fun b=>b=mb) w V):=fun w1 S hs V h1 h2 h3 h4=>by
  have jE:=B.below HM.o h3 mU
  have hno:S.lab mb=.no:=Classical.not_not.1 fun x=>by have:=(h2.mW mb x).1;omega
  have r1:Kr lo w1 S (KM.bl k hs):=h2.mono (by omega)
  have m:=UX r1 jE hlo hno rfl h4
  refine⟨_,hs,h1,m,fun b hb=>?_,?_⟩
  · by_cases c:b=mb
    · exact .inl c
    · have hb:(if b=mb then Lb.head else S.lab b)≠.no:=hb
      rw[if_neg c] at hb
      exact .inr (h2.mW b hb).1
  · have kp:Kp (fun b=>b=mb) w1 V:=by
     rw[h4]
     exact((((Kp.set (fun b=>b=mb) w1 (Ad mb 0) _ rfl).trans (Kp.set (fun b=>b=mb) _ (Ad mb 1) _ rfl) (fun _ _ g=>g)).trans (Kp.set (fun b=>b=mb) _ (Ad mb 2) _ rfl) (fun _ _ g=>g)).trans (Kp.set (fun b=>b=mb) _ (Ad mb 3) _ rfl) (fun _ _ g=>g)).trans (Kp.set (fun b=>b=mb) _ (Ad mb 4) _ rfl) (fun _ _ g=>g)
    exact(Kp.aW h3).trans kp (fun _ _ g=>g)
 have Xh:Hid (Calls Tryz.prog 55 #[.agg (aH a k)] w fun e w'=>∃S hs aS nS cS aF nF cF aL nL cL aP nP cP,S.vS=.slice aS nS cS/\S.vF=.slice aF nF cF/\S.vL=.slice aL nL cL/\S.vP=.slice aP nP cP/\KM.Same k.ak hs/\e=.returned (.agg #[.slice aS nS cS,.slice aF nF cF,.slice aL nL cL,.slice aP nP cP,I k.hand])/\Kr w.heap.size w' S (KM.bl k hs)/\Below w.heap.size w w'):=Kg.o.mono fun e w' ⟨S,hs,h1,h2,h3,h4⟩=>by
  obtain⟨aS,cS,eS,_⟩:=aR h3.ak
  obtain⟨aF,cF,eF,_⟩:=aR h3.frames
  obtain⟨aL,cL,eL,_⟩:=aR h3.slots
  obtain⟨aP,cP,eP,_⟩:=aR h3.aj
  exact⟨S,hs,aS,_,cS,aF,_,cF,aL,_,cL,aP,_,cP,eS,eF,eL,eP,h1,by rw[h2,eS,eF,eL,eP],h3,h4⟩
 have c0:w.cell? (Ad mb 0)=some (.slice a.aS k.ak.length a.cS):=B.cell hm 0 rfl
 have c1:w.cell? (Ad mb 1)=some (.slice a.aF k.frames.length a.cF):=B.cell hm 1 rfl
 have c2:w.cell? (Ad mb 2)=some (.slice a.aL k.slots.length a.cL):=B.cell hm 2 rfl
 have c3:w.cell? (Ad mb 3)=some (.slice a.aP k.aj.length a.cP):=B.cell hm 3 rfl
 have c4:w.cell? (Ad mb 4)=some (I k.hand):=B.cell hm 4 rfl
 have HCM:Hid (∀V,Below w.heap.size w V->(V.cell? (Ad mb 0)=some (.slice a.aS k.ak.length a.cS)/\V.cell? (Ad mb 1)=some (.slice a.aF k.frames.length a.cF)/\V.cell? (Ad mb 2)=some (.slice a.aL k.slots.length a.cL)/\V.cell? (Ad mb 3)=some (.slice a.aP k.aj.length a.cP)/\V.cell? (Ad mb 4)=some (I k.hand))/\V.frozen? (Ad mb 0)=false/\V.frozen? (Ad mb 1)=false/\V.frozen? (Ad mb 2)=false/\V.frozen? (Ad mb 3)=false/\V.frozen? (Ad mb 4)=false):=fun V hb=>by
  have h1:=B.below HM.o hb mU
  exact⟨⟨B.cell h1 0 rfl,B.cell h1 1 rfl,B.cell h1 2 rfl,B.cell h1 3 rfl,B.cell h1 4 rfl⟩,B.free h1 0,B.free h1 1,B.free h1 2,B.free h1 3,B.free h1 4⟩
 unfold aH at Xh
 clear hm hK hsm Kg
 go_enter Tryz.func84,Tryz.ntmps84
 go_wp2_with (go_at_call 55;refine Xh.o.mono ?_;rintro e w1 ⟨S,hs,aS,nS,cS,aF,nF,cF,aL,nL,cL,aP,nP,cP,eS,eF,eL,eP,hsame,rfl,hkr,hb1⟩;have HF1:=ai (fun V=>bh.o w1 S hs V hsame hkr hb1);rw[eS,eF,eL,eP] at HF1;obtain⟨⟨y0,y1,y2,y3,y4⟩,f0,f1,f2,f3,f4⟩:=HCM.o w1 hb1;clear hsame hkr hb1 eS eF eL eP)
 refine bodyPost_end (v:=.tuple #[]) (by simp[results,Tryz.results84,go_sem]) rfl ?_
 exact⟨rfl,HF1.o _ rfl⟩
end KY
namespace KY
open Go.RowKit GK KO
open FW (ai aC)
open KW (bE bD aI aU fe cO aH dH bQ kF eY b6 il)
open KS (Lc bO oD dm blk cT)
open KX (tN)
def cW (k:KM.Kn) (sp size way:Int) (ways:List Int):Int:=if b6 k sp≠0 then b6 k sp else if ¬(1<=size/\size<=8) then 3 else if way∈ways then 0 else 10
def nY (w:World) (k:KM.Kn) (e:Ending) (w':World):Prop:=∃mb S hs,e=.returned (.tuple #[.pointer (some (Ad mb 0)),I 0])/\KM.Same k.ak hs/\Km w.heap.size mb 104 (fp k) w' S (KM.bl k hs)/\Below w.heap.size w w'
theorem CE {w:World} {a:fe} {k:KM.Kn} {sp:Int} (h:Calls Tryz.prog 69 #[.agg (aH a k),I sp] w (il w a k (b6 k sp))) (hc:b6 k sp≠0):Calls Tryz.prog 69 #[.agg (aH a k),I sp] w fun e w'=>e=.returned (.tuple #[.pointer none,I (b6 k sp)])/\Below w.heap.size w w':=h.mono fun e w' ⟨hb,hh⟩=>by
 rcases hh with⟨h0,_⟩ | ⟨_,h1⟩
 · exact absurd h0 hc
 · exact⟨h1,hb⟩
theorem Gu {w:World} {a:fe} {k:KM.Kn} {sp:Int} (h:Calls Tryz.prog 69 #[.agg (aH a k),I sp] w (il w a k (b6 k sp))) (hc:b6 k sp=0):Calls Tryz.prog 69 #[.agg (aH a k),I sp] w fun e w'=>∃mb,e=.returned (.tuple #[.pointer (some (Ad mb 0)),I 0])/\w.heap.size<=mb/\w'.heap[mb]?=some (.cells (kF a k) 104 (0,0))/\Below w.heap.size w w':=h.mono fun e w' ⟨hb,hh⟩=>by
 rcases hh with⟨_,mb,h1,h2,h3⟩ | ⟨h0,_⟩
 · exact⟨mb,h1,h2,h3,hb⟩
 · exact absurd hc h0
theorem lI {k:KM.Kn} {sp:Int} (h:b6 k sp=0):KM.aQ k/\0<=sp/\sp.toNat<k.aj.length/\(KM.aq k.aj sp.toNat).live=true:=by
 unfold KW.b6 at h
 by_cases c:KM.dA k=0
 · rw[if_pos c] at h
   by_cases d:0<=sp/\sp<(k.aj.length:Int)/\(KM.aq k.aj sp.toNat).live=true
   · exact⟨(KM.jP k).1 c,d.1,by omega,d.2.2⟩
   · rw[if_neg d] at h;cases h
 · rw[if_neg c] at h;exact absurd h c
theorem tY (k:KM.Kn) (a:fe) (sp size way:Int) (ways:List Int) (aw:Option Addr) (cw:Nat) (w:World) (hK:cO w a k) (hF:eY k) (hsp:M.fR sp) (hw:aU bQ 1 0 w aw ways) (GQ:ways.length<=1000000) (hc:cW k sp size way ways≠0) :
  Calls Tryz.prog 51 #[.agg (aH a k),I sp,I size,I way,.slice aw ways.length cw] w fun e w'=>e=.returned (.tuple #[.pointer none,I (cW k sp size way ways)])/\Below w.heap.size w w':=by
 have pP:=ai (fun V (hV:Below w.heap.size w V)=>KW.rI k a sp V (hK.below hV) hF hsp)
 have ND:=ai (fun V (hV:Below w.heap.size w V)=>KW.mQ ways way aw cw V (hw.below hV) GQ)
 have bI:=ai ((Below.refl w.heap.size w).alloc (Nat.le_refl _) (.cells (aH a k) 27))
 have KB:=ai (B.new w (aH a k) 27)
 obtain⟨C,hC⟩:=ex (cW k sp size way ways)
 rw[<- hC] at hc ⊢
 obtain⟨P,hP⟩:∃P:Ending->World->Prop,P=fun e w'=>e=.returned (.tuple #[.pointer none,I C])/\Below w.heap.size w w':=⟨_,rfl⟩
 have HE:Hid (∀V,Below w.heap.size w V->P (.returned (.tuple #[.pointer none,I C])) V):=fun V hV=>by rw[hP];exact⟨rfl,hV⟩
 rw[<- hP]
 clear hP
 unfold cW at hC
 by_cases c1:b6 k sp=0
 · rw[if_neg (fun x=>x c1)] at hC
   have om:=ai (fun V hV=>Gu (pP.o V hV) c1)
   by_cases c2:1<=size/\size<=8
   · rw[if_neg (fun x=>x c2)] at hC
     have c3:way∉ways:=fun x=>by rw[if_pos x] at hC;exact hc hC
     rw[if_neg c3] at hC
     subst hC
     rw[decide_eq_false c3] at ND
     obtain⟨g1,g2⟩:=c2
     clear pP c1 c3 hK hF hsp hw hc
     unfold aH at om bI KB ⊢
     go_enter Tryz.func51,Tryz.ntmps51
     go_wp2_with (first
      | (go_at_call 69;refine(om.o _ bI.o).mono ?_;rintro e w1 ⟨mb,rfl,jE,hm2,hb1⟩;have aZ:=ai (aC bI.o hb1);clear hb1 hm2)
      | (go_at_call 95;refine(ND.o _ aZ.o).mono ?_;rintro e w2 ⟨rfl,rfl⟩))
     exact HE.o _ aZ.o
   · rw[if_pos c2] at hC
     subst hC
     clear pP ND c1 hK hF hsp hw hc
     unfold aH at om bI KB ⊢
     rcases(show size<1∨(1<=size/\8<size) by omega) with g | ⟨g1,g2⟩
     · go_enter Tryz.func51,Tryz.ntmps51
       go_wp2_with (go_at_call 69;refine(om.o _ bI.o).mono ?_;rintro e w1 ⟨mb,rfl,jE,hm2,hb1⟩;have aZ:=ai (aC bI.o hb1);clear hb1 hm2)
       exact HE.o _ aZ.o
     · have g3:¬size<1:=by omega
       go_enter Tryz.func51,Tryz.ntmps51
       go_wp2_with (go_at_call 69;refine(om.o _ bI.o).mono ?_;rintro e w1 ⟨mb,rfl,jE,hm2,hb1⟩;have aZ:=ai (aC bI.o hb1);clear hb1 hm2)
       exact HE.o _ aZ.o
 · rw[if_pos c1] at hC
   have om:=ai (fun V hV=>CE (pP.o V hV) c1)
   rw[<- hC] at om
   have cb:(C != 0)=true:=by simpa using hc
   clear pP ND c1 hK hF hsp hw hc hC
   unfold aH at om bI KB ⊢
   go_enter Tryz.func51,Tryz.ntmps51
   go_wp2_with (go_at_call 69;refine(om.o _ bI.o).mono ?_;rintro e w1 ⟨rfl,hb1⟩;have aZ:=ai (aC bI.o hb1);clear hb1)
   exact HE.o _ aZ.o
theorem wO (yw:l4) (k:KM.Kn) (a:fe) (sp size way:Int) (ways:List Int) (aw:Option Addr) (cw:Nat) (w:World) (hK:cO w a k) (hF:eY k) (hsp:M.fR sp) (hw:aU bQ 1 0 w aw ways) (GQ:ways.length<=1000000) (hc:cW k sp size way ways=0) :
  Calls Tryz.prog 51 #[.agg (aH a k),I sp,I size,I way,.slice aw ways.length cw] w (nY w k):=by
 have c1:b6 k sp=0:=by
  unfold cW at hc
  by_cases c:b6 k sp=0
  · exact c
  · rw[if_pos c] at hc;exact absurd hc c
 have c2:1<=size/\size<=8:=by
  unfold cW at hc
  rw[if_neg (fun x=>x c1)] at hc
  by_cases c:1<=size/\size<=8
  · exact c
  · rw[if_pos c] at hc;cases hc
 have c3:way∈ways:=by
  unfold cW at hc
  rw[if_neg (fun x=>x c1),if_neg (fun x=>x c2)] at hc
  by_cases c:way∈ways
  · exact c
  · rw[if_neg c] at hc;cases hc
 have hR:=(lI c1).1
 have hsm:=tQ hR hF
 have om:=ai (fun V (hV:Below w.heap.size w V)=>Gu (KW.rI k a sp V (hK.below hV) hF hsp) c1)
 have ND:=ai (fun V (hV:Below w.heap.size w V)=>KW.mQ ways way aw cw V (hw.below hV) GQ)
 rw[decide_eq_true c3] at ND
 have bI:=ai ((Below.refl w.heap.size w).alloc (Nat.le_refl _) (.cells (aH a k) 27))
 have KB:=ai (B.new w (aH a k) 27)
 have HOW:Hid (∀V mb,Below w.heap.size w V->w.heap.size<=mb->V.heap[mb]?=some (.cells (kF a k) 104 (0,0))->Calls Tryz.prog 84 #[.pointer (some (Ad mb 0))] V fun e w'=>e=.returned (.tuple #[])/\nY w k (.returned (.tuple #[.pointer (some (Ad mb 0)),I 0])) w'):=fun V mb hV jE hm2=>(Gs yw k a mb V (hK.below hV) hsm hm2 w.heap.size jE).mono fun e w' ⟨h1,S,hs,h2,h3,h4,h5⟩=>⟨h1,mb,S,hs,rfl,h2,h3,Kp.below hV h5 hV.size (fun b e=>by omega)⟩
 obtain⟨P,hP⟩:=ex (nY w k)
 rw[<- hP] at HOW ⊢
 obtain⟨g1,g2⟩:=c2
 clear c1 c3 hK hF hsp hw hc hR hsm hP
 unfold aH at om bI KB ⊢
 go_enter Tryz.func51,Tryz.ntmps51
 go_wp2_with (first
  | (go_at_call 69;refine(om.o _ bI.o).mono ?_;rintro e w1 ⟨mb,rfl,jE,hm2,hb1⟩;have aZ:=ai (aC bI.o hb1);have D2:=ai hm2;have N5:Hid (w.heap.size<=mb):=(by simp at jE;exact Nat.le_trans (by omega) jE);clear hb1 hm2 jE)
  | (go_at_call 95;refine(ND.o _ aZ.o).mono ?_;rintro e w2 ⟨rfl,rfl⟩)
  | (go_at_call 84;refine(HOW.o _ _ aZ.o N5.o D2.o).mono ?_;rintro e w3 ⟨rfl,hq⟩;have HQ:=ai hq;clear hq))
 exact HQ.o
end KY
namespace KR
open Go.RowKit GK
open FW (ai aC)
open KW (aU fe cO aH eY lZ ku aI fF bE bD b6)
open KY (cW)
theorem LN (k:KM.Kn) (a:fe) (sp:Int) (w:World) (hK:cO w a k) (hF:eY k) (hsp:M.fR sp) :
  Calls Tryz.prog 56 #[.agg (aH a k),I sp] w fun e w'=>e=.returned (I (b6 k sp))/\Below w.heap.size w w':=by
 obtain⟨WA,dx⟩:=ex (w.alloc (.cells (aH a k) 27))
 have hb0:Below w.heap.size w WA:=by rw[dx];exact(Below.refl _ _).alloc (Nat.le_refl _) _
 have kb:WA.heap[w.heap.size]?=some (.cells (aH a k) 27 (0,0)):=by rw[dx];exact B.new w _ _
 have KB:Hid (∀V,Below WA.heap.size WA V->V.heap[w.heap.size]?=some (.cells #[.slice a.aS k.ak.length a.cS,.slice a.aF k.frames.length a.cF,.slice a.aL k.slots.length a.cL,.slice a.aP k.aj.length a.cP,I k.hand] 27 (0,0))):=fun V hb=>B.below kb hb (B.isLt kb)
 obtain⟨k0,k1,k2,k3,k4⟩:=B.c5 (KB.o WA (Below.refl _ _))
 have eV:=ai dx
 have bI:=ai hb0
 have sI:Hid (Calls Tryz.prog 14 #[.agg (aH a k)] WA fun e w'=>e=.returned (I (KM.dA k))/\Below WA.heap.size WA w'):=by
  have:=gv k a WA (hK.below hb0) hF
  rw[KM.jO] at this
  exact this
 have rV:k.aj.length<=140737488351232:=hF.np
 have yD:=ai (fun V=>AW.dz sp 0 ((k.aj.length:Int)-1) V)
 have uO:Hid (∀V i,Below WA.heap.size WA V->i<k.aj.length->∃pb po,a.aP=some (Ad pb po)/\V.cell? (Ad pb (po+i*3))=some (.bool (KM.aq k.aj i).live)):=fun V i hV hi=>by
  obtain⟨pb,po,e1,e2,e3⟩:=(hK.aj.below (hb0.trans (hV.mono hb0.size))) (by omega)
  obtain⟨va,ap,cp,c0,_⟩:=e3 i hi
  exact⟨pb,po,e1,c0⟩
 unfold KW.b6
 obtain⟨C,hC⟩:=ex (KM.dA k)
 rw[<- hC] at sI ⊢
 unfold aH at sI eV ⊢
 clear hK hF hb0 kb dx hC
 by_cases c:C=0
 · rw[if_pos c]
   subst c
   by_cases d:0<=sp/\sp<=(k.aj.length:Int)-1
   · rw[decide_eq_true d] at yD
     obtain⟨j,rfl⟩:∃j:Nat,sp=(j:Int):=⟨sp.toNat,by omega⟩
     rw[Int.toNat_natCast]
     have hj:j<k.aj.length:=by omega
     have AU:(j:Int)<(k.aj.length:Int):=by omega
     obtain⟨lv,hlv⟩:=ex ((KM.aq k.aj j).live)
     have HSJ:Hid (∀V,Below WA.heap.size WA V->∃pb po,a.aP=some (Ad pb po)/\V.cell? (Ad pb (po+j*3))=some (.bool lv)):=fun V hV=>by rw[hlv];exact uO.o V j hV hj
     rw[<- hlv]
     have HJJ:=ai hj
     have WZ:=ai AU
     clear hlv uO d hj hsp
     have hif:(if 0<=(j:Int)/\(j:Int)<(k.aj.length:Int)/\lv=true then (0:Int) else 6)=if lv then 0 else 6:=by
      cases lv <;> simp;omega
     rw[hif]
     clear hif AU
     go_enter Tryz.func56,Tryz.ntmps56
     go_upto_region 1 with fail
     rw[<- eV.o]
     go_upto_region 2 with(go_at_call 14;refine sI.o.mono ?_;rintro e w1 ⟨rfl,hb1⟩;have aZ:=ai hb1;obtain⟨pb,po,hao,c0⟩:=HSJ.o _ hb1;have hq:=KB.o _ hb1;rw[hao] at hq;obtain⟨k0,k1,k2,k3,k4⟩:=B.c5 hq;clear hb1 hq)
     have AU:=WZ.o
     have hjj:=HJJ.o
     clear hao
     cases lv with
     | true =>
      go_wp2_with (go_at_call 44;refine(yD.o _).mono ?_;rintro e w2 ⟨rfl,rfl⟩)
      go_ret
      exact⟨rfl,bI.o.trans (aZ.o.mono bI.o.size)⟩
     | false =>
      go_wp2_with (go_at_call 44;refine(yD.o _).mono ?_;rintro e w2 ⟨rfl,rfl⟩)
      go_ret
      exact⟨rfl,bI.o.trans (aZ.o.mono bI.o.size)⟩
   · rw[decide_eq_false d] at yD
     rw[if_neg (fun g=>d ⟨g.1,by omega⟩)]
     clear uO d
     go_enter Tryz.func56,Tryz.ntmps56
     go_upto_region 1 with fail
     rw[<- eV.o]
     go_wp2_with (first | (go_at_call 14;refine sI.o.mono ?_;rintro e w1 ⟨rfl,hb1⟩;have aZ:=ai hb1;obtain⟨k0,k1,k2,k3,k4⟩:=B.c5 (KB.o _ hb1);clear hb1) | (go_at_call 44;refine(yD.o _).mono ?_;rintro e w2 ⟨rfl,rfl⟩))
     go_ret
     exact⟨rfl,bI.o.trans (aZ.o.mono bI.o.size)⟩
 · rw[if_neg c]
   have cb:(C==0)=false:=by simpa using c
   clear uO yD
   go_enter Tryz.func56,Tryz.ntmps56
   go_upto_region 1 with fail
   rw[<- eV.o]
   go_wp2_with (go_at_call 14;refine sI.o.mono ?_;rintro e w1 ⟨rfl,hb1⟩;have aZ:=ai hb1;clear hb1)
   go_ret
   exact⟨rfl,bI.o.trans (aZ.o.mono bI.o.size)⟩
theorem wI (k:KM.Kn) (a:fe) (sp n way:Int) (w:World) (hK:cO w a k) (hF:eY k) (hsp:M.fR sp) :
  Calls Tryz.prog 19 #[.agg (aH a k),I sp,I n,I way] w fun e w'=>e=.returned (I (cW k sp n way [0,1,2]))/\Below w.heap.size w w':=by
 obtain⟨WA,dx⟩:=ex (w.alloc (.cells (aH a k) 27))
 have hb0:Below w.heap.size w WA:=by rw[dx];exact(Below.refl _ _).alloc (Nat.le_refl _) _
 have kb:WA.heap[w.heap.size]?=some (.cells (aH a k) 27 (0,0)):=by rw[dx];exact B.new w _ _
 have KB:Hid (∀V,Below WA.heap.size WA V->V.heap[w.heap.size]?=some (.cells #[.slice a.aS k.ak.length a.cS,.slice a.aF k.frames.length a.cF,.slice a.aL k.slots.length a.cL,.slice a.aP k.aj.length a.cP,I k.hand] 27 (0,0))):=fun V hb=>B.below kb hb (B.isLt kb)
 obtain⟨k0,k1,k2,k3,k4⟩:=B.c5 (KB.o WA (Below.refl _ _))
 have eV:=ai dx
 have bI:=ai hb0
 have Ul:=ai (LN k a sp WA (hK.below hb0) hF hsp)
 have pj:=ai (fun V=>AW.dz n 1 8 V)
 have xR:=ai (fun V=>AW.dz way 0 2 V)
 unfold KY.cW
 obtain⟨C,hC⟩:=ex (b6 k sp)
 rw[<- hC] at Ul ⊢
 unfold aH at Ul eV ⊢
 clear hK hF hb0 kb dx hC hsp
 by_cases c:C=0
 · rw[if_neg (fun g=>g c)]
   subst c
   by_cases d:1<=n/\n<=8
   · rw[if_neg (fun g=>g d)]
     rw[decide_eq_true d] at pj
     by_cases e:0<=way/\way<=2
     · rw[decide_eq_true e] at xR
       rw[if_pos (by simp;omega)]
       go_enter Tryz.func19,Tryz.ntmps19
       go_upto_region 1 with fail
       rw[<- eV.o]
       go_wp2_with (first
        | (go_at_call 56;refine Ul.o.mono ?_;rintro e w1 ⟨rfl,hb1⟩;have aZ:=ai hb1;clear hb1)
        | (have _:=FIRST;go_at_call 44;refine(xR.o _).mono ?_;rintro e w3 ⟨rfl,rfl⟩)
        | (go_at_call 44;refine(pj.o _).mono ?_;rintro e w2 ⟨rfl,rfl⟩;have FIRST:=trivial))
       go_ret
       exact⟨rfl,bI.o.trans (aZ.o.mono bI.o.size)⟩
     · rw[decide_eq_false e] at xR
       rw[if_neg (by simp;omega)]
       go_enter Tryz.func19,Tryz.ntmps19
       go_upto_region 1 with fail
       rw[<- eV.o]
       go_wp2_with (first
        | (go_at_call 56;refine Ul.o.mono ?_;rintro e w1 ⟨rfl,hb1⟩;have aZ:=ai hb1;clear hb1)
        | (have _:=FIRST;go_at_call 44;refine(xR.o _).mono ?_;rintro e w3 ⟨rfl,rfl⟩)
        | (go_at_call 44;refine(pj.o _).mono ?_;rintro e w2 ⟨rfl,rfl⟩;have FIRST:=trivial))
       go_ret
       exact⟨rfl,bI.o.trans (aZ.o.mono bI.o.size)⟩
   · rw[if_pos d]
     rw[decide_eq_false d] at pj
     go_enter Tryz.func19,Tryz.ntmps19
     go_upto_region 1 with fail
     rw[<- eV.o]
     go_wp2_with (first
      | (go_at_call 56;refine Ul.o.mono ?_;rintro e w1 ⟨rfl,hb1⟩;have aZ:=ai hb1;clear hb1)
      | (have _:=FIRST;go_at_call 44;refine(xR.o _).mono ?_;rintro e w3 ⟨rfl,rfl⟩)
      | (go_at_call 44;refine(pj.o _).mono ?_;rintro e w2 ⟨rfl,rfl⟩;have FIRST:=trivial))
     go_ret
     exact⟨rfl,bI.o.trans (aZ.o.mono bI.o.size)⟩
 · rw[if_pos c]
   have cb:(C != 0)=true:=by simpa using c
   go_enter Tryz.func19,Tryz.ntmps19
   go_upto_region 1 with fail
   rw[<- eV.o]
   go_wp2_with (first
    | (go_at_call 56;refine Ul.o.mono ?_;rintro e w1 ⟨rfl,hb1⟩;have aZ:=ai hb1;clear hb1)
    | (have _:=FIRST;go_at_call 44;refine(xR.o _).mono ?_;rintro e w3 ⟨rfl,rfl⟩)
    | (go_at_call 44;refine(pj.o _).mono ?_;rintro e w2 ⟨rfl,rfl⟩;have FIRST:=trivial))
   go_ret
   exact⟨rfl,bI.o.trans (aZ.o.mono bI.o.size)⟩
end KR
end Go.Proofs.YtpgifpeohlllfaaGreat
