import Derived.Test.YtkdigjpejnebkaaGreatGQ00
import Derived.Test.YtkdigjpejnebkaaGreatGQ24
import Derived.Test.YtkdigjpejnebkaaGreatGQ25
import Derived.Test.YtkdigjpejnebkaaGreatGQ23
import Derived.Test.YtkdigjpejnebkaaGreatGQ04
set_option maxHeartbeats 20000000
set_option linter.unusedVariables false
set_option maxRecDepth 100000
set_option linter.unusedSimpArgs false
namespace Go.Proofs.YtkdigjpejnebkaaGreat
namespace GO
open Go.RowKit GK
open GF (Lc vV bw bH aH eO blk eQ eP dw bl nu dg)
open GW (aI bM bc cx)
open FW (ai aB)
theorem Mem.space {lo mb:Nat} {w:World} {D:Nat->Prop} {sl:Int} {vr vo:Value} {v:Value} {L:List Lc} {ss:List FM.Sp} (h:Mem lo mb w D sl vr vo v L ss) (k:Nat) (hk:k<ss.length) :
  ∃sb cap aa na ca ap cp,v=.slice (some (Ad sb 0)) ss.length cap/\sb<w.heap.size/\bw L k=⟨(FM.ax ss k).live,.slice aa na ca,.slice ap (FM.ax ss k).aj.length cp⟩ /\
   w.cell? (Ad sb (k*3))=some (.bool (FM.ax ss k).live)/\w.cell? (Ad sb (k*3+1))=some (.slice aa na ca)/\w.cell? (Ad sb (k*3+2))=some (.slice ap (FM.ax ss k).aj.length cp) /\
   AW.Has w (.slice aa na ca) (FM.ax ss k).aw/\FW.iN w ap (FM.ax ss k).aj/\(FM.ax ss k).aj.length<=cp/\(∀j,w.frozen? (Ad sb j)=false)/\(0<(FM.ax ss k).aj.length->∃pb,ap=some (Ad pb 0)/\pb<w.heap.size):=by
 obtain⟨ao,cap,e,_,hg⟩:=aJ h.row
 have hlen:=h.len
 have hk':k<L.length:=by omega
 obtain⟨sb,rfl,_,hlt⟩:=hg (by omega)
 have hr:=h.row
 rw[e] at hr
 have hs:=h.each k hk'
 obtain⟨aa,ca,ea,_,_⟩:=aJ (show w.ownsRow lo _ 4 _ _ _ from hs.aw)
 obtain⟨ap,cp,ep,Gk,Lh⟩:=aJ hs.aj
 have hc:∀j,j<3->w.cell? (Ad sb (k*3+j))=(bH (bw L k))[j]?:=fun j hj=>cZ bH dw vV hr k j hk' hj
 have hl:bw L k=⟨(FM.ax ss k).live,.slice aa (FM.ax ss k).aw.length ca,.slice ap (FM.ax ss k).aj.length cp⟩:=by
  rw[<- ea,<- ep,<- hs.live]
 refine⟨sb,cap,aa,_,ca,ap,cp,by rw[<- hlen];exact e,hlt,hl,?_,?_,?_,?_,?_,Gk,fun j=>gi hr j,fun hp=>by
  obtain⟨q,e1,_,e3⟩:=Lh hp
  exact⟨q,e1,e3⟩⟩
 · have:=hc 0 (by omega)
   rw[hl] at this
   exact this
 · have:=hc 1 (by omega)
   rw[hl] at this
   exact this
 · have:=hc 2 (by omega)
   rw[hl] at this
   exact this
 · rw[<- ea];exact hs.aw.has
 · intro hp
   obtain⟨q,rfl,hq1,hq2⟩:=Lh hp
   refine⟨q,0,rfl,hq2,fun i hi=>?_⟩
   have hr:=hs.aj
   rw[ep] at hr
   have Gl:∀j,j<2->w.cell? (Ad q (i*2+j))=(aH (FM.aN (FM.ax ss k).aj i))[j]?:=fun j hj=>cZ aH bl FM.yC hr i j hi hj
   rw[Nat.zero_add]
   exact⟨Gl 0 (by omega),Gl 1 (by omega)⟩
structure At (w:World) (f:FM.Fl) (k sb cap pb cr:Nat) (aa:Option Addr) (na ca:Nat) (ap:Option Addr) (cp:Nat):Prop where
 c0:w.cell? (Ad sb (k*3))=some (.bool (FM.ax f.ak k).live)
 c1:w.cell? (Ad sb (k*3+1))=some (.slice aa na ca)
 c2:w.cell? (Ad sb (k*3+2))=some (.slice ap (FM.ax f.ak k).aj.length cp)
 aw:AW.Has w (.slice aa na ca) (FM.ax f.ak k).aw
 aj:FW.iN w ap (FM.ax f.ak k).aj
 fs:∀j,w.frozen? (Ad sb j)=false
 pr:∀j,j<13->w.cell? (Ad pb (k*13+j))=(aI (FM.au f.procs k))[j]?
 fp:∀j,w.frozen? (Ad pb j)=false
 sl:sb<w.heap.size
 pl:pb<w.heap.size
theorem Fo.at {lo mb:Nat} {w:World} {f:FM.Fl} {v:Value} {L:List Lc} {vr vo:Value} (h:Fo lo mb w f v L vr vo) {k:Nat} (hk:k<f.ak.length) (hk2:k<f.procs.length) :
  ∃sb cap pb cr aa na ca ap cp ao co,v=.slice (some (Ad sb 0)) f.ak.length cap/\vr=.slice (some (Ad pb 0)) f.procs.length cr/\vo=.slice ao f.out.length co/\bw L k=⟨(FM.ax f.ak k).live,.slice aa na ca,.slice ap (FM.ax f.ak k).aj.length cp⟩/\At w f k sb cap pb cr aa na ca ap cp:=by
 obtain⟨sb,cap,aa,na,ca,ap,cp,hv,jQ,hlc,c0,c1,c2,ha,hp,_,hfz,_⟩:=h.mem.space k hk
 obtain⟨ar,cr,hr,_,hg⟩:=aJ h.procs
 obtain⟨ao,co,ho,_,_⟩:=aJ h.words
 obtain⟨pb,rfl,_,hpl⟩:=hg (by omega)
 have oM:=h.procs
 rw[hr] at oM
 exact⟨sb,cap,pb,cr,aa,na,ca,ap,cp,ao,co,hv,hr,ho,hlc,c0,c1,c2,ha,hp,hfz,fun j hj=>cZ aI bc FM.vS oM k j hk2 hj,fun j=>gi oM j,jQ,hpl⟩
def kY (lo mb:Nat) (v vr vo:Value) (w:World) (val:Int) (g:FM.Fl) (e:Ending) (w':World):Prop:=e=.returned (I val)/\∃v' L' vo',Fo lo mb w' g v' L' vr vo'/\Kp (fun b=>b=mb∨blk v b∨blk vo b) w w'
theorem KM {lo mb k:Nat} (f:FM.Fl) (v:Value) (L:List Lc) (vr vo:Value) (w:World) (h:Fo lo mb w f v L vr vo) (hk:k<f.ak.length) (hk2:k<f.procs.length) (h4:f.ak.length<=4) (Le:f.procs.length<=4) :
  Calls Tryz.prog 56 #[.pointer (some (Ad mb 0)),I (k:Int),I 6] w (kY lo mb v vr vo w (0) (GR.jo f k FM.E6)):=by
 obtain⟨sb,cap,pb,cr,aa,na,ca,ap,cp,ao,co,rfl,rfl,rfl,hlc,A⟩:=h.at hk hk2
 have q0:w.cell? (Ad pb (k*13))=some (I ((FM.au f.procs k).r 0)):=A.pr 0 (by omega)
 have q1:w.cell? (Ad pb (k*13+1))=some (I ((FM.au f.procs k).r 1)):=A.pr 1 (by omega)
 have q2:w.cell? (Ad pb (k*13+2))=some (I ((FM.au f.procs k).r 2)):=A.pr 2 (by omega)
 have q3:w.cell? (Ad pb (k*13+3))=some (I ((FM.au f.procs k).r 3)):=A.pr 3 (by omega)
 have q4:w.cell? (Ad pb (k*13+4))=some (I ((FM.au f.procs k).r 4)):=A.pr 4 (by omega)
 have q5:w.cell? (Ad pb (k*13+5))=some (I ((FM.au f.procs k).r 5)):=A.pr 5 (by omega)
 have q6:w.cell? (Ad pb (k*13+6))=some (I ((FM.au f.procs k).r 6)):=A.pr 6 (by omega)
 have q7:w.cell? (Ad pb (k*13+7))=some (I ((FM.au f.procs k).r 7)):=A.pr 7 (by omega)
 obtain⟨m0,m1,m2,m3⟩:=B.c4 h.mem.head
 have hmb:=B.isLt h.mem.head
 have hlo:=h.mem.base
 have jQ:=A.sl
 have hpb:=A.pl
 have c0:=A.c0
 have c1:=A.c1
 have c2:=A.c2
 have f0:=A.fs (k*3)
 have f1:=A.fs (k*3+1)
 have f2:=A.fs (k*3+2)
 have XQ:∀j,w.frozen? (Ad mb j)=false:=fun j=>B.free h.mem.head j
 have jc:(k:Int)<(f.ak.length:Int):=by omega
 have iB:(k:Int)<(f.procs.length:Int):=by omega
 have HA:=ai A
 have HF:=ai h
 obtain⟨r0,ma⟩:=ex ((FM.au f.procs k).r 0)
 obtain⟨r1,hr1⟩:=ex ((FM.au f.procs k).r 1)
 obtain⟨r2,hr2⟩:=ex ((FM.au f.procs k).r 2)
 obtain⟨r3,hr3⟩:=ex ((FM.au f.procs k).r 3)
 obtain⟨r4,hr4⟩:=ex ((FM.au f.procs k).r 4)
 obtain⟨r5,uI⟩:=ex ((FM.au f.procs k).r 5)
 obtain⟨r6,uH⟩:=ex ((FM.au f.procs k).r 6)
 obtain⟨r7,uG⟩:=ex ((FM.au f.procs k).r 7)
 rw[<- ma] at q0
 rw[<- hr1] at q1
 rw[<- hr2] at q2
 rw[<- hr3] at q3
 rw[<- hr4] at q4
 rw[<- uI] at q5
 rw[<- uH] at q6
 rw[<- uG] at q7
 obtain⟨P,hP⟩:=ex (kY lo mb (.slice (some (Ad sb 0)) f.ak.length cap) (.slice (some (Ad pb 0)) f.procs.length cr) (.slice ao f.out.length co) w (0) (GR.jo f k FM.E6))
 have HP:Hid (∀e w',kY lo mb (.slice (some (Ad sb 0)) f.ak.length cap) (.slice (some (Ad pb 0)) f.procs.length cr) (.slice ao f.out.length co) w (0) (GR.jo f k FM.E6) e w'->P e w'):=fun e w' g=>by rw[hP];exact g
 rw[<- hP]
 obtain⟨ns,hns⟩:=ex f.ak.length
 obtain⟨nr,fw⟩:=ex f.procs.length
 obtain⟨no,hno⟩:=ex f.out.length
 obtain⟨np,fE⟩:=ex ((FM.ax f.ak k).aj.length)
 obtain⟨lv,hlv⟩:=ex ((FM.ax f.ak k).live)
 rw[<- hns] at m1 jc h4
 rw[<- fw] at m2 iB Le
 rw[<- hno] at m3
 rw[<- fE] at c2
 rw[<- hlv] at c0
 have iy:=ai hns
 have ja:=ai fw
 have jb:=ai hno
 have zx:=ai fE
 have Et:=ai hlv
 have rT:=ai ma
 have pQ:=ai hr1
 have Co:=ai hr2
 have O4:=ai hr3
 have O3:=ai hr4
 have O2:=ai uI
 have O1:=ai uH
 have OZ:=ai uG
 have dx:Hid (P (.returned (I 0)) ((((w.setCell (Ad sb (k*3)) (.bool false)).setCell (Ad sb (k*3+1)) Nl).setCell (Ad sb (k*3+2)) Nl).alloc (.cells #[I r0,I r1,I r2,I r3,I r4,I r5,I r6,I r7] 66))):=by
  refine HP.o _ _ ⟨rfl,?_⟩
  obtain⟨g1,g2⟩:=HF.o.drop hk
  have hb:=(Below.refl _ ((((w.setCell (Ad sb (k*3)) (.bool false)).setCell (Ad sb (k*3+1)) Nl).setCell (Ad sb (k*3+2)) Nl))).alloc (Nat.le_refl _) (.cells #[I r0,I r1,I r2,I r3,I r4,I r5,I r6,I r7] 66)
  exact⟨_,_,_,g1.below hb,(g2.mono (fun b _ e=>.inr (.inl (by subst e;rfl)))).trans (Kp.aF (D:=fun _=>False) hb) (fun _ _ g=>g.elim)⟩
 clear h A hlc hP hns fw hno fE hlv ma hr1 hr2 hr3 hr4 uI uH uG
 go_enter Tryz.func56,Tryz.ntmps56
 go_wp2
 exact dx.o
theorem PU (a b:Int):∀u∈bM ⟨a,b⟩,u.oneCell'=true:=fun u hu=>by
 simp[bM] at hu
 rcases hu with rfl | rfl <;> rfl
theorem KL {lo mb k:Nat} (f:FM.Fl) (v:Value) (L:List Lc) (vr vo:Value) (w:World) (h:Fo lo mb w f v L vr vo) (hk:k<f.ak.length) (hk2:k<f.procs.length) (h4:f.ak.length<=4) (Le:f.procs.length<=4) (hno:f.out.length<=100000) :
  Calls Tryz.prog 56 #[.pointer (some (Ad mb 0)),I (k:Int),I 1] w (kY lo mb v vr vo w (0) (⟨f.slots,f.ak,f.procs,f.out++[⟨(k:Int),(FM.au f.procs k).r 0⟩]⟩)):=by
 obtain⟨sb,cap,pb,cr,aa,na,ca,ap,cp,ao,co,rfl,rfl,rfl,hlc,A⟩:=h.at hk hk2
 have q0:w.cell? (Ad pb (k*13))=some (I ((FM.au f.procs k).r 0)):=A.pr 0 (by omega)
 have q1:w.cell? (Ad pb (k*13+1))=some (I ((FM.au f.procs k).r 1)):=A.pr 1 (by omega)
 have q2:w.cell? (Ad pb (k*13+2))=some (I ((FM.au f.procs k).r 2)):=A.pr 2 (by omega)
 have q3:w.cell? (Ad pb (k*13+3))=some (I ((FM.au f.procs k).r 3)):=A.pr 3 (by omega)
 have q4:w.cell? (Ad pb (k*13+4))=some (I ((FM.au f.procs k).r 4)):=A.pr 4 (by omega)
 have q5:w.cell? (Ad pb (k*13+5))=some (I ((FM.au f.procs k).r 5)):=A.pr 5 (by omega)
 have q6:w.cell? (Ad pb (k*13+6))=some (I ((FM.au f.procs k).r 6)):=A.pr 6 (by omega)
 have q7:w.cell? (Ad pb (k*13+7))=some (I ((FM.au f.procs k).r 7)):=A.pr 7 (by omega)
 obtain⟨m0,m1,m2,m3⟩:=B.c4 h.mem.head
 have Bq:=hno
 have hmb:=B.isLt h.mem.head
 have hlo:=h.mem.base
 have jQ:=A.sl
 have hpb:=A.pl
 have c0:=A.c0
 have c1:=A.c1
 have c2:=A.c2
 have f0:=A.fs (k*3)
 have f1:=A.fs (k*3+1)
 have f2:=A.fs (k*3+2)
 have XQ:∀j,w.frozen? (Ad mb j)=false:=fun j=>B.free h.mem.head j
 have jc:(k:Int)<(f.ak.length:Int):=by omega
 have iB:(k:Int)<(f.procs.length:Int):=by omega
 have HA:=ai A
 have HF:=ai h
 obtain⟨r0,ma⟩:=ex ((FM.au f.procs k).r 0)
 obtain⟨r1,hr1⟩:=ex ((FM.au f.procs k).r 1)
 obtain⟨r2,hr2⟩:=ex ((FM.au f.procs k).r 2)
 obtain⟨r3,hr3⟩:=ex ((FM.au f.procs k).r 3)
 obtain⟨r4,hr4⟩:=ex ((FM.au f.procs k).r 4)
 obtain⟨r5,uI⟩:=ex ((FM.au f.procs k).r 5)
 obtain⟨r6,uH⟩:=ex ((FM.au f.procs k).r 6)
 obtain⟨r7,uG⟩:=ex ((FM.au f.procs k).r 7)
 rw[<- ma] at q0
 rw[<- hr1] at q1
 rw[<- hr2] at q2
 rw[<- hr3] at q3
 rw[<- hr4] at q4
 rw[<- uI] at q5
 rw[<- uH] at q6
 rw[<- uG] at q7
 obtain⟨P,hP⟩:=ex (kY lo mb (.slice (some (Ad sb 0)) f.ak.length cap) (.slice (some (Ad pb 0)) f.procs.length cr) (.slice ao f.out.length co) w (0) (⟨f.slots,f.ak,f.procs,f.out++[⟨(k:Int),(FM.au f.procs k).r 0⟩]⟩))
 have HP:Hid (∀e w',kY lo mb (.slice (some (Ad sb 0)) f.ak.length cap) (.slice (some (Ad pb 0)) f.procs.length cr) (.slice ao f.out.length co) w (0) (⟨f.slots,f.ak,f.procs,f.out++[⟨(k:Int),(FM.au f.procs k).r 0⟩]⟩) e w'->P e w'):=fun e w' g=>by rw[hP];exact g
 rw[<- hP]
 obtain⟨ns,hns⟩:=ex f.ak.length
 obtain⟨nr,fw⟩:=ex f.procs.length
 obtain⟨no,hno⟩:=ex f.out.length
 obtain⟨np,fE⟩:=ex ((FM.ax f.ak k).aj.length)
 obtain⟨lv,hlv⟩:=ex ((FM.ax f.ak k).live)
 rw[<- hns] at m1 jc h4
 rw[<- fw] at m2 iB Le
 rw[<- hno] at m3 Bq
 rw[<- fE] at c2
 rw[<- hlv] at c0
 have iy:=ai hns
 have ja:=ai fw
 have jb:=ai hno
 have zx:=ai fE
 have Et:=ai hlv
 have rT:=ai ma
 have pQ:=ai hr1
 have Co:=ai hr2
 have O4:=ai hr3
 have O3:=ai hr4
 have O2:=ai uI
 have O1:=ai uH
 have OZ:=ai uG
 obtain⟨io,s0,s1,s2,s3⟩:=info_parts Bl
 have Zo:=ai s0
 have Jg:=ai s1
 have Cl:=ai s2
 have R7:=ai s3
 clear s0 s1 s2 s3 h A hlc hP hns fw hno fE hlv ma hr1 hr2 hr3 hr4 uI uH uG
 go_enter Tryz.func56,Tryz.ntmps56
 go_wp2_with fail
 have dH:=ai ((Below.refl w.heap.size w).alloc (Nat.le_refl _) (.cells #[I r0,I r1,I r2,I r3,I r4,I r5,I r6,I r7] 66))
 have zz:=ai (B.new w #[I r0,I r1,I r2,I r3,I r4,I r5,I r6,I r7] 66)
 obtain⟨WA,fH⟩:=ex (w.alloc (.cells #[I r0,I r1,I r2,I r3,I r4,I r5,I r6,I r7] 66))
 rw[<- fH] at dH zz ⊢
 obtain⟨xb,nA⟩:=ex w.heap.size
 rw[<- nA] at zz ⊢
 have tN:=ai nA
 have jn:=ai (HF.o.below dH.o)
 have Xy:w.heap.size<=WA.heap.size:=dH.o.size
 clear fH nA
 have tO:Hid (∀o,((WA.alloc o).drew).ownsRow lo 78 2 (.slice ao no co) no (f.out.flatMap bM)):=fun o=>by
  have h:=jn.o.words
  rw[<- jb.o] at h
  exact tA (Kp.row (Kp.alloc (fun _=>False) _ o) h (fun _ _ g=>g))
 have cB:Hid (Kp (fun b=>blk (.slice ao no co) b) WA WA.drew):=Kp.drew _ _
 have Aw:Hid (∀o,Kp (fun b=>blk (.slice ao no co) b) WA ((WA.alloc o).drew)):=fun o=>(Kp.alloc _ _ o).trans (Kp.drew _ _) (fun _ _ g=>g)
 have cJ:Hid (∀V,Kp (fun b=>blk (.slice ao no co) b) WA V->V.cell? (Ad mb 3)=some (.slice ao no co)/\V.cell? (Ad xb 0)=some (I r0)):=fun V hV=>by
  refine⟨hV.cell (B.cell (v:=.slice ao no co) jn.o.mem.head 3 (by rw[jb.o];rfl)) (fun g=>jn.o.mem.d1.2 (by rw[<- jb.o];exact g)),hV.cell (B.cell zz.o 0 rfl) (fun g=>?_)⟩
  have h:=HF.o.words
  rw[<- jb.o] at h
  have:=(h.lt _ g).2
  have:=tN.o
  simp at *
  omega
 refine GZ.mR (S:=fun V=>Kp (fun b=>blk (.slice ao no co) b) WA V) (z:=13) (by kernel_rfl) ?_
 refine GZ.tk 0 cB.o ?_ ?_ ?_
 rotate_left 1
 · intro V h
   obtain⟨k0,k1⟩:=cJ.o V h
   go_simp
   try with_reducible rfl
 refine GZ.tk 1 cB.o ?_ ?_ ?_
 rotate_left 1
 · intro V h
   obtain⟨k0,k1⟩:=cJ.o V h
   go_simp
   try with_reducible rfl
 refine GZ.tk 2 cB.o ?_ ?_ ?_
 rotate_left 1
 · intro V h
   obtain⟨k0,k1⟩:=cJ.o V h
   go_simp
   try with_reducible rfl
 refine GZ.tk 3 cB.o ?_ ?_ ?_
 rotate_left 1
 · intro V h
   obtain⟨k0,k1⟩:=cJ.o V h
   go_simp
   try with_reducible rfl
 refine GZ.tk 4 cB.o ?_ ?_ ?_
 rotate_left 1
 · intro V h
   obtain⟨k0,k1⟩:=cJ.o V h
   go_simp
   try with_reducible rfl
 refine GZ.tk 5 cB.o ?_ ?_ ?_
 rotate_left 1
 · intro V h
   obtain⟨k0,k1⟩:=cJ.o V h
   go_simp
   try with_reducible rfl
 refine GZ.tk 6 cB.o ?_ ?_ ?_
 rotate_left 1
 · intro V h
   obtain⟨k0,k1⟩:=cJ.o V h
   go_simp
   try with_reducible rfl
 refine GZ.tk 7 cB.o ?_ ?_ ?_
 rotate_left 1
 · intro V h
   obtain⟨k0,k1⟩:=cJ.o V h
   go_simp
   try with_reducible rfl
 refine GZ.tk 8 cB.o ?_ ?_ ?_
 rotate_left 1
 · intro V h
   obtain⟨k0,k1⟩:=cJ.o V h
   go_simp
   try with_reducible rfl
 refine GZ.all (rs:=[9]) (by kernel_rfl) (by simp) ?_
 refine GZ.bJ.cons rfl (fun K hK=>?_) GZ.bJ.nil
 go_simp
 refine hK.out _ _ (fun _=>?_) ?_
 · exact Aw.o _
 clear hK K
 try simp only[Act.put,List.setIfInBounds_toArray,List.set_cons_zero,List.set_cons_succ]
 refine GZ.all (rs:=[10]) (by kernel_rfl) (by simp) ?_
 refine GZ.bJ.cons rfl (fun K hK=>?_) GZ.bJ.nil
 rw[if_pos (by rfl)];refine cF (P:=Tryz.prog) _ _ 28 rfl lo 78 io (.agg #[I 0,I 0]) 2 16 Tryz.underlying28 Zo.o Jg.o Cl.o R7.o rfl (by decide) (.slice ao no co) no (f.out.flatMap bM) rfl (tO.o _) (some (Ad WA.heap.size 0)) 1 1 (bM ⟨(k:Int),r0⟩) rfl rfl (fun _=>⟨_,rfl,lq _ _ _⟩) (PU _ _) (by unfold maxLen;omega) (by omega) (by simp;omega) ?_;intro vG wG xB uN DC;obtain⟨aG,cG,MV,_,_⟩:=aJ xB;subst MV;have zu:=ai (jn.o.word (YV WA (.cells #[I (k:Int),I r0] 78)) (by rw[<- jb.o];exact uN) (by rw[<- jb.o];exact xB) (by rw[<- jb.o];exact DC));have qP:Hid (Kp (fun b=>blk (.slice ao no co) b) WA wG):=(Aw.o _).trans (Kp.grown uN (fun _ e=>e)) (fun _ _ g=>g);have VV:=(cJ.o wG qP.o).1;have hof:wG.frozen? (Ad mb 3)=false:=B.free (qP.o.keep jn.o.mem.head (fun g=>jn.o.mem.d1.2 (by rw[<- jb.o];exact g))) 3;clear xB uN DC
 refine hK.out _ _ (fun _=>?_) ?_
 · exact qP.o
 clear hK K
 try simp only[Act.put,List.setIfInBounds_toArray,List.set_cons_zero,List.set_cons_succ]
 refine GZ.all (rs:=[11]) (by kernel_rfl) (by simp) ?_
 refine GZ.bJ.cons rfl (fun K hK=>?_) GZ.bJ.nil
 go_simp
 refine hK.out _ _ (fun _=>?_) ?_
 · exact qP.o
 clear hK K
 try simp only[Act.put,List.setIfInBounds_toArray,List.set_cons_zero,List.set_cons_succ]
 refine GZ.tk 12 qP.o ?_ ?_ ?_
 rotate_left 1
 · intro V h
   obtain⟨k0,k1⟩:=cJ.o V h
   go_simp
   try with_reducible rfl
 refine GZ.all (rs:=[13]) (by kernel_rfl) (by simp) ?_
 refine GZ.bJ.cons rfl (fun K hK=>?_) GZ.bJ.nil
 go_simp
 refine hK.out _ _ (fun g=>absurd rfl g) ?_
 refine GZ.done (by kernel_rfl) ?_ _
 go_wp2
 have h1:=zu.o.1
 rw[rT.o] at h1
 have h2:=zu.o.2
 exact HP.o _ _ ⟨rfl,_,_,_,h1,(Kp.aF dH.o).trans h2 (fun b _ e=>e.elim .inl (fun g=>.inr (.inr g)))⟩
theorem acS (s:Int) (a b c:Option Addr) (n1 c1 n2 c2 n3 c3:Nat) (w:World):Sem.run Tryz.prog (Instr.field 30 (.agg #[I s,.slice a n1 c1,.slice b n2 c2,.slice c n3 c3]) 1) w=.ok (.slice a n1 c1) w:=by kernel_rfl
structure Rt (f:FM.Fl) (k:Nat):Prop where
 each:∀j,j<f.ak.length->FM.aU (FM.ax f.ak j)=true
 live:(FM.ax f.ak k).live=true
 lens:∀j,j<f.ak.length->(FM.ax f.ak j).aw.length<=100000/\(FM.ax f.ak j).aj.length<=100000
 out:f.out.length<=100000
 room:FM.room f.ak<=f.slots/\f.slots<=512
def ed (f:FM.Fl) (k:Nat) (c:Int):Int:=(GG.cw GM.aQ (GH.bb f) k c).1
def dN (f:FM.Fl) (k:Nat) (c:Int):FM.Fl:=⟨f.slots,(GG.cw GM.aQ (GH.bb f) k c).2.mem.ak,f.procs,(GG.cw GM.aQ (GH.bb f) k c).2.out⟩
theorem ID {f:FM.Fl} {k:Nat} (h:Rt f k):GR.lL f.ak f.ak.length=FM.room f.ak:=GR.Kj h.each _ (Nat.le_refl _)
theorem xc {f:FM.Fl} {k:Nat} (h:Rt f k) (hk:k<f.ak.length):((FM.ax f.ak k).aj.length:Int)=AM.br (FM.ax f.ak k).aw:=by
 exact FM.q8 (h.each k hk)
theorem Bw {f:FM.Fl} {k:Nat} (h:4<=f.ak.length∨f.slots<FM.room f.ak+AM.br (FM.ax f.ak k).aw):ed f k 5=-1/\dN f k 5=f:=by
 unfold ed dN
 rw[GR.tD h]
 exact⟨rfl,rfl⟩
theorem DK {f:FM.Fl} {k:Nat} (h1:¬4<=f.ak.length) (h2:¬f.slots<FM.room f.ak+AM.br (FM.ax f.ak k).aw):ed f k 5=f.procs.length/\dN f k 5=⟨f.slots,f.ak++[FM.ax f.ak k],f.procs,f.out⟩:=by
 unfold ed dN
 rw[GR.qi h1 h2]
 exact⟨rfl,rfl⟩
theorem qi {lo mb k:Nat} (f:FM.Fl) (v:Value) (L:List Lc) (vr vo:Value) (w:World) (h:Fo lo mb w f v L vr vo) (hk:k<f.ak.length) (hk2:k<f.procs.length) (h4:f.ak.length<=4) (Le:f.procs.length<=4) (hr:Rt f k) (Ge:f.procs.length=f.ak.length) :
  Calls Tryz.prog 56 #[.pointer (some (Ad mb 0)),I (k:Int),I 5] w (kY lo mb v vr vo w (ed f k 5) (dN f k 5)):=by
 obtain⟨sb,cap,pb,cr,aa,na,ca,ap,cp,ao,co,rfl,rfl,rfl,hlc,A⟩:=h.at hk hk2
 have q0:w.cell? (Ad pb (k*13))=some (I ((FM.au f.procs k).r 0)):=A.pr 0 (by omega)
 have q1:w.cell? (Ad pb (k*13+1))=some (I ((FM.au f.procs k).r 1)):=A.pr 1 (by omega)
 have q2:w.cell? (Ad pb (k*13+2))=some (I ((FM.au f.procs k).r 2)):=A.pr 2 (by omega)
 have q3:w.cell? (Ad pb (k*13+3))=some (I ((FM.au f.procs k).r 3)):=A.pr 3 (by omega)
 have q4:w.cell? (Ad pb (k*13+4))=some (I ((FM.au f.procs k).r 4)):=A.pr 4 (by omega)
 have q5:w.cell? (Ad pb (k*13+5))=some (I ((FM.au f.procs k).r 5)):=A.pr 5 (by omega)
 have q6:w.cell? (Ad pb (k*13+6))=some (I ((FM.au f.procs k).r 6)):=A.pr 6 (by omega)
 have q7:w.cell? (Ad pb (k*13+7))=some (I ((FM.au f.procs k).r 7)):=A.pr 7 (by omega)
 obtain⟨m0,m1,m2,m3⟩:=B.c4 h.mem.head
 have hmb:=B.isLt h.mem.head
 have hlo:=h.mem.base
 have jQ:=A.sl
 have hpb:=A.pl
 have c0:=A.c0
 have c1:=A.c1
 have c2:=A.c2
 have f0:=A.fs (k*3)
 have f1:=A.fs (k*3+1)
 have f2:=A.fs (k*3+2)
 have XQ:∀j,w.frozen? (Ad mb j)=false:=fun j=>B.free h.mem.head j
 have jc:(k:Int)<(f.ak.length:Int):=by omega
 have iB:(k:Int)<(f.procs.length:Int):=by omega
 have HA:=ai A
 have qo:=ai hr
 have hnb:(FM.ax f.ak k).aj.length<=100000:=(hr.lens k hk).2
 have HTN:=ai (xc hr hk)
 have Wk:=ai Ge
 have Gd:=hr.room
 have OT:=ai hlc
 obtain⟨H,hH⟩:=ex (FM.room f.ak)
 have YG:0<=H:=by rw[hH];exact(FW.mz f.ak f.ak.length).1
 rw[<- hH] at Gd
 have HH:=ai hH
 have HF:=ai h
 obtain⟨r0,ma⟩:=ex ((FM.au f.procs k).r 0)
 obtain⟨r1,hr1⟩:=ex ((FM.au f.procs k).r 1)
 obtain⟨r2,hr2⟩:=ex ((FM.au f.procs k).r 2)
 obtain⟨r3,hr3⟩:=ex ((FM.au f.procs k).r 3)
 obtain⟨r4,hr4⟩:=ex ((FM.au f.procs k).r 4)
 obtain⟨r5,uI⟩:=ex ((FM.au f.procs k).r 5)
 obtain⟨r6,uH⟩:=ex ((FM.au f.procs k).r 6)
 obtain⟨r7,uG⟩:=ex ((FM.au f.procs k).r 7)
 rw[<- ma] at q0
 rw[<- hr1] at q1
 rw[<- hr2] at q2
 rw[<- hr3] at q3
 rw[<- hr4] at q4
 rw[<- uI] at q5
 rw[<- uH] at q6
 rw[<- uG] at q7
 obtain⟨P,hP⟩:=ex (kY lo mb (.slice (some (Ad sb 0)) f.ak.length cap) (.slice (some (Ad pb 0)) f.procs.length cr) (.slice ao f.out.length co) w (ed f k 5) (dN f k 5))
 have HP:Hid (∀e w',kY lo mb (.slice (some (Ad sb 0)) f.ak.length cap) (.slice (some (Ad pb 0)) f.procs.length cr) (.slice ao f.out.length co) w (ed f k 5) (dN f k 5) e w'->P e w'):=fun e w' g=>by rw[hP];exact g
 rw[<- hP]
 obtain⟨ns,hns⟩:=ex f.ak.length
 obtain⟨nr,fw⟩:=ex f.procs.length
 obtain⟨no,hno⟩:=ex f.out.length
 obtain⟨np,fE⟩:=ex ((FM.ax f.ak k).aj.length)
 obtain⟨lv,hlv⟩:=ex ((FM.ax f.ak k).live)
 rw[<- hns] at m1 jc h4
 rw[<- fw] at m2 iB Le
 rw[<- hno] at m3
 rw[<- fE] at c2 hnb
 rw[<- hlv] at c0
 have iy:=ai hns
 have ja:=ai fw
 have jb:=ai hno
 have zx:=ai fE
 have Et:=ai hlv
 have rT:=ai ma
 have pQ:=ai hr1
 have Co:=ai hr2
 have O4:=ai hr3
 have O3:=ai hr4
 have O2:=ai uI
 have O1:=ai uH
 have OZ:=ai uG
 clear hr Ge hH h A hlc hP hns fw hno fE hlv ma hr1 hr2 hr3 hr4 uI uH uG
 obtain⟨is,s0,s1,s2,s3⟩:=info_parts GF.Bo
 have K4:=ai s0
 have K3:=ai s1
 have K2:=ai s2
 have K1:=ai s3
 clear s0 s1 s2 s3
 go_enter Tryz.func56,Tryz.ntmps56
 go_wp2_with fail
 have dH:=ai ((Below.refl w.heap.size w).alloc (Nat.le_refl _) (.cells #[I r0,I r1,I r2,I r3,I r4,I r5,I r6,I r7] 66))
 have zz:=ai (B.new w #[I r0,I r1,I r2,I r3,I r4,I r5,I r6,I r7] 66)
 obtain⟨WA,fH⟩:=ex (w.alloc (.cells #[I r0,I r1,I r2,I r3,I r4,I r5,I r6,I r7] 66))
 rw[<- fH] at dH zz ⊢
 obtain⟨xb,nA⟩:=ex w.heap.size
 rw[<- nA] at zz ⊢
 have tN:=ai nA
 have jn:=ai (HF.o.below dH.o)
 have Xy:w.heap.size<=WA.heap.size:=dH.o.size
 clear fH nA
 haveI:=Q.dZ WA
 have e0:∀x:Q.dG WA.heap.size WA,x.world.cell? (Ad mb 0)=some (I f.slots):=fun x=>(Q.cD x _ _ (B.isLt jn.o.mem.head)).trans (B.cell jn.o.mem.head 0 rfl)
 have e1:∀x:Q.dG WA.heap.size WA,x.world.cell? (Ad mb 1)=some (.slice (some (Ad sb 0)) ns cap):=fun x=>(Q.cD x _ _ (B.isLt jn.o.mem.head)).trans (B.cell jn.o.mem.head 1 (by rw[iy.o];rfl))
 have e2:∀x:Q.dG WA.heap.size WA,x.world.cell? (Ad mb 2)=some (.slice (some (Ad pb 0)) nr cr):=fun x=>(Q.cD x _ _ (B.isLt jn.o.mem.head)).trans (B.cell jn.o.mem.head 2 (by rw[ja.o];rfl))
 have e3:∀x:Q.dG WA.heap.size WA,x.world.cell? (Ad mb 3)=some (.slice ao no co):=fun x=>(Q.cD x _ _ (B.isLt jn.o.mem.head)).trans (B.cell jn.o.mem.head 3 (by rw[jb.o];rfl))
 have e4:∀x:Q.dG WA.heap.size WA,x.world.cell? (Ad sb (k*3+2))=some (.slice ap np cp):=fun x=>(Q.cD x _ _ (by omega)).trans ((M.aA dH.o (by omega)).trans c2)
 have Jf:Hid (∀x:Q.dG WA.heap.size WA,Calls Tryz.prog 84 #[.agg #[I f.slots,.slice (some (Ad sb 0)) ns cap,.slice (some (Ad pb 0)) nr cr,.slice ao no co]] x.world fun e w'=>e=.returned (I H)/\∃y:Q.dG WA.heap.size WA,w'=y.world):=fun x=>by
  obtain⟨az,ar,oG,cs,YL,D5,q1,q2,q3,q4⟩:=(jn.o.below x.keeps).has
  injection q1 with q1 _ q1'
  injection q2 with q2 _ q2'
  injection q3 with q3 _ q3'
  subst q1 q2 q3 q1' q2' q3'
  have h:=GR.sZ f (some (Ad sb 0)) (some (Ad pb 0)) ao cap cr co x.world q4.ak (by rw[<- iy.o];exact h4) (fun j hj=>(qo.o.lens j hj).2)
  unfold FW.bC at h
  rw[<- iy.o,<- ja.o,<- jb.o] at h
  refine h.mono fun e w'' ⟨he,hb⟩=>⟨?_,⟨w'',x.keeps.trans (hb.mono x.keeps.size)⟩,rfl⟩
  rw[he,HH.o,<- ID qo.o,iy.o]
 obtain⟨h0,h5⟩:=Gd
 have HFO:=ai jn.o
 by_cases hc4:ns=4
 · have acw:((ns:Int)==4)=true:=by rw[beq_iff_eq];omega
   have hv:=ai (Bw (f:=f) (k:=k) (.inl (by rw[<- iy.o];omega)))
   refine Q.aX (by kernel_rfl) (by kernel_rfl) ?_
   repeat (first | go_big_quiet_step ((first | (go_at_call 84;exact Jf.o _))) | quiet_step ((first | (go_at_call 84;exact Jf.o _))))
   refine wpQuiet_nil ?_
   intro _ hw'
   obtain⟨x,hw''⟩:=hw'
   subst hw''
   go_wp2
   exact HP.o _ _ ⟨by rw[hv.out.1];rfl,_,_,_,by rw[hv.out.2];exact jn.o.below x.keeps,(Kp.aF dH.o).trans (Kp.aF (D:=fun _=>False) x.keeps) (fun _ _ g=>g.elim)⟩
 · have acw:((ns:Int)==4)=false:=by rw[beq_eq_false_iff_ne];omega
   by_cases hlt:f.slots<H+(np:Int)
   · have hv:=ai (Bw (f:=f) (k:=k) (.inr (by rw[<- HTN.o,<- zx.o,<- HH.o];exact hlt)))
     refine Q.aX (by kernel_rfl) (by kernel_rfl) ?_
     repeat (first | go_big_quiet_step ((first | (go_at_call 84;exact Jf.o _))) | quiet_step ((first | (go_at_call 84;exact Jf.o _))))
     refine wpQuiet_nil ?_
     intro _ hw'
     obtain⟨x,hw''⟩:=hw'
     subst hw''
     go_wp2
     exact HP.o _ _ ⟨by rw[hv.out.1];rfl,_,_,_,by rw[hv.out.2];exact jn.o.below x.keeps,(Kp.aF dH.o).trans (Kp.aF (D:=fun _=>False) x.keeps) (fun _ _ g=>g.elim)⟩
   · have hv:=ai (DK (f:=f) (k:=k) (by rw[<- iy.o];omega) (by rw[<- HTN.o,<- zx.o,<- HH.o];exact hlt))
     refine Q.aX (by kernel_rfl) (by kernel_rfl) ?_
     repeat (first | go_big_quiet_step ((first | (go_at_call 84;exact Jf.o _))) | quiet_step ((first | (go_at_call 84;exact Jf.o _))))
     refine wpQuiet_nil ?_
     intro _ hw'
     obtain⟨x,hw''⟩:=hw'
     subst hw''
     go_wp2_with fail
     obtain⟨W2,hW2⟩:=ex x.world
     have bY:Hid (Below WA.heap.size WA W2):=by show Below _ _ _;rw[hW2];exact x.keeps
     rw[<- hW2]
     clear hW2 x e0 e1 e2 e3 e4 Jf
     have nD:=ai (jn.o.below bY.o)
     have cB:Hid (Kp (fun b=>blk (.slice (some (Ad sb 0)) ns cap) b) W2 W2.drew):=Kp.drew _ _
     have cJ:Hid (∀V,Kp (fun b=>blk (.slice (some (Ad sb 0)) ns cap) b) W2 V->V.cell? (Ad mb 0)=some (I f.slots)/\V.cell? (Ad mb 1)=some (.slice (some (Ad sb 0)) ns cap)/\V.cell? (Ad mb 2)=some (.slice (some (Ad pb 0)) nr cr)/\V.cell? (Ad mb 3)=some (.slice ao no co)):=fun V hV=>by
      have hm:=hV.keep nD.o.mem.head (fun g=>nD.o.mem.n1 g)
      rw[<- iy.o,<- ja.o,<- jb.o] at hm
      exact⟨B.cell hm 0 rfl,B.cell hm 1 rfl,B.cell hm 2 rfl,B.cell hm 3 rfl⟩
     have HOW:Hid (Calls Tryz.prog 47 #[.agg #[I f.slots,.slice (some (Ad sb 0)) ns cap,.slice (some (Ad pb 0)) nr cr,.slice ao no co]] W2.drew (Ou W2.drew f)):=by
      obtain⟨az,ar,oG,cs,YL,D5,q1,q2,q3,q4⟩:=(nD.o.below (Below.refl _ _).drew).has
      injection q1 with q1 _ q1'
      injection q2 with q2 _ q2'
      injection q3 with q3 _ q3'
      subst q1 q2 q3 q1' q2' q3'
      have h:=A9 f (some (Ad sb 0)) (some (Ad pb 0)) ao cap cr co W2.drew q4 (by rw[<- iy.o];omega) qo.o.lens (by rw[<- ja.o];omega) qo.o.out
      unfold FW.bC at h
      rw[<- iy.o,<- ja.o,<- jb.o] at h
      exact h
     have hfd:=acS
     have EO:=ai hk
     have lY:=ai hk2
     refine GZ.mR (S:=fun V=>Kp (fun b=>blk (.slice (some (Ad sb 0)) ns cap) b) W2 V) (z:=17) (by kernel_rfl) ?_
     refine GZ.tk 0 cB.o ?_ ?_ ?_
     rotate_left 1
     · intro V h
       obtain⟨k0,k1,k2,k3⟩:=cJ.o V h
       go_simp
       try with_reducible rfl
     refine GZ.tk 1 cB.o ?_ ?_ ?_
     rotate_left 1
     · intro V h
       obtain⟨k0,k1,k2,k3⟩:=cJ.o V h
       go_simp
       try with_reducible rfl
     refine GZ.tk 2 cB.o ?_ ?_ ?_
     rotate_left 1
     · intro V h
       obtain⟨k0,k1,k2,k3⟩:=cJ.o V h
       go_simp
       try with_reducible rfl
     refine GZ.tk 3 cB.o ?_ ?_ ?_
     rotate_left 1
     · intro V h
       obtain⟨k0,k1,k2,k3⟩:=cJ.o V h
       go_simp
       try with_reducible rfl
     refine GZ.tk 4 cB.o ?_ ?_ ?_
     rotate_left 1
     · intro V h
       obtain⟨k0,k1,k2,k3⟩:=cJ.o V h
       go_simp
       try with_reducible rfl
     refine GZ.tk 5 cB.o ?_ ?_ ?_
     rotate_left 1
     · intro V h
       obtain⟨k0,k1,k2,k3⟩:=cJ.o V h
       go_simp
       try with_reducible rfl
     refine GZ.tk 6 cB.o ?_ ?_ ?_
     rotate_left 1
     · intro V h
       obtain⟨k0,k1,k2,k3⟩:=cJ.o V h
       go_simp
       try with_reducible rfl
     refine GZ.tk 7 cB.o ?_ ?_ ?_
     rotate_left 1
     · intro V h
       obtain⟨k0,k1,k2,k3⟩:=cJ.o V h
       go_simp
       try with_reducible rfl
     refine GZ.tk 10 cB.o ?_ ?_ ?_
     rotate_left 1
     · intro V h
       obtain⟨k0,k1,k2,k3⟩:=cJ.o V h
       go_simp
       try with_reducible rfl
     refine GZ.all (rs:=[8]) (by kernel_rfl) (by simp) ?_
     refine GZ.bJ.cons rfl (fun K hK=>?_) GZ.bJ.nil
     go_simp;go_at_call 47;refine HOW.o.mono ?_;rintro e w8 ⟨mb8,v8,L8,vr8,vo8,rfl,XR,hF8,UJ⟩;obtain⟨sb8,aij,pb8,cr8,aa8,na8,ca8,ap8,cp8,ao8,co8,rfl,rfl,rfl,Yb,A8⟩:=hF8.at EO.o lY.o;have VA:=ai hF8;have rV:=ai UJ;have HM8:=ai XR;have HL8:=ai Yb;have d0:=A8.c0;have d1:=A8.c1;have d2:=A8.c2;have ahh:=A8.sl;have hz8:w.heap.size<=w8.heap.size:=Nat.le_trans Xy (Nat.le_trans bY.o.size rV.o.size);rw[<- Et.o] at d0;rw[<- zx.o] at d2;rw[<- iy.o];clear hF8 UJ XR Yb A8;have Tj:Hid (Kp (fun b=>blk (.slice (some (Ad sb 0)) ns cap) b) W2 w8):=(Kp.drew _ _).trans (Kp.aF rV.o) (fun _ _ g=>g);have Aw:Hid (∀o,Kp (fun b=>blk (.slice (some (Ad sb 0)) ns cap) b) W2 (w8.alloc o)):=fun o=>Tj.o.trans (Kp.alloc _ _ o) (fun _ _ g=>g);go_simp
     refine hK.out _ _ (fun _=>?_) ?_
     · exact Tj.o
     clear hK K
     try simp only[Act.put,List.setIfInBounds_toArray,List.set_cons_zero,List.set_cons_succ]
     refine GZ.tk 9 Tj.o ?_ ?_ ?_
     rotate_left 1
     · intro V h
       obtain⟨k0,k1,k2,k3⟩:=cJ.o V h
       go_simp
       try with_reducible rfl
     refine GZ.tk 11 Tj.o ?_ ?_ ?_
     rotate_left 1
     · intro V h
       obtain⟨k0,k1,k2,k3⟩:=cJ.o V h
       go_simp
       try with_reducible rfl
     refine GZ.all (rs:=[12]) (by kernel_rfl) (by simp) ?_
     refine GZ.bJ.cons rfl (fun K hK=>?_) GZ.bJ.nil
     go_simp
     refine hK.out _ _ (fun _=>?_) ?_
     · exact Tj.o
     clear hK K
     try simp only[Act.put,List.setIfInBounds_toArray,List.set_cons_zero,List.set_cons_succ]
     refine GZ.all (rs:=[13]) (by kernel_rfl) (by simp) ?_
     refine GZ.bJ.cons rfl (fun K hK=>?_) GZ.bJ.nil
     go_simp
     refine hK.out _ _ (fun _=>?_) ?_
     · exact Aw.o _
     clear hK K
     try simp only[Act.put,List.setIfInBounds_toArray,List.set_cons_zero,List.set_cons_succ]
     have tO:Hid (∀o,(w8.alloc o).ownsRow lo 53 3 (.slice (some (Ad sb 0)) ns cap) ns (L.flatMap bH)):=fun o=>by
      have h:=nD.o.mem.row
      rw[nD.o.mem.len,<- iy.o] at h
      exact Kp.row (((Kp.drew (fun _=>False) W2).trans (Kp.aF rV.o) (fun _ _ g=>g)).trans (Kp.alloc (fun _=>False) _ o) (fun _ _ g=>g)) h (fun _ _ g=>g)
     have R4:Hid (∀(O:Obj) (wG:World) (vG:Value),(w8.alloc O).grownBy wG (Value.slice (some (Ad sb 0)) ns cap).ownBlock->wG.ownsRow lo 53 3 vG (ns+1) (L.flatMap bH++bH ⟨lv,.slice aa8 na8 ca8,.slice ap8 np cp8⟩)->(vG.ownBlock=(Value.slice (some (Ad sb 0)) ns cap).ownBlock∨vG.ownBlock=some (w8.alloc O).heap.size)->Fo lo mb (wG.setCell (Ad mb 1) vG) ⟨f.slots,f.ak++[FM.ax f.ak k],f.procs,f.out⟩ vG (L++[⟨lv,.slice aa8 na8 ca8,.slice ap8 np cp8⟩]) (.slice (some (Ad pb 0)) nr cr) (.slice ao no co)/\Kp (fun b=>b=mb∨blk (.slice (some (Ad sb 0)) ns cap) b) W2 (wG.setCell (Ad mb 1) vG)):=fun O wG vG g1 g2 g3=>by
      have hL8:k<L8.length:=by rw[VA.o.mem.len];exact EO.o
      have hs:=VA.o.mem.each k hL8
      rw[HL8.o,<- Et.o,<- zx.o] at hs
      have hne:=fun b=>(VA.o.mem.n4 k k hL8 hL8 b)
      rw[HL8.o,<- Et.o,<- zx.o] at hne
      have h2:=nD.o
      rw[<- iy.o,<- ja.o,<- jb.o] at h2
      have hl:=h2.mem.len
      rw[<- iy.o] at hl
      exact h2.push (O:=O) (w2:=w8) (by have:=B.isLt h2.mem.head;have:=h2.mem.base;omega) ((Below.refl _ _).drew.trans rV.o) (hs.mono HM8.o) (fun b hb=>(hne b hb).1) g1 (by rw[hl];exact g2) g3
     refine GZ.all (rs:=[14]) (by kernel_rfl) (by simp) ?_
     refine GZ.bJ.cons rfl (fun K hK=>?_) GZ.bJ.nil
     rw[if_pos (by rfl)];refine cF (P:=Tryz.prog) _ _ 26 rfl lo 53 is (.agg #[.bool false,Nl,Nl]) 3 56 Tryz.underlying26 K4.o K3.o K2.o K1.o rfl (by decide) (.slice (some (Ad sb 0)) ns cap) ns (L.flatMap bH) rfl (tO.o _) (some (Ad w8.heap.size 0)) 1 1 (bH ⟨lv,.slice aa8 na8 ca8,.slice ap8 np cp8⟩) rfl rfl (fun _=>⟨_,rfl,lq w8 _ _⟩) (Bg _ _ _ _ _ _ _) (by unfold maxLen;omega) (by omega) (by rw[World.size_alloc];omega) ?_;intro vG wG xB uN DC;obtain⟨aG,cG,MV,_,_⟩:=aJ xB;subst MV;have zu:=ai (R4.o _ _ _ uN xB DC);have qP:Hid (Kp (fun b=>blk (.slice (some (Ad sb 0)) ns cap) b) W2 wG):=(Aw.o _).trans (Kp.grown uN (fun _ e=>e)) (fun _ _ g=>g);have VV:=(cJ.o wG qP.o).2.1;have hof:wG.frozen? (Ad mb 1)=false:=B.free (qP.o.keep nD.o.mem.head (fun g=>nD.o.mem.n1 g)) 1;clear xB uN DC
     refine hK.out _ _ (fun _=>?_) ?_
     · exact qP.o
     clear hK K
     try simp only[Act.put,List.setIfInBounds_toArray,List.set_cons_zero,List.set_cons_succ]
     refine GZ.all (rs:=[15]) (by kernel_rfl) (by simp) ?_
     refine GZ.bJ.cons rfl (fun K hK=>?_) GZ.bJ.nil
     go_simp
     refine hK.out _ _ (fun _=>?_) ?_
     · exact qP.o
     clear hK K
     try simp only[Act.put,List.setIfInBounds_toArray,List.set_cons_zero,List.set_cons_succ]
     refine GZ.tk 16 qP.o ?_ ?_ ?_
     rotate_left 1
     · intro V h
       obtain⟨k0,k1,k2,k3⟩:=cJ.o V h
       go_simp
       try with_reducible rfl
     refine GZ.all (rs:=[17]) (by kernel_rfl) (by simp) ?_
     refine GZ.bJ.cons rfl (fun K hK=>?_) GZ.bJ.nil
     go_simp
     refine hK.out _ _ (fun g=>absurd rfl g) ?_
     refine GZ.done (by kernel_rfl) ?_ _
     go_wp2
     have h1:=zu.o.1
     rw[ja.o,jb.o] at h1
     have h2:=zu.o.2.mono (D1:=fun b=>b=mb∨blk (.slice (some (Ad sb 0)) f.ak.length cap) b∨blk (.slice ao f.out.length co) b) (fun b _ e=>e.elim .inl (fun g=>.inr (.inl g)))
     exact HP.o _ _ ⟨by rw[hv.out.1,Wk.o,iy.o];simp,_,_,_,by rw[hv.out.2];exact h1,(Kp.aF dH.o).trans ((Kp.aF bY.o).trans h2 (fun _ _ g=>g)) (fun _ _ g=>g)⟩
end GO
namespace AW
open Go.RowKit
theorem mI (F:Nat->AM.St) (hF:AM.mW F) (w:World) :
  Calls Tryz.prog 77 #[.agg (AM.eF (fun n=>AM.enc (F n)))] w fun e w'=>∃v,e=.returned v/\Own w.heap.size w' v (AM.cT F)/\Below w.heap.size w w':=by
 have HF:Hid (AM.mW F):=hF
 clear hF
 obtain⟨C,hC⟩:=ex (AM.eF (fun n=>AM.enc (F n)))
 have hCg:Hid (∀n,n<256->C[n]?=some (I (AM.enc (F n)))):=by show ∀n,_;rw[hC];exact fun n hn=>AM.lR _ n hn
 rw[<- hC]
 clear hC
 obtain⟨i0,hi,hz0,hz1,hz2⟩:=info_parts MS
 have HX:Hid ((w.alloc (.cells C 140)).heap[w.heap.size]?=some (.cells C 140 (0,0))):=B.new w C 140
 have cP:Hid (Below w.heap.size w (w.alloc (.cells C 140))):=(Below.refl _ _).alloc (Nat.le_refl _) _
 go_enter Tryz.func77,Tryz.ntmps77
 go_wp2
 go_loopw [3,4] (fun v i wr=>∃k:Nat,1<=k/\k<=256/\i=I k/\wr.ownsRow (w.heap.size+1) 59 4 v (AM.aV F k).length (AM.aT (AM.aV F k))/\wr.heap[w.heap.size]?=some (.cells C 140 (0,0))/\Below w.heap.size w wr) (fun _ i _=>256-(intOf i).toNat)
 case atStart =>
  have e:AM.aV F 1=[]:=by simp only[AM.aV];rw[if_pos HF.o.zero]
  refine⟨1,by omega,by omega,rfl,?_,HX.o,cP.o⟩
  rw[e]
  exact World.ownsRow_nil _ _ _ _
 case round =>
  obtain⟨k,hk1,hk,rfl,hown,hx,hb⟩:=hrel
  have HO:Hid (wr.ownsRow (w.heap.size+1) 59 4 u3 (AM.aV F k).length (AM.aT (AM.aV F k))):=hown
  have YZ:Hid (wr.heap[w.heap.size]?=some (.cells C 140 (0,0))):=hx
  have HB:Hid (Below w.heap.size w wr):=hb
  have hsz:w.heap.size<wr.heap.size:=B.isLt hx
  by_cases hlt:k<256
  · have l0:=B.cell hx k (hCg.out k hlt)
    have l1:=B.cell hx (k-1) (hCg.out (k-1) (by omega))
    have jc:(k:Int)<=255:=by omega
    have ahB:(1:Int)<=(k:Int):=by omega
    have hkb:(k:Int)<256:=by omega
    clear hown hx hb
    have hlast:AM.dW F k=F (k-1):=by
     cases k with
     | zero=>omega
     | succ k=>rfl
    have hpk:=HF.o.bE k
    have hpl:=HF.o.bE (k-1)
    obtain⟨s,hs⟩:=ex (F k)
    obtain⟨t,ht⟩:=ex (AM.dW F k)
    rw[<- hlast,<- ht] at l1 hpl
    rw[<- hs] at l0 hpk
    have HS:Hid (s=F k):=hs
    have HT:Hid (t=AM.dW F k):=ht
    clear hs ht hlast
    by_cases hm:s.m=true
    · have hen:=AM.NJ s hpk hm
      have hinj:=AM.Q0 s t hpk hpl hm
      obtain⟨x,hx⟩:=ex (AM.enc s)
      obtain⟨y,hy⟩:=ex (AM.enc t)
      rw[<- hx] at l0 hen hinj
      rw[<- hy] at l1 hinj
      obtain⟨hp1,hp2,hp3,Le⟩:=hen
      have HP1:Hid ((x-1)%8/2=s.p):=hp1
      have mV:Hid (decide (8<=x-1)=s.z):=hp2
      have HI:Hid (y=x↔AM.qu s t=true):=hinj
      have hx0:(x==0)=false:=beq_eq_false_iff_ne.2 (by omega)
      clear hx hy hp1 hp2 hinj hpk hpl
      by_cases hyx:y=x
      · have he:AM.qu s t=true:=HI.o.1 hyx
        have abD:(y==x)=true:=by simp[hyx]
        have HG:Hid (AM.aV F (k+1)=AM.ye (AM.aV F k)):=by show _=_;simp only[AM.aV];rw[<- HS.o,<- HT.o,hm,he];rfl
        have hpos:=AM.py F k (by rw[<- HT.o,<- AM.AO s t he];exact hm)
        have hlen:=AM.jF F k
        have mD:=AM.nW F k ((AM.aV F k).length-1) (by omega)
        obtain⟨G,hG⟩:=ex (AM.aV F k)
        rw[<- hG] at HO HG hpos hlen mD
        clear hG he hm hyx
        rcases HO.o.2 with⟨_,h0⟩ | ⟨g,cap,cur,hv,hbg,hg,hnc,hcm,hcs,htake⟩
        · omega
        · have Cl:=HO.o
          rw[hv] at Cl
          have p1:wr.cell? ⟨g,(G.length-1)*4+1,none⟩=some (I (AM.at_ G (G.length-1)).aj):=by
           rw[Cl.cellAt _ (by omega),AM.eN G _ 1 (by omega) (by omega)];rfl
          have pf:=Cl.frozenAt
          have HOv:Hid (wr.ownsRow (w.heap.size+1) 59 4 (.slice (some (Ad g 0)) G.length cap) G.length (AM.aT G)):=Cl
          have hgl:g<wr.heap.size:=B.isLt hg
          rw[hv]
          clear HO Cl hv hg htake hcs
          obtain⟨pp,jl⟩:=ex ((AM.at_ G (G.length-1)).aj)
          rw[<- jl] at p1 mD
          have HP:Hid (pp=(AM.at_ G (G.length-1)).aj):=jl
          clear jl
          have hG1:(1:Int)<=(G.length:Int):=by omega
          have hG2:(G.length:Int)<=256:=by omega
          go_wp2
          go_quiet (fail)
          obtain⟨V,hV⟩:∃V:World,V=wr.drewN nq:=⟨_,rfl⟩
          rw[<- hV]
          have p1V:V.cell? ⟨g,(G.length-1)*4+1,none⟩=some (I pp):=by rw[hV];exact p1
          have pfV:∀j,V.frozen? (Ad g j)=false:=by rw[hV];exact pf
          have HXV:Hid (V.heap[w.heap.size]?=some (.cells C 140 (0,0))):=by show _=_;rw[hV];exact YZ.o
          have Px:Hid (V.ownsRow (w.heap.size+1) 59 4 (.slice (some (Ad g 0)) G.length cap) G.length (AM.aT G)):=by show World.ownsRow _ _ _ _ _ _ _;rw[hV];exact HOv.o
          have VE:Hid (Below w.heap.size w V):=by show Below _ _ _;rw[hV];exact below_drewN HB.o _
          clear hV p1 pf l0 l1 YZ HOv HB
          go_wp2
          go_roundw
          case rel =>
           have ho:=(Px.o.stored ((G.length-1)*4+1) (I (pp+1))).1
           have e:(AM.aT G).set ((G.length-1)*4+1) (I (pp+1))=AM.aT (AM.ye G):=by
            rw[HP.o];exact(AM.gp G (G.length-1) _ (by omega)).symm
           rw[e] at ho
           refine⟨k+1,by omega,by omega,by go_num,?_,B.other HXV.o _ _ _ (by omega),VE.o.setCell (by simp;omega) _⟩
           rw[HG.o,AM.iU];exact ho
          case measure=>simp[intOf];omega
      · have he:AM.qu s t=false:=by
         cases e:AM.qu s t
         · rfl
         · exact absurd (HI.o.2 e) hyx
        have abD:(y==x)=false:=beq_eq_false_iff_ne.2 hyx
        have HG:Hid (AM.aV F (k+1)=AM.aV F k++[⟨(k:Int),1,s.p,s.z⟩]):=by show _=_;simp only[AM.aV];rw[<- HS.o,<- HT.o,hm,he];rfl
        have hlen:=AM.jF F k
        obtain⟨G,hG⟩:=ex (AM.aV F k)
        rw[<- hG] at HO HG hlen
        clear hG he hm hyx
        have hrow:Hid (∀j,u3.ownBlock=some j->w.heap.size+1<=j/\j<wr.heap.size):=HO.o.lt
        go_wp2
        go_quiet (fail)
        obtain⟨V,hV⟩:∃V:World,V=wr.drewN nq:=⟨_,rfl⟩
        rw[<- hV]
        have l0V:V.cell? (Ad w.heap.size k)=some (I x):=by rw[hV];exact l0
        have HXV:Hid (V.heap[w.heap.size]?=some (.cells C 140 (0,0))):=by show _=_;rw[hV];exact YZ.o
        have Px:Hid (V.ownsRow (w.heap.size+1) 59 4 u3 G.length (AM.aT G)):=by show World.ownsRow _ _ _ _ _ _ _;rw[hV];exact HO.o
        have VE:Hid (Below w.heap.size w V):=by show Below _ _ _;rw[hV];exact below_drewN HB.o _
        have hrV:Hid (∀j,u3.ownBlock=some j->w.heap.size+1<=j/\j<V.heap.size):=Px.o.lt
        have ahf:w.heap.size<V.heap.size:=B.isLt HXV.o
        clear hV l0 l1 YZ HO HB hrow hsz
        have HN:Hid ((V.alloc (.cells #[I (k:Int),I 1,I ((x-1)%8/2),.bool (decide (8<=x-1))] 59)).heap[V.heap.size]?=some (.cells #[I (k:Int),I 1,I ((x-1)%8/2),.bool (decide (8<=x-1))] 59 (0,0))):=B.new _ _ _
        go_wp2_with (at_builtin;refine wpList_append_lies _ rfl _ _ 22 rfl (w.heap.size+1) 59 i0 (.agg #[I 0,I 0,I 0,.bool false]) 4 32 Tryz.underlying22 hi hz0 hz1 hz2 rfl (by decide) _ _ _ rfl (Px.o.alloc _) (Ad V.heap.size 0) 1 1 [I (k:Int),I 1,I ((x-1)%8/2),.bool (decide (8<=x-1))] rfl rfl (B.news HN.o) (AM.gq [⟨(k:Int),1,(x-1)%8/2,decide (8<=x-1)⟩]) (by decide) (by unfold maxLen;omega) (by omega) (by simp;omega) (V.heap.size+1) (by simp) ?_)
        intro g cap w1 hown1 hgrow hat aca
        have bX:=B.grown (B.alloc HXV.o (.cells #[I (k:Int),I 1,I ((x-1)%8/2),.bool (decide (8<=x-1))] 59)) hgrow (fun e=>by have:=hrV.out _ e.symm;omega)
        have Jg:Hid (w1.ownsRow (w.heap.size+1) 59 4 (Value.slice (some (Ad g 0)) (G.length+1) cap) (G.length+1) (AM.aT G++[I (k:Int),I 1,I ((x-1)%8/2),.bool (decide (8<=x-1))])):=hown1
        have Y5:Hid (w1.heap[w.heap.size]?=some (.cells C 140 (0,0))):=bX
        have bh:Hid (Below w.heap.size w w1):=(VE.o.alloc VE.o.size _).grown hgrow (by have:=VE.o.size;simp;omega) (fun k' e=>by have:=hrV.out _ e;omega)
        clear bX hown1 hgrow hat
        go_wp2
        go_roundw
        case rel =>
         refine⟨k+1,by omega,by omega,by go_num,?_,Y5.o,bh.o⟩
         rw[HG.o,List.length_append,AM.jJ]
         have h:=Jg.o
         rw[HP1.o,mV.o] at h
         exact h
        case measure=>simp[intOf];omega
    · have hm':s.m=false:=by simpa using hm
      have hx0:=(AM.pI s hpk.1).2 hm'
      have HG:Hid (AM.aV F (k+1)=AM.aV F k):=by show _=_;simp only[AM.aV];rw[<- HS.o,hm'];rfl
      rw[hx0] at l0
      clear hm hx0
      go_wp2
      go_roundw
      case rel =>
       refine⟨k+1,by omega,by omega,by go_num,?_,YZ.o,HB.o⟩
       rw[HG.o];exact HO.o
      case measure=>simp[intOf];omega
  · obtain rfl:k=256:=by omega
    clear hown hx hb
    go_wp2
    go_ret
    refine⟨_,rfl,?_,HB.o⟩
    exact Own.mono (lo:=w.heap.size+1) HO.o (Nat.le_succ _)
theorem pN (F:Nat->AM.St) (hF:AM.mW F) (w:World) :
  Calls Tryz.prog 77 #[.agg (AM.eF (fun n=>AM.enc (F n)))] w fun e w'=>∃v,e=.returned v/\Has w' v (AM.cT F)/\Below w.heap.size w w':=(mI F hF w).mono fun _ _ ⟨v,h1,h2,h3⟩=>⟨v,h1,h2.has,h3⟩
end AW
end Go.Proofs.YtkdigjpejnebkaaGreat
