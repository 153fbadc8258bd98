import Derived.Test.YtkdigjpejnebkaaGreatGU00
import Derived.Test.YtkdigjpejnebkaaGreatGU24
import Derived.Test.YtkdigjpejnebkaaGreatGU25
import Derived.Test.YtkdigjpejnebkaaGreatGU23
import Derived.Test.YtkdigjpejnebkaaGreatGU04
set_option maxHeartbeats 20000000
set_option linter.unusedVariables false
set_option maxRecDepth 100000
set_option linter.unusedSimpArgs false
namespace Go.Proofs.YtkdigjpejnebkaaGreat
namespace GO
open Go.RowKit GK
open GF (Lc vY bu bH aH eP blk eT eQ dw bl nt dg)
open GW (aI bR bg cB)
open FW (ai aB)
theorem Mem.space {lo mb:Nat} {w:World} {D:Nat->Prop} {sl:Int} {vr vo:Value} {v:Value} {L:List Lc} {ss:List FM.Sp} (h:Mem lo mb w D sl vr vo v L ss) (k:Nat) (hk:k<ss.length) :
  ∃sb cap aa na ca ap cp,v=.slice (some (Ad sb 0)) ss.length cap/\sb<w.heap.size/\bu L k=⟨(FM.ax ss k).live,.slice aa na ca,.slice ap (FM.ax ss k).aj.length cp⟩ /\
   w.cell? (Ad sb (k*3))=some (.bool (FM.ax ss k).live)/\w.cell? (Ad sb (k*3+1))=some (.slice aa na ca)/\w.cell? (Ad sb (k*3+2))=some (.slice ap (FM.ax ss k).aj.length cp) /\
   AW.Has w (.slice aa na ca) (FM.ax ss k).aw/\FW.iL w ap (FM.ax ss k).aj/\(FM.ax ss k).aj.length<=cp/\(∀j,w.frozen? (Ad sb j)=false)/\(0<(FM.ax ss k).aj.length->∃pb,ap=some (Ad pb 0)/\pb<w.heap.size):=by
 obtain⟨ao,cap,e,_,hg⟩:=aL h.row
 have hlen:=h.len
 have hk':k<L.length:=by omega
 obtain⟨sb,rfl,_,hlt⟩:=hg (by omega)
 have hr:=h.row
 rw[e] at hr
 have hs:=h.each k hk'
 obtain⟨aa,ca,ea,_,_⟩:=aL (show w.ownsRow lo _ 4 _ _ _ from hs.aw)
 obtain⟨ap,cp,ep,Gb,K8⟩:=aL hs.aj
 have hc:∀j,j<3->w.cell? (Ad sb (k*3+j))=(bH (bu L k))[j]?:=fun j hj=>cZ bH dw vY hr k j hk' hj
 have hl:bu L k=⟨(FM.ax ss k).live,.slice aa (FM.ax ss k).aw.length ca,.slice ap (FM.ax ss k).aj.length cp⟩:=by
  rw[<- ea,<- ep,<- hs.live]
 refine⟨sb,cap,aa,_,ca,ap,cp,by rw[<- hlen];exact e,hlt,hl,?_,?_,?_,?_,?_,Gb,fun j=>fZ hr j,fun hp=>by
  obtain⟨q,e1,_,e3⟩:=K8 hp
  exact⟨q,e1,e3⟩⟩
 · have:=hc 0 (by omega)
   rw[hl] at this
   exact this
 · have:=hc 1 (by omega)
   rw[hl] at this
   exact this
 · have:=hc 2 (by omega)
   rw[hl] at this
   exact this
 · rw[<- ea];exact hs.aw.has
 · intro hp
   obtain⟨q,rfl,hq1,hq2⟩:=K8 hp
   refine⟨q,0,rfl,hq2,fun i hi=>?_⟩
   have hr:=hs.aj
   rw[ep] at hr
   have Gc:∀j,j<2->w.cell? (Ad q (i*2+j))=(aH (FM.aN (FM.ax ss k).aj i))[j]?:=fun j hj=>cZ aH bl FM.yE hr i j hi hj
   rw[Nat.zero_add]
   exact⟨Gc 0 (by omega),Gc 1 (by omega)⟩
structure At (w:World) (f:FM.Fl) (k sb cap pb cr:Nat) (aa:Option Addr) (na ca:Nat) (ap:Option Addr) (cp:Nat):Prop where
 c0:w.cell? (Ad sb (k*3))=some (.bool (FM.ax f.ak k).live)
 c1:w.cell? (Ad sb (k*3+1))=some (.slice aa na ca)
 c2:w.cell? (Ad sb (k*3+2))=some (.slice ap (FM.ax f.ak k).aj.length cp)
 aw:AW.Has w (.slice aa na ca) (FM.ax f.ak k).aw
 aj:FW.iL w ap (FM.ax f.ak k).aj
 fs:∀j,w.frozen? (Ad sb j)=false
 pr:∀j,j<13->w.cell? (Ad pb (k*13+j))=(aI (FM.au f.procs k))[j]?
 fp:∀j,w.frozen? (Ad pb j)=false
 sl:sb<w.heap.size
 pl:pb<w.heap.size
theorem Fo.at {lo mb:Nat} {w:World} {f:FM.Fl} {v:Value} {L:List Lc} {vr vo:Value} (h:Fo lo mb w f v L vr vo) {k:Nat} (hk:k<f.ak.length) (hk2:k<f.procs.length) :
  ∃sb cap pb cr aa na ca ap cp ao co,v=.slice (some (Ad sb 0)) f.ak.length cap/\vr=.slice (some (Ad pb 0)) f.procs.length cr/\vo=.slice ao f.out.length co/\bu L k=⟨(FM.ax f.ak k).live,.slice aa na ca,.slice ap (FM.ax f.ak k).aj.length cp⟩/\At w f k sb cap pb cr aa na ca ap cp:=by
 obtain⟨sb,cap,aa,na,ca,ap,cp,hv,jN,hlc,c0,c1,c2,ha,hp,_,hfz,_⟩:=h.mem.space k hk
 obtain⟨ar,cr,hr,_,hg⟩:=aL h.procs
 obtain⟨ao,co,ho,_,_⟩:=aL h.words
 obtain⟨pb,rfl,_,hpl⟩:=hg (by omega)
 have oK:=h.procs
 rw[hr] at oK
 exact⟨sb,cap,pb,cr,aa,na,ca,ap,cp,ao,co,hv,hr,ho,hlc,c0,c1,c2,ha,hp,hfz,fun j hj=>cZ aI bg FM.vV oK k j hk2 hj,fun j=>fZ oK j,jN,hpl⟩
def kV (lo mb:Nat) (v vr vo:Value) (w:World) (val:Int) (g:FM.Fl) (e:Ending) (w':World):Prop:=e=.returned (I val)/\∃v' L' vo',Fo lo mb w' g v' L' vr vo'/\Kp (fun b=>b=mb∨blk v b∨blk vo b) w w'
theorem KC {lo mb k:Nat} (f:FM.Fl) (v:Value) (L:List Lc) (vr vo:Value) (w:World) (h:Fo lo mb w f v L vr vo) (hk:k<f.ak.length) (hk2:k<f.procs.length) (h4:f.ak.length<=4) (K5:f.procs.length<=4) :
  Calls Tryz.prog 56 #[.pointer (some (Ad mb 0)),I (k:Int),I 6] w (kV lo mb v vr vo w (0) (GR.jl f k FM.E0)):=by
 obtain⟨sb,cap,pb,cr,aa,na,ca,ap,cp,ao,co,rfl,rfl,rfl,hlc,A⟩:=h.at hk hk2
 have q0:w.cell? (Ad pb (k*13))=some (I ((FM.au f.procs k).r 0)):=A.pr 0 (by omega)
 have q1:w.cell? (Ad pb (k*13+1))=some (I ((FM.au f.procs k).r 1)):=A.pr 1 (by omega)
 have q2:w.cell? (Ad pb (k*13+2))=some (I ((FM.au f.procs k).r 2)):=A.pr 2 (by omega)
 have q3:w.cell? (Ad pb (k*13+3))=some (I ((FM.au f.procs k).r 3)):=A.pr 3 (by omega)
 have q4:w.cell? (Ad pb (k*13+4))=some (I ((FM.au f.procs k).r 4)):=A.pr 4 (by omega)
 have q5:w.cell? (Ad pb (k*13+5))=some (I ((FM.au f.procs k).r 5)):=A.pr 5 (by omega)
 have q6:w.cell? (Ad pb (k*13+6))=some (I ((FM.au f.procs k).r 6)):=A.pr 6 (by omega)
 have q7:w.cell? (Ad pb (k*13+7))=some (I ((FM.au f.procs k).r 7)):=A.pr 7 (by omega)
 obtain⟨m0,m1,m2,m3⟩:=B.c4 h.mem.head
 have hmb:=B.isLt h.mem.head
 have hlo:=h.mem.base
 have jN:=A.sl
 have hpb:=A.pl
 have c0:=A.c0
 have c1:=A.c1
 have c2:=A.c2
 have f0:=A.fs (k*3)
 have f1:=A.fs (k*3+1)
 have f2:=A.fs (k*3+2)
 have XZ:∀j,w.frozen? (Ad mb j)=false:=fun j=>B.free h.mem.head j
 have jd:(k:Int)<(f.ak.length:Int):=by omega
 have iz:(k:Int)<(f.procs.length:Int):=by omega
 have HA:=ai A
 have HF:=ai h
 obtain⟨r0,oF⟩:=ex ((FM.au f.procs k).r 0)
 obtain⟨r1,hr1⟩:=ex ((FM.au f.procs k).r 1)
 obtain⟨r2,hr2⟩:=ex ((FM.au f.procs k).r 2)
 obtain⟨r3,hr3⟩:=ex ((FM.au f.procs k).r 3)
 obtain⟨r4,hr4⟩:=ex ((FM.au f.procs k).r 4)
 obtain⟨r5,uL⟩:=ex ((FM.au f.procs k).r 5)
 obtain⟨r6,uK⟩:=ex ((FM.au f.procs k).r 6)
 obtain⟨r7,uJ⟩:=ex ((FM.au f.procs k).r 7)
 rw[<- oF] at q0
 rw[<- hr1] at q1
 rw[<- hr2] at q2
 rw[<- hr3] at q3
 rw[<- hr4] at q4
 rw[<- uL] at q5
 rw[<- uK] at q6
 rw[<- uJ] at q7
 obtain⟨P,hP⟩:=ex (kV lo mb (.slice (some (Ad sb 0)) f.ak.length cap) (.slice (some (Ad pb 0)) f.procs.length cr) (.slice ao f.out.length co) w (0) (GR.jl f k FM.E0))
 have HP:Hid (∀e w',kV lo mb (.slice (some (Ad sb 0)) f.ak.length cap) (.slice (some (Ad pb 0)) f.procs.length cr) (.slice ao f.out.length co) w (0) (GR.jl f k FM.E0) e w'->P e w'):=fun e w' g=>by rw[hP];exact g
 rw[<- hP]
 obtain⟨ns,hns⟩:=ex f.ak.length
 obtain⟨nr,fh⟩:=ex f.procs.length
 obtain⟨no,hno⟩:=ex f.out.length
 obtain⟨np,fB⟩:=ex ((FM.ax f.ak k).aj.length)
 obtain⟨lv,hlv⟩:=ex ((FM.ax f.ak k).live)
 rw[<- hns] at m1 jd h4
 rw[<- fh] at m2 iz K5
 rw[<- hno] at m3
 rw[<- fB] at c2
 rw[<- hlv] at c0
 have iw:=ai hns
 have iW:=ai fh
 have iY:=ai hno
 have zw:=ai fB
 have Em:=ai hlv
 have rU:=ai oF
 have pM:=ai hr1
 have Cm:=ai hr2
 have OW:=ai hr3
 have OU:=ai hr4
 have OT:=ai uL
 have OS:=ai uK
 have OQ:=ai uJ
 have dz:Hid (P (.returned (I 0)) ((((w.setCell (Ad sb (k*3)) (.bool false)).setCell (Ad sb (k*3+1)) Nl).setCell (Ad sb (k*3+2)) Nl).alloc (.cells #[I r0,I r1,I r2,I r3,I r4,I r5,I r6,I r7] 66))):=by
  refine HP.o _ _ ⟨rfl,?_⟩
  obtain⟨g1,g2⟩:=HF.o.drop hk
  have hb:=(Below.refl _ ((((w.setCell (Ad sb (k*3)) (.bool false)).setCell (Ad sb (k*3+1)) Nl).setCell (Ad sb (k*3+2)) Nl))).alloc (Nat.le_refl _) (.cells #[I r0,I r1,I r2,I r3,I r4,I r5,I r6,I r7] 66)
  exact⟨_,_,_,g1.below hb,(g2.mono (fun b _ e=>.inr (.inl (by subst e;rfl)))).trans (Kp.aF (D:=fun _=>False) hb) (fun _ _ g=>g.elim)⟩
 clear h A hlc hP hns fh hno fB hlv oF hr1 hr2 hr3 hr4 uL uK uJ
 go_enter Tryz.func56,Tryz.ntmps56
 go_wp2
 exact dz.o
theorem PD (a b:Int):∀u∈bR ⟨a,b⟩,u.oneCell'=true:=fun u hu=>by
 simp[bR] at hu
 rcases hu with rfl | rfl <;> rfl
theorem Kz {lo mb k:Nat} (f:FM.Fl) (v:Value) (L:List Lc) (vr vo:Value) (w:World) (h:Fo lo mb w f v L vr vo) (hk:k<f.ak.length) (hk2:k<f.procs.length) (h4:f.ak.length<=4) (K5:f.procs.length<=4) (hno:f.out.length<=100000) :
  Calls Tryz.prog 56 #[.pointer (some (Ad mb 0)),I (k:Int),I 1] w (kV lo mb v vr vo w (0) (⟨f.slots,f.ak,f.procs,f.out++[⟨(k:Int),(FM.au f.procs k).r 0⟩]⟩)):=by
 obtain⟨sb,cap,pb,cr,aa,na,ca,ap,cp,ao,co,rfl,rfl,rfl,hlc,A⟩:=h.at hk hk2
 have q0:w.cell? (Ad pb (k*13))=some (I ((FM.au f.procs k).r 0)):=A.pr 0 (by omega)
 have q1:w.cell? (Ad pb (k*13+1))=some (I ((FM.au f.procs k).r 1)):=A.pr 1 (by omega)
 have q2:w.cell? (Ad pb (k*13+2))=some (I ((FM.au f.procs k).r 2)):=A.pr 2 (by omega)
 have q3:w.cell? (Ad pb (k*13+3))=some (I ((FM.au f.procs k).r 3)):=A.pr 3 (by omega)
 have q4:w.cell? (Ad pb (k*13+4))=some (I ((FM.au f.procs k).r 4)):=A.pr 4 (by omega)
 have q5:w.cell? (Ad pb (k*13+5))=some (I ((FM.au f.procs k).r 5)):=A.pr 5 (by omega)
 have q6:w.cell? (Ad pb (k*13+6))=some (I ((FM.au f.procs k).r 6)):=A.pr 6 (by omega)
 have q7:w.cell? (Ad pb (k*13+7))=some (I ((FM.au f.procs k).r 7)):=A.pr 7 (by omega)
 obtain⟨m0,m1,m2,m3⟩:=B.c4 h.mem.head
 have Bj:=hno
 have hmb:=B.isLt h.mem.head
 have hlo:=h.mem.base
 have jN:=A.sl
 have hpb:=A.pl
 have c0:=A.c0
 have c1:=A.c1
 have c2:=A.c2
 have f0:=A.fs (k*3)
 have f1:=A.fs (k*3+1)
 have f2:=A.fs (k*3+2)
 have XZ:∀j,w.frozen? (Ad mb j)=false:=fun j=>B.free h.mem.head j
 have jd:(k:Int)<(f.ak.length:Int):=by omega
 have iz:(k:Int)<(f.procs.length:Int):=by omega
 have HA:=ai A
 have HF:=ai h
 obtain⟨r0,oF⟩:=ex ((FM.au f.procs k).r 0)
 obtain⟨r1,hr1⟩:=ex ((FM.au f.procs k).r 1)
 obtain⟨r2,hr2⟩:=ex ((FM.au f.procs k).r 2)
 obtain⟨r3,hr3⟩:=ex ((FM.au f.procs k).r 3)
 obtain⟨r4,hr4⟩:=ex ((FM.au f.procs k).r 4)
 obtain⟨r5,uL⟩:=ex ((FM.au f.procs k).r 5)
 obtain⟨r6,uK⟩:=ex ((FM.au f.procs k).r 6)
 obtain⟨r7,uJ⟩:=ex ((FM.au f.procs k).r 7)
 rw[<- oF] at q0
 rw[<- hr1] at q1
 rw[<- hr2] at q2
 rw[<- hr3] at q3
 rw[<- hr4] at q4
 rw[<- uL] at q5
 rw[<- uK] at q6
 rw[<- uJ] at q7
 obtain⟨P,hP⟩:=ex (kV lo mb (.slice (some (Ad sb 0)) f.ak.length cap) (.slice (some (Ad pb 0)) f.procs.length cr) (.slice ao f.out.length co) w (0) (⟨f.slots,f.ak,f.procs,f.out++[⟨(k:Int),(FM.au f.procs k).r 0⟩]⟩))
 have HP:Hid (∀e w',kV lo mb (.slice (some (Ad sb 0)) f.ak.length cap) (.slice (some (Ad pb 0)) f.procs.length cr) (.slice ao f.out.length co) w (0) (⟨f.slots,f.ak,f.procs,f.out++[⟨(k:Int),(FM.au f.procs k).r 0⟩]⟩) e w'->P e w'):=fun e w' g=>by rw[hP];exact g
 rw[<- hP]
 obtain⟨ns,hns⟩:=ex f.ak.length
 obtain⟨nr,fh⟩:=ex f.procs.length
 obtain⟨no,hno⟩:=ex f.out.length
 obtain⟨np,fB⟩:=ex ((FM.ax f.ak k).aj.length)
 obtain⟨lv,hlv⟩:=ex ((FM.ax f.ak k).live)
 rw[<- hns] at m1 jd h4
 rw[<- fh] at m2 iz K5
 rw[<- hno] at m3 Bj
 rw[<- fB] at c2
 rw[<- hlv] at c0
 have iw:=ai hns
 have iW:=ai fh
 have iY:=ai hno
 have zw:=ai fB
 have Em:=ai hlv
 have rU:=ai oF
 have pM:=ai hr1
 have Cm:=ai hr2
 have OW:=ai hr3
 have OU:=ai hr4
 have OT:=ai uL
 have OS:=ai uK
 have OQ:=ai uJ
 obtain⟨io,s0,s1,s2,s3⟩:=info_parts Bf
 have Zy:=ai s0
 have Lm:=ai s1
 have Ci:=ai s2
 have Vu:=ai s3
 clear s0 s1 s2 s3 h A hlc hP hns fh hno fB hlv oF hr1 hr2 hr3 hr4 uL uK uJ
 go_enter Tryz.func56,Tryz.ntmps56
 go_wp2_with fail
 have dJ:=ai ((Below.refl w.heap.size w).alloc (Nat.le_refl _) (.cells #[I r0,I r1,I r2,I r3,I r4,I r5,I r6,I r7] 66))
 have zy:=ai (B.new w #[I r0,I r1,I r2,I r3,I r4,I r5,I r6,I r7] 66)
 obtain⟨WA,gw⟩:=ex (w.alloc (.cells #[I r0,I r1,I r2,I r3,I r4,I r5,I r6,I r7] 66))
 rw[<- gw] at dJ zy ⊢
 obtain⟨xb,nA⟩:=ex w.heap.size
 rw[<- nA] at zy ⊢
 have tL:=ai nA
 have jk:=ai (HF.o.below dJ.o)
 have XH:w.heap.size<=WA.heap.size:=dJ.o.size
 clear gw nA
 have tN:Hid (∀o,((WA.alloc o).drew).ownsRow lo 78 2 (.slice ao no co) no (f.out.flatMap bR)):=fun o=>by
  have h:=jk.o.words
  rw[<- iY.o] at h
  exact tj (Kp.row (Kp.alloc (fun _=>False) _ o) h (fun _ _ g=>g))
 have cw:Hid (Kp (fun b=>blk (.slice ao no co) b) WA WA.drew):=Kp.drew _ _
 have Au:Hid (∀o,Kp (fun b=>blk (.slice ao no co) b) WA ((WA.alloc o).drew)):=fun o=>(Kp.alloc _ _ o).trans (Kp.drew _ _) (fun _ _ g=>g)
 have cI:Hid (∀V,Kp (fun b=>blk (.slice ao no co) b) WA V->V.cell? (Ad mb 3)=some (.slice ao no co)/\V.cell? (Ad xb 0)=some (I r0)):=fun V hV=>by
  refine⟨hV.cell (B.cell (v:=.slice ao no co) jk.o.mem.head 3 (by rw[iY.o];rfl)) (fun g=>jk.o.mem.d1.2 (by rw[<- iY.o];exact g)),hV.cell (B.cell zy.o 0 rfl) (fun g=>?_)⟩
  have h:=HF.o.words
  rw[<- iY.o] at h
  have:=(h.lt _ g).2
  have:=tL.o
  simp at *
  omega
 refine GZ.lV (S:=fun V=>Kp (fun b=>blk (.slice ao no co) b) WA V) (z:=13) (by kernel_rfl) ?_
 refine GZ.tk 0 cw.o ?_ ?_ ?_
 rotate_left 1
 · intro V h
   obtain⟨k0,k1⟩:=cI.o V h
   go_simp
   try with_reducible rfl
 refine GZ.tk 1 cw.o ?_ ?_ ?_
 rotate_left 1
 · intro V h
   obtain⟨k0,k1⟩:=cI.o V h
   go_simp
   try with_reducible rfl
 refine GZ.tk 2 cw.o ?_ ?_ ?_
 rotate_left 1
 · intro V h
   obtain⟨k0,k1⟩:=cI.o V h
   go_simp
   try with_reducible rfl
 refine GZ.tk 3 cw.o ?_ ?_ ?_
 rotate_left 1
 · intro V h
   obtain⟨k0,k1⟩:=cI.o V h
   go_simp
   try with_reducible rfl
 refine GZ.tk 4 cw.o ?_ ?_ ?_
 rotate_left 1
 · intro V h
   obtain⟨k0,k1⟩:=cI.o V h
   go_simp
   try with_reducible rfl
 refine GZ.tk 5 cw.o ?_ ?_ ?_
 rotate_left 1
 · intro V h
   obtain⟨k0,k1⟩:=cI.o V h
   go_simp
   try with_reducible rfl
 refine GZ.tk 6 cw.o ?_ ?_ ?_
 rotate_left 1
 · intro V h
   obtain⟨k0,k1⟩:=cI.o V h
   go_simp
   try with_reducible rfl
 refine GZ.tk 7 cw.o ?_ ?_ ?_
 rotate_left 1
 · intro V h
   obtain⟨k0,k1⟩:=cI.o V h
   go_simp
   try with_reducible rfl
 refine GZ.tk 8 cw.o ?_ ?_ ?_
 rotate_left 1
 · intro V h
   obtain⟨k0,k1⟩:=cI.o V h
   go_simp
   try with_reducible rfl
 refine GZ.all (rs:=[9]) (by kernel_rfl) (by simp) ?_
 refine GZ.bI.cons rfl (fun K hK=>?_) GZ.bI.nil
 go_simp
 refine hK.out _ _ (fun _=>?_) ?_
 · exact Au.o _
 clear hK K
 try simp only[Act.put,List.setIfInBounds_toArray,List.set_cons_zero,List.set_cons_succ]
 refine GZ.all (rs:=[10]) (by kernel_rfl) (by simp) ?_
 refine GZ.bI.cons rfl (fun K hK=>?_) GZ.bI.nil
 rw[if_pos (by rfl)];refine cD (P:=Tryz.prog) _ _ 28 rfl lo 78 io (.agg #[I 0,I 0]) 2 16 Tryz.underlying28 Zy.o Lm.o Ci.o Vu.o rfl (by decide) (.slice ao no co) no (f.out.flatMap bR) rfl (tN.o _) (some (Ad WA.heap.size 0)) 1 1 (bR ⟨(k:Int),r0⟩) rfl rfl (fun _=>⟨_,rfl,lh _ _ _⟩) (PD _ _) (by unfold maxLen;omega) (by omega) (by simp;omega) ?_;intro vG wG xC uQ Dy;obtain⟨aG,cG,M0,_,_⟩:=aL xC;subst M0;have zu:=ai (jk.o.word (Y4 WA (.cells #[I (k:Int),I r0] 78)) (by rw[<- iY.o];exact uQ) (by rw[<- iY.o];exact xC) (by rw[<- iY.o];exact Dy));have qO:Hid (Kp (fun b=>blk (.slice ao no co) b) WA wG):=(Au.o _).trans (Kp.grown uQ (fun _ e=>e)) (fun _ _ g=>g);have V6:=(cI.o wG qO.o).1;have hof:wG.frozen? (Ad mb 3)=false:=B.free (qO.o.keep jk.o.mem.head (fun g=>jk.o.mem.d1.2 (by rw[<- iY.o];exact g))) 3;clear xC uQ Dy
 refine hK.out _ _ (fun _=>?_) ?_
 · exact qO.o
 clear hK K
 try simp only[Act.put,List.setIfInBounds_toArray,List.set_cons_zero,List.set_cons_succ]
 refine GZ.all (rs:=[11]) (by kernel_rfl) (by simp) ?_
 refine GZ.bI.cons rfl (fun K hK=>?_) GZ.bI.nil
 go_simp
 refine hK.out _ _ (fun _=>?_) ?_
 · exact qO.o
 clear hK K
 try simp only[Act.put,List.setIfInBounds_toArray,List.set_cons_zero,List.set_cons_succ]
 refine GZ.tk 12 qO.o ?_ ?_ ?_
 rotate_left 1
 · intro V h
   obtain⟨k0,k1⟩:=cI.o V h
   go_simp
   try with_reducible rfl
 refine GZ.all (rs:=[13]) (by kernel_rfl) (by simp) ?_
 refine GZ.bI.cons rfl (fun K hK=>?_) GZ.bI.nil
 go_simp
 refine hK.out _ _ (fun g=>absurd rfl g) ?_
 refine GZ.done (by kernel_rfl) ?_ _
 go_wp2
 have h1:=zu.o.1
 rw[rU.o] at h1
 have h2:=zu.o.2
 exact HP.o _ _ ⟨rfl,_,_,_,h1,(Kp.aF dJ.o).trans h2 (fun b _ e=>e.elim .inl (fun g=>.inr (.inr g)))⟩
theorem ac3 (s:Int) (a b c:Option Addr) (n1 c1 n2 c2 n3 c3:Nat) (w:World):Sem.run Tryz.prog (Instr.field 30 (.agg #[I s,.slice a n1 c1,.slice b n2 c2,.slice c n3 c3]) 1) w=.ok (.slice a n1 c1) w:=by kernel_rfl
structure Rt (f:FM.Fl) (k:Nat):Prop where
 each:∀j,j<f.ak.length->FM.aU (FM.ax f.ak j)=true
 live:(FM.ax f.ak k).live=true
 lens:∀j,j<f.ak.length->(FM.ax f.ak j).aw.length<=100000/\(FM.ax f.ak j).aj.length<=100000
 out:f.out.length<=100000
 room:FM.room f.ak<=f.slots/\f.slots<=512
def dZ (f:FM.Fl) (k:Nat) (c:Int):Int:=(GG.cu GM.aQ (GH.aZ f) k c).1
def dO (f:FM.Fl) (k:Nat) (c:Int):FM.Fl:=⟨f.slots,(GG.cu GM.aQ (GH.aZ f) k c).2.mem.ak,f.procs,(GG.cu GM.aQ (GH.aZ f) k c).2.out⟩
theorem Iz {f:FM.Fl} {k:Nat} (h:Rt f k):GR.lL f.ak f.ak.length=FM.room f.ak:=GR.J9 h.each _ (Nat.le_refl _)
theorem xe {f:FM.Fl} {k:Nat} (h:Rt f k) (hk:k<f.ak.length):((FM.ax f.ak k).aj.length:Int)=AM.br (FM.ax f.ak k).aw:=by
 exact FM.q8 (h.each k hk)
theorem Bq {f:FM.Fl} {k:Nat} (h:4<=f.ak.length∨f.slots<FM.room f.ak+AM.br (FM.ax f.ak k).aw):dZ f k 5=-1/\dO f k 5=f:=by
 unfold dZ dO
 rw[GR.tA h]
 exact⟨rfl,rfl⟩
theorem DD {f:FM.Fl} {k:Nat} (h1:¬4<=f.ak.length) (h2:¬f.slots<FM.room f.ak+AM.br (FM.ax f.ak k).aw):dZ f k 5=f.procs.length/\dO f k 5=⟨f.slots,f.ak++[FM.ax f.ak k],f.procs,f.out⟩:=by
 unfold dZ dO
 rw[GR.qh h1 h2]
 exact⟨rfl,rfl⟩
theorem qh {lo mb k:Nat} (f:FM.Fl) (v:Value) (L:List Lc) (vr vo:Value) (w:World) (h:Fo lo mb w f v L vr vo) (hk:k<f.ak.length) (hk2:k<f.procs.length) (h4:f.ak.length<=4) (K5:f.procs.length<=4) (hr:Rt f k) (FY:f.procs.length=f.ak.length) :
  Calls Tryz.prog 56 #[.pointer (some (Ad mb 0)),I (k:Int),I 5] w (kV lo mb v vr vo w (dZ f k 5) (dO f k 5)):=by
 obtain⟨sb,cap,pb,cr,aa,na,ca,ap,cp,ao,co,rfl,rfl,rfl,hlc,A⟩:=h.at hk hk2
 have q0:w.cell? (Ad pb (k*13))=some (I ((FM.au f.procs k).r 0)):=A.pr 0 (by omega)
 have q1:w.cell? (Ad pb (k*13+1))=some (I ((FM.au f.procs k).r 1)):=A.pr 1 (by omega)
 have q2:w.cell? (Ad pb (k*13+2))=some (I ((FM.au f.procs k).r 2)):=A.pr 2 (by omega)
 have q3:w.cell? (Ad pb (k*13+3))=some (I ((FM.au f.procs k).r 3)):=A.pr 3 (by omega)
 have q4:w.cell? (Ad pb (k*13+4))=some (I ((FM.au f.procs k).r 4)):=A.pr 4 (by omega)
 have q5:w.cell? (Ad pb (k*13+5))=some (I ((FM.au f.procs k).r 5)):=A.pr 5 (by omega)
 have q6:w.cell? (Ad pb (k*13+6))=some (I ((FM.au f.procs k).r 6)):=A.pr 6 (by omega)
 have q7:w.cell? (Ad pb (k*13+7))=some (I ((FM.au f.procs k).r 7)):=A.pr 7 (by omega)
 obtain⟨m0,m1,m2,m3⟩:=B.c4 h.mem.head
 have hmb:=B.isLt h.mem.head
 have hlo:=h.mem.base
 have jN:=A.sl
 have hpb:=A.pl
 have c0:=A.c0
 have c1:=A.c1
 have c2:=A.c2
 have f0:=A.fs (k*3)
 have f1:=A.fs (k*3+1)
 have f2:=A.fs (k*3+2)
 have XZ:∀j,w.frozen? (Ad mb j)=false:=fun j=>B.free h.mem.head j
 have jd:(k:Int)<(f.ak.length:Int):=by omega
 have iz:(k:Int)<(f.procs.length:Int):=by omega
 have HA:=ai A
 have qm:=ai hr
 have hnb:(FM.ax f.ak k).aj.length<=100000:=(hr.lens k hk).2
 have HTN:=ai (xe hr hk)
 have Ws:=ai FY
 have Ez:=hr.room
 have OL:=ai hlc
 obtain⟨H,hH⟩:=ex (FM.room f.ak)
 have YN:0<=H:=by rw[hH];exact(FW.mn f.ak f.ak.length).1
 rw[<- hH] at Ez
 have HH:=ai hH
 have HF:=ai h
 obtain⟨r0,oF⟩:=ex ((FM.au f.procs k).r 0)
 obtain⟨r1,hr1⟩:=ex ((FM.au f.procs k).r 1)
 obtain⟨r2,hr2⟩:=ex ((FM.au f.procs k).r 2)
 obtain⟨r3,hr3⟩:=ex ((FM.au f.procs k).r 3)
 obtain⟨r4,hr4⟩:=ex ((FM.au f.procs k).r 4)
 obtain⟨r5,uL⟩:=ex ((FM.au f.procs k).r 5)
 obtain⟨r6,uK⟩:=ex ((FM.au f.procs k).r 6)
 obtain⟨r7,uJ⟩:=ex ((FM.au f.procs k).r 7)
 rw[<- oF] at q0
 rw[<- hr1] at q1
 rw[<- hr2] at q2
 rw[<- hr3] at q3
 rw[<- hr4] at q4
 rw[<- uL] at q5
 rw[<- uK] at q6
 rw[<- uJ] at q7
 obtain⟨P,hP⟩:=ex (kV lo mb (.slice (some (Ad sb 0)) f.ak.length cap) (.slice (some (Ad pb 0)) f.procs.length cr) (.slice ao f.out.length co) w (dZ f k 5) (dO f k 5))
 have HP:Hid (∀e w',kV lo mb (.slice (some (Ad sb 0)) f.ak.length cap) (.slice (some (Ad pb 0)) f.procs.length cr) (.slice ao f.out.length co) w (dZ f k 5) (dO f k 5) e w'->P e w'):=fun e w' g=>by rw[hP];exact g
 rw[<- hP]
 obtain⟨ns,hns⟩:=ex f.ak.length
 obtain⟨nr,fh⟩:=ex f.procs.length
 obtain⟨no,hno⟩:=ex f.out.length
 obtain⟨np,fB⟩:=ex ((FM.ax f.ak k).aj.length)
 obtain⟨lv,hlv⟩:=ex ((FM.ax f.ak k).live)
 rw[<- hns] at m1 jd h4
 rw[<- fh] at m2 iz K5
 rw[<- hno] at m3
 rw[<- fB] at c2 hnb
 rw[<- hlv] at c0
 have iw:=ai hns
 have iW:=ai fh
 have iY:=ai hno
 have zw:=ai fB
 have Em:=ai hlv
 have rU:=ai oF
 have pM:=ai hr1
 have Cm:=ai hr2
 have OW:=ai hr3
 have OU:=ai hr4
 have OT:=ai uL
 have OS:=ai uK
 have OQ:=ai uJ
 clear hr FY hH h A hlc hP hns fh hno fB hlv oF hr1 hr2 hr3 hr4 uL uK uJ
 obtain⟨is,s0,s1,s2,s3⟩:=info_parts GF.Bh
 have KW:=ai s0
 have KV:=ai s1
 have KU:=ai s2
 have KT:=ai s3
 clear s0 s1 s2 s3
 go_enter Tryz.func56,Tryz.ntmps56
 go_wp2_with fail
 have dJ:=ai ((Below.refl w.heap.size w).alloc (Nat.le_refl _) (.cells #[I r0,I r1,I r2,I r3,I r4,I r5,I r6,I r7] 66))
 have zy:=ai (B.new w #[I r0,I r1,I r2,I r3,I r4,I r5,I r6,I r7] 66)
 obtain⟨WA,gw⟩:=ex (w.alloc (.cells #[I r0,I r1,I r2,I r3,I r4,I r5,I r6,I r7] 66))
 rw[<- gw] at dJ zy ⊢
 obtain⟨xb,nA⟩:=ex w.heap.size
 rw[<- nA] at zy ⊢
 have tL:=ai nA
 have jk:=ai (HF.o.below dJ.o)
 have XH:w.heap.size<=WA.heap.size:=dJ.o.size
 clear gw nA
 haveI:=Q.dS WA
 have e0:∀x:Q.dA WA.heap.size WA,x.world.cell? (Ad mb 0)=some (I f.slots):=fun x=>(Q.cA x _ _ (B.isLt jk.o.mem.head)).trans (B.cell jk.o.mem.head 0 rfl)
 have e1:∀x:Q.dA WA.heap.size WA,x.world.cell? (Ad mb 1)=some (.slice (some (Ad sb 0)) ns cap):=fun x=>(Q.cA x _ _ (B.isLt jk.o.mem.head)).trans (B.cell jk.o.mem.head 1 (by rw[iw.o];rfl))
 have e2:∀x:Q.dA WA.heap.size WA,x.world.cell? (Ad mb 2)=some (.slice (some (Ad pb 0)) nr cr):=fun x=>(Q.cA x _ _ (B.isLt jk.o.mem.head)).trans (B.cell jk.o.mem.head 2 (by rw[iW.o];rfl))
 have e3:∀x:Q.dA WA.heap.size WA,x.world.cell? (Ad mb 3)=some (.slice ao no co):=fun x=>(Q.cA x _ _ (B.isLt jk.o.mem.head)).trans (B.cell jk.o.mem.head 3 (by rw[iY.o];rfl))
 have e4:∀x:Q.dA WA.heap.size WA,x.world.cell? (Ad sb (k*3+2))=some (.slice ap np cp):=fun x=>(Q.cA x _ _ (by omega)).trans ((M.aA dJ.o (by omega)).trans c2)
 have I7:Hid (∀x:Q.dA WA.heap.size WA,Calls Tryz.prog 84 #[.agg #[I f.slots,.slice (some (Ad sb 0)) ns cap,.slice (some (Ad pb 0)) nr cr,.slice ao no co]] x.world fun e w'=>e=.returned (I H)/\∃y:Q.dA WA.heap.size WA,w'=y.world):=fun x=>by
  obtain⟨az,ar,ov,cs,YR,DY,q1,q2,q3,q4⟩:=(jk.o.below x.keeps).has
  injection q1 with q1 _ q1'
  injection q2 with q2 _ q2'
  injection q3 with q3 _ q3'
  subst q1 q2 q3 q1' q2' q3'
  have h:=GR.sW f (some (Ad sb 0)) (some (Ad pb 0)) ao cap cr co x.world q4.ak (by rw[<- iw.o];exact h4) (fun j hj=>(qm.o.lens j hj).2)
  unfold FW.bw at h
  rw[<- iw.o,<- iW.o,<- iY.o] at h
  refine h.mono fun e w'' ⟨he,hb⟩=>⟨?_,⟨w'',x.keeps.trans (hb.mono x.keeps.size)⟩,rfl⟩
  rw[he,HH.o,<- Iz qm.o,iw.o]
 obtain⟨h0,h5⟩:=Ez
 have HFO:=ai jk.o
 by_cases hc4:ns=4
 · have acH:((ns:Int)==4)=true:=by rw[beq_iff_eq];omega
   have hv:=ai (Bq (f:=f) (k:=k) (.inl (by rw[<- iw.o];omega)))
   refine Q.aW (by kernel_rfl) (by kernel_rfl) ?_
   repeat (first | go_big_quiet_step ((first | (go_at_call 84;exact I7.o _))) | quiet_step ((first | (go_at_call 84;exact I7.o _))))
   refine wpQuiet_nil ?_
   intro _ hw'
   obtain⟨x,hw''⟩:=hw'
   subst hw''
   go_wp2
   exact HP.o _ _ ⟨by rw[hv.out.1];rfl,_,_,_,by rw[hv.out.2];exact jk.o.below x.keeps,(Kp.aF dJ.o).trans (Kp.aF (D:=fun _=>False) x.keeps) (fun _ _ g=>g.elim)⟩
 · have acH:((ns:Int)==4)=false:=by rw[beq_eq_false_iff_ne];omega
   by_cases hlt:f.slots<H+(np:Int)
   · have hv:=ai (Bq (f:=f) (k:=k) (.inr (by rw[<- HTN.o,<- zw.o,<- HH.o];exact hlt)))
     refine Q.aW (by kernel_rfl) (by kernel_rfl) ?_
     repeat (first | go_big_quiet_step ((first | (go_at_call 84;exact I7.o _))) | quiet_step ((first | (go_at_call 84;exact I7.o _))))
     refine wpQuiet_nil ?_
     intro _ hw'
     obtain⟨x,hw''⟩:=hw'
     subst hw''
     go_wp2
     exact HP.o _ _ ⟨by rw[hv.out.1];rfl,_,_,_,by rw[hv.out.2];exact jk.o.below x.keeps,(Kp.aF dJ.o).trans (Kp.aF (D:=fun _=>False) x.keeps) (fun _ _ g=>g.elim)⟩
   · have hv:=ai (DD (f:=f) (k:=k) (by rw[<- iw.o];omega) (by rw[<- HTN.o,<- zw.o,<- HH.o];exact hlt))
     refine Q.aW (by kernel_rfl) (by kernel_rfl) ?_
     repeat (first | go_big_quiet_step ((first | (go_at_call 84;exact I7.o _))) | quiet_step ((first | (go_at_call 84;exact I7.o _))))
     refine wpQuiet_nil ?_
     intro _ hw'
     obtain⟨x,hw''⟩:=hw'
     subst hw''
     go_wp2_with fail
     obtain⟨W2,hW2⟩:=ex x.world
     have bW:Hid (Below WA.heap.size WA W2):=by show Below _ _ _;rw[hW2];exact x.keeps
     rw[<- hW2]
     clear hW2 x e0 e1 e2 e3 e4 I7
     have pN:=ai (jk.o.below bW.o)
     have cw:Hid (Kp (fun b=>blk (.slice (some (Ad sb 0)) ns cap) b) W2 W2.drew):=Kp.drew _ _
     have cI:Hid (∀V,Kp (fun b=>blk (.slice (some (Ad sb 0)) ns cap) b) W2 V->V.cell? (Ad mb 0)=some (I f.slots)/\V.cell? (Ad mb 1)=some (.slice (some (Ad sb 0)) ns cap)/\V.cell? (Ad mb 2)=some (.slice (some (Ad pb 0)) nr cr)/\V.cell? (Ad mb 3)=some (.slice ao no co)):=fun V hV=>by
      have hm:=hV.keep pN.o.mem.head (fun g=>pN.o.mem.n1 g)
      rw[<- iw.o,<- iW.o,<- iY.o] at hm
      exact⟨B.cell hm 0 rfl,B.cell hm 1 rfl,B.cell hm 2 rfl,B.cell hm 3 rfl⟩
     have HOW:Hid (Calls Tryz.prog 47 #[.agg #[I f.slots,.slice (some (Ad sb 0)) ns cap,.slice (some (Ad pb 0)) nr cr,.slice ao no co]] W2.drew (KN W2.drew f)):=by
      obtain⟨az,ar,ov,cs,YR,DY,q1,q2,q3,q4⟩:=(pN.o.below (Below.refl _ _).drew).has
      injection q1 with q1 _ q1'
      injection q2 with q2 _ q2'
      injection q3 with q3 _ q3'
      subst q1 q2 q3 q1' q2' q3'
      have h:=vX f (some (Ad sb 0)) (some (Ad pb 0)) ao cap cr co W2.drew q4 (by rw[<- iw.o];omega) qm.o.lens (by rw[<- iW.o];omega) qm.o.out
      unfold FW.bw at h
      rw[<- iw.o,<- iW.o,<- iY.o] at h
      exact h
     have hfd:=ac3
     have Aw:=ai hk
     have lY:=ai hk2
     refine GZ.lV (S:=fun V=>Kp (fun b=>blk (.slice (some (Ad sb 0)) ns cap) b) W2 V) (z:=17) (by kernel_rfl) ?_
     refine GZ.tk 0 cw.o ?_ ?_ ?_
     rotate_left 1
     · intro V h
       obtain⟨k0,k1,k2,k3⟩:=cI.o V h
       go_simp
       try with_reducible rfl
     refine GZ.tk 1 cw.o ?_ ?_ ?_
     rotate_left 1
     · intro V h
       obtain⟨k0,k1,k2,k3⟩:=cI.o V h
       go_simp
       try with_reducible rfl
     refine GZ.tk 2 cw.o ?_ ?_ ?_
     rotate_left 1
     · intro V h
       obtain⟨k0,k1,k2,k3⟩:=cI.o V h
       go_simp
       try with_reducible rfl
     refine GZ.tk 3 cw.o ?_ ?_ ?_
     rotate_left 1
     · intro V h
       obtain⟨k0,k1,k2,k3⟩:=cI.o V h
       go_simp
       try with_reducible rfl
     refine GZ.tk 4 cw.o ?_ ?_ ?_
     rotate_left 1
     · intro V h
       obtain⟨k0,k1,k2,k3⟩:=cI.o V h
       go_simp
       try with_reducible rfl
     refine GZ.tk 5 cw.o ?_ ?_ ?_
     rotate_left 1
     · intro V h
       obtain⟨k0,k1,k2,k3⟩:=cI.o V h
       go_simp
       try with_reducible rfl
     refine GZ.tk 6 cw.o ?_ ?_ ?_
     rotate_left 1
     · intro V h
       obtain⟨k0,k1,k2,k3⟩:=cI.o V h
       go_simp
       try with_reducible rfl
     refine GZ.tk 7 cw.o ?_ ?_ ?_
     rotate_left 1
     · intro V h
       obtain⟨k0,k1,k2,k3⟩:=cI.o V h
       go_simp
       try with_reducible rfl
     refine GZ.tk 10 cw.o ?_ ?_ ?_
     rotate_left 1
     · intro V h
       obtain⟨k0,k1,k2,k3⟩:=cI.o V h
       go_simp
       try with_reducible rfl
     refine GZ.all (rs:=[8]) (by kernel_rfl) (by simp) ?_
     refine GZ.bI.cons rfl (fun K hK=>?_) GZ.bI.nil
     go_simp;go_at_call 47;refine HOW.o.mono ?_;rintro e w8 ⟨mb8,v8,L8,vr8,vo8,rfl,Ya,hF8,UO⟩;obtain⟨sb8,aiH,pb8,cr8,aa8,na8,ca8,ap8,cp8,ao8,co8,rfl,rfl,rfl,Yh,A8⟩:=hF8.at Aw.o lY.o;have VH:=ai hF8;have rV:=ai UO;have HM8:=ai Ya;have HL8:=ai Yh;have d0:=A8.c0;have d1:=A8.c1;have d2:=A8.c2;have ahG:=A8.sl;have hz8:w.heap.size<=w8.heap.size:=Nat.le_trans XH (Nat.le_trans bW.o.size rV.o.size);rw[<- Em.o] at d0;rw[<- zw.o] at d2;rw[<- iw.o];clear hF8 UO Ya Yh A8;have Th:Hid (Kp (fun b=>blk (.slice (some (Ad sb 0)) ns cap) b) W2 w8):=(Kp.drew _ _).trans (Kp.aF rV.o) (fun _ _ g=>g);have Au:Hid (∀o,Kp (fun b=>blk (.slice (some (Ad sb 0)) ns cap) b) W2 (w8.alloc o)):=fun o=>Th.o.trans (Kp.alloc _ _ o) (fun _ _ g=>g);go_simp
     refine hK.out _ _ (fun _=>?_) ?_
     · exact Th.o
     clear hK K
     try simp only[Act.put,List.setIfInBounds_toArray,List.set_cons_zero,List.set_cons_succ]
     refine GZ.tk 9 Th.o ?_ ?_ ?_
     rotate_left 1
     · intro V h
       obtain⟨k0,k1,k2,k3⟩:=cI.o V h
       go_simp
       try with_reducible rfl
     refine GZ.tk 11 Th.o ?_ ?_ ?_
     rotate_left 1
     · intro V h
       obtain⟨k0,k1,k2,k3⟩:=cI.o V h
       go_simp
       try with_reducible rfl
     refine GZ.all (rs:=[12]) (by kernel_rfl) (by simp) ?_
     refine GZ.bI.cons rfl (fun K hK=>?_) GZ.bI.nil
     go_simp
     refine hK.out _ _ (fun _=>?_) ?_
     · exact Th.o
     clear hK K
     try simp only[Act.put,List.setIfInBounds_toArray,List.set_cons_zero,List.set_cons_succ]
     refine GZ.all (rs:=[13]) (by kernel_rfl) (by simp) ?_
     refine GZ.bI.cons rfl (fun K hK=>?_) GZ.bI.nil
     go_simp
     refine hK.out _ _ (fun _=>?_) ?_
     · exact Au.o _
     clear hK K
     try simp only[Act.put,List.setIfInBounds_toArray,List.set_cons_zero,List.set_cons_succ]
     have tN:Hid (∀o,(w8.alloc o).ownsRow lo 53 3 (.slice (some (Ad sb 0)) ns cap) ns (L.flatMap bH)):=fun o=>by
      have h:=pN.o.mem.row
      rw[pN.o.mem.len,<- iw.o] at h
      exact Kp.row (((Kp.drew (fun _=>False) W2).trans (Kp.aF rV.o) (fun _ _ g=>g)).trans (Kp.alloc (fun _=>False) _ o) (fun _ _ g=>g)) h (fun _ _ g=>g)
     have RU:Hid (∀(O:Obj) (wG:World) (vG:Value),(w8.alloc O).grownBy wG (Value.slice (some (Ad sb 0)) ns cap).ownBlock->wG.ownsRow lo 53 3 vG (ns+1) (L.flatMap bH++bH ⟨lv,.slice aa8 na8 ca8,.slice ap8 np cp8⟩)->(vG.ownBlock=(Value.slice (some (Ad sb 0)) ns cap).ownBlock∨vG.ownBlock=some (w8.alloc O).heap.size)->Fo lo mb (wG.setCell (Ad mb 1) vG) ⟨f.slots,f.ak++[FM.ax f.ak k],f.procs,f.out⟩ vG (L++[⟨lv,.slice aa8 na8 ca8,.slice ap8 np cp8⟩]) (.slice (some (Ad pb 0)) nr cr) (.slice ao no co)/\Kp (fun b=>b=mb∨blk (.slice (some (Ad sb 0)) ns cap) b) W2 (wG.setCell (Ad mb 1) vG)):=fun O wG vG g1 g2 g3=>by
      have hL8:k<L8.length:=by rw[VH.o.mem.len];exact Aw.o
      have hs:=VH.o.mem.each k hL8
      rw[HL8.o,<- Em.o,<- zw.o] at hs
      have hne:=fun b=>(VH.o.mem.n4 k k hL8 hL8 b)
      rw[HL8.o,<- Em.o,<- zw.o] at hne
      have h2:=pN.o
      rw[<- iw.o,<- iW.o,<- iY.o] at h2
      have hl:=h2.mem.len
      rw[<- iw.o] at hl
      exact h2.push (O:=O) (w2:=w8) (by have:=B.isLt h2.mem.head;have:=h2.mem.base;omega) ((Below.refl _ _).drew.trans rV.o) (hs.mono HM8.o) (fun b hb=>(hne b hb).1) g1 (by rw[hl];exact g2) g3
     refine GZ.all (rs:=[14]) (by kernel_rfl) (by simp) ?_
     refine GZ.bI.cons rfl (fun K hK=>?_) GZ.bI.nil
     rw[if_pos (by rfl)];refine cD (P:=Tryz.prog) _ _ 26 rfl lo 53 is (.agg #[.bool false,Nl,Nl]) 3 56 Tryz.underlying26 KW.o KV.o KU.o KT.o rfl (by decide) (.slice (some (Ad sb 0)) ns cap) ns (L.flatMap bH) rfl (tN.o _) (some (Ad w8.heap.size 0)) 1 1 (bH ⟨lv,.slice aa8 na8 ca8,.slice ap8 np cp8⟩) rfl rfl (fun _=>⟨_,rfl,lh w8 _ _⟩) (Ba _ _ _ _ _ _ _) (by unfold maxLen;omega) (by omega) (by rw[World.size_alloc];omega) ?_;intro vG wG xC uQ Dy;obtain⟨aG,cG,M0,_,_⟩:=aL xC;subst M0;have zu:=ai (RU.o _ _ _ uQ xC Dy);have qO:Hid (Kp (fun b=>blk (.slice (some (Ad sb 0)) ns cap) b) W2 wG):=(Au.o _).trans (Kp.grown uQ (fun _ e=>e)) (fun _ _ g=>g);have V6:=(cI.o wG qO.o).2.1;have hof:wG.frozen? (Ad mb 1)=false:=B.free (qO.o.keep pN.o.mem.head (fun g=>pN.o.mem.n1 g)) 1;clear xC uQ Dy
     refine hK.out _ _ (fun _=>?_) ?_
     · exact qO.o
     clear hK K
     try simp only[Act.put,List.setIfInBounds_toArray,List.set_cons_zero,List.set_cons_succ]
     refine GZ.all (rs:=[15]) (by kernel_rfl) (by simp) ?_
     refine GZ.bI.cons rfl (fun K hK=>?_) GZ.bI.nil
     go_simp
     refine hK.out _ _ (fun _=>?_) ?_
     · exact qO.o
     clear hK K
     try simp only[Act.put,List.setIfInBounds_toArray,List.set_cons_zero,List.set_cons_succ]
     refine GZ.tk 16 qO.o ?_ ?_ ?_
     rotate_left 1
     · intro V h
       obtain⟨k0,k1,k2,k3⟩:=cI.o V h
       go_simp
       try with_reducible rfl
     refine GZ.all (rs:=[17]) (by kernel_rfl) (by simp) ?_
     refine GZ.bI.cons rfl (fun K hK=>?_) GZ.bI.nil
     go_simp
     refine hK.out _ _ (fun g=>absurd rfl g) ?_
     refine GZ.done (by kernel_rfl) ?_ _
     go_wp2
     have h1:=zu.o.1
     rw[iW.o,iY.o] at h1
     have h2:=zu.o.2.mono (D1:=fun b=>b=mb∨blk (.slice (some (Ad sb 0)) f.ak.length cap) b∨blk (.slice ao f.out.length co) b) (fun b _ e=>e.elim .inl (fun g=>.inr (.inl g)))
     exact HP.o _ _ ⟨by rw[hv.out.1,Ws.o,iw.o];simp,_,_,_,by rw[hv.out.2];exact h1,(Kp.aF dJ.o).trans ((Kp.aF bW.o).trans h2 (fun _ _ g=>g)) (fun _ _ g=>g)⟩
end GO
namespace AW
open Go.RowKit
theorem mG (F:Nat->AM.St) (hF:AM.mV F) (w:World) :
  Calls Tryz.prog 77 #[.agg (AM.eG (fun n=>AM.enc (F n)))] w fun e w'=>∃v,e=.returned v/\Own w.heap.size w' v (AM.cP F)/\Below w.heap.size w w':=by
 have HF:Hid (AM.mV F):=hF
 clear hF
 obtain⟨C,hC⟩:=ex (AM.eG (fun n=>AM.enc (F n)))
 have hCg:Hid (∀n,n<256->C[n]?=some (I (AM.enc (F n)))):=by show ∀n,_;rw[hC];exact fun n hn=>AM.lR _ n hn
 rw[<- hC]
 clear hC
 obtain⟨i0,hi,hz0,hz1,hz2⟩:=info_parts MV
 have HX:Hid ((w.alloc (.cells C 140)).heap[w.heap.size]?=some (.cells C 140 (0,0))):=B.new w C 140
 have cM:Hid (Below w.heap.size w (w.alloc (.cells C 140))):=(Below.refl _ _).alloc (Nat.le_refl _) _
 go_enter Tryz.func77,Tryz.ntmps77
 go_wp2
 go_loopw [3,4] (fun v i wr=>∃k:Nat,1<=k/\k<=256/\i=I k/\wr.ownsRow (w.heap.size+1) 59 4 v (AM.aV F k).length (AM.aT (AM.aV F k))/\wr.heap[w.heap.size]?=some (.cells C 140 (0,0))/\Below w.heap.size w wr) (fun _ i _=>256-(intOf i).toNat)
 case atStart =>
  have e:AM.aV F 1=[]:=by simp only[AM.aV];rw[if_pos HF.o.zero]
  refine⟨1,by omega,by omega,rfl,?_,HX.o,cM.o⟩
  rw[e]
  exact World.ownsRow_nil _ _ _ _
 case round =>
  obtain⟨k,hk1,hk,rfl,hown,hx,hb⟩:=hrel
  have HO:Hid (wr.ownsRow (w.heap.size+1) 59 4 u3 (AM.aV F k).length (AM.aT (AM.aV F k))):=hown
  have Y8:Hid (wr.heap[w.heap.size]?=some (.cells C 140 (0,0))):=hx
  have HB:Hid (Below w.heap.size w wr):=hb
  have hsz:w.heap.size<wr.heap.size:=B.isLt hx
  by_cases hlt:k<256
  · have l0:=B.cell hx k (hCg.out k hlt)
    have l1:=B.cell hx (k-1) (hCg.out (k-1) (by omega))
    have jd:(k:Int)<=255:=by omega
    have ahZ:(1:Int)<=(k:Int):=by omega
    have hkb:(k:Int)<256:=by omega
    clear hown hx hb
    have hlast:AM.dV F k=F (k-1):=by
     cases k with
     | zero=>omega
     | succ k=>rfl
    have hpk:=HF.o.bE k
    have hpl:=HF.o.bE (k-1)
    obtain⟨s,hs⟩:=ex (F k)
    obtain⟨t,ht⟩:=ex (AM.dV F k)
    rw[<- hlast,<- ht] at l1 hpl
    rw[<- hs] at l0 hpk
    have HS:Hid (s=F k):=hs
    have HT:Hid (t=AM.dV F k):=ht
    clear hs ht hlast
    by_cases hm:s.m=true
    · have hen:=AM.NM s hpk hm
      have hinj:=AM.QR s t hpk hpl hm
      obtain⟨x,hx⟩:=ex (AM.enc s)
      obtain⟨y,hy⟩:=ex (AM.enc t)
      rw[<- hx] at l0 hen hinj
      rw[<- hy] at l1 hinj
      obtain⟨hp1,hp2,hp3,K5⟩:=hen
      have HP1:Hid ((x-1)%8/2=s.p):=hp1
      have mR:Hid (decide (8<=x-1)=s.z):=hp2
      have HI:Hid (y=x↔AM.qu s t=true):=hinj
      have hx0:(x==0)=false:=beq_eq_false_iff_ne.2 (by omega)
      clear hx hy hp1 hp2 hinj hpk hpl
      by_cases hyx:y=x
      · have he:AM.qu s t=true:=HI.o.1 hyx
        have abO:(y==x)=true:=by simp[hyx]
        have HG:Hid (AM.aV F (k+1)=AM.yi (AM.aV F k)):=by show _=_;simp only[AM.aV];rw[<- HS.o,<- HT.o,hm,he];rfl
        have hpos:=AM.po F k (by rw[<- HT.o,<- AM.AL s t he];exact hm)
        have hlen:=AM.jC F k
        have mA:=AM.nT F k ((AM.aV F k).length-1) (by omega)
        obtain⟨G,hG⟩:=ex (AM.aV F k)
        rw[<- hG] at HO HG hpos hlen mA
        clear hG he hm hyx
        rcases HO.o.2 with⟨_,h0⟩ | ⟨g,cap,cur,hv,hbg,hg,hnc,hcm,hcs,htake⟩
        · omega
        · have Ci:=HO.o
          rw[hv] at Ci
          have p1:wr.cell? ⟨g,(G.length-1)*4+1,none⟩=some (I (AM.at_ G (G.length-1)).aj):=by
           rw[Ci.cellAt _ (by omega),AM.eO G _ 1 (by omega) (by omega)];rfl
          have pf:=Ci.frozenAt
          have HOv:Hid (wr.ownsRow (w.heap.size+1) 59 4 (.slice (some (Ad g 0)) G.length cap) G.length (AM.aT G)):=Ci
          have hgl:g<wr.heap.size:=B.isLt hg
          rw[hv]
          clear HO Ci hv hg htake hcs
          obtain⟨pp,jh⟩:=ex ((AM.at_ G (G.length-1)).aj)
          rw[<- jh] at p1 mA
          have HP:Hid (pp=(AM.at_ G (G.length-1)).aj):=jh
          clear jh
          have hG1:(1:Int)<=(G.length:Int):=by omega
          have hG2:(G.length:Int)<=256:=by omega
          go_wp2
          go_quiet (fail)
          obtain⟨V,hV⟩:∃V:World,V=wr.drewN nq:=⟨_,rfl⟩
          rw[<- hV]
          have p1V:V.cell? ⟨g,(G.length-1)*4+1,none⟩=some (I pp):=by rw[hV];exact p1
          have pfV:∀j,V.frozen? (Ad g j)=false:=by rw[hV];exact pf
          have HXV:Hid (V.heap[w.heap.size]?=some (.cells C 140 (0,0))):=by show _=_;rw[hV];exact Y8.o
          have Pf:Hid (V.ownsRow (w.heap.size+1) 59 4 (.slice (some (Ad g 0)) G.length cap) G.length (AM.aT G)):=by show World.ownsRow _ _ _ _ _ _ _;rw[hV];exact HOv.o
          have VM:Hid (Below w.heap.size w V):=by show Below _ _ _;rw[hV];exact below_drewN HB.o _
          clear hV p1 pf l0 l1 Y8 HOv HB
          go_wp2
          go_roundw
          case rel =>
           have ho:=(Pf.o.stored ((G.length-1)*4+1) (I (pp+1))).1
           have e:(AM.aT G).set ((G.length-1)*4+1) (I (pp+1))=AM.aT (AM.yi G):=by
            rw[HP.o];exact(AM.gi G (G.length-1) _ (by omega)).symm
           rw[e] at ho
           refine⟨k+1,by omega,by omega,by go_num,?_,B.other HXV.o _ _ _ (by omega),VM.o.setCell (by simp;omega) _⟩
           rw[HG.o,AM.iQ];exact ho
          case measure=>simp[intOf];omega
      · have he:AM.qu s t=false:=by
         cases e:AM.qu s t
         · rfl
         · exact absurd (HI.o.2 e) hyx
        have abO:(y==x)=false:=beq_eq_false_iff_ne.2 hyx
        have HG:Hid (AM.aV F (k+1)=AM.aV F k++[⟨(k:Int),1,s.p,s.z⟩]):=by show _=_;simp only[AM.aV];rw[<- HS.o,<- HT.o,hm,he];rfl
        have hlen:=AM.jC F k
        obtain⟨G,hG⟩:=ex (AM.aV F k)
        rw[<- hG] at HO HG hlen
        clear hG he hm hyx
        have hrow:Hid (∀j,u3.ownBlock=some j->w.heap.size+1<=j/\j<wr.heap.size):=HO.o.lt
        go_wp2
        go_quiet (fail)
        obtain⟨V,hV⟩:∃V:World,V=wr.drewN nq:=⟨_,rfl⟩
        rw[<- hV]
        have l0V:V.cell? (Ad w.heap.size k)=some (I x):=by rw[hV];exact l0
        have HXV:Hid (V.heap[w.heap.size]?=some (.cells C 140 (0,0))):=by show _=_;rw[hV];exact Y8.o
        have Pf:Hid (V.ownsRow (w.heap.size+1) 59 4 u3 G.length (AM.aT G)):=by show World.ownsRow _ _ _ _ _ _ _;rw[hV];exact HO.o
        have VM:Hid (Below w.heap.size w V):=by show Below _ _ _;rw[hV];exact below_drewN HB.o _
        have hrV:Hid (∀j,u3.ownBlock=some j->w.heap.size+1<=j/\j<V.heap.size):=Pf.o.lt
        have ahD:w.heap.size<V.heap.size:=B.isLt HXV.o
        clear hV l0 l1 Y8 HO HB hrow hsz
        have HN:Hid ((V.alloc (.cells #[I (k:Int),I 1,I ((x-1)%8/2),.bool (decide (8<=x-1))] 59)).heap[V.heap.size]?=some (.cells #[I (k:Int),I 1,I ((x-1)%8/2),.bool (decide (8<=x-1))] 59 (0,0))):=B.new _ _ _
        go_wp2_with (at_builtin;refine wpList_append_lies _ rfl _ _ 22 rfl (w.heap.size+1) 59 i0 (.agg #[I 0,I 0,I 0,.bool false]) 4 32 Tryz.underlying22 hi hz0 hz1 hz2 rfl (by decide) _ _ _ rfl (Pf.o.alloc _) (Ad V.heap.size 0) 1 1 [I (k:Int),I 1,I ((x-1)%8/2),.bool (decide (8<=x-1))] rfl rfl (B.news HN.o) (AM.gj [⟨(k:Int),1,(x-1)%8/2,decide (8<=x-1)⟩]) (by decide) (by unfold maxLen;omega) (by omega) (by simp;omega) (V.heap.size+1) (by simp) ?_)
        intro g cap w1 hown1 hgrow hat acm
        have bX:=B.grown (B.alloc HXV.o (.cells #[I (k:Int),I 1,I ((x-1)%8/2),.bool (decide (8<=x-1))] 59)) hgrow (fun e=>by have:=hrV.out _ e.symm;omega)
        have Lm:Hid (w1.ownsRow (w.heap.size+1) 59 4 (Value.slice (some (Ad g 0)) (G.length+1) cap) (G.length+1) (AM.aT G++[I (k:Int),I 1,I ((x-1)%8/2),.bool (decide (8<=x-1))])):=hown1
        have Za:Hid (w1.heap[w.heap.size]?=some (.cells C 140 (0,0))):=bX
        have bj:Hid (Below w.heap.size w w1):=(VM.o.alloc VM.o.size _).grown hgrow (by have:=VM.o.size;simp;omega) (fun k' e=>by have:=hrV.out _ e;omega)
        clear bX hown1 hgrow hat
        go_wp2
        go_roundw
        case rel =>
         refine⟨k+1,by omega,by omega,by go_num,?_,Za.o,bj.o⟩
         rw[HG.o,List.length_append,AM.jG]
         have h:=Lm.o
         rw[HP1.o,mR.o] at h
         exact h
        case measure=>simp[intOf];omega
    · have hm':s.m=false:=by simpa using hm
      have hx0:=(AM.pG s hpk.1).2 hm'
      have HG:Hid (AM.aV F (k+1)=AM.aV F k):=by show _=_;simp only[AM.aV];rw[<- HS.o,hm'];rfl
      rw[hx0] at l0
      clear hm hx0
      go_wp2
      go_roundw
      case rel =>
       refine⟨k+1,by omega,by omega,by go_num,?_,Y8.o,HB.o⟩
       rw[HG.o];exact HO.o
      case measure=>simp[intOf];omega
  · obtain rfl:k=256:=by omega
    clear hown hx hb
    go_wp2
    go_ret
    refine⟨_,rfl,?_,HB.o⟩
    exact Own.mono (lo:=w.heap.size+1) HO.o (Nat.le_succ _)
theorem pK (F:Nat->AM.St) (hF:AM.mV F) (w:World) :
  Calls Tryz.prog 77 #[.agg (AM.eG (fun n=>AM.enc (F n)))] w fun e w'=>∃v,e=.returned v/\Has w' v (AM.cP F)/\Below w.heap.size w w':=(mG F hF w).mono fun _ _ ⟨v,h1,h2,h3⟩=>⟨v,h1,h2.has,h3⟩
end AW
end Go.Proofs.YtkdigjpejnebkaaGreat
