import Derived.Test.YtkdigjpejnebkaaGreatGU00
import Derived.Test.YtkdigjpejnebkaaGreatGU30
import Derived.Deep.DeepCutAuto
import Derived.Deep.CutBlock
set_option maxHeartbeats 20000000
set_option linter.unusedVariables false
set_option maxRecDepth 100000
set_option linter.unusedSimpArgs false
namespace Go.Proofs.YtkdigjpejnebkaaGreat
namespace GO
open Go.RowKit GK
open GF (Lc vY bu bH aH eP blk eT eQ dw bl nt dg)
open GW (aI bR bg cB)
open FW (ai aB)
theorem Fo.Qa {lo mb0:Nat} {w:World} {f:FM.Fl} {v:Value} {L:List Lc} {vr vo:Value} (h:Fo lo mb0 w f v L vr vo):Fo lo w.heap.size (w.alloc (.cells #[I f.slots,v,vr,vo] 30)) f v L vr vo:=by
 have hb:Below w.heap.size w (w.alloc (.cells #[I f.slots,v,vr,vo] 30)):=(Below.refl _ _).alloc (Nat.le_refl _) _
 have h2:=h.below hb
 have hlo:lo<=w.heap.size:=by have:=B.isLt h.mem.head;have:=h.mem.base;omega
 refine⟨((h.mem.dom (D':=fun b=>b<w.heap.size/\Ap vr vo b) (fun b _ h1 h3=>⟨h1,h3⟩)).below hb).at (B.new w _ _) hlo ⟨fun g=>?_,fun g=>?_⟩ (fun b g e=>?_) (fun b g=>g.2),h2.procs,h2.words,h2.apart⟩
 · have:=(h.procs.lt _ g).2;omega
 · have:=(h.words.lt _ g).2;omega
 · have:=g.1;omega
theorem PO {w:World} {b:Nat} {a0 a1:Value} {t:TypeId} (h:w.heap[b]?=some (.cells #[a0,a1] t (0,0))) (v0 v1:Value):((w.setCell (Ad b 0) v0).setCell (Ad b 1) v1).heap[b]?=some (.cells #[v0,v1] t (0,0)):=by
 have:=B.set (B.set h 0 v0) 1 v1
 simpa using this
theorem MO {D:Nat->Prop} (w:World) (g:Nat) (v0 v1:Value) (h:D g):Kp D w ((w.setCell (Ad g 0) v0).setCell (Ad g 1) v1):=(Kp.set D w (Ad g 0) v0 h).trans (Kp.set D _ (Ad g 1) v1 h) (fun _ _ h=>h)
theorem WL {w:World} {b:Nat} {a0 a1 a2 a3 a4:Value} {t:TypeId} (h:w.heap[b]?=some (.cells #[a0,a1,a2,a3,a4] t (0,0))) (v0 v1 v2 v3 v4:Value):(((((w.setCell (Ad b 0) v0).setCell (Ad b 1) v1).setCell (Ad b 2) v2).setCell (Ad b 3) v3).setCell (Ad b 4) v4).heap[b]?=some (.cells #[v0,v1,v2,v3,v4] t (0,0)):=by
 have:=B.set (B.set (B.set (B.set (B.set h 0 v0) 1 v1) 2 v2) 3 v3) 4 v4
 simpa using this
theorem VX {D:Nat->Prop} (w:World) (g:Nat) (v0 v1 v2 v3 v4:Value) (h:D g):Kp D w (((((w.setCell (Ad g 0) v0).setCell (Ad g 1) v1).setCell (Ad g 2) v2).setCell (Ad g 3) v3).setCell (Ad g 4) v4) :=
 ((((Kp.set D w (Ad g 0) v0 h).trans (Kp.set D _ (Ad g 1) v1 h) (fun _ _ h=>h)).trans (Kp.set D _ (Ad g 2) v2 h) (fun _ _ h=>h)).trans (Kp.set D _ (Ad g 3) v3 h) (fun _ _ h=>h)).trans (Kp.set D _ (Ad g 4) v4 h) (fun _ _ h=>h)
theorem qx.alloc {w w':World} {g:FM.Fl} {e:Ending} (h:qx w g e w') (o:Obj):qx w g e (w'.alloc o):=by
 obtain⟨az,cs,ar,cr,ao,co,h1,h2,h3⟩:=h
 exact⟨az,cs,ar,cr,ao,co,h1,fun V hV=>h2 V ((Kp.alloc (fun b=>b<w.heap.size) w' o).trans hV (fun _ _ g=>g)),h3.alloc h3.size o⟩
theorem EX (f:FM.Fl) (k:Nat) (az ar ao:Option Addr) (cs cr co:Nat) (w:World) (h:FW.fK w f az ar ao) (hok:GG.lZ GM.qy (GH.aZ f)) (hk2:k<f.procs.length) (hs:¬(FM.au f.procs k).st=1) :
  Calls Tryz.prog 16 #[.agg (FW.bw f az ar ao cs cr co),I (k:Int)] w (qx w (GR.di f (k:Int))):=by
 have HST:Hid (GR.di f (k:Int)=f):=by
  have hl:(k:Int)<((GH.aZ f).ps.length:Int):=by show(k:Int)<(f.procs.length:Int);omega
  have hs':¬(FM.au (GH.aZ f).ps (k:Int).toNat).st=1:=hs
  show GR.di f (k:Int)=f
  unfold GR.di GG.stepG
  rw[if_neg (fun g=>g ⟨by omega,hl⟩),if_pos hs']
  rfl
 have hl:=ub hok
 have hk:k<f.ak.length:=by omega
 have h4:f.ak.length<=4:=hok.mem.few.2
 have tH:=ai hok
 have Aw:=ai hk
 have lY:=ai hk2
 obtain⟨ns,hns⟩:=ex f.ak.length
 obtain⟨nr,fh⟩:=ex f.procs.length
 obtain⟨no,hno⟩:=ex f.out.length
 have iw:=ai hns
 have iW:=ai fh
 have iY:=ai hno
 obtain⟨q,hq⟩:=ex (FM.au f.procs k)
 have HQ:=ai hq
 have HOW:Hid (∀V,Below w.heap.size w V->Calls Tryz.prog 47 #[.agg #[I f.slots,.slice az ns cs,.slice ar nr cr,.slice ao no co]] V (KN V f)):=fun V hV=>by
  have:=vX f az ar ao cs cr co V (h.below hV) (by omega) (sM hok) (by omega) (by have:f.out.length<=2000:=hok.out;omega)
  unfold FW.bw at this
  rw[<- hns,<- fh,<- hno] at this
  exact this
 unfold FW.bw
 rw[<- hns,<- fh,<- hno]
 rw[<- hq] at hs
 obtain⟨P,hP⟩:=ex (qx w (GR.di f (k:Int)))
 have HP:Hid (∀e w',qx w (GR.di f (k:Int)) e w'->P e w'):=fun e w' g=>by rw[hP];exact g
 rw[<- hP]
 have cY:=ai (((Below.refl w.heap.size w).alloc (Nat.le_refl _) (.cells #[I f.slots,.slice az ns cs,.slice ar nr cr,.slice ao no co] 30)).alloc (by simp) (.cells #[I 0,Nl,Nl,Nl] 30))
 have BZ:=ai (B.new (w.alloc (.cells #[I f.slots,.slice az ns cs,.slice ar nr cr,.slice ao no co] 30)) #[I 0,Nl,Nl,Nl] 30)
 rw[World.size_alloc] at BZ
 have jd:(k:Int)<(ns:Int):=by omega
 have iz:(k:Int)<(nr:Int):=by omega
 have ab9:nr<=4:=by omega
 clear h hok hP hns fh hno hq hl hk hk2
 go_enter Tryz.func16,Tryz.ntmps16
 have hsi:(q.st==1)=false:=by rw[beq_eq_false_iff_ne];exact hs
 go_wp2_with (go_at_call 47;refine(HOW.o _ cY.o).mono ?_;rintro e w3 ⟨ob,v,L,vr,vo,rfl,Ct,hF,hb3⟩;obtain⟨sb,cap,pb,ui,aa,na,ca,ap,cp,I2,Le,rfl,rfl,rfl,hlc,A⟩:=hF.at Aw.o lY.o;rw[World.size_alloc,World.size_alloc] at Ct;have VJ:=ai hF;have fH:=ai hb3;have uy:=ai A;have Et:=ai (B.below BZ.o (hb3.mono (by simp)) (B.isLt BZ.o));obtain⟨z0,z1,z2,z3⟩:=B.c4 Et.o;have zf:∀j,w3.frozen? (Ad (w.heap.size+1) j)=false:=fun j=>B.free Et.o j;have zl:=B.isLt Et.o;have q9:w3.cell? (Ad pb (k*13+9))=some (I q.st):=(A.pr 9 (by omega)).trans (by rw[HQ.o];rfl);have jN:=A.sl;have hpb:=A.pl;clear hF hb3 A;rw[<- iw.o,<- iW.o,<- iY.o])
 refine bodyPost_ret (v:=.agg #[I f.slots,.slice (some (Ad sb 0)) ns cap,.slice (some (Ad pb 0)) nr ui,.slice I2 no Le]) (by simp[results,Tryz.results16,go_sem,z0,z1,z2,z3,zl]) rfl ?_
 refine HP.o _ _ ?_
 have hE:=(sH (w:=w) (b1:=w.heap.size+1) VJ.o rfl (by omega) (by omega) (cY.o.trans (fH.o.mono (by simp;omega)))).alloc (.cells #[I f.slots,.slice (some (Ad sb 0)) ns cap,.slice (some (Ad pb 0)) nr ui,.slice I2 no Le] 30)
 rw[HST.o]
 rw[<- iw.o,<- iW.o,<- iY.o] at hE
 exact hE
end GO
end Go.Proofs.YtkdigjpejnebkaaGreat
