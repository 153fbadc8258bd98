import Derived.Test.YtpgifpeohlllfaaGreatGS00
import Derived.Test.YtpgifpeohlllfaaGreatGS13
import Derived.Test.YtpgifpeohlllfaaGreatGS17
import Derived.Test.YtpgifpeohlllfaaGreatGS10
import Derived.StillTailTactics
import Derived.Test.YtpgifpeohlllfaaGreatGS06
import Derived.Test.YtpgifpeohlllfaaGreatGS01
import Derived.Test.YtpgifpeohlllfaaGreatGS11
import Derived.Test.YtpgifpeohlllfaaGreatGS02
import Derived.Test.YtpgifpeohlllfaaGreatGS07
import Derived.Test.YtpgifpeohlllfaaGreatGS18
import Derived.Test.YtpgifpeohlllfaaGreatGS29
import Derived.Deep.RegionLaw
import Derived.Deep.DeepCutAuto
import Derived.Deep.CutBlock
import Derived.Test.YtpgifpeohlllfaaGreatGS27
set_option maxHeartbeats 20000000
set_option linter.unusedVariables false
set_option maxRecDepth 100000
set_option linter.unusedSimpArgs false
namespace Go.Proofs.YtpgifpeohlllfaaGreat
namespace LW
open Go.RowKit
open W (ai)
structure Oi (l:List LM.Ob) (ao:Option Addr) (w:World):Prop where
 has:LM.PB w ao l
 few:l.length<=1000
 Zg:∀k,k<l.length->M.j5 (LM.ek l k).i=0
 fit:∀k,k<l.length->M.Fit (LM.ek l k).i
 base:∀k,k<l.length->1<=(LM.ek l k).base/\(LM.ek l k).base<=2000
theorem Oi.below {l:List LM.Ob} {ao:Option Addr} {w w':World} (h:Oi l ao w) (hb:Below w.heap.size w w'):Oi l ao w':=⟨h.has.below hb,h.few,h.Zg,h.fit,h.base⟩
structure TZ (xs ys:List LM.Sh):Prop where
 len:xs.length=ys.length
 page:∀k,k<xs.length->(LM.aW ys k).page=(LM.aW xs k).page
 data:∀k,k<xs.length->(LM.aW ys k).data=(LM.aW xs k).data
 bh:∀k,k<xs.length->(LM.aW ys k).bh=(LM.aW xs k).bh
theorem xK (xs ys:List LM.Sh) (ax ay:Option Addr) (cx cy:Nat) (w:World) (hx:LM.gT w ax xs) (hy:LM.gT w ay ys) (hs:TZ xs ys) (hn:M.bf xs.length) (hfn:∀k,k<xs.length->M.bf (LM.aW xs k).bh.length) :
  Calls Tryz.prog 57 #[.slice ax xs.length cx,.slice ay ys.length cy] w fun e w'=>e=.returned (.bool true)/\Below w.heap.size w w':=by
 have HX:=ai hx
 have HYY:=ai hy
 have HS:=ai hs
 have Al:=ai hfn
 rw[<- hs.len]
 unfold M.bf at hn
 clear hx hy hs hfn
 go_enter Tryz.func57,Tryz.ntmps57
 go_wp2
 go_loopw [5] (fun i wr=>∃k:Nat,k<=xs.length/\i=I k/\Below w.heap.size w wr) (fun i _=>xs.length-(intOf i).toNat)
 case atStart=>exact⟨0,by omega,rfl,Below.refl _ _⟩
 case round =>
  obtain⟨i,hi,rfl,hb⟩:=hrel
  have fw:=ai hb
  by_cases hlt:i<xs.length
  · obtain⟨bx,ox,hax,lB,hlx⟩:=HX.o (by omega)
    obtain⟨bx2,oy,hay,hby,U4⟩:=HYY.o (by rw[<- HS.o.len];omega)
    subst hax hay
    have HF:Hid (∀V,Below w.heap.size w V->(V.cell? (Ad bx (ox+i*3))=some (I (LM.aW xs i).page)/\V.cell? (Ad bx (ox+i*3+1))=some (.string (LM.aW xs i).data)/\V.cell? (Ad bx (ox+i*3+2))=some (.slice (LM.aW xs i).ao (LM.aW xs i).bh.length (LM.aW xs i).cap)/\LM.nE V (LM.aW xs i).ao (LM.aW xs i).bh)/\(V.cell? (Ad bx2 (oy+i*3))=some (I (LM.aW xs i).page)/\V.cell? (Ad bx2 (oy+i*3+1))=some (.string (LM.aW xs i).data)/\V.cell? (Ad bx2 (oy+i*3+2))=some (.slice (LM.aW ys i).ao (LM.aW xs i).bh.length (LM.aW ys i).cap)/\LM.nE V (LM.aW ys i).ao (LM.aW xs i).bh)):=fun V hV=>by
     obtain⟨a0,a1,a2,a3⟩:=LM.QY hV lB hlx i hlt
     obtain⟨b0,b1,b2,b3⟩:=LM.QY hV hby U4 i (by rw[<- HS.o.len];exact hlt)
     rw[HS.o.page i hlt] at b0
     rw[HS.o.data i hlt] at b1
     rw[HS.o.bh i hlt] at b2 b3
     exact⟨⟨a0,a1,a2,a3⟩,b0,b1,b2,b3⟩
    have hfi:=Al.o i hlt
    obtain⟨⟨pg,dt,fs,af,cf⟩,WJ⟩:∃s,s=LM.aW xs i:=⟨_,rfl⟩
    obtain⟨ag,hag⟩:∃a,a=(LM.aW ys i).ao:=⟨_,rfl⟩
    obtain⟨cg,hcg⟩:∃a,a=(LM.aW ys i).cap:=⟨_,rfl⟩
    rw[<- WJ,<- hag,<- hcg] at HF
    rw[<- WJ] at hfi
    simp only at HF hfi
    unfold M.bf at hfi
    clear WJ hag hcg hlx U4
    obtain⟨⟨a0,a1,a2,-⟩,b0,b1,b2,-⟩:=HF.o _ hb
    have hi1:(i:Int)<(xs.length:Int):=by omega
    have hi0:(0:Int)<=(i:Int):=by omega
    clear hb
    go_wp2
    go_quiet (fail)
    go_wp2
    go_loopw [6] (fun i2 wr=>∃k:Nat,k<=fs.length/\i2=I k/\Below w.heap.size w wr) (fun i2 _=>fs.length-(intOf i2).toNat)
    case atStart=>exact⟨0,by omega,rfl,Go.below_drewN fw.o _⟩
    case round =>
     obtain⟨k,hk,rfl,hb⟩:=hrel
     have HBk:=ai hb
     obtain⟨⟨d0,d1,d2,d3⟩,e0,e1,e2,e3⟩:=HF.o _ hb
     clear hb a0 a1 a2 b0 b1 b2
     by_cases hlk:k<fs.length
     · obtain⟨fb,fo,haf,rY,hlf⟩:=d3 (by omega)
       obtain⟨gb,go,hag,hgb,K9⟩:=e3 (by omega)
       subst haf hag
       obtain⟨f0,f1⟩:=hlf k hlk
       obtain⟨g0,g1⟩:=K9 k hlk
       obtain⟨⟨fo1,fb1⟩,Ha⟩:∃f,f=LM.lQ fs k:=⟨_,rfl⟩
       rw[<- Ha] at f0 f1 g0 g1
       simp only at f0 f1 g0 g1
       clear Ha hlf K9 d3 e3
       have hk1:(k:Int)<(fs.length:Int):=by omega
       have Oj:(0:Int)<=(k:Int):=by omega
       go_wp2
       go_quiet (fail)
       go_wp2
       go_roundw
       case rel=>exact⟨k+1,by omega,by go_num,Go.below_drewN HBk.o _⟩
       case measure=>simp[intOf];omega
     · obtain rfl:k=fs.length:=by omega
       clear d3 e3
       go_wp2
       go_roundw
       case rel=>exact⟨i+1,by omega,by go_num,HBk.o⟩
       case measure=>simp[intOf];omega
  · obtain rfl:i=xs.length:=by omega
    go_wp2
    go_ret
    exact⟨rfl,fw.o⟩
end LW
namespace FW
open Go.RowKit
structure akh (s:FM.Sp):Prop where
 aD:AW.ed s.aD
 aH:M.bf s.aH.length
 page:∀k,k<s.aH.length->M.gj (FM.XB s.aH k).page/\M.bf (FM.XB s.aH k).data.size
theorem KN {w:World} {v:Value} {l:List AM.Ar} (h:AW.Has w v l):∃ao n c,v=.slice ao n c:=by
 obtain⟨ao,cap,h,_⟩:=h
 exact⟨ao,_,cap,h⟩
end FW
namespace KR
open Go.RowKit GK
open FW (ai aB)
open KW (aZ fu cI aJ eW lI jY aK bE bD)
theorem ac0 (d:ByteArray) (r:Int) (x y:Bool) (V:World):(Op.equalIn 10000 40 (.agg #[.string d,I r,.bool x,.bool y]) (.agg #[.string d,I r,.bool x,.bool y])).run Tryz.prog V=.ok true V:=by
 simp[go_sem]
theorem acZ (d:ByteArray) (r:Int) (V:World):(Op.equalIn 10000 86 (.agg #[.string d,I r]) (.agg #[.string d,I r])).run Tryz.prog V=.ok true V:=by
 simp[go_sem]
theorem ac1 (p q r:Int) (V:World):(Op.equalIn 10000 45 (.agg #[I p,I q,I r]) (.agg #[I p,I q,I r])).run Tryz.prog V=.ok true V:=by
 simp[go_sem]
theorem Uw {xs ys:List LM.Sh} (h:KM.Same xs ys):LW.TZ xs ys:=by
 refine⟨h.len.symm,fun k hk=>?_,fun k hk=>?_,fun k hk=>?_⟩
 · exact(KM.kT (h.at k)).1
 · exact(KM.kT (h.at k)).2.1
 · exact(KM.kT (h.at k)).2.2
structure Two (w:World) (c d:Array Value) (V:World):Prop where
 x:V.heap[w.heap.size]?=some (.cells c 27 (0,0))
 y:V.heap[w.heap.size+1]?=some (.cells d 27 (0,0))
 zq:Below w.heap.size w V
theorem Two.below {w V U:World} {c d:Array Value} (h:Two w c d V) (hb:Below V.heap.size V U):Two w c d U:=⟨B.below h.x hb (B.isLt h.x),B.below h.y hb (B.isLt h.y),h.zq.trans (hb.mono h.zq.size)⟩
theorem wy (k:KM.Kn) (hs:List LM.Sh) (a b:fu) (w:World) (hA:cI w a k) (hB:cI w b (KM.bu k hs)) (hS:KM.Same k.ak hs) (hF:eW k) :
  Calls Tryz.prog 20 #[.agg (aJ a k),.agg (aJ b (KM.bu k hs))] w fun e w'=>e=.returned (.bool true)/\Below w.heap.size w w':=by
 have hBs:LM.gT w b.aS hs:=hB.ak
 have hBf:aZ bE 4 KM.kY w b.aF k.frames:=hB.frames
 have hBl:aZ bD 2 KM.sS w b.aL k.slots:=hB.slots
 have hBp:jY w b.aP k.aj:=hB.aj
 have LQ:Hid (∀V,Below w.heap.size w V->Calls Tryz.prog 57 #[.slice a.aS k.ak.length a.cS,.slice b.aS hs.length b.cS] V fun e w'=>e=.returned (.bool true)/\Below V.heap.size V w'):=fun V hV=>LW.xK k.ak hs a.aS b.aS a.cS b.cS V (hA.ak.below hV) (hBs.below hV) (Uw hS) hF.ak.1 (fun i hi=>(hF.ak.2 i hi).bh)
 obtain⟨WA,dK⟩:=ex ((w.alloc (.cells #[.slice a.aS k.ak.length a.cS,.slice a.aF k.frames.length a.cF,.slice a.aL k.slots.length a.cL,.slice a.aP k.aj.length a.cP,I k.hand] 27)).alloc (.cells #[.slice b.aS hs.length b.cS,.slice b.aF k.frames.length b.cF,.slice b.aL k.slots.length b.cL,.slice b.aP k.aj.length b.cP,I k.hand] 27))
 have Zr:Hid (Two w #[.slice a.aS k.ak.length a.cS,.slice a.aF k.frames.length a.cF,.slice a.aL k.slots.length a.cL,.slice a.aP k.aj.length a.cP,I k.hand] #[.slice b.aS hs.length b.cS,.slice b.aF k.frames.length b.cF,.slice b.aL k.slots.length b.cL,.slice b.aP k.aj.length b.cP,I k.hand] WA):=by
  rw[dK]
  refine⟨B.alloc (B.new w _ _) _,?_,((Below.refl _ _).alloc (Nat.le_refl _) _).alloc (by simp) _⟩
  have:=B.new (w.alloc (.cells #[.slice a.aS k.ak.length a.cS,.slice a.aF k.frames.length a.cF,.slice a.aL k.slots.length a.cL,.slice a.aP k.aj.length a.cP,I k.hand] 27)) #[.slice b.aS hs.length b.cS,.slice b.aF k.frames.length b.cF,.slice b.aL k.slots.length b.cL,.slice b.aP k.aj.length b.cP,I k.hand] 27
  rw[World.size_alloc] at this
  exact this
 have Te:Hid (∀V,Two w #[.slice a.aS k.ak.length a.cS,.slice a.aF k.frames.length a.cF,.slice a.aL k.slots.length a.cL,.slice a.aP k.aj.length a.cP,I k.hand] #[.slice b.aS hs.length b.cS,.slice b.aF k.frames.length b.cF,.slice b.aL k.slots.length b.cL,.slice b.aP k.aj.length b.cP,I k.hand] V->(V.cell? (Ad w.heap.size 0)=some (.slice a.aS k.ak.length a.cS)/\V.cell? (Ad w.heap.size 1)=some (.slice a.aF k.frames.length a.cF)/\V.cell? (Ad w.heap.size 2)=some (.slice a.aL k.slots.length a.cL)/\V.cell? (Ad w.heap.size 3)=some (.slice a.aP k.aj.length a.cP)/\V.cell? (Ad w.heap.size 4)=some (I k.hand))/\(V.cell? (Ad (w.heap.size+1) 0)=some (.slice b.aS hs.length b.cS)/\V.cell? (Ad (w.heap.size+1) 1)=some (.slice b.aF k.frames.length b.cF)/\V.cell? (Ad (w.heap.size+1) 2)=some (.slice b.aL k.slots.length b.cL)/\V.cell? (Ad (w.heap.size+1) 3)=some (.slice b.aP k.aj.length b.cP)/\V.cell? (Ad (w.heap.size+1) 4)=some (I k.hand))):=fun V h=>⟨B.c5 h.x,B.c5 h.y⟩
 have LY:Hid (∀V i,Below w.heap.size w V->i<k.frames.length->∃fb fo gb go,a.aF=some (Ad fb fo)/\b.aF=some (Ad gb go)/\(V.cell? (Ad fb (fo+i*4))=some (.string (KM.aI k.frames i).data)/\V.cell? (Ad fb (fo+i*4+1))=some (I (KM.aI k.frames i).refs)/\V.cell? (Ad fb (fo+i*4+2))=some (.bool (KM.aI k.frames i).b9)/\V.cell? (Ad fb (fo+i*4+3))=some (.bool (KM.aI k.frames i).seen))/\(V.cell? (Ad gb (go+i*4))=some (.string (KM.aI k.frames i).data)/\V.cell? (Ad gb (go+i*4+1))=some (I (KM.aI k.frames i).refs)/\V.cell? (Ad gb (go+i*4+2))=some (.bool (KM.aI k.frames i).b9)/\V.cell? (Ad gb (go+i*4+3))=some (.bool (KM.aI k.frames i).seen))):=fun V i hV hi=>by
  obtain⟨fb,fo,e1,e2,e3⟩:=(hA.frames.below hV) (by omega)
  obtain⟨gb,go,g1,g2,g3⟩:=(hBf.below hV) (by omega)
  have z:=e3 i hi 0 (by omega)
  have y:=g3 i hi 0 (by omega)
  rw[Nat.add_zero] at z y
  exact⟨fb,fo,gb,go,e1,g1,⟨z,e3 i hi 1 (by omega),e3 i hi 2 (by omega),e3 i hi 3 (by omega)⟩,⟨y,g3 i hi 1 (by omega),g3 i hi 2 (by omega),g3 i hi 3 (by omega)⟩⟩
 have BB:Hid (∀V i,Below w.heap.size w V->i<k.slots.length->∃fb fo gb go,a.aL=some (Ad fb fo)/\b.aL=some (Ad gb go)/\(V.cell? (Ad fb (fo+i*2))=some (.string (KM.bG k.slots i).data)/\V.cell? (Ad fb (fo+i*2+1))=some (I (KM.bG k.slots i).refs))/\(V.cell? (Ad gb (go+i*2))=some (.string (KM.bG k.slots i).data)/\V.cell? (Ad gb (go+i*2+1))=some (I (KM.bG k.slots i).refs))):=fun V i hV hi=>by
  obtain⟨fb,fo,e1,e2,e3⟩:=(hA.slots.below hV) (by omega)
  obtain⟨gb,go,g1,g2,g3⟩:=(hBl.below hV) (by omega)
  have z:=e3 i hi 0 (by omega)
  have y:=g3 i hi 0 (by omega)
  rw[Nat.add_zero] at z y
  exact⟨fb,fo,gb,go,e1,g1,⟨z,e3 i hi 1 (by omega)⟩,⟨y,g3 i hi 1 (by omega)⟩⟩
 have Ai:=ai hA.aj
 have VN:=ai hBp
 have LX:=ai hF.sp
 have Oe:k.frames.length<=140737488351232:=hF.nf
 have q9:k.slots.length<=140737488351232:=hF.ns
 have WM:k.aj.length<=140737488351232:=hF.np
 have gp:=ai dK
 have ec:aJ b (KM.bu k hs)=#[.slice b.aS hs.length b.cS,.slice b.aF k.frames.length b.cF,.slice b.aL k.slots.length b.cL,.slice b.aP k.aj.length b.cP,I k.hand]:=rfl
 rw[ec]
 unfold aJ
 obtain⟨X,hX⟩:∃X:Array Value,X=#[.slice a.aS k.ak.length a.cS,.slice a.aF k.frames.length a.cF,.slice a.aL k.slots.length a.cL,.slice a.aP k.aj.length a.cP,I k.hand]:=⟨_,rfl⟩
 obtain⟨Y,hY⟩:∃Y:Array Value,Y=#[.slice b.aS hs.length b.cS,.slice b.aF k.frames.length b.cF,.slice b.aL k.slots.length b.cL,.slice b.aP k.aj.length b.cP,I k.hand]:=⟨_,rfl⟩
 rw[<- hX,<- hY] at Zr Te
 clear hA hB hS hF hBs hBf hBl hBp dK ec hX hY
 obtain⟨⟨x0,x1,x2,x3,x4⟩,y0,y1,y2,y3,y4⟩:=Te.o WA Zr.o
 go_enter Tryz.func20,Tryz.ntmps20
 go_upto_region 1 with fail
 rw[<- gp.o]
 go_upto_region 3 with(go_at_call 57;refine(LQ.o _ Zr.o.zq).mono ?_;rintro e w1 ⟨rfl,hb1⟩;have SM:=ai (Zr.o.below hb1);obtain⟨⟨x0,x1,x2,x3,x4⟩,y0,y1,y2,y3,y4⟩:=Te.o w1 SM.o;clear hb1)
 clear x0 x1 x2 x3 x4 y0 y1 y2 y3 y4 Zr LQ
 go_wp2
 go_loopw [5] (fun iv wq=>∃i:Nat,i<=k.frames.length/\iv=I (i:Int)/\Two w X Y wq) (fun iv _=>k.frames.length-(intOf iv).toNat)
 case atStart=>exact⟨0,by omega,rfl,SM.o⟩
 case round =>
  obtain⟨i,hi,rfl,ht⟩:=hrel
  have HT:=ai ht
  obtain⟨⟨x0,x1,x2,x3,x4⟩,y0,y1,y2,y3,y4⟩:=Te.o wr ht
  by_cases hlt:i<k.frames.length
  · have G9:(i:Int)<(k.frames.length:Int):=by omega
    obtain⟨fb,fo,gb,go,e1,e2,⟨z0,z1,z2,z3⟩,⟨v0,v1,v2,v3⟩⟩:=LY.o wr i ht.zq hlt
    rw[e1] at x1
    rw[e2] at y1
    obtain⟨f,hf⟩:=ex (KM.aI k.frames i)
    rw[<- hf] at z0 z1 z2 z3 v0 v1 v2 v3
    obtain⟨d,r,p,q⟩:=f
    simp only at z0 z1 z2 z3 v0 v1 v2 v3
    have hEQ:=ac0 d r p q
    have HTD:=ai (fun n=>ht.below (Go.below_drewN (Below.refl wr.heap.size wr) n))
    clear ht hf e1 e2 LY BB Ai VN LX SM
    go_wp2
    go_quiet (fail)
    go_wp2
    go_roundw
    case rel=>exact⟨i+1,by omega,by go_num,HTD.o _⟩
    case measure=>simp[intOf];omega
  · obtain rfl:k.frames.length=i:=by omega
    clear LY ht hlt
    go_wp2
    go_loopw [6] (fun iv wq=>∃i:Nat,i<=k.slots.length/\iv=I (i:Int)/\Two w X Y wq) (fun iv _=>k.slots.length-(intOf iv).toNat)
    case atStart=>exact⟨0,by omega,rfl,HT.o⟩
    case round =>
     obtain⟨i,hi,rfl,ht⟩:=hrel
     have HT2:=ai ht
     obtain⟨⟨x0,x1,x2,x3,x4⟩,y0,y1,y2,y3,y4⟩:=Te.o wr ht
     by_cases hlt:i<k.slots.length
     · have G9:(i:Int)<(k.slots.length:Int):=by omega
       obtain⟨fb,fo,gb,go,e1,e2,⟨z0,z1⟩,⟨v0,v1⟩⟩:=BB.o wr i ht.zq hlt
       rw[e1] at x2
       rw[e2] at y2
       obtain⟨f,hf⟩:=ex (KM.bG k.slots i)
       rw[<- hf] at z0 z1 v0 v1
       obtain⟨d,r⟩:=f
       simp only at z0 z1 v0 v1
       have hEQ:=acZ d r
       have HTD:=ai (fun n=>ht.below (Go.below_drewN (Below.refl wr.heap.size wr) n))
       clear ht hf e1 e2 BB Ai VN LX
       go_wp2
       go_quiet (fail)
       go_wp2
       go_roundw
       case rel=>exact⟨i+1,by omega,by go_num,HTD.o _⟩
       case measure=>simp[intOf];omega
     · obtain rfl:k.slots.length=i:=by omega
       clear BB ht hlt
       go_wp2
       go_loopw [7] (fun iv wq=>∃i:Nat,i<=k.aj.length/\iv=I (i:Int)/\Two w X Y wq) (fun iv _=>k.aj.length-(intOf iv).toNat)
       case atStart=>exact⟨0,by omega,rfl,HT2.o⟩
       case round =>
        obtain⟨i,hi,rfl,ht⟩:=hrel
        have Qe:=ai ht
        obtain⟨⟨x0,x1,x2,x3,x4⟩,y0,y1,y2,y3,y4⟩:=Te.o wr ht
        by_cases hlt:i<k.aj.length
        · have G9:(i:Int)<(k.aj.length:Int):=by omega
          obtain⟨pb,po,hao,hbl,bM⟩:=(Ai.o.below ht.zq) (by omega)
          obtain⟨qb,qo,hao',aiP,TF⟩:=(VN.o.below ht.zq) (by omega)
          obtain⟨va,ap,cp,e0,e1,e2,e3,e4,e5⟩:=bM i hlt
          obtain⟨vb,aq,cq,g0,g1,g2,g3,g4,g5⟩:=TF i hlt
          have ra:=LX.o i hlt
          obtain⟨s,Yc⟩:=ex (KM.au k.aj i)
          rw[<- Yc] at e0 e2 e3 e4 e5 g0 g2 g3 g4 g5 ra
          obtain⟨lv,iq,aA⟩:=s
          simp only at e0 e2 e3 e4 e5 g0 g2 g3 g4 g5
          obtain⟨aa,na,ca,rfl⟩:=FW.KN e3
          obtain⟨ab,nb,cb,rfl⟩:=FW.KN g3
          have HE3:=ai e3
          have HE4:=ai e4
          have ZV:=ai g3
          have HG4:=ai g4
          have Ub:=ai ra
          rw[hao] at x3
          rw[hao'] at y3
          have l1:=B.isLt ht.y
          have l0:=B.isLt ht.x
          have l2:¬w.heap.size=wr.heap.size:=by omega
          have l3:¬w.heap.size+1=wr.heap.size:=by omega
          have l4:¬pb=wr.heap.size:=by omega
          have l5:¬qb=wr.heap.size:=by omega
          clear e3 e4 e5 g3 g4 g5 bM TF Yc ra ht Ai VN LX hao hao'
          have q1:Hid (((wr.alloc (.cells #[.bool lv,.slice aa na ca,.slice ap aA.length cp] 43)).alloc (.cells #[.bool lv,.slice ab nb cb,.slice aq aA.length cq] 43)).heap[wr.heap.size]?=some (.cells #[.bool lv,.slice aa na ca,.slice ap aA.length cp] 43 (0,0))):=B.alloc (B.new wr #[.bool lv,.slice aa na ca,.slice ap aA.length cp] 43) _
          have q2:Hid (((wr.alloc (.cells #[.bool lv,.slice aa na ca,.slice ap aA.length cp] 43)).alloc (.cells #[.bool lv,.slice ab nb cb,.slice aq aA.length cq] 43)).heap[wr.heap.size+1]?=some (.cells #[.bool lv,.slice ab nb cb,.slice aq aA.length cq] 43 (0,0))):=by
           have:=B.new (wr.alloc (.cells #[.bool lv,.slice aa na ca,.slice ap aA.length cp] 43)) #[.bool lv,.slice ab nb cb,.slice aq aA.length cq] 43
           rw[World.size_alloc] at this
           exact this
          have q3:Hid (((wr.alloc (.cells #[.bool lv,.slice ab nb cb,.slice aq aA.length cq] 43)).alloc (.cells #[.bool lv,.slice aa na ca,.slice ap aA.length cp] 43)).heap[wr.heap.size]?=some (.cells #[.bool lv,.slice ab nb cb,.slice aq aA.length cq] 43 (0,0))):=B.alloc (B.new wr #[.bool lv,.slice ab nb cb,.slice aq aA.length cq] 43) _
          have q4:Hid (((wr.alloc (.cells #[.bool lv,.slice ab nb cb,.slice aq aA.length cq] 43)).alloc (.cells #[.bool lv,.slice aa na ca,.slice ap aA.length cp] 43)).heap[wr.heap.size+1]?=some (.cells #[.bool lv,.slice aa na ca,.slice ap aA.length cp] 43 (0,0))):=by
           have:=B.new (wr.alloc (.cells #[.bool lv,.slice ab nb cb,.slice aq aA.length cq] 43)) #[.bool lv,.slice aa na ca,.slice ap aA.length cp] 43
           rw[World.size_alloc] at this
           exact this
          have q5:Hid (Below wr.heap.size wr ((wr.alloc (.cells #[.bool lv,.slice aa na ca,.slice ap aA.length cp] 43)).alloc (.cells #[.bool lv,.slice ab nb cb,.slice aq aA.length cq] 43)).drew):=(((Below.refl wr.heap.size wr).alloc (Nat.le_refl _) (.cells #[.bool lv,.slice aa na ca,.slice ap aA.length cp] 43)).alloc (by simp) (.cells #[.bool lv,.slice ab nb cb,.slice aq aA.length cq] 43)).drew
          have q6:Hid (Below wr.heap.size wr ((wr.alloc (.cells #[.bool lv,.slice ab nb cb,.slice aq aA.length cq] 43)).alloc (.cells #[.bool lv,.slice aa na ca,.slice ap aA.length cp] 43)).drew):=(((Below.refl wr.heap.size wr).alloc (Nat.le_refl _) (.cells #[.bool lv,.slice ab nb cb,.slice aq aA.length cq] 43)).alloc (by simp) (.cells #[.bool lv,.slice aa na ca,.slice ap aA.length cp] 43)).drew
          go_upto_region 16 with fail
          go_cut [8,9] (fun x6 x7 wx=>∃g h:Nat,x6=.pointer (some (Ad g 0))/\x7=.pointer (some (Ad h 0))/\wx.heap[g]?=some (.cells #[.bool lv,.slice aa na ca,.slice ap aA.length cp] 43 (0,0))/\wx.heap[h]?=some (.cells #[.bool lv,.slice ab nb cb,.slice aq aA.length cq] 43 (0,0))/\Below wr.heap.size wr wx)
          case first =>
           go_region
           all_goals
            go_wp2_with fail
            go_meet
            case rel=>first | exact⟨_,_,rfl,rfl,q1.out,q2.out,q5.out⟩ | exact⟨_,_,rfl,rfl,q4.out,q3.out,q6.out⟩
          case rest =>
           obtain⟨g,h,rfl,rfl,hg,hh,hbc⟩:=hcut
           obtain⟨WR,Vk⟩:=ex wr
           subst Vk
           have HSA:Hid (∀V,Below WR.heap.size WR V->Calls Tryz.prog 58 #[.slice aa na ca,.slice ab nb cb] V fun e w'=>e=.returned (.bool true)/\Below V.heap.size V w'):=fun V hV=>(AW.DL iq iq _ _ V (HE3.o.below hV) (ZV.o.below hV) Ub.o.aD.2 Ub.o.aD.2).mono fun e w' ⟨r,h1,h2,h3⟩=>by
            obtain rfl:r=true:=h2.2 rfl
            exact⟨h1,h3⟩
           have Rh:aA.length<=140737488351232:=Ub.o.aA
           have Ds:=ai hbc
           have HGC:=ai hg
           have HHC:=ai hh
           obtain⟨f0,f1,f2⟩:=B.c3 hg
           obtain⟨f3,f4,f5⟩:=B.c3 hh
           clear hg hh hbc q1 q2 q3 q4 q5 q6 e0 e1 e2 g0 g1 g2 l1 l0 l2 l3 l4 l5 x0 x1 x2 x3 x4 y0 y1 y2 y3 y4
           go_wp2_with (go_at_call 58;refine(HSA.o _ Ds.o).mono ?_;rintro e w3 ⟨rfl,hb3⟩;have cZ:=ai (Ds.o.trans (hb3.mono Ds.o.size));have Wu:=ai (B.below HGC.o hb3 (B.isLt HGC.o));have Ws:=ai (B.below HHC.o hb3 (B.isLt HHC.o));clear hb3;have f6:w3.cell? (Ad g 2)=some (.slice ap aA.length cp):=B.cell Wu.o 2 rfl;have f7:w3.cell? (Ad h 2)=some (.slice aq aA.length cq):=B.cell Ws.o 2 rfl)
           clear f0 f1 f2 f3 f4 f5
           go_loopw [10] (fun iv wi=>∃m:Nat,m<=aA.length/\iv=I (m:Int)/\wi.heap[g]?=some (.cells #[.bool lv,.slice aa na ca,.slice ap aA.length cp] 43 (0,0))/\wi.heap[h]?=some (.cells #[.bool lv,.slice ab nb cb,.slice aq aA.length cq] 43 (0,0))/\Below WR.heap.size WR wi) (fun iv _=>aA.length-(intOf iv).toNat)
           case atStart=>exact⟨0,by omega,rfl,Wu.o,Ws.o,cZ.o⟩
           case round =>
            obtain⟨m,hm,rfl,hg,hh,WW⟩:=hrel
            have HGi:=ai hg
            have HHi:=ai hh
            have Fs:=ai WW
            have f2:wr.cell? (Ad g 2)=some (.slice ap aA.length cp):=B.cell hg 2 rfl
            have f5:wr.cell? (Ad h 2)=some (.slice aq aA.length cq):=B.cell hh 2 rfl
            clear hg hh HSA Wu Ws cZ f6 f7
            by_cases Re:m<aA.length
            · obtain⟨bp,UE,hap,aiO,Rf⟩:=(HE4.o.below WW) (show 0<aA.length by omega)
              obtain⟨bq,UD,haq,aiN,K8⟩:=(HG4.o.below WW) (show 0<aA.length by omega)
              rw[hap] at f2
              rw[haq] at f5
              have z0:=Rf m Re 0 (by omega)
              have z1:=Rf m Re 1 (by omega)
              have z2:=Rf m Re 2 (by omega)
              have v0:=K8 m Re 0 (by omega)
              have v1:=K8 m Re 1 (by omega)
              have v2:=K8 m Re 2 (by omega)
              rw[Nat.add_zero] at z0 v0
              obtain⟨z,hz⟩:=ex (aA.getD m KM.jI)
              rw[<- hz] at z0 z1 z2 v0 v1 v2
              obtain⟨p,q,r⟩:=z
              replace z0:wr.cell? (Ad bp (UE+m*3))=some (I p):=z0
              replace z1:wr.cell? (Ad bp (UE+m*3+1))=some (I q):=z1
              replace z2:wr.cell? (Ad bp (UE+m*3+2))=some (I r):=z2
              replace v0:wr.cell? (Ad bq (UD+m*3))=some (I p):=v0
              replace v1:wr.cell? (Ad bq (UD+m*3+1))=some (I q):=v1
              replace v2:wr.cell? (Ad bq (UD+m*3+2))=some (I r):=v2
              have hEQ:=ac1 p q r
              have WN:(m:Int)<(aA.length:Int):=by omega
              have HGD:=ai (fun n=>B.below HGi.o (Go.below_drewN (Below.refl wr.heap.size wr) n) (B.isLt HGi.o))
              have Ql:=ai (fun n=>B.below HHi.o (Go.below_drewN (Below.refl wr.heap.size wr) n) (B.isLt HHi.o))
              have xw:=ai (fun n=>Go.below_drewN Fs.o n)
              clear hz Rf K8 WW hap haq HGi HHi Fs
              go_wp2
              go_quiet (fail)
              go_wp2
              go_roundw
              case rel=>exact⟨m+1,by omega,by go_num,HGD.o _,Ql.o _,xw.o _⟩
              case measure=>simp[intOf];omega
            · obtain rfl:aA.length=m:=by omega
              have pA:=ai (Qe.o.below WW)
              clear WW Re
              go_wp2
              go_roundw
              case rel=>exact⟨i+1,by omega,by go_num,pA.o⟩
              case measure=>simp[intOf];omega
        · obtain rfl:k.aj.length=i:=by omega
          have Qr:=ai ht.zq
          clear ht
          go_wp2
          go_ret
          exact⟨rfl,Qr.o⟩
end KR
namespace KG
open Go.RowKit GK KO
open KW (fu cI aJ eW lI)
theorem Aw {s:LM.Sh} (h:LM.bN s=true):LM.De s:=by
 unfold LM.bN LM.jE at h
 rw[Bool.and_eq_true,decide_eq_true_eq] at h
 obtain⟨⟨h1,h2,h3⟩,hf⟩:=h
 have hl:=LM.jg _ _ hf
 refine⟨⟨by omega,by omega⟩,by unfold M.bf;omega,by unfold M.bf;omega,fun k hk=>?_⟩
 have all:∀n,LM.b7 s.bh n=true->∀i,i<n->LM.b7 s.bh i=true/\LM.CR (LM.lD s.bh i) (LM.lQ s.bh i)=true:=fun n=>by
  induction n with
  | zero=>intro _ i hi;omega
  | succ n ih =>
   intro hn i hi
   simp only[LM.b7,Bool.and_eq_true] at hn
   by_cases c:i=n
   · rw[c];exact hn
   · exact ih hn.1 i (by omega)
 obtain⟨g1,g2⟩:=all _ hf k hk
 have g3:=LM.jg _ _ g1
 unfold LM.CR at g2
 rw[decide_eq_true_eq] at g2
 exact⟨⟨by omega,by omega⟩,by unfold M.bf;omega⟩
theorem xE {hs:List LM.Sh} (h:LM.cV hs=true) (hl:hs.length<=255):LM.lJ hs:=⟨by unfold M.bf;omega,fun k hk=>Aw (LM.jz hs hs.length h k hk).1⟩
theorem qC {k:KM.Kn} (h:KM.aU k):eW k:=by
 have hc:=h.c
 obtain⟨r1,r2⟩:=KX.nR h
 have hh:=h.hand
 refine⟨xE h.eN (by omega),by unfold M.bf;omega,fun i hi=>⟨?_,?_⟩,by unfold M.bf;omega,fun i hi=>⟨?_,?_⟩,by unfold M.bf;omega,fun i hi=>⟨?_,?_,fun n hn=>?_⟩,⟨by omega,by omega⟩⟩
 · have f:=h.nz i hi
   unfold M.bf
   by_cases c:KM.names k.aj 1 i=[]
   · rw[f.zero c];exact Nat.zero_le _
   · rw[f.size c];decide
 · have:=r1 i hi
   exact⟨by omega,by omega⟩
 · have f:=h.slt i hi
   unfold M.bf
   by_cases c:KM.names k.aj 2 i=[]
   · rw[f.zero c];exact Nat.zero_le _
   · rw[f.size c];decide
 · have:=r2 i hi
   exact⟨by omega,by omega⟩
 · exact AM.fX _ (h.sp hi).aD
 · have:=KX.je h hi
   unfold M.bf;omega
 · have s:=h.sp hi
   have he:KM.aN (KM.au k.aj i).aA n∈(KM.au k.aj i).aA:=KM.dX hn
   obtain⟨e1,e2⟩:=s.vW _ he
   have e3:=FM.ky s.aD e1
   rcases e2 with⟨e4,e5,e6⟩ | ⟨e4,e5,e6⟩
   · exact⟨⟨by omega,by omega⟩,by rw[e4];exact⟨by decide,by decide⟩,⟨by omega,by omega⟩⟩
   · exact⟨⟨by omega,by omega⟩,by rw[e4];exact⟨by decide,by decide⟩,⟨by omega,by omega⟩⟩
theorem yi {lo:Nat} {w:World} {S:St} {k:KM.Kn} (h:Kr lo w S k):∃a,#[S.vS,S.vF,S.vL,S.vP,I k.hand]=aJ a k/\∀U,Kp (fun b=>b<lo) w U->cI U a k:=by
 obtain⟨a,p,_⟩:=h.has
 refine⟨a,by unfold aJ;rw[p.eS,p.eF,p.eL,p.eP],fun U hU=>?_⟩
 obtain⟨a',p',ha⟩:=(h.kp hU (fun b hb e=>by have:=(h.kP b hb).1;omega)).has
 have e1:=p.eS.symm.trans p'.eS
 have e2:=p.eF.symm.trans p'.eF
 have e3:=p.eL.symm.trans p'.eL
 have e4:=p.eP.symm.trans p'.eP
 injection e1 with q1 _ q2
 injection e2 with q3 _ q4
 injection e3 with q5 _ q6
 injection e4 with q7 _ q8
 have:a'=a:=by
  cases a
  cases a'
  simp only at q1 q2 q3 q4 q5 q6 q7 q8
  subst q1 q2 q3 q4 q5 q6 q7 q8
  rfl
 rw[<- this]
 exact ha
def adb (w:World) (k:KM.Kn) (vs:List Value) (e:Ending) (w':World):Prop:=∃hs a,KM.Same k.ak hs/\e=.returned (.tuple (Value.agg (aJ a (KM.bu k hs))::vs).toArray)/\(∀U,Kp (fun b=>b<w.heap.size) w' U->cI U a (KM.bu k hs))/\Below w.heap.size w w'
theorem Ng {w:World} {k:KM.Kn} {vs:List Value} {e:Ending} {w':World} (h:KZ.dJ w k vs e w'):adb w k vs e w':=by
 obtain⟨S,hs,h1,h2,h3,h4⟩:=h
 obtain⟨a,e1,e2⟩:=yi h3
 exact⟨hs,a,h1,by rw[h2,<- e1];rfl,e2,h4⟩
end KG
end Go.Proofs.YtpgifpeohlllfaaGreat
