import Derived.Test.YtpgifpeohlllfaaGreatGT31
import Derived.StillTailTactics
set_option maxHeartbeats 20000000
set_option linter.unusedVariables false
set_option maxRecDepth 100000
set_option linter.unusedSimpArgs false
namespace Go.Proofs.YtpgifpeohlllfaaGreat
namespace KR
open Go.RowKit GK KO
open FW (ai aD)
open KW (fh cK aI eB)
open KY (vh)
open KZ (He Hd zf zl mkF mkL Dd uO n1 n2 lI gK)
end KR
namespace LW
open Go.RowKit
open W (ai)
structure Oi (l:List LM.Ob) (ao:Option Addr) (w:World):Prop where
 has:LM.QD w ao l
 few:l.length<=1000
 chk:∀k,k<l.length->M.kq (LM.eu l k).i=0
 fit:∀k,k<l.length->M.Fit (LM.eu l k).i
 base:∀k,k<l.length->1<=(LM.eu l k).base/\(LM.eu l k).base<=2000
theorem Oi.below {l:List LM.Ob} {ao:Option Addr} {w w':World} (h:Oi l ao w) (hb:Below w.heap.size w w'):Oi l ao w':=⟨h.has.below hb,h.few,h.chk,h.fit,h.base⟩
structure Vz (xs ys:List LM.Sh):Prop where
 len:xs.length=ys.length
 page:∀k,k<xs.length->(LM.aY ys k).page=(LM.aY xs k).page
 data:∀k,k<xs.length->(LM.aY ys k).data=(LM.aY xs k).data
 bg:∀k,k<xs.length->(LM.aY ys k).bg=(LM.aY xs k).bg
theorem yj (xs ys:List LM.Sh) (ax ay:Option Addr) (cx cy:Nat) (w:World) (hx:LM.jb w ax xs) (hy:LM.jb w ay ys) (hs:Vz xs ys) (hn:M.bD xs.length) (hfn:∀k,k<xs.length->M.bD (LM.aY xs k).bg.length) :
  Calls Tryz.prog 57 #[.slice ax xs.length cx,.slice ay ys.length cy] w fun e w'=>e=.returned (.bool true)/\Below w.heap.size w w':=by
 have HX:=ai hx;have HYY:=ai hy;have HS:=ai hs;have FY:=ai hfn;rw[<- hs.len];unfold M.bD at hn;clear hx hy hs hfn;go_enter Tryz.func57,Tryz.ntmps57;go_wp2;go_loopw [5] (fun i wr=>∃k:Nat,k<=xs.length/\i=I k/\Below w.heap.size w wr) (fun i _=>xs.length-(intOf i).toNat)
 case atStart=>exact⟨0,by omega,rfl,Below.refl _ _⟩
 case round =>
  obtain⟨i,hi,rfl,hb⟩:=hrel;have iY:=ai hb;by_cases hlt:i<xs.length
  · obtain⟨bx,ox,hax,Ai,hlx⟩:=HX.o (by omega);obtain⟨bx2,oy,hay,hby,Ww⟩:=HYY.o (by rw[<- HS.o.len];omega);subst hax hay;have HF:Hid (∀V,Below w.heap.size w V->(V.cell? (Ad bx (ox+i*3))=some (I (LM.aY xs i).page)/\V.cell? (Ad bx (ox+i*3+1))=some (.string (LM.aY xs i).data)/\V.cell? (Ad bx (ox+i*3+2))=some (.slice (LM.aY xs i).ao (LM.aY xs i).bg.length (LM.aY xs i).cap)/\LM.oc V (LM.aY xs i).ao (LM.aY xs i).bg)/\(V.cell? (Ad bx2 (oy+i*3))=some (I (LM.aY xs i).page)/\V.cell? (Ad bx2 (oy+i*3+1))=some (.string (LM.aY xs i).data)/\V.cell? (Ad bx2 (oy+i*3+2))=some (.slice (LM.aY ys i).ao (LM.aY xs i).bg.length (LM.aY ys i).cap)/\LM.oc V (LM.aY ys i).ao (LM.aY xs i).bg)):=fun V hV=>by
     obtain⟨a0,a1,a2,a3⟩:=LM.Td hV Ai hlx i hlt;obtain⟨b0,b1,b2,b3⟩:=LM.Td hV hby Ww i (by rw[<- HS.o.len];exact hlt);rw[HS.o.page i hlt] at b0;rw[HS.o.data i hlt] at b1;rw[HS.o.bg i hlt] at b2 b3;exact⟨⟨a0,a1,a2,a3⟩,b0,b1,b2,b3⟩
    have hfi:=FY.o i hlt;obtain⟨⟨pg,dt,fs,af,cf⟩,Yq⟩:∃s,s=LM.aY xs i:=⟨_,rfl⟩;obtain⟨ag,hag⟩:∃a,a=(LM.aY ys i).ao:=⟨_,rfl⟩;obtain⟨cg,hcg⟩:∃a,a=(LM.aY ys i).cap:=⟨_,rfl⟩;rw[<- Yq,<- hag,<- hcg] at HF;rw[<- Yq] at hfi;simp only at HF hfi;unfold M.bD at hfi;clear Yq hag hcg hlx Ww;obtain⟨⟨a0,a1,a2,-⟩,b0,b1,b2,-⟩:=HF.o _ hb;have hi1:(i:Int)<(xs.length:Int):=by omega
    have hi0:(0:Int)<=(i:Int):=by omega
    clear hb;go_wp2
    go_quiet (fail)
    go_wp2;go_loopw [6] (fun i2 wr=>∃k:Nat,k<=fs.length/\i2=I k/\Below w.heap.size w wr) (fun i2 _=>fs.length-(intOf i2).toNat)
    case atStart=>exact⟨0,by omega,rfl,Go.below_drewN iY.o _⟩
    case round =>
     obtain⟨k,hk,rfl,hb⟩:=hrel;have HBk:=ai hb;obtain⟨⟨d0,d1,d2,d3⟩,e0,e1,e2,e3⟩:=HF.o _ hb;clear hb a0 a1 a2 b0 b1 b2;by_cases hlk:k<fs.length
     · obtain⟨fb,fo,haf,sJ,hlf⟩:=d3 (by omega);obtain⟨gb,go,hag,hgb,L1⟩:=e3 (by omega);subst haf hag;obtain⟨f0,f1⟩:=hlf k hlk;obtain⟨g0,g1⟩:=L1 k hlk;obtain⟨⟨fo1,fb1⟩,H7⟩:∃f,f=LM.mi fs k:=⟨_,rfl⟩;rw[<- H7] at f0 f1 g0 g1;simp only at f0 f1 g0 g1;clear H7 hlf L1 d3 e3;have hk1:(k:Int)<(fs.length:Int):=by omega
       have L3:(0:Int)<=(k:Int):=by omega
       go_wp2
       go_quiet (fail)
       go_wp2;go_roundw
       case rel=>exact⟨k+1,by omega,by go_num,Go.below_drewN HBk.o _⟩
       case measure=>simp[intOf];omega
     · obtain rfl:k=fs.length:=by omega
       clear d3 e3;go_wp2;go_roundw
       case rel=>exact⟨i+1,by omega,by go_num,HBk.o⟩
       case measure=>simp[intOf];omega
  · obtain rfl:i=xs.length:=by omega
    go_wp2;go_ret;exact⟨rfl,iY.o⟩
end LW
namespace FW
open Go.RowKit
structure al9 (s:FM.Sp):Prop where
 aB:AW.ft s.aB
 aJ:M.bD s.aJ.length
 page:∀k,k<s.aJ.length->M.gu (FM.Y3 s.aJ k).page/\M.bD (FM.Y3 s.aJ k).data.size
theorem OU {w:World} {v:Value} {l:List AM.Ar} (h:AW.Has w v l):∃ao n c,v=.slice ao n c:=by
 obtain⟨ao,cap,h,_⟩:=h;exact⟨ao,_,cap,h⟩
end FW
namespace KR
open Go.RowKit GK
open FW (ai aD)
open KW (aZ fh cK aI eB l8 kj aK bJ bI)
theorem aeK (d:ByteArray) (r:Int) (x y:Bool) (V:World):(Op.equalIn 10000 40 (.agg #[.string d,I r,.bool x,.bool y]) (.agg #[.string d,I r,.bool x,.bool y])).run Tryz.prog V=.ok true V:=by
 simp[go_sem]
theorem aeJ (d:ByteArray) (r:Int) (V:World):(Op.equalIn 10000 86 (.agg #[.string d,I r]) (.agg #[.string d,I r])).run Tryz.prog V=.ok true V:=by
 simp[go_sem]
theorem aeL (p q r:Int) (V:World):(Op.equalIn 10000 45 (.agg #[I p,I q,I r]) (.agg #[I p,I q,I r])).run Tryz.prog V=.ok true V:=by
 simp[go_sem]
theorem VY {xs ys:List LM.Sh} (h:KM.Same xs ys):LW.Vz xs ys:=by
 refine⟨h.len.symm,fun k hk=>?_,fun k hk=>?_,fun k hk=>?_⟩
 · exact(KM.lK (h.at k)).1
 · exact(KM.lK (h.at k)).2.1
 · exact(KM.lK (h.at k)).2.2
structure Two (w:World) (c d:Array Value) (V:World):Prop where
 x:V.heap[w.heap.size]?=some (.cells c 27 (0,0))
 y:V.heap[w.heap.size+1]?=some (.cells d 27 (0,0))
 Ak:Below w.heap.size w V
theorem Two.below {w V U:World} {c d:Array Value} (h:Two w c d V) (hb:Below V.heap.size V U):Two w c d U:=⟨B.below h.x hb (B.isLt h.x),B.below h.y hb (B.isLt h.y),h.Ak.trans (hb.mono h.Ak.size)⟩
theorem xg (k:KM.Kn) (hs:List LM.Sh) (a b:fh) (w:World) (hA:cK w a k) (hB:cK w b (KM.aT k hs)) (hS:KM.Same k.ak hs) (hF:eB k) :
  Calls Tryz.prog 20 #[.agg (aI a k),.agg (aI b (KM.aT k hs))] w fun e w'=>e=.returned (.bool true)/\Below w.heap.size w w':=by
 have hBs:LM.jb w b.aS hs:=hB.ak;have hBf:aZ bJ 4 KM.mz w b.aF k.frames:=hB.frames;have hBl:aZ bI 2 KM.xe w b.aL k.slots:=hB.slots;have hBp:kj w b.aP k.aj:=hB.aj;have MC:Hid (∀V,Below w.heap.size w V->Calls Tryz.prog 57 #[.slice a.aS k.ak.length a.cS,.slice b.aS hs.length b.cS] V fun e w'=>e=.returned (.bool true)/\Below V.heap.size V w'):=fun V hV=>LW.yj k.ak hs a.aS b.aS a.cS b.cS V (hA.ak.below hV) (hBs.below hV) (VY hS) hF.ak.1 (fun i hi=>(hF.ak.2 i hi).bg)
 obtain⟨WA,di⟩:=ex ((w.alloc (.cells #[.slice a.aS k.ak.length a.cS,.slice a.aF k.frames.length a.cF,.slice a.aL k.slots.length a.cL,.slice a.aP k.aj.length a.cP,I k.hand] 27)).alloc (.cells #[.slice b.aS hs.length b.cS,.slice b.aF k.frames.length b.cF,.slice b.aL k.slots.length b.cL,.slice b.aP k.aj.length b.cP,I k.hand] 27));have HT0:Hid (Two w #[.slice a.aS k.ak.length a.cS,.slice a.aF k.frames.length a.cF,.slice a.aL k.slots.length a.cL,.slice a.aP k.aj.length a.cP,I k.hand] #[.slice b.aS hs.length b.cS,.slice b.aF k.frames.length b.cF,.slice b.aL k.slots.length b.cL,.slice b.aP k.aj.length b.cP,I k.hand] WA):=by
  rw[di];refine⟨B.alloc (B.new w _ _) _,?_,((Below.refl _ _).alloc (Nat.le_refl _) _).alloc (by simp) _⟩;have:=B.new (w.alloc (.cells #[.slice a.aS k.ak.length a.cS,.slice a.aF k.frames.length a.cF,.slice a.aL k.slots.length a.cL,.slice a.aP k.aj.length a.cP,I k.hand] 27)) #[.slice b.aS hs.length b.cS,.slice b.aF k.frames.length b.cF,.slice b.aL k.slots.length b.cL,.slice b.aP k.aj.length b.cP,I k.hand] 27;rw[World.size_alloc] at this;exact this
 have UO:Hid (∀V,Two w #[.slice a.aS k.ak.length a.cS,.slice a.aF k.frames.length a.cF,.slice a.aL k.slots.length a.cL,.slice a.aP k.aj.length a.cP,I k.hand] #[.slice b.aS hs.length b.cS,.slice b.aF k.frames.length b.cF,.slice b.aL k.slots.length b.cL,.slice b.aP k.aj.length b.cP,I k.hand] V->(V.cell? (Ad w.heap.size 0)=some (.slice a.aS k.ak.length a.cS)/\V.cell? (Ad w.heap.size 1)=some (.slice a.aF k.frames.length a.cF)/\V.cell? (Ad w.heap.size 2)=some (.slice a.aL k.slots.length a.cL)/\V.cell? (Ad w.heap.size 3)=some (.slice a.aP k.aj.length a.cP)/\V.cell? (Ad w.heap.size 4)=some (I k.hand))/\(V.cell? (Ad (w.heap.size+1) 0)=some (.slice b.aS hs.length b.cS)/\V.cell? (Ad (w.heap.size+1) 1)=some (.slice b.aF k.frames.length b.cF)/\V.cell? (Ad (w.heap.size+1) 2)=some (.slice b.aL k.slots.length b.cL)/\V.cell? (Ad (w.heap.size+1) 3)=some (.slice b.aP k.aj.length b.cP)/\V.cell? (Ad (w.heap.size+1) 4)=some (I k.hand))):=fun V h=>⟨B.c5 h.x,B.c5 h.y⟩
 have MJ:Hid (∀V i,Below w.heap.size w V->i<k.frames.length->∃fb fo gb go,a.aF=some (Ad fb fo)/\b.aF=some (Ad gb go)/\(V.cell? (Ad fb (fo+i*4))=some (.string (KM.aH k.frames i).data)/\V.cell? (Ad fb (fo+i*4+1))=some (I (KM.aH k.frames i).refs)/\V.cell? (Ad fb (fo+i*4+2))=some (.bool (KM.aH k.frames i).cj)/\V.cell? (Ad fb (fo+i*4+3))=some (.bool (KM.aH k.frames i).seen))/\(V.cell? (Ad gb (go+i*4))=some (.string (KM.aH k.frames i).data)/\V.cell? (Ad gb (go+i*4+1))=some (I (KM.aH k.frames i).refs)/\V.cell? (Ad gb (go+i*4+2))=some (.bool (KM.aH k.frames i).cj)/\V.cell? (Ad gb (go+i*4+3))=some (.bool (KM.aH k.frames i).seen))):=fun V i hV hi=>by
  obtain⟨fb,fo,e1,e2,e3⟩:=(hA.frames.below hV) (by omega);obtain⟨gb,go,g1,g2,g3⟩:=(hBf.below hV) (by omega);have z:=e3 i hi 0 (by omega);have y:=g3 i hi 0 (by omega);rw[Nat.add_zero] at z y;exact⟨fb,fo,gb,go,e1,g1,⟨z,e3 i hi 1 (by omega),e3 i hi 2 (by omega),e3 i hi 3 (by omega)⟩,⟨y,g3 i hi 1 (by omega),g3 i hi 2 (by omega),g3 i hi 3 (by omega)⟩⟩
 have Cu:Hid (∀V i,Below w.heap.size w V->i<k.slots.length->∃fb fo gb go,a.aL=some (Ad fb fo)/\b.aL=some (Ad gb go)/\(V.cell? (Ad fb (fo+i*2))=some (.string (KM.bj k.slots i).data)/\V.cell? (Ad fb (fo+i*2+1))=some (I (KM.bj k.slots i).refs))/\(V.cell? (Ad gb (go+i*2))=some (.string (KM.bj k.slots i).data)/\V.cell? (Ad gb (go+i*2+1))=some (I (KM.bj k.slots i).refs))):=fun V i hV hi=>by
  obtain⟨fb,fo,e1,e2,e3⟩:=(hA.slots.below hV) (by omega);obtain⟨gb,go,g1,g2,g3⟩:=(hBl.below hV) (by omega);have z:=e3 i hi 0 (by omega);have y:=g3 i hi 0 (by omega);rw[Nat.add_zero] at z y;exact⟨fb,fo,gb,go,e1,g1,⟨z,e3 i hi 1 (by omega)⟩,⟨y,g3 i hi 1 (by omega)⟩⟩
 have wW:=ai hA.aj;have Xt:=ai hBp;have MI:=ai hF.sp;have Pj:k.frames.length<=140737488351232:=hF.nf;have rI:k.slots.length<=140737488351232:=hF.ns;have Yu:k.aj.length<=140737488351232:=hF.np;have eZ:=ai di;have ec:aI b (KM.aT k hs)=#[.slice b.aS hs.length b.cS,.slice b.aF k.frames.length b.cF,.slice b.aL k.slots.length b.cL,.slice b.aP k.aj.length b.cP,I k.hand]:=rfl;rw[ec];unfold aI;obtain⟨X,hX⟩:∃X:Array Value,X=#[.slice a.aS k.ak.length a.cS,.slice a.aF k.frames.length a.cF,.slice a.aL k.slots.length a.cL,.slice a.aP k.aj.length a.cP,I k.hand]:=⟨_,rfl⟩;obtain⟨Y,hY⟩:∃Y:Array Value,Y=#[.slice b.aS hs.length b.cS,.slice b.aF k.frames.length b.cF,.slice b.aL k.slots.length b.cL,.slice b.aP k.aj.length b.cP,I k.hand]:=⟨_,rfl⟩;rw[<- hX,<- hY] at HT0 UO;clear hA hB hS hF hBs hBf hBl hBp di ec hX hY;obtain⟨⟨x0,x1,x2,x3,x4⟩,y0,y1,y2,y3,y4⟩:=UO.o WA HT0.o;go_enter Tryz.func20,Tryz.ntmps20;go_upto_region 1 with fail;rw[<- eZ.o];go_upto_region 3 with(go_at_call 57;refine(MC.o _ HT0.o.Ak).mono ?_;rintro e w1 ⟨rfl,hb1⟩;have M7:=ai (HT0.o.below hb1);obtain⟨⟨x0,x1,x2,x3,x4⟩,y0,y1,y2,y3,y4⟩:=UO.o w1 M7.o;clear hb1)
 clear x0 x1 x2 x3 x4 y0 y1 y2 y3 y4 HT0 MC;go_wp2;go_loopw [5] (fun iv wq=>∃i:Nat,i<=k.frames.length/\iv=I (i:Int)/\Two w X Y wq) (fun iv _=>k.frames.length-(intOf iv).toNat)
 case atStart=>exact⟨0,by omega,rfl,M7.o⟩
 case round =>
  obtain⟨i,hi,rfl,ht⟩:=hrel;have HT:=ai ht;obtain⟨⟨x0,x1,x2,x3,x4⟩,y0,y1,y2,y3,y4⟩:=UO.o wr ht;by_cases hlt:i<k.frames.length
  · have H6:(i:Int)<(k.frames.length:Int):=by omega
    obtain⟨fb,fo,gb,go,e1,e2,⟨z0,z1,z2,z3⟩,⟨v0,v1,v2,v3⟩⟩:=MJ.o wr i ht.Ak hlt;rw[e1] at x1;rw[e2] at y1;obtain⟨f,hf⟩:=ex (KM.aH k.frames i);rw[<- hf] at z0 z1 z2 z3 v0 v1 v2 v3;obtain⟨d,r,p,q⟩:=f;simp only at z0 z1 z2 z3 v0 v1 v2 v3;have hEQ:=aeK d r p q;have HTD:=ai (fun n=>ht.below (Go.below_drewN (Below.refl wr.heap.size wr) n));clear ht hf e1 e2 MJ Cu wW Xt MI M7;go_wp2
    go_quiet (fail)
    go_wp2;go_roundw
    case rel=>exact⟨i+1,by omega,by go_num,HTD.o _⟩
    case measure=>simp[intOf];omega
  · obtain rfl:k.frames.length=i:=by omega
    clear MJ ht hlt;go_wp2;go_loopw [6] (fun iv wq=>∃i:Nat,i<=k.slots.length/\iv=I (i:Int)/\Two w X Y wq) (fun iv _=>k.slots.length-(intOf iv).toNat)
    case atStart=>exact⟨0,by omega,rfl,HT.o⟩
    case round =>
     obtain⟨i,hi,rfl,ht⟩:=hrel;have VC:=ai ht;obtain⟨⟨x0,x1,x2,x3,x4⟩,y0,y1,y2,y3,y4⟩:=UO.o wr ht;by_cases hlt:i<k.slots.length
     · have H6:(i:Int)<(k.slots.length:Int):=by omega
       obtain⟨fb,fo,gb,go,e1,e2,⟨z0,z1⟩,⟨v0,v1⟩⟩:=Cu.o wr i ht.Ak hlt;rw[e1] at x2;rw[e2] at y2;obtain⟨f,hf⟩:=ex (KM.bj k.slots i);rw[<- hf] at z0 z1 v0 v1;obtain⟨d,r⟩:=f;simp only at z0 z1 v0 v1;have hEQ:=aeJ d r;have HTD:=ai (fun n=>ht.below (Go.below_drewN (Below.refl wr.heap.size wr) n));clear ht hf e1 e2 Cu wW Xt MI;go_wp2
       go_quiet (fail)
       go_wp2;go_roundw
       case rel=>exact⟨i+1,by omega,by go_num,HTD.o _⟩
       case measure=>simp[intOf];omega
     · obtain rfl:k.slots.length=i:=by omega
       clear Cu ht hlt;go_wp2;go_loopw [7] (fun iv wq=>∃i:Nat,i<=k.aj.length/\iv=I (i:Int)/\Two w X Y wq) (fun iv _=>k.aj.length-(intOf iv).toNat)
       case atStart=>exact⟨0,by omega,rfl,VC.o⟩
       case round =>
        obtain⟨i,hi,rfl,ht⟩:=hrel;have Ke:=ai ht;obtain⟨⟨x0,x1,x2,x3,x4⟩,y0,y1,y2,y3,y4⟩:=UO.o wr ht;by_cases hlt:i<k.aj.length
        · have H6:(i:Int)<(k.aj.length:Int):=by omega
          obtain⟨pb,po,hao,hbl,bN⟩:=(wW.o.below ht.Ak) (by omega);obtain⟨qb,qo,hao',akA,Vh⟩:=(Xt.o.below ht.Ak) (by omega);obtain⟨va,ap,cp,e0,e1,e2,e3,e4,e5⟩:=bN i hlt;obtain⟨vb,aq,cq,g0,g1,g2,g3,g4,g5⟩:=Vh i hlt;have rJ:=MI.o i hlt;obtain⟨s,Zr⟩:=ex (KM.au k.aj i);rw[<- Zr] at e0 e2 e3 e4 e5 g0 g2 g3 g4 g5 rJ;obtain⟨lv,iu,aA⟩:=s;simp only at e0 e2 e3 e4 e5 g0 g2 g3 g4 g5;obtain⟨aa,na,ca,rfl⟩:=FW.OU e3;obtain⟨ab,nb,cb,rfl⟩:=FW.OU g3;have HE3:=ai e3;have HE4:=ai e4;have HG3:=ai g3;have HG4:=ai g4;have Sa:=ai rJ;rw[hao] at x3;rw[hao'] at y3;have l1:=B.isLt ht.y;have l0:=B.isLt ht.x;have l2:¬w.heap.size=wr.heap.size:=by omega
          have l3:¬w.heap.size+1=wr.heap.size:=by omega
          have l4:¬pb=wr.heap.size:=by omega
          have l5:¬qb=wr.heap.size:=by omega
          clear e3 e4 e5 g3 g4 g5 bN Vh Zr rJ ht wW Xt MI hao hao';have q1:Hid (((wr.alloc (.cells #[.bool lv,.slice aa na ca,.slice ap aA.length cp] 43)).alloc (.cells #[.bool lv,.slice ab nb cb,.slice aq aA.length cq] 43)).heap[wr.heap.size]?=some (.cells #[.bool lv,.slice aa na ca,.slice ap aA.length cp] 43 (0,0))):=B.alloc (B.new wr #[.bool lv,.slice aa na ca,.slice ap aA.length cp] 43) _;have q2:Hid (((wr.alloc (.cells #[.bool lv,.slice aa na ca,.slice ap aA.length cp] 43)).alloc (.cells #[.bool lv,.slice ab nb cb,.slice aq aA.length cq] 43)).heap[wr.heap.size+1]?=some (.cells #[.bool lv,.slice ab nb cb,.slice aq aA.length cq] 43 (0,0))):=by
           have:=B.new (wr.alloc (.cells #[.bool lv,.slice aa na ca,.slice ap aA.length cp] 43)) #[.bool lv,.slice ab nb cb,.slice aq aA.length cq] 43;rw[World.size_alloc] at this;exact this
          have q3:Hid (((wr.alloc (.cells #[.bool lv,.slice ab nb cb,.slice aq aA.length cq] 43)).alloc (.cells #[.bool lv,.slice aa na ca,.slice ap aA.length cp] 43)).heap[wr.heap.size]?=some (.cells #[.bool lv,.slice ab nb cb,.slice aq aA.length cq] 43 (0,0))):=B.alloc (B.new wr #[.bool lv,.slice ab nb cb,.slice aq aA.length cq] 43) _;have q4:Hid (((wr.alloc (.cells #[.bool lv,.slice ab nb cb,.slice aq aA.length cq] 43)).alloc (.cells #[.bool lv,.slice aa na ca,.slice ap aA.length cp] 43)).heap[wr.heap.size+1]?=some (.cells #[.bool lv,.slice aa na ca,.slice ap aA.length cp] 43 (0,0))):=by
           have:=B.new (wr.alloc (.cells #[.bool lv,.slice ab nb cb,.slice aq aA.length cq] 43)) #[.bool lv,.slice aa na ca,.slice ap aA.length cp] 43;rw[World.size_alloc] at this;exact this
          have q5:Hid (Below wr.heap.size wr ((wr.alloc (.cells #[.bool lv,.slice aa na ca,.slice ap aA.length cp] 43)).alloc (.cells #[.bool lv,.slice ab nb cb,.slice aq aA.length cq] 43)).drew):=(((Below.refl wr.heap.size wr).alloc (Nat.le_refl _) (.cells #[.bool lv,.slice aa na ca,.slice ap aA.length cp] 43)).alloc (by simp) (.cells #[.bool lv,.slice ab nb cb,.slice aq aA.length cq] 43)).drew;have q6:Hid (Below wr.heap.size wr ((wr.alloc (.cells #[.bool lv,.slice ab nb cb,.slice aq aA.length cq] 43)).alloc (.cells #[.bool lv,.slice aa na ca,.slice ap aA.length cp] 43)).drew):=(((Below.refl wr.heap.size wr).alloc (Nat.le_refl _) (.cells #[.bool lv,.slice ab nb cb,.slice aq aA.length cq] 43)).alloc (by simp) (.cells #[.bool lv,.slice aa na ca,.slice ap aA.length cp] 43)).drew;go_upto_region 16 with fail;go_cut [8,9] (fun x6 x7 wx=>∃g h:Nat,x6=.pointer (some (Ad g 0))/\x7=.pointer (some (Ad h 0))/\wx.heap[g]?=some (.cells #[.bool lv,.slice aa na ca,.slice ap aA.length cp] 43 (0,0))/\wx.heap[h]?=some (.cells #[.bool lv,.slice ab nb cb,.slice aq aA.length cq] 43 (0,0))/\Below wr.heap.size wr wx)
          case first =>
           go_region
           all_goals
            go_wp2_with fail
            go_meet
            case rel=>first | exact⟨_,_,rfl,rfl,q1.out,q2.out,q5.out⟩ | exact⟨_,_,rfl,rfl,q4.out,q3.out,q6.out⟩
          case rest =>
           obtain⟨g,h,rfl,rfl,hg,hh,hbc⟩:=hcut;obtain⟨WR,hWR⟩:=ex wr;subst hWR;have HSA:Hid (∀V,Below WR.heap.size WR V->Calls Tryz.prog 58 #[.slice aa na ca,.slice ab nb cb] V fun e w'=>e=.returned (.bool true)/\Below V.heap.size V w'):=fun V hV=>(AW.Ep iu iu _ _ V (HE3.o.below hV) (HG3.o.below hV) Sa.o.aB.2 Sa.o.aB.2).mono fun e w' ⟨r,h1,h2,h3⟩=>by
            obtain rfl:r=true:=h2.2 rfl;exact⟨h1,h3⟩
           have MS:aA.length<=140737488351232:=Sa.o.aA;have D6:=ai hbc;have HGC:=ai hg;have HHC:=ai hh;obtain⟨f0,f1,f2⟩:=B.c3 hg;obtain⟨f3,f4,f5⟩:=B.c3 hh;clear hg hh hbc q1 q2 q3 q4 q5 q6 e0 e1 e2 g0 g1 g2 l1 l0 l2 l3 l4 l5 x0 x1 x2 x3 x4 y0 y1 y2 y3 y4;go_wp2_with (go_at_call 58;refine(HSA.o _ D6.o).mono ?_;rintro e w3 ⟨rfl,hb3⟩;have ed:=ai (D6.o.trans (hb3.mono D6.o.size));have Ye:=ai (B.below HGC.o hb3 (B.isLt HGC.o));have Yc:=ai (B.below HHC.o hb3 (B.isLt HHC.o));clear hb3;have f6:w3.cell? (Ad g 2)=some (.slice ap aA.length cp):=B.cell Ye.o 2 rfl;have f7:w3.cell? (Ad h 2)=some (.slice aq aA.length cq):=B.cell Yc.o 2 rfl)
           clear f0 f1 f2 f3 f4 f5;go_loopw [10] (fun iv wi=>∃m:Nat,m<=aA.length/\iv=I (m:Int)/\wi.heap[g]?=some (.cells #[.bool lv,.slice aa na ca,.slice ap aA.length cp] 43 (0,0))/\wi.heap[h]?=some (.cells #[.bool lv,.slice ab nb cb,.slice aq aA.length cq] 43 (0,0))/\Below WR.heap.size WR wi) (fun iv _=>aA.length-(intOf iv).toNat)
           case atStart=>exact⟨0,by omega,rfl,Ye.o,Yc.o,ed.o⟩
           case round =>
            obtain⟨m,hm,rfl,hg,hh,YA⟩:=hrel;have HGi:=ai hg;have HHi:=ai hh;have Ga:=ai YA;have f2:wr.cell? (Ad g 2)=some (.slice ap aA.length cp):=B.cell hg 2 rfl;have f5:wr.cell? (Ad h 2)=some (.slice aq aA.length cq):=B.cell hh 2 rfl;clear hg hh HSA Ye Yc ed f6 f7;by_cases Tx:m<aA.length
            · obtain⟨bp,Wc,hap,akz,Ty⟩:=(HE4.o.below YA) (show 0<aA.length by omega);obtain⟨bq,Wb,haq,aky,LZ⟩:=(HG4.o.below YA) (show 0<aA.length by omega);rw[hap] at f2;rw[haq] at f5;have z0:=Ty m Tx 0 (by omega);have z1:=Ty m Tx 1 (by omega);have z2:=Ty m Tx 2 (by omega);have v0:=LZ m Tx 0 (by omega);have v1:=LZ m Tx 1 (by omega);have v2:=LZ m Tx 2 (by omega);rw[Nat.add_zero] at z0 v0;obtain⟨z,hz⟩:=ex (aA.getD m KM.js);rw[<- hz] at z0 z1 z2 v0 v1 v2;obtain⟨p,q,r⟩:=z;replace z0:wr.cell? (Ad bp (Wc+m*3))=some (I p):=z0;replace z1:wr.cell? (Ad bp (Wc+m*3+1))=some (I q):=z1;replace z2:wr.cell? (Ad bp (Wc+m*3+2))=some (I r):=z2;replace v0:wr.cell? (Ad bq (Wb+m*3))=some (I p):=v0;replace v1:wr.cell? (Ad bq (Wb+m*3+1))=some (I q):=v1;replace v2:wr.cell? (Ad bq (Wb+m*3+2))=some (I r):=v2;have hEQ:=aeL p q r;have Yv:(m:Int)<(aA.length:Int):=by omega
              have HGD:=ai (fun n=>B.below HGi.o (Go.below_drewN (Below.refl wr.heap.size wr) n) (B.isLt HGi.o));have Ng:=ai (fun n=>B.below HHi.o (Go.below_drewN (Below.refl wr.heap.size wr) n) (B.isLt HHi.o));have xV:=ai (fun n=>Go.below_drewN Ga.o n);clear hz Ty LZ YA hap haq HGi HHi Ga;go_wp2
              go_quiet (fail)
              go_wp2;go_roundw
              case rel=>exact⟨m+1,by omega,by go_num,HGD.o _,Ng.o _,xV.o _⟩
              case measure=>simp[intOf];omega
            · obtain rfl:aA.length=m:=by omega
              have pK:=ai (Ke.o.below YA);clear YA Tx;go_wp2;go_roundw
              case rel=>exact⟨i+1,by omega,by go_num,pK.o⟩
              case measure=>simp[intOf];omega
        · obtain rfl:k.aj.length=i:=by omega
          have Sm:=ai ht.Ak;clear ht;go_wp2;go_ret;exact⟨rfl,Sm.o⟩
end KR
namespace KG
open Go.RowKit GK KO
open KW (fh cK aI eB l8)
theorem KU {s:LM.Sh} (h:LM.bQ s=true):LM.DF s:=by
 unfold LM.bQ LM.jK at h;rw[Bool.and_eq_true,decide_eq_true_eq] at h;obtain⟨⟨h1,h2,h3⟩,hf⟩:=h;have hl:=LM.jr _ _ hf;refine⟨⟨by omega,by omega⟩,by unfold M.bD;omega,by unfold M.bD;omega,fun k hk=>?_⟩;have all:∀n,LM.cH s.bg n=true->∀i,i<n->LM.cH s.bg i=true/\LM.Di (LM.l6 s.bg i) (LM.mi s.bg i)=true:=fun n=>by
  induction n with
  | zero=>intro _ i hi;omega
  | succ n ih =>
   intro hn i hi;simp only[LM.cH,Bool.and_eq_true] at hn;by_cases c:i=n
   · rw[c];exact hn
   · exact ih hn.1 i (by omega)
 obtain⟨g1,g2⟩:=all _ hf k hk;have g3:=LM.jr _ _ g1;unfold LM.Di at g2;rw[decide_eq_true_eq] at g2;exact⟨⟨by omega,by omega⟩,by unfold M.bD;omega⟩
theorem x9 {hs:List LM.Sh} (h:LM.dC hs=true) (hl:hs.length<=255):LM.pH hs:=⟨by unfold M.bD;omega,fun k hk=>KU (LM.kH hs hs.length h k hk).1⟩
theorem oL {k:KM.Kn} (h:KM.aQ k):eB k:=by
 have hc:=h.c;obtain⟨r1,r2⟩:=KX.lJ h;have hh:=h.hand;refine⟨x9 h.eJ (by omega),by unfold M.bD;omega,fun i hi=>⟨?_,?_⟩,by unfold M.bD;omega,fun i hi=>⟨?_,?_⟩,by unfold M.bD;omega,fun i hi=>⟨?_,?_,fun n hn=>?_⟩,⟨by omega,by omega⟩⟩
 · have f:=h.m7 i hi;unfold M.bD;by_cases c:KM.names k.aj 1 i=[]
   · rw[f.zero c];exact Nat.zero_le _
   · rw[f.size c];decide
 · have:=r1 i hi;exact⟨by omega,by omega⟩
 · have f:=h.slt i hi;unfold M.bD;by_cases c:KM.names k.aj 2 i=[]
   · rw[f.zero c];exact Nat.zero_le _
   · rw[f.size c];decide
 · have:=r2 i hi;exact⟨by omega,by omega⟩
 · exact AM.gU _ (h.sp hi).aB
 · have:=KX.jq h hi;unfold M.bD;omega
 · have s:=h.sp hi;have he:KM.aM (KM.au k.aj i).aA n∈(KM.au k.aj i).aA:=KM.dO hn;obtain⟨e1,e2⟩:=s.u9 _ he;have e3:=FM.kO s.aB e1;rcases e2 with⟨e4,e5,e6⟩ | ⟨e4,e5,e6⟩
   · exact⟨⟨by omega,by omega⟩,by rw[e4];exact⟨by decide,by decide⟩,⟨by omega,by omega⟩⟩
   · exact⟨⟨by omega,by omega⟩,by rw[e4];exact⟨by decide,by decide⟩,⟨by omega,by omega⟩⟩
theorem N9 {lo:Nat} {w:World} {S:St} {k:KM.Kn} (h:Kr lo w S k):∃a,#[S.vS,S.vF,S.vL,S.vP,I k.hand]=aI a k/\∀U,Kp (fun b=>b<lo) w U->cK U a k:=by
 obtain⟨a,p,_⟩:=h.has;refine⟨a,by unfold aI;rw[p.eS,p.eF,p.eL,p.eP],fun U hU=>?_⟩;obtain⟨a',p',ha⟩:=(h.kp hU (fun b hb e=>by have:=(h.iJ b hb).1;omega)).has;have e1:=p.eS.symm.trans p'.eS;have e2:=p.eF.symm.trans p'.eF;have e3:=p.eL.symm.trans p'.eL;have e4:=p.eP.symm.trans p'.eP;injection e1 with q1 _ q2;injection e2 with q3 _ q4;injection e3 with q5 _ q6;injection e4 with q7 _ q8;have:a'=a:=by
  cases a;cases a';simp only at q1 q2 q3 q4 q5 q6 q7 q8;subst q1 q2 q3 q4 q5 q6 q7 q8;rfl
 rw[<- this];exact ha
def aeW (w:World) (k:KM.Kn) (vs:List Value) (e:Ending) (w':World):Prop:=∃hs a,KM.Same k.ak hs/\e=.returned (.tuple (Value.agg (aI a (KM.aT k hs))::vs).toArray)/\(∀U,Kp (fun b=>b<w.heap.size) w' U->cK U a (KM.aT k hs))/\Below w.heap.size w w'
theorem N8 {w:World} {k:KM.Kn} {vs:List Value} {e:Ending} {w':World} (h:KZ.b6 w k vs e w'):aeW w k vs e w':=by
 obtain⟨S,hs,h1,h2,h3,h4⟩:=h;obtain⟨a,e1,e2⟩:=N9 h3;exact⟨hs,a,h1,by rw[h2,<- e1];rfl,e2,h4⟩
end KG
end Go.Proofs.YtpgifpeohlllfaaGreat
