import Derived.Test.YtlgoihmkgaaemaaGreatGN35
set_option maxHeartbeats 20000000
set_option linter.unusedVariables false
set_option maxRecDepth 100000
set_option linter.unusedSimpArgs false
namespace Go.Proofs.YtlgoihmkgaaemaaGreat
open Go.RowKit
structure YI (xs ys:List bJ):Prop where
 len:xs.length=ys.length
 page:∀k,k<xs.length->(bl ys k).page=(bl xs k).page
 data:∀k,k<xs.length->(bl ys k).data=(bl xs k).data
 dZ:∀k,k<xs.length->(bl ys k).dZ=(bl xs k).dZ
theorem Kf (xs ys:List bJ) (ax ay:Option Addr) (cx cy:Nat) (w:World) (hx:iT w ax xs) (hy:iT w ay ys) (hs:YI xs ys) (hn:cB xs.length) (hfn:∀k,k<xs.length->cB (bl xs k).dZ.length) :
  Calls Tryz.prog 85 #[.slice ax xs.length cx,.slice ay ys.length cy] w fun e w'=>e=.returned (.bool true)/\Below w.heap.size w w':=by
 have HX:=aB hx;have HYY:=aB hy;have HS:=aB hs;have OE:=aB hfn;rw[<- hs.len];unfold cB at hn;clear hx hy hs hfn;go_enter Tryz.func85,Tryz.ntmps85;go_wp2;go_loopw [5] (fun i wr=>∃k:Nat,k<=xs.length/\i=I k/\Below w.heap.size w wr) (fun i _=>xs.length-(intOf i).toNat)
 case atStart=>grind [Below.refl]
 case round =>
  obtain⟨i,hi,rfl,hb⟩:=hrel;have zJ:=aB hb;by_cases hlt:i<xs.length
  · obtain⟨bx,ox,hax,hbx,hlx⟩:=HX.o (by omega);obtain⟨bx2,oy,hay,hby,hly⟩:=HYY.o (by rw[<- HS.o.len];omega);subst hax hay;have HF:Hid (∀V,Below w.heap.size w V->(V.cell? (Ad bx (ox+i*3))=some (I (bl xs i).page)/\V.cell? (Ad bx (ox+i*3+1))=some (.string (bl xs i).data)/\V.cell? (Ad bx (ox+i*3+2))=some (.slice (bl xs i).ao (bl xs i).dZ.length (bl xs i).cap)/\pA V (bl xs i).ao (bl xs i).dZ)/\(V.cell? (Ad bx2 (oy+i*3))=some (I (bl xs i).page)/\V.cell? (Ad bx2 (oy+i*3+1))=some (.string (bl xs i).data)/\V.cell? (Ad bx2 (oy+i*3+2))=some (.slice (bl ys i).ao (bl xs i).dZ.length (bl ys i).cap)/\pA V (bl ys i).ao (bl xs i).dZ)):=fun V hV=>by
     obtain⟨a0,a1,a2,a3⟩:=PA hV hbx hlx i hlt;obtain⟨b0,b1,b2,b3⟩:=PA hV hby hly i (by rw[<- HS.o.len];exact hlt);rw[HS.o.page i hlt] at b0;rw[HS.o.data i hlt] at b1;rw[HS.o.dZ i hlt] at b2 b3;exact⟨⟨a0,a1,a2,a3⟩,b0,b1,b2,b3⟩
    have hfi:=OE.o i hlt;obtain⟨⟨pg,dt,fs,af,cf⟩,hsx⟩:∃s,s=bl xs i:=⟨_,rfl⟩;obtain⟨ag,hag⟩:∃a,a=(bl ys i).ao:=⟨_,rfl⟩;obtain⟨cg,hcg⟩:∃a,a=(bl ys i).cap:=⟨_,rfl⟩;rw[<- hsx,<- hag,<- hcg] at HF;rw[<- hsx] at hfi;simp only at HF hfi;unfold cB at hfi;clear hsx hag hcg hlx hly;obtain⟨⟨a0,a1,a2,-⟩,b0,b1,b2,-⟩:=HF.o _ hb;have hi1:(i:Int)<(xs.length:Int):=by omega
    have hi0:(0:Int)<=(i:Int):=by omega
    clear hb;go_wp2
    go_quiet (fail)
    go_wp2;go_loopw [6] (fun i2 wr=>∃k:Nat,k<=fs.length/\i2=I k/\Below w.heap.size w wr) (fun i2 _=>fs.length-(intOf i2).toNat)
    case atStart=>exact⟨0,by omega,rfl,nV zJ.o _⟩
    case round =>
     obtain⟨k,hk,rfl,hb⟩:=hrel;have HBk:=aB hb;obtain⟨⟨d0,d1,d2,d3⟩,e0,e1,e2,e3⟩:=HF.o _ hb;clear hb a0 a1 a2 b0 b1 b2;by_cases hlk:k<fs.length
     · obtain⟨fb,fo,haf,L4,hlf⟩:=d3 (by omega);obtain⟨gb,go,hag,hgb,hlg⟩:=e3 (by omega);subst haf hag;obtain⟨f0,f1⟩:=hlf k hlk;obtain⟨g0,g1⟩:=hlg k hlk;obtain⟨⟨fo1,fb1⟩,hfx⟩:∃f,f=ng fs k:=⟨_,rfl⟩;rw[<- hfx] at f0 f1 g0 g1;simp only at f0 f1 g0 g1;clear hfx hlf hlg d3 e3;have hk1:(k:Int)<(fs.length:Int):=by omega
       have hk0:(0:Int)<=(k:Int):=by omega
       go_wp2
       go_quiet (fail)
       go_wp2;go_roundw
       case rel=>exact⟨k+1,by omega,by go_num,nV HBk.o _⟩
       case measure=>simp[intOf];omega
     · obtain rfl:k=fs.length:=by omega
       clear d3 e3;go_wp2;go_roundw
       case rel=>exact⟨i+1,by omega,by go_num,HBk.o⟩
       case measure=>simp[intOf];omega
  · obtain rfl:i=xs.length:=by omega
    go_wp2;go_ret;exact⟨rfl,zJ.o⟩
open Go.RowKit
open Go.RowKit
theorem aeU (l m:List aX) (hl:l.length=m.length) (h:∀i,i<l.length->bC l i=bC m i):l=m:=by
 apply AJ
 grind [bC]
theorem XH (l m:List aX) (b off cap b2 Yb cap2:Nat) (w:World) (hl:wQ w b off l) (hm:wQ w b2 Yb m) (hlen:l.length=m.length) (hn:l.length<=140737488351232) :
  Calls Tryz.prog 86 #[.slice (some (Ad b off)) l.length cap,.slice (some (Ad b2 Yb)) m.length cap2] w fun e w'=>∃r:Bool,e=.returned (.bool r)/\(r=true↔l=m)/\Below w.heap.size w w':=by
 rw[<- hlen];have hle:Hid (l.length=m.length):=hlen;clear hlen;go_enter Tryz.func86,Tryz.ntmps86;go_wp2;go_loopw [5] (fun i wr=>∃k:Nat,k<=l.length/\i=I k/\(∀j,j<k->bC l j=bC m j)/\Below w.heap.size w wr) (fun i _=>l.length-(intOf i).toNat)
 case atStart=>grind [Below.refl]
 case round =>
  obtain⟨k,hk,rfl,hj,hb⟩:=hrel;have HJ:Hid (∀j,j<k->bC l j=bC m j):=hj;have HB:Hid (Below w.heap.size w wr):=hb;by_cases hlt:k<l.length
  · obtain⟨c0,c1,c2,c3⟩:=hl.below hb k hlt;obtain⟨e0,e1,e2,e3⟩:=hm.below hb k (by rw[<- hle.out];exact hlt);obtain⟨a,ha⟩:=ex (bC l k);obtain⟨d,hd⟩:=ex (bC m k);rw[<- ha] at c0 c1 c2 c3;rw[<- hd] at e0 e1 e2 e3;have HA:Hid (a=bC l k):=ha;have HD:Hid (d=bC m k):=hd;clear ha hd hj hb;have JI:(k:Int)<(l.length:Int):=by omega
    obtain⟨p1,n1,q1,z1⟩:=a;obtain⟨p2,n2,q2,z2⟩:=d;simp only at c0 c1 c2 c3 e0 e1 e2 e3;have afB:(p1==p2)=false∨(p1=p2/\(n1==n2)=false)∨(p1=p2/\n1=n2/\(q1==q2)=false)∨(p1=p2/\n1=n2/\q1=q2/\z2=!z1)∨(p1=p2/\n1=n2/\q1=q2/\z1=z2):=by
     by_cases h1:p1=p2
     · by_cases h2:n1=n2
       · by_cases h3:q1=q2
         · by_cases h4:z1=z2
           · exact .inr (.inr (.inr (.inr ⟨h1,h2,h3,h4⟩)))
           · exact .inr (.inr (.inr (.inl ⟨h1,h2,h3,by cases z1 <;> cases z2 <;> simp_all⟩)))
         · exact .inr (.inr (.inl ⟨h1,h2,by simp[h3]⟩))
       grind
     grind
    have amE:∀h:¬((⟨p1,n1,q1,z1⟩:aX)=⟨p2,n2,q2,z2⟩),l≠m:=fun h e=>h (by rw[HA.o,HD.o,e])
    have HDF:Hid (¬((⟨p1,n1,q1,z1⟩:aX)=⟨p2,n2,q2,z2⟩)->l≠m):=amE;clear amE;rcases afB with h1 | ⟨h1,h2⟩ | ⟨h1,h2,h3⟩ | ⟨h1,h2,h3,h4⟩ | ⟨h1,h2,h3,h4⟩
    · have hne:Hid (l≠m):=HDF.o (fun e=>by have:=dI aX.page e;simp at this;simp[this] at h1);clear HDF HA HD;go_wp2
      go_quiet (fail)
      go_wp2;go_ret;exact⟨false,rfl,⟨fun h=>(by cases h),fun h=>absurd h hne.out⟩,nV HB.o _⟩
    · have hne:Hid (l≠m):=HDF.o (fun e=>by have:=dI aX.aQ e;simp at this;simp[this] at h2);clear HDF HA HD;subst h1;go_wp2
      go_quiet (fail)
      go_wp2;go_ret;exact⟨false,rfl,⟨fun h=>(by cases h),fun h=>absurd h hne.out⟩,nV HB.o _⟩
    · have hne:Hid (l≠m):=HDF.o (fun e=>by have:=dI aX.jG e;simp at this;simp[this] at h3);clear HDF HA HD;subst h1;subst h2;go_wp2
      go_quiet (fail)
      go_wp2;go_ret;exact⟨false,rfl,⟨fun h=>(by cases h),fun h=>absurd h hne.out⟩,nV HB.o _⟩
    · have hne:Hid (l≠m):=HDF.o (fun e=>by have:=dI aX.zero e;simp at this;rw[h4] at this;cases z1 <;> simp at this);clear HDF HA HD;subst h1;subst h2;subst h3;subst h4;go_wp2
      go_quiet (fail)
      go_wp2;go_ret;exact⟨false,rfl,⟨fun h=>(by cases h),fun h=>absurd h hne.out⟩,nV HB.o _⟩
    · have heq:Hid (bC l k=bC m k):=by show _=_;rw[<- HA.o,<- HD.o,h1,h2,h3,h4]
      clear HDF HA HD;subst h1;subst h2;subst h3;subst h4;go_wp2
      go_quiet (fail)
      go_wp2;go_roundw
      case rel=>exact⟨k+1,by omega,by go_num,fun j hj=>if e:j=k then by rw[e];exact heq.out else HJ.o j (by omega),nV HB.o _⟩
      case measure=>simp[intOf];omega
  · obtain rfl:k=l.length:=by omega
    go_wp2;go_ret;exact⟨true,rfl,⟨fun _=>aeU l m hle.out HJ.o,fun _=>rfl⟩,HB.o⟩
theorem aax (n m:Nat) (ao bo:Option Addr) (c d:Nat) (w:World) (h:n≠m) (hn:n<=140737488351232) (hm:m<=140737488351232) :
  Calls Tryz.prog 86 #[.slice ao n c,.slice bo m d] w fun e w'=>e=.returned (.bool false)/\w=w':=by
 have h':((n:Int) != (m:Int))=true:=by grind
 go_enter Tryz.func86,Tryz.ntmps86;go_wp2;go_ret
 simp_all
theorem N5 (ao bo:Option Addr) (c d:Nat) (w:World) :
  Calls Tryz.prog 86 #[.slice ao 0 c,.slice bo 0 d] w fun e w'=>e=.returned (.bool true)/\w=w':=by
 go_enter Tryz.func86,Tryz.ntmps86;go_wp2;refine G0 1 ?_;rw[GX];go_wp2;go_ret
 simp_all
theorem aay (l m:List aX) (v u:Value) (w:World) (hl:fZ w v l) (hm:fZ w u m) (hn:l.length<=140737488351232) (E3:m.length<=140737488351232) :
  Calls Tryz.prog 86 #[v,u] w fun e w'=>∃r:Bool,e=.returned (.bool r)/\(r=true↔l=m)/\Below w.heap.size w w':=by
 obtain⟨ao,cap,rfl,h⟩:=hl;obtain⟨bo,cap2,rfl,h2⟩:=hm;by_cases hlen:l.length=m.length
 · rcases h with rfl | ⟨b,off,rfl,hl⟩
   · have hm0:m=[]:=jY hlen.symm;subst hm0;exact(N5 ao bo cap cap2 w).mono fun e w' ⟨he,hw⟩=>⟨true,he,by simp,by grind [Below.refl]⟩
   · rcases h2 with rfl | ⟨b2,Yb,rfl,hm⟩
     · have hl0:l=[]:=jY hlen;subst hl0;exact(N5 _ bo cap cap2 w).mono fun e w' ⟨he,hw⟩=>⟨true,he,by simp,by grind [Below.refl]⟩
     · exact XH l m b off cap b2 Yb cap2 w hl hm hlen hn
 · exact(aax l.length m.length ao bo cap cap2 w hlen hn E3).mono fun e w' ⟨he,hw⟩=>⟨false,he,⟨fun h=>(by cases h),fun h=>absurd (dI List.length h) hlen⟩,by grind [Below.refl]⟩
open Go.RowKit
theorem ah4 (d:ByteArray) (r:Int) (x y:Bool) (V:World):(Op.equalIn 10000 169 (.agg #[.string d,I r,.bool x,.bool y]) (.agg #[.string d,I r,.bool x,.bool y])).run Tryz.prog V=.ok true V:=by
 simp[go_sem]
theorem ah3 (d:ByteArray) (r:Int) (V:World):(Op.equalIn 10000 171 (.agg #[.string d,I r]) (.agg #[.string d,I r])).run Tryz.prog V=.ok true V:=by
 simp[go_sem]
theorem ah5 (p q r:Int) (V:World):(Op.equalIn 10000 174 (.agg #[I p,I q,I r]) (.agg #[I p,I q,I r])).run Tryz.prog V=.ok true V:=by
 simp[go_sem]
theorem aeb {xs ys:List bJ} (h:cC xs ys):YI xs ys:=by
 refine⟨h.len.symm,fun k hk=>?_,fun k hk=>?_,fun k hk=>?_⟩
 · exact(sZ (h.at k)).1
 · exact(sZ (h.at k)).2.1
 · exact(sZ (h.at k)).2.2
structure FJ (w:World) (c d:Array Value) (V:World):Prop where
 x:V.heap[w.heap.size]?=some (.cells c 30 (0,0))
 y:V.heap[w.heap.size+1]?=some (.cells d 30 (0,0))
 bel:Below w.heap.size w V
theorem FJ.below {w V U:World} {c d:Array Value} (h:FJ w c d V) (hb:Below V.heap.size V U):FJ w c d U:=⟨aO h.x hb (aJ h.x),aO h.y hb (aJ h.y),h.bel.trans (hb.mono h.bel.size)⟩
theorem Jo (k:aT) (hs:List bJ) (a b:jc) (w:World) (hA:jd w a k) (hB:jd w b (aV k hs)) (hS:cC k.aM hs) (hF:nu k) :
  Calls Tryz.prog 39 #[.agg (bg a k),.agg (bg b (aV k hs))] w fun e w'=>e=.returned (.bool true)/\Below w.heap.size w w':=by
 have hBs:iT w b.aS hs:=hB.aM;have hBf:dW iO 4 gM w b.aF k.frames:=hB.frames;have hBl:dW iN 2 nK w b.aL k.slots:=hB.slots;have hBp:yt w b.aP k.aj:=hB.aj;have HSS:Hid (∀V,Below w.heap.size w V->Calls Tryz.prog 85 #[.slice a.aS k.aM.length a.cS,.slice b.aS hs.length b.cS] V fun e w'=>e=.returned (.bool true)/\Below V.heap.size V w'):=fun V hV=>Kf k.aM hs a.aS b.aS a.cS b.cS V (hA.aM.below hV) (hBs.below hV) (aeb hS) hF.aM.1 (fun i hi=>(hF.aM.2 i hi).dZ)
 obtain⟨WA,lO⟩:=ex ((w.alloc (.cells #[.slice a.aS k.aM.length a.cS,.slice a.aF k.frames.length a.cF,.slice a.aL k.slots.length a.cL,.slice a.aP k.aj.length a.cP,I k.hand] 30)).alloc (.cells #[.slice b.aS hs.length b.cS,.slice b.aF k.frames.length b.cF,.slice b.aL k.slots.length b.cL,.slice b.aP k.aj.length b.cP,I k.hand] 30));have HT0:Hid (FJ w #[.slice a.aS k.aM.length a.cS,.slice a.aF k.frames.length a.cF,.slice a.aL k.slots.length a.cL,.slice a.aP k.aj.length a.cP,I k.hand] #[.slice b.aS hs.length b.cS,.slice b.aF k.frames.length b.cF,.slice b.aL k.slots.length b.cL,.slice b.aP k.aj.length b.cP,I k.hand] WA):=by
  rw[lO];refine⟨br (bE w _ _) _,?_,((aK _ _).alloc (aI _) _).alloc (by simp) _⟩
  grind [bE,World.size_alloc]
 have HCX:Hid (∀V,FJ w #[.slice a.aS k.aM.length a.cS,.slice a.aF k.frames.length a.cF,.slice a.aL k.slots.length a.cL,.slice a.aP k.aj.length a.cP,I k.hand] #[.slice b.aS hs.length b.cS,.slice b.aF k.frames.length b.cF,.slice b.aL k.slots.length b.cL,.slice b.aP k.aj.length b.cP,I k.hand] V->(V.cell? (Ad w.heap.size 0)=some (.slice a.aS k.aM.length a.cS)/\V.cell? (Ad w.heap.size 1)=some (.slice a.aF k.frames.length a.cF)/\V.cell? (Ad w.heap.size 2)=some (.slice a.aL k.slots.length a.cL)/\V.cell? (Ad w.heap.size 3)=some (.slice a.aP k.aj.length a.cP)/\V.cell? (Ad w.heap.size 4)=some (I k.hand))/\(V.cell? (Ad (w.heap.size+1) 0)=some (.slice b.aS hs.length b.cS)/\V.cell? (Ad (w.heap.size+1) 1)=some (.slice b.aF k.frames.length b.cF)/\V.cell? (Ad (w.heap.size+1) 2)=some (.slice b.aL k.slots.length b.cL)/\V.cell? (Ad (w.heap.size+1) 3)=some (.slice b.aP k.aj.length b.cP)/\V.cell? (Ad (w.heap.size+1) 4)=some (I k.hand))):=fun V h=>⟨iH h.x,iH h.y⟩
 have HFR:Hid (∀V i,Below w.heap.size w V->i<k.frames.length->∃fb fo gb go,a.aF=some (Ad fb fo)/\b.aF=some (Ad gb go)/\(V.cell? (Ad fb (fo+i*4))=some (.string (aH k.frames i).data)/\V.cell? (Ad fb (fo+i*4+1))=some (I (aH k.frames i).refs)/\V.cell? (Ad fb (fo+i*4+2))=some (.bool (aH k.frames i).jo)/\V.cell? (Ad fb (fo+i*4+3))=some (.bool (aH k.frames i).seen))/\(V.cell? (Ad gb (go+i*4))=some (.string (aH k.frames i).data)/\V.cell? (Ad gb (go+i*4+1))=some (I (aH k.frames i).refs)/\V.cell? (Ad gb (go+i*4+2))=some (.bool (aH k.frames i).jo)/\V.cell? (Ad gb (go+i*4+3))=some (.bool (aH k.frames i).seen))):=fun V i hV hi=>by
  obtain⟨fb,fo,e1,e2,e3⟩:=(hA.frames.below hV) (by omega);obtain⟨gb,go,g1,g2,g3⟩:=(hBf.below hV) (by omega);have z:=e3 i hi 0 (by omega);have y:=g3 i hi 0 (by omega);rw[kW] at z y;exact⟨fb,fo,gb,go,e1,g1,⟨z,e3 i hi 1 (by omega),e3 i hi 2 (by omega),e3 i hi 3 (by omega)⟩,⟨y,g3 i hi 1 (by omega),g3 i hi 2 (by omega),g3 i hi 3 (by omega)⟩⟩
 have Uu:Hid (∀V i,Below w.heap.size w V->i<k.slots.length->∃fb fo gb go,a.aL=some (Ad fb fo)/\b.aL=some (Ad gb go)/\(V.cell? (Ad fb (fo+i*2))=some (.string (bH k.slots i).data)/\V.cell? (Ad fb (fo+i*2+1))=some (I (bH k.slots i).refs))/\(V.cell? (Ad gb (go+i*2))=some (.string (bH k.slots i).data)/\V.cell? (Ad gb (go+i*2+1))=some (I (bH k.slots i).refs))):=fun V i hV hi=>by
  obtain⟨fb,fo,e1,e2,e3⟩:=(hA.slots.below hV) (by omega);obtain⟨gb,go,g1,g2,g3⟩:=(hBl.below hV) (by omega);have z:=e3 i hi 0 (by omega);have y:=g3 i hi 0 (by omega);rw[kW] at z y;exact⟨fb,fo,gb,go,e1,g1,⟨z,e3 i hi 1 (by omega)⟩,⟨y,g3 i hi 1 (by omega)⟩⟩
 have ZI:=ai hA.aj;have HSQ:=ai hBp;have HFS:=ai hF.sp;have Sk:k.frames.length<=140737488351232:=hF.nf;have E3:k.slots.length<=140737488351232:=hF.ns;have hn3:k.aj.length<=140737488351232:=hF.np;have se:=ai lO;have ec:bg b (aV k hs)=#[.slice b.aS hs.length b.cS,.slice b.aF k.frames.length b.cF,.slice b.aL k.slots.length b.cL,.slice b.aP k.aj.length b.cP,I k.hand]:=rfl;rw[ec];unfold bg;obtain⟨X,hX⟩:∃X:Array Value,X=#[.slice a.aS k.aM.length a.cS,.slice a.aF k.frames.length a.cF,.slice a.aL k.slots.length a.cL,.slice a.aP k.aj.length a.cP,I k.hand]:=⟨_,rfl⟩;obtain⟨Y,hY⟩:∃Y:Array Value,Y=#[.slice b.aS hs.length b.cS,.slice b.aF k.frames.length b.cF,.slice b.aL k.slots.length b.cL,.slice b.aP k.aj.length b.cP,I k.hand]:=⟨_,rfl⟩;rw[<- hX,<- hY] at HT0 HCX;clear hA hB hS hF hBs hBf hBl hBp lO ec hX hY;obtain⟨⟨x0,x1,x2,x3,x4⟩,y0,y1,y2,y3,y4⟩:=HCX.o WA HT0.o;go_enter Tryz.func39,Tryz.ntmps39;go_upto_region 1 with fail;rw[<- se.o];go_upto_region 3 with(go_at_call 85;refine(HSS.o _ HT0.o.bel).mono ?_;rintro e w1 ⟨rfl,hb1⟩;have HT1:=ai (HT0.o.below hb1);obtain⟨⟨x0,x1,x2,x3,x4⟩,y0,y1,y2,y3,y4⟩:=HCX.o w1 HT1.o;clear hb1)
 clear x0 x1 x2 x3 x4 y0 y1 y2 y3 y4 HT0 HSS;go_wp2;go_loopw [5] (fun iv wq=>∃i:Nat,i<=k.frames.length/\iv=I (i:Int)/\FJ w X Y wq) (fun iv _=>k.frames.length-(intOf iv).toNat)
 case atStart=>grind [Hid.o]
 case round =>
  obtain⟨i,hi,rfl,ht⟩:=hrel;have HT:=ai ht;obtain⟨⟨x0,x1,x2,x3,x4⟩,y0,y1,y2,y3,y4⟩:=HCX.o wr ht;by_cases hlt:i<k.frames.length
  · have hii:(i:Int)<(k.frames.length:Int):=by omega
    obtain⟨fb,fo,gb,go,e1,e2,⟨z0,z1,z2,z3⟩,⟨v0,v1,v2,v3⟩⟩:=HFR.o wr i ht.bel hlt;rw[e1] at x1;rw[e2] at y1;obtain⟨f,hf⟩:=ex (aH k.frames i);rw[<- hf] at z0 z1 z2 z3 v0 v1 v2 v3;obtain⟨d,r,p,q⟩:=f;simp only at z0 z1 z2 z3 v0 v1 v2 v3;have hEQ:=ah4 d r p q;have HTD:=ai (fun n=>ht.below (nV (aK wr.heap.size wr) n));clear ht hf e1 e2 HFR Uu ZI HSQ HFS HT1;go_wp2
    go_quiet (fail)
    go_wp2;go_roundw
    case rel=>exact⟨i+1,by omega,by go_num,HTD.o _⟩
    grind [intOf]
  · obtain rfl:k.frames.length=i:=by omega
    clear HFR ht hlt;go_wp2;go_loopw [6] (fun iv wq=>∃i:Nat,i<=k.slots.length/\iv=I (i:Int)/\FJ w X Y wq) (fun iv _=>k.slots.length-(intOf iv).toNat)
    case atStart=>exact⟨0,by omega,rfl,HT.o⟩
    case round =>
     obtain⟨i,hi,rfl,ht⟩:=hrel;have HT2:=ai ht;obtain⟨⟨x0,x1,x2,x3,x4⟩,y0,y1,y2,y3,y4⟩:=HCX.o wr ht;by_cases hlt:i<k.slots.length
     · have hii:(i:Int)<(k.slots.length:Int):=by omega
       obtain⟨fb,fo,gb,go,e1,e2,⟨z0,z1⟩,⟨v0,v1⟩⟩:=Uu.o wr i ht.bel hlt;rw[e1] at x2;rw[e2] at y2;obtain⟨f,hf⟩:=ex (bH k.slots i);rw[<- hf] at z0 z1 v0 v1;obtain⟨d,r⟩:=f;simp only at z0 z1 v0 v1;have hEQ:=ah3 d r;have HTD:=ai (fun n=>ht.below (nV (aK wr.heap.size wr) n));clear ht hf e1 e2 Uu ZI HSQ HFS;go_wp2
       go_quiet (fail)
       go_wp2;go_roundw
       case rel=>exact⟨i+1,by omega,by go_num,HTD.o _⟩
       case measure=>simp[intOf];omega
     · obtain rfl:k.slots.length=i:=by omega
       clear Uu ht hlt;go_wp2;go_loopw [7] (fun iv wq=>∃i:Nat,i<=k.aj.length/\iv=I (i:Int)/\FJ w X Y wq) (fun iv _=>k.aj.length-(intOf iv).toNat)
       case atStart=>exact⟨0,by omega,rfl,HT2.o⟩
       case round =>
        obtain⟨i,hi,rfl,ht⟩:=hrel;have HT3:=ai ht;obtain⟨⟨x0,x1,x2,x3,x4⟩,y0,y1,y2,y3,y4⟩:=HCX.o wr ht;by_cases hlt:i<k.aj.length
        · have hii:(i:Int)<(k.aj.length:Int):=by omega
          obtain⟨pb,po,hao,hbl,eY⟩:=(ZI.o.below ht.bel) (by omega);obtain⟨qb,qo,hao',amM,MZ⟩:=(HSQ.o.below ht.bel) (by omega);obtain⟨va,ap,cp,e0,e1,e2,e3,e4,e5⟩:=eY i hlt;obtain⟨vb,aq,cq,g0,g1,g2,g3,g4,g5⟩:=MZ i hlt;have L3:=HFS.o i hlt;obtain⟨s,hss⟩:=ex (ak k.aj i);rw[<- hss] at e0 e2 e3 e4 e5 g0 g2 g3 g4 g5 L3;obtain⟨lv,vC,bc⟩:=s;simp only at e0 e2 e3 e4 e5 g0 g2 g3 g4 g5;obtain⟨aa,na,ca,rfl⟩:=Xt e3;obtain⟨ab,nb,cb,rfl⟩:=Xt g3;have HE3:=ai e3;have HE4:=ai e4;have HG3:=ai g3;have HG4:=ai g4;have HFK:=ai L3;rw[hao] at x3;rw[hao'] at y3;have l1:=aJ ht.y;have l0:=aJ ht.x;have l2:¬w.heap.size=wr.heap.size:=by omega
          have l3:¬w.heap.size+1=wr.heap.size:=by omega
          have l4:¬pb=wr.heap.size:=by omega
          have l5:¬qb=wr.heap.size:=by omega
          clear e3 e4 e5 g3 g4 g5 eY MZ hss L3 ht ZI HSQ HFS hao hao';have q1:Hid (((wr.alloc (.cells #[.bool lv,.slice aa na ca,.slice ap bc.length cp] 99)).alloc (.cells #[.bool lv,.slice ab nb cb,.slice aq bc.length cq] 99)).heap[wr.heap.size]?=some (.cells #[.bool lv,.slice aa na ca,.slice ap bc.length cp] 99 (0,0))):=br (bE wr #[.bool lv,.slice aa na ca,.slice ap bc.length cp] 99) _;have q2:Hid (((wr.alloc (.cells #[.bool lv,.slice aa na ca,.slice ap bc.length cp] 99)).alloc (.cells #[.bool lv,.slice ab nb cb,.slice aq bc.length cq] 99)).heap[wr.heap.size+1]?=some (.cells #[.bool lv,.slice ab nb cb,.slice aq bc.length cq] 99 (0,0))):=by
           have:=bE (wr.alloc (.cells #[.bool lv,.slice aa na ca,.slice ap bc.length cp] 99)) #[.bool lv,.slice ab nb cb,.slice aq bc.length cq] 99;rw[fF] at this;exact this
          have q3:Hid (((wr.alloc (.cells #[.bool lv,.slice ab nb cb,.slice aq bc.length cq] 99)).alloc (.cells #[.bool lv,.slice aa na ca,.slice ap bc.length cp] 99)).heap[wr.heap.size]?=some (.cells #[.bool lv,.slice ab nb cb,.slice aq bc.length cq] 99 (0,0))):=br (bE wr #[.bool lv,.slice ab nb cb,.slice aq bc.length cq] 99) _;have q4:Hid (((wr.alloc (.cells #[.bool lv,.slice ab nb cb,.slice aq bc.length cq] 99)).alloc (.cells #[.bool lv,.slice aa na ca,.slice ap bc.length cp] 99)).heap[wr.heap.size+1]?=some (.cells #[.bool lv,.slice aa na ca,.slice ap bc.length cp] 99 (0,0))):=by
           have:=bE (wr.alloc (.cells #[.bool lv,.slice ab nb cb,.slice aq bc.length cq] 99)) #[.bool lv,.slice aa na ca,.slice ap bc.length cp] 99;rw[fF] at this;exact this
          have q5:Hid (Below wr.heap.size wr ((wr.alloc (.cells #[.bool lv,.slice aa na ca,.slice ap bc.length cp] 99)).alloc (.cells #[.bool lv,.slice ab nb cb,.slice aq bc.length cq] 99)).drew):=(((aK wr.heap.size wr).alloc (aI _) (.cells #[.bool lv,.slice aa na ca,.slice ap bc.length cp] 99)).alloc (by simp) (.cells #[.bool lv,.slice ab nb cb,.slice aq bc.length cq] 99)).drew;have q6:Hid (Below wr.heap.size wr ((wr.alloc (.cells #[.bool lv,.slice ab nb cb,.slice aq bc.length cq] 99)).alloc (.cells #[.bool lv,.slice aa na ca,.slice ap bc.length cp] 99)).drew):=(((aK wr.heap.size wr).alloc (aI _) (.cells #[.bool lv,.slice ab nb cb,.slice aq bc.length cq] 99)).alloc (by simp) (.cells #[.bool lv,.slice aa na ca,.slice ap bc.length cp] 99)).drew;go_upto_region 16 with fail;go_cut [8,9] (fun x6 x7 wx=>∃g h:Nat,x6=.pointer (some (Ad g 0))/\x7=.pointer (some (Ad h 0))/\wx.heap[g]?=some (.cells #[.bool lv,.slice aa na ca,.slice ap bc.length cp] 99 (0,0))/\wx.heap[h]?=some (.cells #[.bool lv,.slice ab nb cb,.slice aq bc.length cq] 99 (0,0))/\Below wr.heap.size wr wx)
          case first =>
           go_region
           all_goals
            go_wp2_with fail
            go_meet
            case rel=>first | exact⟨_,_,rfl,rfl,q1.out,q2.out,q5.out⟩ | exact⟨_,_,rfl,rfl,q4.out,q3.out,q6.out⟩
          case rest =>
           obtain⟨g,h,rfl,rfl,hg,hh,hbc⟩:=hcut;obtain⟨WR,hWR⟩:=ex wr;subst hWR;have HSA:Hid (∀V,Below WR.heap.size WR V->Calls Tryz.prog 86 #[.slice aa na ca,.slice ab nb cb] V fun e w'=>e=.returned (.bool true)/\Below V.heap.size V w'):=fun V hV=>(aay vC vC _ _ V (HE3.o.below hV) (HG3.o.below hV) HFK.o.aU.2 HFK.o.aU.2).mono fun e w' ⟨r,h1,h2,h3⟩=>by
            simp_all
           have hlp:bc.length<=140737488351232:=HFK.o.bc;have HBC:=ai hbc;have HGC:=ai hg;have HHC:=ai hh;obtain⟨f0,f1,f2⟩:=Ez hg;obtain⟨f3,f4,f5⟩:=Ez hh;clear hg hh hbc q1 q2 q3 q4 q5 q6 e0 e1 e2 g0 g1 g2 l1 l0 l2 l3 l4 l5 x0 x1 x2 x3 x4 y0 y1 y2 y3 y4;go_wp2_with (go_at_call 86;refine(HSA.o _ HBC.o).mono ?_;rintro e w3 ⟨rfl,hb3⟩;have mO:=ai (HBC.o.trans (hb3.mono HBC.o.size));have alh:=ai (aO HGC.o hb3 (aJ HGC.o));have alg:=ai (aO HHC.o hb3 (aJ HHC.o));clear hb3;have f6:w3.cell? (Ad g 2)=some (.slice ap bc.length cp):=au alh.o 2 rfl;have f7:w3.cell? (Ad h 2)=some (.slice aq bc.length cq):=au alg.o 2 rfl)
           clear f0 f1 f2 f3 f4 f5;go_loopw [10] (fun iv wi=>∃m:Nat,m<=bc.length/\iv=I (m:Int)/\wi.heap[g]?=some (.cells #[.bool lv,.slice aa na ca,.slice ap bc.length cp] 99 (0,0))/\wi.heap[h]?=some (.cells #[.bool lv,.slice ab nb cb,.slice aq bc.length cq] 99 (0,0))/\Below WR.heap.size WR wi) (fun iv _=>bc.length-(intOf iv).toNat)
           case atStart=>exact⟨0,by omega,rfl,alh.o,alg.o,mO.o⟩
           case round =>
            obtain⟨m,hm,rfl,hg,hh,hbi⟩:=hrel;have HGi:=ai hg;have HHi:=ai hh;have HBi:=ai hbi;have f2:wr.cell? (Ad g 2)=some (.slice ap bc.length cp):=au hg 2 rfl;have f5:wr.cell? (Ad h 2)=some (.slice aq bc.length cq):=au hh 2 rfl;clear hg hh HSA alh alg mO f6 f7;by_cases hmt:m<bc.length
            · obtain⟨bp,ajR,hap,av8,ahw⟩:=(HE4.o.below hbi) (show 0<bc.length by omega);obtain⟨bq,ajQ,haq,av7,adE⟩:=(HG4.o.below hbi) (show 0<bc.length by omega);rw[hap] at f2;rw[haq] at f5;have z0:=ahw m hmt 0 (by omega);have z1:=ahw m hmt 1 (by omega);have z2:=ahw m hmt 2 (by omega);have v0:=adE m hmt 0 (by omega);have v1:=adE m hmt 1 (by omega);have v2:=adE m hmt 2 (by omega);rw[kW] at z0 v0;obtain⟨z,hz⟩:=ex (bc.getD m gV);rw[<- hz] at z0 z1 z2 v0 v1 v2;obtain⟨p,q,r⟩:=z;replace z0:wr.cell? (Ad bp (ajR+m*3))=some (I p):=z0;replace z1:wr.cell? (Ad bp (ajR+m*3+1))=some (I q):=z1;replace z2:wr.cell? (Ad bp (ajR+m*3+2))=some (I r):=z2;replace v0:wr.cell? (Ad bq (ajQ+m*3))=some (I p):=v0;replace v1:wr.cell? (Ad bq (ajQ+m*3+1))=some (I q):=v1;replace v2:wr.cell? (Ad bq (ajQ+m*3+2))=some (I r):=v2;have hEQ:=ah5 p q r;have hmi:(m:Int)<(bc.length:Int):=by omega
              have HGD:=ai (fun n=>aO HGi.o (nV (aK wr.heap.size wr) n) (aJ HGi.o));have HHD:=ai (fun n=>aO HHi.o (nV (aK wr.heap.size wr) n) (aJ HHi.o));have HBD:=ai (fun n=>nV HBi.o n);clear hz ahw adE hbi hap haq HGi HHi HBi;go_wp2
              go_quiet (fail)
              go_wp2;go_roundw
              case rel=>exact⟨m+1,by omega,by go_num,HGD.o _,HHD.o _,HBD.o _⟩
              case measure=>simp[intOf];omega
            · obtain rfl:bc.length=m:=by omega
              have HTE:=ai (HT3.o.below hbi);clear hbi hmt;go_wp2;go_roundw
              case rel=>exact⟨i+1,by omega,by go_num,HTE.o⟩
              case measure=>simp[intOf];omega
        · obtain rfl:k.aj.length=i:=by omega
          have HBE:=ai ht.bel;clear ht;go_wp2;go_ret;exact⟨rfl,HBE.o⟩
open Go.RowKit
theorem aeP (a b:Int) (V:World):(Op.equalIn 10000 91 (.agg #[I a,I b]) (.agg #[I a,I b])).run Tryz.prog V=.ok true V:=by
 simp[go_sem]
theorem MM (o:List sI) (a1 a2:Option Addr) (c1 c2:Nat) (w:World) (h1:wJ w a1 o) (h2:wJ w a2 o) (hn:o.length<=140737488351232) :
  Calls Tryz.prog 26 #[.slice a1 o.length c1,.slice a2 o.length c2] w fun e w'=>e=.returned (.bool true)/\Below w.heap.size w w':=by
 have H1:=ai h1;have H2:=ai h2;clear h1 h2;go_enter Tryz.func26,Tryz.ntmps26;go_wp2;go_loopw [5] (fun iv wr=>∃j:Nat,j<=o.length/\iv=I (j:Int)/\Below w.heap.size w wr) (fun iv _=>o.length-(intOf iv).toNat)
 case atStart=>exact⟨0,by omega,rfl,aK _ _⟩
 case round =>
  obtain⟨j,hj,rfl,hb⟩:=hrel;have HB:=ai hb;by_cases hlt:j<o.length
  · obtain⟨b,off,hao,hbl,eY⟩:=(H1.o.below hb) (by omega);obtain⟨b',off',hao',amM,MZ⟩:=(H2.o.below hb) (by omega);subst hao;subst hao';obtain⟨d0,d1⟩:=eY j hlt;obtain⟨e0,e1⟩:=MZ j hlt;obtain⟨⟨wp,wv⟩,hq⟩:∃q,q=oW o j:=⟨_,rfl⟩;rw[<- hq] at d0 d1 e0 e1;simp only at d0 d1 e0 e1;have hEQ:=aeP wp wv;clear hq eY MZ hb;go_wp2
    go_quiet (fail)
    go_wp2;go_roundw
    case rel=>exact⟨j+1,by omega,by go_num,nV HB.o _⟩
    case measure=>simp[intOf];omega
  · obtain rfl:j=o.length:=by omega
    clear hb;go_wp2;go_ret;exact⟨rfl,HB.o⟩
open Go.RowKit
theorem agX:(Tryz.prog.info? 3).map (fun i=>i.size)=some 1:=by kernel_rfl
theorem aeO (a0 a1 a2 a3 a4 a5 a6 a7:Int) (V:World):(Op.equalIn 9999 73 (.agg #[I a0,I a1,I a2,I a3,I a4,I a5,I a6,I a7]) (.agg #[I a0,I a1,I a2,I a3,I a4,I a5,I a6,I a7])).run Tryz.prog V=.ok true V:=by
 obtain⟨i,hi,hs⟩:∃i,Tryz.prog.info? 3=some i/\i.size=1:=by
  have h:=agX;cases hq:Tryz.prog.info? 3 with
  | none=>rw[hq] at h;cases h
  | some i=>rw[hq] at h;exact⟨i,rfl,Option.some.inj h⟩
 rw[run_equalIn_array (w:=V) 9998 _ _ Tryz.underlying73 hi];have hc:Tryz.prog.cellsOf 3=1:=by kernel_rfl
 have hpt:∀(xs:Array Value) (o:Nat) (v:Value) (U:World),xs[o]?=some v->(part 3 xs o).run Tryz.prog U=.ok v U:=fun xs o v U h=>by simp[part,go_sem,h]
 have hei:∀(x:Int) (U:World),(Op.equalIn 9998 3 (I x) (I x)).run Tryz.prog U=.ok true U:=fun x U=>by simpa using run_equalIn_int U 9997 3 .i64 .i64 x x Tryz.underlying3
 rw[hc];simp[Op.eqItems,hpt,hei,Pn]
open Go.RowKit
theorem MO (o:List bT) (a1 a2:Option Addr) (c1 c2:Nat) (w:World) (h1:uS w a1 o) (h2:uS w a2 o) (hn:o.length<=140737488351232) :
  Calls Tryz.prog 25 #[.slice a1 o.length c1,.slice a2 o.length c2] w fun e w'=>e=.returned (.bool true)/\Below w.heap.size w w':=by
 have H1:=ai h1;have H2:=ai h2;clear h1 h2;go_enter Tryz.func25,Tryz.ntmps25;go_wp2;go_loopw [5] (fun iv wr=>∃j:Nat,j<=o.length/\iv=I (j:Int)/\Below w.heap.size w wr) (fun iv _=>o.length-(intOf iv).toNat)
 case atStart=>exact⟨0,by omega,rfl,aK _ _⟩
 case round =>
  obtain⟨j,hj,rfl,hb⟩:=hrel;have HB:=ai hb;by_cases hlt:j<o.length
  · obtain⟨b,off,hao,hbl,eY⟩:=(H1.o.below hb) (by omega);obtain⟨b',off',hao',amM,MZ⟩:=(H2.o.below hb) (by omega);subst hao;subst hao';obtain⟨d0,d1,d2,d3,d4,d5,d6,d7,d8,d9,d10,d11,d12⟩:=eY j hlt;obtain⟨e0,e1,e2,e3,e4,e5,e6,e7,e8,e9,e10,e11,e12⟩:=MZ j hlt;obtain⟨q,hq⟩:=ex (aN o j);rw[<- hq] at d0 d1 d2 d3 d4 d5 d6 d7 d8 d9 d10 d11 d12 e0 e1 e2 e3 e4 e5 e6 e7 e8 e9 e10 e11 e12;have hE8:=aeO (q.r 0) (q.r 1) (q.r 2) (q.r 3) (q.r 4) (q.r 5) (q.r 6) (q.r 7);clear hq eY MZ hb;go_wp2
    go_quiet (fail)
    go_wp2;go_roundw
    case rel=>exact⟨j+1,by omega,by go_num,nV HB.o _⟩
    case measure=>simp[intOf];omega
  · obtain rfl:j=o.length:=by omega
    clear hb;go_wp2;go_ret;exact⟨rfl,HB.o⟩
open Go.RowKit
def Bu (w:World) (m:iF) (er:Int) (e:Ending) (w':World):Prop:=∃s0 n0 q0 s1 n1 q1 s2 n2 q2 s3 n3 q3 hd s5 q5 s6 q6,e=.returned (.tuple #[.agg #[.slice s0 n0 q0,.slice s1 n1 q1,.slice s2 n2 q2,.slice s3 n3 q3,I hd,.slice s5 m.procs.length q5,.slice s6 m.out.length q6],I er])/\gD w.heap.size m #[.slice s0 n0 q0,.slice s1 n1 q1,.slice s2 n2 q2,.slice s3 n3 q3,I hd,.slice s5 m.procs.length q5,.slice s6 m.out.length q6] w'/\Below w.heap.size w w'
theorem LB {w:World} {r:iF×Int} {e:Ending} {w':World} (h:WI w r e w'):Bu w r.1 r.2 e w':=by
 obtain⟨c,h1,h2,h3⟩:=h;obtain⟨s0,n0,q0,s1,n1,q1,s2,n2,q2,s3,n3,q3,hd,s5,q5,s6,q6,rfl⟩:=h2.cells;exact⟨s0,n0,q0,s1,n1,q1,s2,n2,q2,s3,n3,q3,hd,s5,q5,s6,q6,h1,h2,h3⟩
def En (x:Nat) (m:iF) (c:Array Value) (W:World):Prop:=W.heap[x]?=some (.cells c 34 (0,0))/\∃N,gD N m c W
theorem Em {N:Nat} {m:iF} {c:Array Value} {w:World} (h:gD N m c w):En w.heap.size m c (w.alloc (.cells c 34)):=⟨bE w c 34,N,h.later (aD.alloc _ _ _)⟩
theorem En.below {x:Nat} {m:iF} {c:Array Value} {W V:World} (h:En x m c W) (g:Below W.heap.size W V):En x m c V:=by
 obtain⟨h1,N,h2⟩:=h;exact⟨aO h1 g (aJ h1),N,h2.below g⟩
variable {N N':Nat} {m m':iF} {U:World} {v0 v1 v2 v3 v4 v5 v6 u0 u1 u2 u3 u4 u5 u6:Value}
theorem vv {a b c d e f g a' b' c' d' e' f' g':Value} (h:#[a,b,c,d,e,f,g]=#[a',b',c',d',e',f',g']):#[a,b,c,d,e]=#[a',b',c',d',e']/\f=f'/\g=g':=by
 simp only[Array.mk.injEq,AG,Dh] at h ⊢;obtain⟨h1,h2,h3,h4,h5,h6,h7⟩:=h;exact⟨⟨h1,h2,h3,h4,h5⟩,h6,h7⟩
theorem TC (h:gD N m #[v0,v1,v2,v3,v4,v5,v6] U) (h':gD N' m' #[u0,u1,u2,u3,u4,u5,u6] U) (e:m'.procs=m.procs) (hl:m.procs.length<=140737488351232) :
  Calls Tryz.prog 25 #[v5,u5] U fun e w'=>e=.returned (.bool true)/\Below U.heap.size U w':=by
 obtain⟨hs,a,ar,cr,ao,co,h1,h2,h3⟩:=h;obtain⟨hs',a',ar',cr',XQ,co',h1',h2',h3'⟩:=h';obtain⟨_,rfl,_⟩:=vv h2;obtain⟨_,rfl,_⟩:=vv h2';have p:=(h3 U (aD.refl _ _)).procs;have p':=(h3' U (aD.refl _ _)).procs;have p:uS U ar m.procs:=p;have p':uS U ar' m'.procs:=p';rw[e] at p';show Calls _ _ #[.slice ar m.procs.length cr,.slice ar' m'.procs.length cr'] _ _;rw[e];exact MO m.procs ar ar' cr cr' U p p' hl
theorem TB (h:gD N m #[v0,v1,v2,v3,v4,v5,v6] U) (h':gD N' m' #[u0,u1,u2,u3,u4,u5,u6] U) (e:m'.out=m.out) (hl:m.out.length<=140737488351232) :
  Calls Tryz.prog 26 #[v6,u6] U fun e w'=>e=.returned (.bool true)/\Below U.heap.size U w':=by
 obtain⟨hs,a,ar,cr,ao,co,h1,h2,h3⟩:=h;obtain⟨hs',a',ar',cr',XQ,co',h1',h2',h3'⟩:=h';obtain⟨_,_,rfl⟩:=vv h2;obtain⟨_,_,rfl⟩:=vv h2';have p:wJ U ao m.out:=(h3 U (aD.refl _ _)).out;have p':wJ U XQ m'.out:=(h3' U (aD.refl _ _)).out;rw[e] at p';show Calls _ _ #[.slice ao m.out.length co,.slice XQ m'.out.length co'] _ _;rw[e];exact MM m.out ao XQ co co' U p p' hl
theorem WW (h:gD N m #[v0,v1,v2,v3,v4,v5,v6] U) (h':gD N' m #[u0,u1,u2,u3,u4,u5,u6] U) (hf:∀hs,cC m.il.aM hs->nu (aV m.il hs)) :
  Calls Tryz.prog 39 #[.agg #[v0,v1,v2,v3,v4],.agg #[u0,u1,u2,u3,u4]] U fun e w'=>e=.returned (.bool true)/\Below U.heap.size U w':=by
 obtain⟨hs,a,ar,cr,ao,co,h1,h2,h3⟩:=h;obtain⟨hs',a',ar',cr',XQ,co',h1',h2',h3'⟩:=h';obtain⟨e1,_,_⟩:=vv h2;obtain⟨e2,_,_⟩:=vv h2';rw[e1,e2];have s:cC (aV m.il hs).aM hs':=by
  show hs'.map eT=hs.map eT;exact Eq.trans (show hs'.map eT=m.il.aM.map eT from h1') (Eq.symm (show hs.map eT=m.il.aM.map eT from h1))
 exact Jo (aV m.il hs) hs' a a' U (h3 U (aD.refl _ _)).il (h3' U (aD.refl _ _)).il s (hf hs h1)
theorem MG {c c':Array Value} (h:gD N m c U) (h':gD N' m c' U) (hf:∀hs,cC m.il.aM hs->nu (aV m.il hs)) (hp:m.procs.length<=140737488351232) (ho:m.out.length<=140737488351232) :
  Calls Tryz.prog 14 #[.agg c,.agg c'] U fun e w'=>e=.returned (.bool true)/\Below U.heap.size U w':=by
 obtain⟨s0,n0,q0,s1,n1,q1,s2,n2,q2,s3,n3,q3,hd,s5,q5,s6,q6,rfl⟩:=h.cells;obtain⟨t0,k0,p0,t1,k1,p1,t2,k2,p2,t3,k3,p3,hc,t5,p5,t6,p6,rfl⟩:=h'.cells;have HK:Hid (∀V,Below U.heap.size U V->Calls Tryz.prog 39 #[.agg #[.slice s0 n0 q0,.slice s1 n1 q1,.slice s2 n2 q2,.slice s3 n3 q3,I hd],.agg #[.slice t0 k0 p0,.slice t1 k1 p1,.slice t2 k2 p2,.slice t3 k3 p3,I hc]] V fun e w'=>e=.returned (.bool true)/\Below V.heap.size V w'):=fun V hV=>WW (h.below hV) (h'.below hV) hf
 have HP:Hid (∀V,Below U.heap.size U V->Calls Tryz.prog 25 #[.slice s5 m.procs.length q5,.slice t5 m.procs.length p5] V fun e w'=>e=.returned (.bool true)/\Below V.heap.size V w'):=fun V hV=>TC (h.below hV) (h'.below hV) rfl hp
 have HW:Hid (∀V,Below U.heap.size U V->Calls Tryz.prog 26 #[.slice s6 m.out.length q6,.slice t6 m.out.length p6] V fun e w'=>e=.returned (.bool true)/\Below V.heap.size V w'):=fun V hV=>TB (h.below hV) (h'.below hV) rfl ho
 obtain⟨n5,hn5⟩:=ex m.procs.length;obtain⟨n6,hn6⟩:=ex m.out.length;rw[<- hn5] at HP ⊢;rw[<- hn6] at HW ⊢;have gK:=ai (((aK U.heap.size U).alloc (aI _) (.cells #[.slice s0 n0 q0,.slice s1 n1 q1,.slice s2 n2 q2,.slice s3 n3 q3,I hd,.slice s5 n5 q5,.slice s6 n6 q6] 34)).alloc (by simp) (.cells #[.slice t0 k0 p0,.slice t1 k1 p1,.slice t2 k2 p2,.slice t3 k3 p3,I hc,.slice t5 n5 p5,.slice t6 n6 p6] 34));have X0:=ai (br (bE U #[.slice s0 n0 q0,.slice s1 n1 q1,.slice s2 n2 q2,.slice s3 n3 q3,I hd,.slice s5 n5 q5,.slice s6 n6 q6] 34) (.cells #[.slice t0 k0 p0,.slice t1 k1 p1,.slice t2 k2 p2,.slice t3 k3 p3,I hc,.slice t5 n5 p5,.slice t6 n6 p6] 34));have Y0:=ai (bE (U.alloc (.cells #[.slice s0 n0 q0,.slice s1 n1 q1,.slice s2 n2 q2,.slice s3 n3 q3,I hd,.slice s5 n5 q5,.slice s6 n6 q6] 34)) #[.slice t0 k0 p0,.slice t1 k1 p1,.slice t2 k2 p2,.slice t3 k3 p3,I hc,.slice t5 n5 p5,.slice t6 n6 p6] 34);have hsz1:(U.alloc (.cells #[.slice s0 n0 q0,.slice s1 n1 q1,.slice s2 n2 q2,.slice s3 n3 q3,I hd,.slice s5 n5 q5,.slice s6 n6 q6] 34)).heap.size=U.heap.size+1:=by simp
 rw[hsz1] at Y0;clear h h' hf hp ho hn5 hn6 hsz1;go_enter Tryz.func14,Tryz.ntmps14;go_upto_region 1 with fail;obtain⟨W,hW⟩:=ex ((U.alloc (.cells #[.slice s0 n0 q0,.slice s1 n1 q1,.slice s2 n2 q2,.slice s3 n3 q3,I hd,.slice s5 n5 q5,.slice s6 n6 q6] 34)).alloc (.cells #[.slice t0 k0 p0,.slice t1 k1 p1,.slice t2 k2 p2,.slice t3 k3 p3,I hc,.slice t5 n5 p5,.slice t6 n6 p6] 34));rw[<- hW] at gK X0 Y0 ⊢;obtain⟨x,hx⟩:=ex U.heap.size;obtain⟨y,hy⟩:=ex (U.heap.size+1);rw[<- hy] at Y0 ⊢;rw[<- hx] at X0 ⊢;clear hW hx hy;obtain⟨Us,a1,a2,a3,a4,a5,a6⟩:=nR X0.o;obtain⟨b0,b1,b2,b3,b4,b5,b6⟩:=nR Y0.o;go_wp2_with (first
  | (go_at_call 39;refine(HK.o _ gK.o).mono ?_;rintro e w1 ⟨rfl,hb⟩;have cN:=ai (gK.o.trans (hb.mono gK.o.size));have X1:=ai (aO X0.o hb (aJ X0.o));have Y1:=ai (aO Y0.o hb (aJ Y0.o));obtain⟨c0,c1,c2,c3,c4,c5,c6⟩:=nR X1.o;obtain⟨d0,d1,d2,d3,d4,d5,d6⟩:=nR Y1.o;clear hb)
  | (go_at_call 25;refine(HP.o _ cN.o).mono ?_;rintro e w2 ⟨rfl,hb⟩;have gQ:=ai (cN.o.trans (hb.mono cN.o.size));have X2:=ai (aO X1.o hb (aJ X1.o));have Y2:=ai (aO Y1.o hb (aJ Y1.o));obtain⟨e0,e1,e2,e3,e4,e5,e6⟩:=nR X2.o;obtain⟨f0,f1,f2,f3,f4,f5,f6⟩:=nR Y2.o;clear hb)
  | (go_at_call 26;refine(HW.o _ gQ.o).mono ?_;rintro e w3 ⟨rfl,hb⟩;have mO:=ai (gQ.o.trans (hb.mono gQ.o.size));clear hb))
 go_ret;exact⟨by simp,mO.o⟩
open Go.RowKit
end Go.Proofs.YtlgoihmkgaaemaaGreat
