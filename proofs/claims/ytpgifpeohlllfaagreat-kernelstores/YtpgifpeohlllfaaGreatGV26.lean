import Derived.Test.YtpgifpeohlllfaaGreatGV25
set_option maxHeartbeats 20000000
set_option linter.unusedVariables false
set_option maxRecDepth 100000
set_option linter.unusedSimpArgs false
namespace Go.Proofs.YtpgifpeohlllfaaGreat
namespace Go.Proofs.YtpgifpeohlllfaaGreat
open Go.RowKit
theorem adI (l m:List bc) (hl:l.length=m.length) (h:∀i,i<l.length->bB l i=bB m i):l=m:=by
 apply Ip
 grind [bB]
theorem Wt (l m:List bc) (b off cap b2 WV cap2:Nat) (w:World) (hl:qc w b off l) (hm:qc w b2 WV m) (hlen:l.length=m.length) (hn:l.length<=140737488351232) :
  Calls Tryz.prog 58 #[.slice (some (Ad b off)) l.length cap,.slice (some (Ad b2 WV)) m.length cap2] w fun e w'=>∃r:Bool,e=.returned (.bool r)/\(r=true↔l=m)/\Below w.heap.size w w':=by
 rw[<- hlen];have hle:Hid (l.length=m.length):=hlen;clear hlen;go_enter Tryz.func58,Tryz.ntmps58;go_wp2;go_loopw [5] (fun i wr=>∃k:Nat,k<=l.length/\i=I k/\(∀j,j<k->bB l j=bB m j)/\Below w.heap.size w wr) (fun i _=>l.length-(intOf i).toNat)
 case atStart=>grind [Below.refl]
 case round =>
  obtain⟨k,hk,rfl,hj,hb⟩:=hrel;have HJ:Hid (∀j,j<k->bB l j=bB m j):=hj;have HB:Hid (Below w.heap.size w wr):=hb;by_cases hlt:k<l.length
  · obtain⟨c0,c1,c2,c3⟩:=hl.below hb k hlt;obtain⟨e0,e1,e2,e3⟩:=hm.below hb k (by rw[<- hle.out];exact hlt);obtain⟨a,ha⟩:=ex (bB l k);obtain⟨d,hd⟩:=ex (bB m k);rw[<- ha] at c0 c1 c2 c3;rw[<- hd] at e0 e1 e2 e3;have HA:Hid (a=bB l k):=ha;have HD:Hid (d=bB m k):=hd;clear ha hd hj hb;have MU:(k:Int)<(l.length:Int):=by omega
    obtain⟨p1,n1,q1,z1⟩:=a;obtain⟨p2,n2,q2,z2⟩:=d;simp only at c0 c1 c2 c3 e0 e1 e2 e3;have aer:(p1==p2)=false∨(p1=p2/\(n1==n2)=false)∨(p1=p2/\n1=n2/\(q1==q2)=false)∨(p1=p2/\n1=n2/\q1=q2/\z2=!z1)∨(p1=p2/\n1=n2/\q1=q2/\z1=z2):=by
     by_cases h1:p1=p2
     · by_cases h2:n1=n2
       · by_cases h3:q1=q2
         · by_cases h4:z1=z2
           · exact .inr (.inr (.inr (.inr ⟨h1,h2,h3,h4⟩)))
           · exact .inr (.inr (.inr (.inl ⟨h1,h2,h3,by cases z1 <;> cases z2 <;> simp_all⟩)))
         · exact .inr (.inr (.inl ⟨h1,h2,by simp[h3]⟩))
       grind
     grind
    have alP:∀h:¬((⟨p1,n1,q1,z1⟩:bc)=⟨p2,n2,q2,z2⟩),l≠m:=fun h e=>h (by rw[HA.o,HD.o,e])
    have HDF:Hid (¬((⟨p1,n1,q1,z1⟩:bc)=⟨p2,n2,q2,z2⟩)->l≠m):=alP;clear alP;rcases aer with h1 | ⟨h1,h2⟩ | ⟨h1,h2,h3⟩ | ⟨h1,h2,h3,h4⟩ | ⟨h1,h2,h3,h4⟩
    · have hne:Hid (l≠m):=HDF.o (fun e=>by have:=fp bc.page e;simp at this;simp[this] at h1);clear HDF HA HD;go_wp2
      go_quiet (fail)
      go_wp2;go_ret;exact⟨false,rfl,⟨fun h=>(by cases h),fun h=>absurd h hne.out⟩,lR HB.o _⟩
    · have hne:Hid (l≠m):=HDF.o (fun e=>by have:=fp bc.aR e;simp at this;simp[this] at h2);clear HDF HA HD;subst h1;go_wp2
      go_quiet (fail)
      go_wp2;go_ret;exact⟨false,rfl,⟨fun h=>(by cases h),fun h=>absurd h hne.out⟩,lR HB.o _⟩
    · have hne:Hid (l≠m):=HDF.o (fun e=>by have:=fp bc.fV e;simp at this;simp[this] at h3);clear HDF HA HD;subst h1;subst h2;go_wp2
      go_quiet (fail)
      go_wp2;go_ret;exact⟨false,rfl,⟨fun h=>(by cases h),fun h=>absurd h hne.out⟩,lR HB.o _⟩
    · have hne:Hid (l≠m):=HDF.o (fun e=>by have:=fp bc.zero e;simp at this;rw[h4] at this;cases z1 <;> simp at this);clear HDF HA HD;subst h1;subst h2;subst h3;subst h4;go_wp2
      go_quiet (fail)
      go_wp2;go_ret;exact⟨false,rfl,⟨fun h=>(by cases h),fun h=>absurd h hne.out⟩,lR HB.o _⟩
    · have heq:Hid (bB l k=bB m k):=by show _=_;rw[<- HA.o,<- HD.o,h1,h2,h3,h4]
      clear HDF HA HD;subst h1;subst h2;subst h3;subst h4;go_wp2
      go_quiet (fail)
      go_wp2;go_roundw
      case rel=>exact⟨k+1,by omega,by go_num,fun j hj=>if e:j=k then by rw[e];exact heq.out else HJ.o j (by omega),lR HB.o _⟩
      case measure=>simp[intOf];omega
  · obtain rfl:k=l.length:=by omega
    go_wp2;go_ret;exact⟨true,rfl,⟨fun _=>adI l m hle.out HJ.o,fun _=>rfl⟩,HB.o⟩
theorem Zg (n m:Nat) (ao bo:Option Addr) (c d:Nat) (w:World) (h:n≠m) (hn:n<=140737488351232) (hm:m<=140737488351232) :
  Calls Tryz.prog 58 #[.slice ao n c,.slice bo m d] w fun e w'=>e=.returned (.bool false)/\w=w':=by
 have h':((n:Int) != (m:Int))=true:=by grind
 go_enter Tryz.func58,Tryz.ntmps58;go_wp2;go_ret
 simp_all
theorem MH (ao bo:Option Addr) (c d:Nat) (w:World) :
  Calls Tryz.prog 58 #[.slice ao 0 c,.slice bo 0 d] w fun e w'=>e=.returned (.bool true)/\w=w':=by
 go_enter Tryz.func58,Tryz.ntmps58;go_wp2;refine xO 1 ?_;rw[xK];go_wp2;go_ret
 simp_all
theorem MI (l m:List bc) (v u:Value) (w:World) (hl:eU w v l) (hm:eU w u m) (hn:l.length<=140737488351232) (zR:m.length<=140737488351232) :
  Calls Tryz.prog 58 #[v,u] w fun e w'=>∃r:Bool,e=.returned (.bool r)/\(r=true↔l=m)/\Below w.heap.size w w':=by
 obtain⟨ao,cap,rfl,h⟩:=hl;obtain⟨bo,cap2,rfl,h2⟩:=hm;by_cases hlen:l.length=m.length
 · rcases h with rfl | ⟨b,off,rfl,hl⟩
   · have hm0:m=[]:=jS hlen.symm;subst hm0;exact(MH ao bo cap cap2 w).mono fun e w' ⟨he,hw⟩=>⟨true,he,by simp,by grind [Below.refl]⟩
   · rcases h2 with rfl | ⟨b2,WV,rfl,hm⟩
     · have hl0:l=[]:=jS hlen;subst hl0;exact(MH _ bo cap cap2 w).mono fun e w' ⟨he,hw⟩=>⟨true,he,by simp,by grind [Below.refl]⟩
     · exact Wt l m b off cap b2 WV cap2 w hl hm hlen hn
 · exact(Zg l.length m.length ao bo cap cap2 w hlen hn zR).mono fun e w' ⟨he,hw⟩=>⟨false,he,⟨fun h=>(by cases h),fun h=>absurd (fp List.length h) hlen⟩,by grind [Below.refl]⟩
def mZ (n a b:Int):Bool:=decide (a<=n/\n<=b)
theorem zk (n a b:Int):mZ n a b=true↔a<=n/\n<=b:=⟨fun h=>jH h,fun h=>dh h⟩
theorem oL (n a b:Int) (w:World):Calls Tryz.prog 44 #[I n,I a,I b] w fun e w'=>e=.returned (.bool (mZ n a b))/\w=w':=gP n a b w
theorem Bd (a:bc):(eu a.page a.aR&&gQ a.fV)=true↔mZ a.page 1 255=true/\mZ a.aR 1 255=true/\a.page+a.aR-1<=255/\mZ a.fV 0 3=true:=by
 grind [iW,xt,zk]
theorem SE (l:List bc) (hn:¬255<l.length) (h:iU l l.length=false):br l=1:=by
 unfold br;rw[bl hn,bl];intro hg;have:=(sP l l.length hg).1
 grind
theorem SD (l:List bc) (hn:¬255<l.length) (h:kz l l.length=false):br l=1:=by
 unfold br;rw[bl hn,bl];intro hg;have:=(sP l l.length hg).2
 grind
theorem GN (l:List bc) (hn:¬255<l.length) (h:iU l l.length=true):br l=0↔fB (cu l)=l:=by
 grind [LV,qO,Kg]
theorem Zk (l:List bc) (hn:¬255<l.length) (h:br l≠0):br l=1:=by
 grind [br]
theorem Wy (ao:Option Addr) (cap:Nat) (w:World) :
  Calls Tryz.prog 126 #[.slice ao 0 cap] w fun e w'=>∃C,e=.returned (.tuple #[.agg C,.bool (kz [] 0)])/\Kc [] C/\Below w.heap.size w w':=by
 obtain⟨Z,hZ⟩:=ex (iE (fun _=>0));have hz:=F8;rw[<- hZ] at hz;have HZ:Hid (Z=iE (fun _=>0)):=hZ;have hZs:Z.size=256:=by grind [oP]
 have hZo:Z.all (·.oneCell')=true:=by grind [Bh]
 have HZO:Hid (Z.all (·.oneCell')=true):=hZo;clear hZ hZo;have HR:Hid (((w.alloc (.cells Z 177)).alloc (.cells Z 177)).heap[w.heap.size]?=some (.cells Z 177 (0,0))):=bE (bG w Z 177) _;have HA:Hid (((w.alloc (.cells Z 177)).alloc (.cells Z 177)).heap[w.heap.size+1]?=some (.cells Z 177 (0,0))):=by
  grind [World.alloc]
 have HB:Hid (Below w.heap.size w ((w.alloc (.cells Z 177)).alloc (.cells Z 177))):=((aK _ _).alloc (aM _) _).alloc (by simp) _;go_enter Tryz.func126,Tryz.ntmps126;go_wp2;refine xO 1 ?_;rw[xK];go_wp2_with (first | (refine ra rfl 177 _ rfl (w.heap.size+1) rfl 177 Z (0,0) _ HA.o Tryz.underlying177 rfl (by grind [ky]) ?_) | (refine rW rfl 177 _ _ rfl w.heap.size Z rfl rfl 177 Z HR.o (by rw[hZs];exact ky) rfl HZO.o ?_))
 have hfin:=ng _ _ _ Z 177 (0,0) HR.o;have hld:=TW (P:=Tryz.prog) _ _ 177 177 Z (0,0) _ hfin Tryz.underlying177 rfl (by grind [ky]);refine bR (v:=.tuple #[.agg Z,.bool true]) ?_ rfl ⟨Z,rfl,⟨hZs,HZO.o,fun _=>HZ.o⟩,below_setRow HB.o (aM _) _⟩;rw[TY rfl]
 simp_all [asAddr]
theorem uZ (l:List bc) (v:Value) (w:World) (h:eU w v l) (he:iU l l.length=true) (hn:l.length<=255) :
  Calls Tryz.prog 126 #[v] w fun e w'=>∃C,e=.returned (.tuple #[.agg C,.bool (kz l l.length)])/\Kc l C/\Below w.heap.size w w':=by
 obtain⟨ao,cap,rfl,h⟩:=h;rcases h with rfl | ⟨b,off,rfl,hl⟩
 · exact Wy ao cap w
 · exact Nz l b off cap w hl he hn
theorem LP (l:List bc) (v:Value) (w:World) (h:eU w v l) (he:iU l l.length=true) (hn:¬255<l.length) (ao:Option Addr) (cap:Nat) (hv:v=.slice ao l.length cap)
  (ahU:∀i,i<l.length->∃b off,ao=some (Ad b off)/\qc w b off l) :
  Calls Tryz.prog 90 #[.slice ao l.length cap] w fun e w'=>e=.returned (I (br l))/\Below w.heap.size w w':=by
 have HH:Hid (eU w (.slice ao l.length cap) l):=by show eU _ _ _;grind
 have HE:Hid (iU l l.length=true):=he;have HL:Hid (∀i,i<l.length->∃b off,ao=some (Ad b off)/\qc w b off l):=ahU;have HNl:Hid (¬255<l.length):=hn;have hn':¬(255:Int)<(l.length:Int):=by omega
 obtain⟨Z,hZ⟩:=ex (iE (fun _=>0));have hz:=F8;rw[<- hZ] at hz;have hZs:Z.size=256:=by grind [oP]
 clear h he hv ahU hZ;go_enter Tryz.func90,Tryz.ntmps90;go_wp2;go_loopw [3] (fun i wr=>∃k:Nat,k<=l.length/\i=I k/\Below w.heap.size w wr) (fun i _=>l.length-(intOf i).toNat)
 case atStart=>grind [Below.refl]
 case round =>
  obtain⟨k,hk,rfl,hb⟩:=hrel;have HB:Hid (Below w.heap.size w wr):=hb;by_cases hlt:k<l.length
  · obtain⟨b,off,hao,hl⟩:=HL.o k hlt;obtain⟨c0,c1,c2,c3⟩:=hl.below hb k hlt;have hw:=Dm l _ HE.o k hlt;have hw2:=(Bd (bB l k)).1 (by rw[hw.1,hw.2];rfl);have hbk:=(iW _ _).1 hw.1;obtain⟨a,ha⟩:=ex (bB l k);rw[<- ha] at c0 c1 c2 c3 hw2 hbk;clear ha hb hl hw;subst hao;obtain⟨d1,d2,d3,d4⟩:=hw2;have d3':¬255<a.page+a.aR-1:=by omega
    have MU:(k:Int)<(l.length:Int):=by omega
    go_wp2_with (first | (go_at_call 44;refine(oL _ _ _ _).mono ?_;rintro e w' ⟨rfl,rfl⟩))
    go_roundw
    case rel=>exact⟨k+1,by omega,by go_num,HB.o.alloc HB.o.size _⟩
    case measure=>simp[intOf];omega
  · obtain rfl:k=l.length:=by omega
    clear hb;go_wp2_with fail
    refine(uZ l (.slice ao l.length cap) _ (HH.o.below HB.o) HE.o (by omega)).mono ?_;rintro e w2 ⟨C,rfl,hC,hb2⟩;have LL:Hid (Kc l C):=hC;have Xo:C.size=256:=hC.1;have hCo:C.all (·.oneCell')=true:=hC.2.1;have HCO:Hid (C.all (·.oneCell')=true):=hCo;have fq:Hid (Below w.heap.size w w2):=HB.o.trans (hb2.mono HB.o.size);clear hC hCo hb2;have zR:Hid ((w2.alloc (.cells Z 177)).heap[w2.heap.size]?=some (.cells Z 177 (0,0))):=bG w2 Z 177;have HA0:Hid (((w2.alloc (.cells Z 177)).setRow w2.heap.size C).heap[w2.heap.size]?=some (.cells C 177 (0,0))):=ng _ _ _ _ 177 (0,0) zR.out;have jo:Hid (Below w.heap.size w ((w2.alloc (.cells Z 177)).setRow w2.heap.size C)):=below_setRow (fq.o.alloc fq.o.size _) fq.o.size _;by_cases hr:kz l l.length=true
    · have hCb:Hid (C=oM (cu l)):=LL.o.2.2 hr;go_wp2_with (first | (refine rW rfl 177 _ _ rfl w2.heap.size C rfl rfl 177 Z zR.out (by rw[Xo];exact ky) (by omega) HCO.o ?_) | (refine ra rfl 177 _ rfl w2.heap.size rfl 177 C (0,0) _ HA0.o Tryz.underlying177 rfl (by rw[Xo];exact ky) ?_))
      refine wp_load_row 177 _ rfl w2.heap.size rfl 177 C (0,0) _ HA0.o Tryz.underlying177 rfl (by rw[Xo];exact ky) ?_;go_wp2_with fail
      have hcall:=QB (cu l) (Kg l HE.o) ((w2.alloc (.cells Z 177)).setRow w2.heap.size C);rw[show iE (fun n=>jG (cu l n))=C from hCb.out.symm] at hcall;refine hcall.mono ?_;clear hcall;rintro e w3 ⟨v3,rfl,h3,hb4⟩;have kO:Hid (Below w.heap.size w w3):=jo.o.trans (hb4.mono jo.o.size);have HG3:Hid (eU w3 v3 (fB (cu l))):=h3;clear hb4 h3;go_wp2_with fail
      refine(MI (fB (cu l)) l v3 (.slice ao l.length cap) _ HG3.o (HH.o.below kO.o) (by have:=qX (cu l) 256;unfold fB;omega) (by omega)).mono ?_;rintro e w4 ⟨r,rfl,hr2,Cf⟩;have ym:Hid (Below w.heap.size w w4):=kO.o.trans (Cf.mono kO.o.size);have zC:Hid (r=true↔fB (cu l)=l):=hr2;clear Cf hr2;cases r
      · have hres:Hid (br l=1):=Zk l HNl.o (fun e=>by have:=zC.o.2 ((GN l HNl.o HE.o).1 e);cases this);go_wp2;go_ret;exact⟨iB hres.out.symm,ym.o⟩
      · have hres:Hid (br l=0):=(GN l HNl.o HE.o).2 (zC.o.1 rfl);go_wp2;go_ret;exact⟨iB hres.out.symm,ym.o⟩
    · have hr':kz l l.length=false:=by simpa using hr
      have hres:Hid (br l=1):=SD l HNl.o hr';go_wp2_with (refine rW rfl 177 _ _ rfl w2.heap.size C rfl rfl 177 Z zR.out (by rw[Xo];exact ky) (by omega) HCO.o ?_)
      go_ret;exact⟨iB hres.out.symm,jo.o⟩
theorem Nu (l:List bc) (b off cap:Nat) (w:World) (hl:qc w b off l) (hf:∀i,i<l.length->yr (bB l i)) (he:iU l l.length=false) (hn:¬255<l.length) :
  Calls Tryz.prog 90 #[.slice (some (Ad b off)) l.length cap] w fun e w'=>e=.returned (I (br l))/\Below w.heap.size w w':=by
 have hres:Hid (br l=1):=SE l hn he;have HE:Hid (iU l l.length=false):=he;have hn':¬(255:Int)<(l.length:Int):=by omega
 clear he;go_enter Tryz.func90,Tryz.ntmps90;go_wp2;go_loopw [3] (fun i wr=>∃k:Nat,k<=l.length/\i=I k/\iU l k=true/\Below w.heap.size w wr) (fun i _=>l.length-(intOf i).toNat)
 case atStart=>exact⟨0,by omega,rfl,rfl,aK _ _⟩
 case round =>
  obtain⟨k,hk,rfl,Ow,hb⟩:=hrel;have HB:Hid (Below w.heap.size w wr):=hb;have HEK:Hid (iU l k=true):=Ow;clear Ow;by_cases hlt:k<l.length
  · obtain⟨c0,c1,c2,c3⟩:=hl.below hb k hlt;obtain⟨f1,f2,f3⟩:=hf k hlt;have hw:=Bd (bB l k);obtain⟨a,ha⟩:=ex (bB l k);rw[<- ha] at c0 c1 c2 c3 f1 f2 f3 hw;have HW:Hid ((eu a.page a.aR&&gQ a.fV)=true↔mZ a.page 1 255=true/\mZ a.aR 1 255=true/\a.page+a.aR-1<=255/\mZ a.fV 0 3=true):=hw;have HA:Hid (a=bB l k):=ha;clear ha hb hw;have MU:(k:Int)<(l.length:Int):=by omega
    by_cases d1:mZ a.page 1 255=true
    · have b1:=(zk _ _ _).1 d1;by_cases d2:mZ a.aR 1 255=true
      · have b2:=(zk _ _ _).1 d2;by_cases d3:a.page+a.aR-1<=255
        · have d3':¬255<a.page+a.aR-1:=by omega
          by_cases d4:mZ a.fV 0 3=true
          · have hok:Hid (iU l (k+1)=true):=by show _=_;simp only[iU,HEK.o,ni];rw[<- HA.o];exact HW.o.2 ⟨d1,d2,d3,d4⟩
            go_wp2_with (first | (go_at_call 44;refine(oL _ _ _ _).mono ?_;rintro e w' ⟨rfl,rfl⟩))
            go_roundw
            case rel=>exact⟨k+1,by omega,by go_num,hok.out,HB.o.alloc HB.o.size _⟩
            case measure=>simp[intOf];omega
          · have d4':mZ a.fV 0 3=false:=by simpa using d4
            clear d4;go_wp2_with (first | (go_at_call 44;refine(oL _ _ _ _).mono ?_;rintro e w' ⟨rfl,rfl⟩))
            go_ret;exact⟨iB hres.out.symm,HB.o.alloc HB.o.size _⟩
        · have d3':255<a.page+a.aR-1:=by omega
          go_wp2_with (first | (go_at_call 44;refine(oL _ _ _ _).mono ?_;rintro e w' ⟨rfl,rfl⟩))
          go_ret;exact⟨iB hres.out.symm,HB.o.alloc HB.o.size _⟩
      · have d2':mZ a.aR 1 255=false:=by simpa using d2
        clear d2;go_wp2_with (first | (go_at_call 44;refine(oL _ _ _ _).mono ?_;rintro e w' ⟨rfl,rfl⟩))
        go_ret;exact⟨iB hres.out.symm,HB.o.alloc HB.o.size _⟩
    · have d1':mZ a.page 1 255=false:=by simpa using d1
      clear d1;go_wp2_with (first | (go_at_call 44;refine(oL _ _ _ _).mono ?_;rintro e w' ⟨rfl,rfl⟩))
      go_ret;exact⟨iB hres.out.symm,HB.o.alloc HB.o.size _⟩
  · exfalso;obtain rfl:k=l.length:=by omega
    have:=HEK.o;rw[HE.o] at this
    grind
theorem LQ (n:Nat) (ao:Option Addr) (cap:Nat) (w:World) (hn:255<n) (hm:n<=140737488351232) :
  Calls Tryz.prog 90 #[.slice ao n cap] w fun e w'=>e=.returned (I 2)/\Below w.heap.size w w':=by
 have hn':(255:Int)<(n:Int):=by omega
 go_enter Tryz.func90,Tryz.ntmps90;go_wp2;go_ret;exact⟨rfl,aK _ _⟩
theorem nJ (l:List bc) (v:Value) (w:World) (h:eU w v l) (hf:ed l) :
  Calls Tryz.prog 90 #[v] w fun e w'=>e=.returned (I (br l))/\Below w.heap.size w w':=by
 have h':=h;obtain⟨ao,cap,rfl,hh⟩:=h;by_cases hn:255<l.length
 · have e:br l=2:=by grind [br]
   rw[e];exact LQ l.length ao cap w hn hf.2
 · by_cases he:iU l l.length=true
   · refine LP l _ w h' he hn ao cap rfl (fun i hi=>?_)
     grind
   · have he':iU l l.length=false:=by grind
     rcases hh with e | ⟨b,off,hao,hl⟩
     · subst e;simp[iU] at he'
     · subst hao;exact Nu l b off cap w hl hf.1 he' hn
def jd (l:List bc) (page aR q:Int):Int:=if br l=0 then (if eu page aR&&gQ q then 0 else 3) else br l
theorem um (l:List bc) (v:Value) (page aR q:Int) (w:World) (h:eU w v l) (hf:ed l) (hp:nW page) (hn:nW aR) :
  Calls Tryz.prog 125 #[v,I page,I aR,I q] w fun e w'=>e=.returned (I (jd l page aR q))/\Below w.heap.size w w':=by
 by_cases hc:br l=0
 · have HW:Hid ((eu page aR&&gQ q)=true↔mZ page 1 255=true/\mZ aR 1 255=true/\page+aR-1<=255/\mZ q 0 3=true):=Bd ⟨page,aR,q,false⟩;have HS:Hid (jd l page aR q=if eu page aR&&gQ q then 0 else 3):=by show _=_;grind [jd]
   have hno:Hid (¬(mZ page 1 255=true/\mZ aR 1 255=true/\page+aR-1<=255/\mZ q 0 3=true)->jd l page aR q=3):=fun hx=>by
    grind [Hid.o]
   by_cases d1:mZ page 1 255=true
   · have b1:=(zk _ _ _).1 d1;by_cases d2:mZ aR 1 255=true
     · have b2:=(zk _ _ _).1 d2;by_cases d3:page+aR-1<=255
       · have d3':¬255<page+aR-1:=by omega
         by_cases d4:mZ q 0 3=true
         · have hres:Hid (jd l page aR q=0):=by grind [Hid.o]
           go_enter Tryz.func125,Tryz.ntmps125;go_wp2_with fail
           refine(nJ l v _ h hf).mono ?_;rintro e w1 ⟨rfl,hb1⟩;rw[hc];clear hc;go_wp2_with (first | (go_at_call 44;refine(oL _ _ _ _).mono ?_;rintro e w' ⟨rfl,rfl⟩))
           go_ret;exact⟨iB hres.out.symm,hb1⟩
         · have d4':mZ q 0 3=false:=by grind
           have hres:Hid (jd l page aR q=3):=hno.out (fun hx=>d4 hx.2.2.2);clear d4;go_enter Tryz.func125,Tryz.ntmps125;go_wp2_with fail
           refine(nJ l v _ h hf).mono ?_;rintro e w1 ⟨rfl,hb1⟩;rw[hc];clear hc;go_wp2_with (first | (go_at_call 44;refine(oL _ _ _ _).mono ?_;rintro e w' ⟨rfl,rfl⟩))
           go_ret;exact⟨iB hres.out.symm,hb1⟩
       · have d3':255<page+aR-1:=by omega
         have hres:Hid (jd l page aR q=3):=hno.out (fun hx=>d3 hx.2.2.1);go_enter Tryz.func125,Tryz.ntmps125;go_wp2_with fail
         refine(nJ l v _ h hf).mono ?_;rintro e w1 ⟨rfl,hb1⟩;rw[hc];clear hc;go_wp2_with (first | (go_at_call 44;refine(oL _ _ _ _).mono ?_;rintro e w' ⟨rfl,rfl⟩))
         go_ret;exact⟨iB hres.out.symm,hb1⟩
     · have d2':mZ aR 1 255=false:=by grind
       have hres:Hid (jd l page aR q=3):=hno.out (fun hx=>d2 hx.2.1);clear d2;go_enter Tryz.func125,Tryz.ntmps125;go_wp2_with fail
       refine(nJ l v _ h hf).mono ?_;rintro e w1 ⟨rfl,hb1⟩;rw[hc];clear hc;go_wp2_with (first | (go_at_call 44;refine(oL _ _ _ _).mono ?_;rintro e w' ⟨rfl,rfl⟩))
       go_ret;exact⟨iB hres.out.symm,hb1⟩
   · have d1':mZ page 1 255=false:=by grind
     have hres:Hid (jd l page aR q=3):=hno.out (fun hx=>d1 hx.1);clear d1;go_enter Tryz.func125,Tryz.ntmps125;go_wp2_with fail
     refine(nJ l v _ h hf).mono ?_;rintro e w1 ⟨rfl,hb1⟩;rw[hc];clear hc;go_wp2_with (first | (go_at_call 44;refine(oL _ _ _ _).mono ?_;rintro e w' ⟨rfl,rfl⟩))
     go_ret;exact⟨iB hres.out.symm,hb1⟩
 · have hres:Hid (jd l page aR q=br l):=by show _=_;grind [jd]
   have hc':(br l != 0)=true:=by grind
   go_enter Tryz.func125,Tryz.ntmps125;go_wp2_with fail
   refine(nJ l v _ h hf).mono ?_;rintro e w1 ⟨rfl,hb1⟩;go_wp2;go_ret;exact⟨iB hres.out.symm,hb1⟩
theorem ug {f g:Nat->Bool} (hs:∀k,g (k+1)=(g k&&f k)):∀(n i:Nat),i<n->f i=false->g n=false
 | 0,i,h,_=>absurd h (jQ _)
 | n+1,i,h,hf=>by
  rw[hs];by_cases c:i=n
  · grind
  · rw[ug hs n i (by omega) hf,vY]
theorem aaL {nf ns:Nat} {ar:List bc} {es:List bC} {i:Nat} (hi:i<es.length) (h:tO nf ns ar es i=false):pk nf ns ar es es.length=false:=ug (f:=tO nf ns ar es) (g:=pk nf ns ar es) (fun _=>rfl) _ i hi h
theorem U3 {hs:List bM} {ar:List bc} {i:Nat} (hi:i<255) (h:sk hs ar ((i:Int)+1)=false):nI hs ar 255=false:=ug (f:=fun n:Nat=>sk hs ar ((n:Int)+1)) (g:=nI hs ar) (fun _=>rfl) 255 i hi h
theorem Lg (k:aN) (a:fP) (s:dm) (aa ap:Option Addr) (ca cp:Nat) (w:World) (hA:eU w (.slice aa s.aZ.length ca) s.aZ) (hfA:ed s.aZ) (hE:dz bk 3 eD w ap s.aW) (hEn:bY s.aW.length) (hS:iM w a.aS k.aA) (hfS:qI k.aA) (rU:k.frames.length<=64) (hns:k.slots.length<=512) :
  Calls Tryz.prog 46 #[.agg (aT a k),.agg #[.bool s.live,.slice aa s.aZ.length ca,.slice ap s.aW.length cp]] w fun e w'=>e=.returned (.bool (mI k.aA k.frames.length k.slots.length s))/\Below w.heap.size w w':=by
 obtain⟨WA,iK⟩:=ex ((w.alloc (.cells (aT a k) 27)).alloc (.cells #[.bool s.live,.slice aa s.aZ.length ca,.slice ap s.aW.length cp] 43));have hb0:Below w.heap.size w WA:=by simp_all [aK,mq]
 have kb:WA.heap[w.heap.size]?=some (.cells (aT a k) 27 (0,0)):=by grind [bE,bG]
 have sb:WA.heap[w.heap.size+1]?=some (.cells #[.bool s.live,.slice aa s.aZ.length ca,.slice ap s.aW.length cp] 43 (0,0)):=by
  grind [bG,World.size_alloc]
 have HC:Hid (∀V,Below WA.heap.size WA V->(V.cell? (Ad w.heap.size 0)=some (.slice a.aS k.aA.length a.cS)/\V.cell? (Ad w.heap.size 1)=some (.slice a.aF k.frames.length a.cF)/\V.cell? (Ad w.heap.size 2)=some (.slice a.aL k.slots.length a.cL))/\V.cell? (Ad (w.heap.size+1) 0)=some (.bool s.live)/\V.cell? (Ad (w.heap.size+1) 1)=some (.slice aa s.aZ.length ca)/\V.cell? (Ad (w.heap.size+1) 2)=some (.slice ap s.aW.length cp)):=fun V hV=>by
  have h1:=aQ kb hV (aO kb);have h2:=aQ sb hV (aO sb);exact⟨⟨aB h1 0 rfl,aB h1 1 rfl,aB h1 2 rfl⟩,aB h2 0 rfl,aB h2 1 rfl,aB h2 2 rfl⟩
 have px:Hid (∀V m,Below WA.heap.size WA V->m<s.aW.length->∃eb eo,ap=some (Ad eb eo)/\(V.cell? (Ad eb (eo+m*3))=some (I (aI s.aW m).page)/\V.cell? (Ad eb (eo+m*3+1))=some (I (aI s.aW m).kind)/\V.cell? (Ad eb (eo+m*3+2))=some (I (aI s.aW m).loc))/\∀U,Below V.heap.size V U->0<m->U.cell? ⟨eb,eo+(m-1)*3,none⟩=some (I (aI s.aW (m-1)).page)):=fun V m hV hm=>by
  have hvw:=hb0.trans (hV.mono hb0.size);obtain⟨eb,eo,g1,g2,g3⟩:=(hE.below hvw) (by omega);have z0:=g3 m hm 0 (by omega);rw[gV] at z0;refine⟨eb,eo,g1,⟨z0,g3 m hm 1 (by omega),g3 m hm 2 (by omega)⟩,fun U hU h0=>?_⟩;have z1:=g3 (m-1) (by omega) 0 (by omega);rw[gV] at z1;exact(hU.cell (p:=⟨eb,eo+(m-1)*3,none⟩) g2).trans z1
 have HCA:Hid (Calls Tryz.prog 90 #[.slice aa s.aZ.length ca] WA fun e w'=>e=.returned (I (br s.aZ))/\Below WA.heap.size WA w'):=nJ s.aZ _ WA (hA.below hb0) hfA;have Kz:br s.aZ=0->Hid (∀V p,Below WA.heap.size WA V->Calls Tryz.prog 31 #[.slice aa s.aZ.length ca,I p] V fun e w'=>e=.returned (.tuple #[.agg #[I (aV s.aZ p).1.page,I (aV s.aZ p).1.aR,I (aV s.aZ p).1.fV,.bool (aV s.aZ p).1.zero],.bool (aV s.aZ p).2])/\Below V.heap.size V w'):=fun hc V p hV=>tC _ _ p V (hA.below (hb0.trans (hV.mono hb0.size))) hc
 have DY:Hid (∀V p,Below WA.heap.size WA V->Calls Tryz.prog 91 #[.slice a.aS k.aA.length a.cS,I p] V fun e w'=>(∃q1 q2 q3 q4 q5,e=.returned (.tuple #[.agg #[I q1,.string q2,.slice q3 q4 q5],.bool (dJ k.aA p).isSome]))/\Below V.heap.size V w'):=fun V p hV=>(Es k.aA a.aS a.cS p V (hS.below (hb0.trans (hV.mono hb0.size))) hfS.1).mono fun e w' ⟨h1,h2⟩=>⟨⟨_,_,_,_,_,h1⟩,h2⟩
 have LG:=ai gP;have iG:=ai iK;have eO:=ai hb0;have hel:s.aW.length<=140737488351232:=hEn;have hal:s.aZ.length<=140737488351232:=hfA.2;obtain⟨nf,Xc⟩:=ex k.frames.length;obtain⟨ns,alx⟩:=ex k.slots.length;unfold aT at iG ⊢;rw[<- Xc] at HC iG rU ⊢;rw[<- alx] at HC iG hns ⊢;obtain⟨lv,ar,es⟩:=s;simp only at HC px HCA Kz DY iG hel hal ⊢;clear hA hfA hE hEn hS hfS hb0 kb sb iK Xc alx;obtain⟨⟨k0,k1,k2⟩,x0,x1,x2⟩:=HC.o WA (aK _ _);unfold mI;simp only;cases lv with
 | false =>
  rw[bl (by decide)];rcases(show ¬ar.length=0∨ar.length=0 by omega) with h1 | h1
  · have b1:((ar.length:Int)==0)=false:=by grind
    clear px HCA Kz DY HC;go_enter Tryz.func46,Tryz.ntmps46;go_upto_region 1 with fail;rw[<- iG.o];go_wp2;go_ret;exact⟨by simp[h1],eO.o⟩
  · have H1:=ai h1;clear px HCA Kz DY HC h1;go_enter Tryz.func46,Tryz.ntmps46;go_upto_region 1 with fail;rw[<- iG.o];have h1:=H1.o;go_wp2;go_ret;exact⟨fp (fun b=>Ending.returned (.bool b)) (by grind),eO.o⟩
 | true =>
  rw[bf rfl];by_cases hc:br ar=0
  · have yo:=Kz hc;rw[hc] at HCA;rw[dh hc,ni];clear Kz hc;have pq:Hid (∀i,i<es.length->tO nf ns ar es i=false->pk nf ns ar es es.length=false):=fun i hi h=>aaL hi h
    have ZF:Hid (∀i,pk nf ns ar es (i+1)=(pk nf ns ar es i&&tO nf ns ar es i)):=fun _=>rfl
    obtain⟨ER,hER⟩:=ex (pk nf ns ar es es.length);have HER:=ai hER;rw[<- hER];rw[<- hER] at pq;clear hER;have QL:Hid (∀i:Nat,i<255->sk k.aA ar ((i:Int)+1)=false->nI k.aA ar 255=false):=fun i hi h=>U3 hi h
    have HSR:Hid (∀i:Nat,nI k.aA ar (i+1)=(nI k.aA ar i&&sk k.aA ar ((i:Int)+1))):=fun _=>rfl
    obtain⟨SR,hSR⟩:=ex (nI k.aA ar 255);have Nr:=ai hSR;rw[<- hSR];rw[<- hSR] at QL;clear hSR;go_enter Tryz.func46,Tryz.ntmps46;go_upto_region 1 with fail;rw[<- iG.o];go_upto_region 5 with(go_at_call 90;refine HCA.o.mono ?_;rintro e w1 ⟨rfl,hb1⟩;have cT:=ai hb1;clear hb1)
    clear k0 k1 k2 x0 x1 x2 HCA;go_wp2;go_loopw [5] (fun iv wq=>∃i:Nat,i<=es.length/\iv=I (i:Int)/\pk nf ns ar es i=true/\Below WA.heap.size WA wq) (fun iv _=>es.length-(intOf iv).toNat)
    case atStart=>exact⟨0,by omega,rfl,rfl,cT.o⟩
    case round =>
     obtain⟨i,hi,rfl,hei,iF⟩:=hrel;have HEI:=ai hei;have Wl:=ai iF;obtain⟨⟨k0,k1,k2⟩,x0,x1,x2⟩:=HC.o wr iF;clear hei;by_cases hlt:i<es.length
     · have Gd:(i:Int)<(es.length:Int):=by omega
       obtain⟨eb,eo,hap,⟨z0,z1,z2⟩,hpv⟩:=px.o wr i iF hlt;have HPV:=ai hpv;have Sj:=ai (pq.o i hlt);have ZG:=ai (ZF.o i);have sS:Hid (tO nf ns ar es i=((aV ar (aI es i).page).2&&(i==0 || decide ((aI es (i-1)).page<(aI es i).page))&&(if (aI es i).kind=1 then decide (0<=(aI es i).loc/\(aI es i).loc<=(nf:Int)-1) else if (aI es i).kind=2 then decide (0<=(aI es i).loc/\(aI es i).loc<=(ns:Int)-1) else false))):=rfl;obtain⟨en,hen⟩:=ex (aI es i);rw[<- hen] at z0 z1 z2 sS;obtain⟨pg,kx,lx⟩:=en;simp only at z0 z1 z2 sS;have HAP:=ai (fun V hV=>yo.o V pg hV);subst hap;clear hpv hen pq ZF HER;obtain⟨W1,hW1⟩:=ex (wr.alloc (.cells #[I pg,I kx,I lx] 45));have hb1:Below wr.heap.size wr W1:=by grind [Below.refl,Below.alloc]
       have xb1:W1.heap[wr.heap.size]?=some (.cells #[I pg,I kx,I lx] 45 (0,0)):=by grind [bG]
       have D4:=iF.trans (hb1.mono iF.size);have HBL:=ai hb1;have gK:=ai D4;have HXB:=ai xb1;have E4:=ai hW1;obtain⟨F,hF⟩:=ex (aV ar pg);rw[<- hF] at sS HAP;obtain⟨⟨g1,g2,g3,g4⟩,gf⟩:=F;simp only at sS HAP;go_upto_region 9 with fail;rw[<- E4.o];clear hW1 hb1 iF k0 k1 k2 x0 x1 x2 z0 z1 z2 hF;obtain⟨⟨k0,k1,k2⟩,x0,x1,x2⟩:=HC.o W1 D4;obtain⟨y0,y1,y2⟩:=og xb1;obtain⟨xb,KS⟩:=ex wr.heap.size;rw[<- KS] at HXB y0 y1 y2 ⊢;clear D4 xb1 KS;go_upto_region 10 with(go_at_call 31;refine(HAP.o _ gK.o).mono ?_;rintro e w2 ⟨rfl,hb2⟩;have fq:=ai hb2;clear hb2)
       have hb3:Below W1.heap.size W1 (w2.alloc (.cells #[I g1,I g2,I g3,.bool g4] 47)):=fq.o.alloc fq.o.size _;obtain⟨W3,hW3⟩:=ex (w2.alloc (.cells #[I g1,I g2,I g3,.bool g4] 47));rw[<- hW3] at hb3 ⊢;have hb4:=gK.o.trans (hb3.mono gK.o.size);have kO:=ai hb4;obtain⟨y0,y1,y2⟩:=og (aQ HXB.o hb3 (aO HXB.o));obtain⟨⟨k0,k1,k2⟩,x0,x1,x2⟩:=HC.o W3 hb4;have HPW:=ai (HPV.o W3 (HBL.o.trans (hb3.mono HBL.o.size)));clear hW3 hb3 hb4 HAP HPV;by_cases hgo:gf=true/\(i=0∨(aI es (i-1)).page<pg)
       · obtain⟨rfl,ho⟩:=hgo;have E5:Hid (tO nf ns ar es i=if kx=1 then decide (0<=lx/\lx<=(nf:Int)-1) else if kx=2 then decide (0<=lx/\lx<=(ns:Int)-1) else false):=(show tO nf ns ar es i=if kx=1 then decide (0<=lx/\lx<=(nf:Int)-1) else if kx=2 then decide (0<=lx/\lx<=(ns:Int)-1) else false by
          rw[sS.o]
          simp_all)
         clear sS;go_cut [68] (fun c wx=>c=.bool false/\Below W3.heap.size W3 wx)
         case first =>
          rcases(show i=0∨(0<i/\(aI es (i-1)).page<pg) by omega) with h0 | ⟨h0,h1⟩
          · subst h0;go_region;go_wp2_with fail
            go_meet
            simp[aK,Below.drew]
          · have pw:=HPW.o h0;have Ug:(i:Int)-1=((i-1:Nat):Int):=by omega
            have h2:¬pg<=(aI es (i-1)).page:=by omega
            go_region;go_wp2_with fail
            go_meet
            simp[aK,Below.drew]
         case rest =>
          obtain⟨rfl,hbc⟩:=hcut;have Cf:=kO.o.trans (hbc.mono kO.o.size);have ym:=ai Cf;obtain⟨⟨k0,k1,k2⟩,x0,x1,x2⟩:=HC.o wc Cf;have t:∀{o:Nat} {u:Value},W3.cell? (Ad xb o)=some u->wc.cell? (Ad xb o)=some u:=fun {o u} h=>(hbc.cell (p:=(Ad xb o)) (nQ W3 _ h)).trans h
          have u1:=t y1;have u2:=t y2;clear Cf hbc t y0 y1 y2 HPW kO;rcases(show kx=1∨kx=2∨(¬kx=1/\¬kx=2) by omega) with hk | hk | ⟨hk,hk2⟩
          · rw[bf hk] at E5;subst hk;obtain⟨bv,hbv⟩:=ex (decide (0<=lx/\lx<=(nf:Int)-1));have HWV:=ai (fun V=>LG.o lx 0 ((nf:Int)-1) V);rw[<- hbv] at E5 HWV;clear hbv;cases bv with
            | false =>
             have e0:=Sj.o E5.o;subst e0;go_wp2_with (go_at_call 44;refine(HWV.o _).mono ?_;rintro e w6 ⟨rfl,rfl⟩)
             go_ret;exact⟨rfl,eO.o.trans (ym.o.mono eO.o.size)⟩
            | true =>
             have Sm:Hid (pk nf ns ar es (i+1)=true):=(show pk nf ns ar es (i+1)=true by rw[ZG.o,HEI.o,E5.o];rfl);go_wp2_with (go_at_call 44;refine(HWV.o _).mono ?_;rintro e w6 ⟨rfl,rfl⟩)
             go_roundw
             case rel=>grind [Hid.o]
             grind [intOf]
          · rw[bl (by omega),bf hk] at E5;subst hk;obtain⟨bv,hbv⟩:=ex (decide (0<=lx/\lx<=(ns:Int)-1));have HWV:=ai (fun V=>LG.o lx 0 ((ns:Int)-1) V);rw[<- hbv] at E5 HWV;clear hbv;cases bv with
            | false =>
             have e0:=Sj.o E5.o;subst e0;go_wp2_with (go_at_call 44;refine(HWV.o _).mono ?_;rintro e w6 ⟨rfl,rfl⟩)
             go_ret;exact⟨rfl,eO.o.trans (ym.o.mono eO.o.size)⟩
            | true =>
             have Sm:Hid (pk nf ns ar es (i+1)=true):=(show pk nf ns ar es (i+1)=true by rw[ZG.o,HEI.o,E5.o];rfl);go_wp2_with (go_at_call 44;refine(HWV.o _).mono ?_;rintro e w6 ⟨rfl,rfl⟩)
             go_roundw
             case rel=>grind [Hid.o]
             grind [intOf]
          · rw[bl hk,bl hk2] at E5;have b1:(kx==1)=false:=by simp_all
            have b2:(kx==2)=false:=by simp_all
            have e0:=Sj.o E5.o;subst e0;go_wp2;go_ret;exact⟨rfl,eO.o.trans (ym.o.mono eO.o.size)⟩
       · have hR0:tO nf ns ar es i=false:=by
          rw[sS.o];cases gf with
          | false=>simp
          | true =>
           have h1:¬i=0:=fun e=>hgo ⟨rfl,.inl e⟩
           have h2:¬(aI es (i-1)).page<pg:=fun e=>hgo ⟨rfl,.inr e⟩
           simp[h1,h2]
         have e0:=Sj.o hR0;subst e0;clear sS hR0 Sj ZG HEI;cases gf with
         | false =>
          go_region;go_wp2;go_ret;exact⟨rfl,(eO.o.trans (kO.o.mono eO.o.size)).drew⟩
         | true =>
          have h0:0<i:=by
           by_cases e:i=0
           · simp_all
           · omega
          have h2:pg<=(aI es (i-1)).page:=by
           simp_all
          have pw:=HPW.o h0;have Ug:(i:Int)-1=((i-1:Nat):Int):=by omega
          have him:((i:Int)-1).toNat=i-1:=by omega
          clear hgo;go_region;go_wp2;go_ret;exact⟨rfl,(eO.o.trans (kO.o.mono eO.o.size)).drew⟩
     · obtain rfl:i=es.length:=by omega
       have he1:ER=true:=HER.o.trans HEI.o;subst he1;clear HER HEI pq ZF px LG;go_wp2;go_loopw [9] (fun iv wq=>∃n:Nat,n<=255/\iv=I ((n:Int)+1)/\nI k.aA ar n=true/\Below WA.heap.size WA wq) (fun iv _=>256-(intOf iv).toNat)
       case atStart=>exact⟨0,by omega,rfl,rfl,Wl.o⟩
       case round =>
        obtain⟨n,hn,rfl,hsn,hb⟩:=hrel;have HS:=ai hsn;have HBn:=ai hb;obtain⟨⟨k0,k1,k2⟩,x0,x1,x2⟩:=HC.o wr hb;clear hsn hb;by_cases hlt:n<255
        · have hni:(n:Int)+1<=255:=by omega
          have HAP:=ai (yo.o wr ((n:Int)+1) HBn.o);have HSQ:=ai (fun V hV=>DY.o V ((n:Int)+1) hV);have HX:=ai (QL.o n hlt);have HY:=ai (HSR.o n);have HD:Hid (sk k.aA ar ((n:Int)+1)=!((aV ar ((n:Int)+1)).2&&(!(aV ar ((n:Int)+1)).1.zero&&!(dJ k.aA ((n:Int)+1)).isSome))):=rfl;obtain⟨F,hF⟩:=ex (aV ar ((n:Int)+1));obtain⟨H,hH⟩:=ex ((dJ k.aA ((n:Int)+1)).isSome);rw[<- hF] at HAP HD;rw[<- hH] at HSQ HD;obtain⟨⟨g1,g2,g3,g4⟩,gf⟩:=F;simp only at HAP HD;clear hF hH yo DY QL HSR Nr;go_upto_region 24 with(go_at_call 31;refine HAP.o.mono ?_;rintro e w2 ⟨rfl,hb2⟩;have fq:=ai hb2;clear hb2)
          have hb3:=(HBn.o.trans (fq.o.mono HBn.o.size)).alloc (HBn.o.trans (fq.o.mono HBn.o.size)).size (.cells #[I g1,I g2,I g3,.bool g4] 47);have ab:=bG w2 #[I g1,I g2,I g3,.bool g4] 47;obtain⟨W3,hW3⟩:=ex (w2.alloc (.cells #[I g1,I g2,I g3,.bool g4] 47));obtain⟨gb,hgb⟩:=ex w2.heap.size;rw[<- hW3] at hb3 ab ⊢;rw[<- hgb] at ab ⊢;have jo:=ai hb3;have HGB:=ai ab;obtain⟨⟨k0,k1,k2⟩,x0,x1,x2⟩:=HC.o W3 hb3;clear hW3 hgb hb3 ab;go_upto_region 25 with(go_at_call 91;refine(HSQ.o _ jo.o).mono ?_;rintro e w4 ⟨⟨q1,q2,q3,q4,q5,rfl⟩,hb4⟩;have kO:=ai (jo.o.trans (hb4.mono jo.o.size));have HG4:=ai (aQ HGB.o hb4 (aO HGB.o));clear hb4)
          have ym:=ai (kO.o.alloc kO.o.size (.cells #[I q1,.string q2,.slice q3 q4 q5] 50));have g5:=aB (v:=.bool g4) (bE HG4.o (.cells #[I q1,.string q2,.slice q3 q4 q5] 50)) 3 rfl;obtain⟨W5,Oz⟩:=ex (w4.alloc (.cells #[I q1,.string q2,.slice q3 q4 q5] 50));rw[<- Oz] at ym g5 ⊢;clear Oz k0 k1 k2 x0 x1 x2;by_cases hbad:gf=true/\g4=false/\H=false
          · obtain⟨rfl,rfl,rfl⟩:=hbad;have e0:SR=false:=HX.o (by rw[HD.o];rfl);subst e0;go_wp2;go_ret;exact⟨rfl,eO.o.trans (ym.o.mono eO.o.size)⟩
          · have Sm:Hid (nI k.aA ar (n+1)=true):=(show nI k.aA ar (n+1)=true by
             rw[HY.o,HS.o,HD.o];revert hbad;cases gf <;> cases g4 <;> cases H <;> simp)
            cases gf with
            | false =>
             go_wp2;go_roundw
             case rel=>exact⟨n+1,by omega,by go_num,Sm.o,ym.o⟩
             case measure=>simp[intOf];omega
            | true =>
             cases g4 with
             | true =>
              go_wp2;go_roundw
              case rel=>exact⟨n+1,by omega,by go_num,Sm.o,ym.o⟩
              case measure=>simp[intOf];omega
             | false =>
              cases H with
              | true =>
               go_wp2;go_roundw
               case rel=>exact⟨n+1,by omega,by go_num,Sm.o,ym.o⟩
               case measure=>simp[intOf];omega
              | false=>exact absurd ⟨rfl,rfl,rfl⟩ hbad
        · obtain rfl:n=255:=by omega
          have e1:SR=true:=Nr.o.trans HS.o;subst e1;go_wp2;go_ret;exact⟨rfl,eO.o.trans (HBn.o.mono eO.o.size)⟩
  · have cb:(br ar != 0)=true:=by grind
    rw[dE hc,vY];clear Kz px DY;go_enter Tryz.func46,Tryz.ntmps46;go_upto_region 1 with fail;rw[<- iG.o];go_wp2_with (go_at_call 90;refine HCA.o.mono ?_;rintro e w1 ⟨rfl,hb1⟩;have cT:=ai hb1;clear hb1)
    go_ret;exact⟨rfl,eO.o.trans (cT.o.mono eO.o.size)⟩
end Go.Proofs.YtpgifpeohlllfaaGreat
end Go.Proofs.YtpgifpeohlllfaaGreat
