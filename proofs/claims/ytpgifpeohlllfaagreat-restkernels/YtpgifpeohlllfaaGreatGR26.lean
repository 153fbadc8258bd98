import Derived.Test.YtpgifpeohlllfaaGreatGR25
set_option maxHeartbeats 20000000
set_option linter.unusedVariables false
set_option maxRecDepth 100000
set_option linter.unusedSimpArgs false
namespace Go.Proofs.YtpgifpeohlllfaaGreat
open Go.RowKit
theorem ZO (l m:List aZ) (hl:l.length=m.length) (h:∀i,i<l.length->bl l i=bl m i):l=m:=by
 apply Kp
 grind [bl]
theorem Sj (l m:List aZ) (b off cap b2 SL cap2:Nat) (w:World) (hl:oI w b off l) (hm:oI w b2 SL m) (hlen:l.length=m.length) (hn:l.length<=140737488351232) :
  Calls Tryz.prog 58 #[.slice (some (Ad b off)) l.length cap,.slice (some (Ad b2 SL)) m.length cap2] w fun e w'=>∃r:Bool,e=.returned (.bool r)/\(r=true↔l=m)/\Below w.heap.size w w':=by
 rw[<- hlen];have hle:Hid (l.length=m.length):=hlen;clear hlen;go_enter Tryz.func58,Tryz.ntmps58;go_wp2;go_loopw [5] (fun i wr=>∃k:Nat,k<=l.length/\i=I k/\(∀j,j<k->bl l j=bl m j)/\Below w.heap.size w wr) (fun i _=>l.length-(intOf i).toNat)
 case atStart=>grind [Below.refl]
 case round =>
  obtain⟨k,hk,rfl,hj,hb⟩:=hrel;have HJ:Hid (∀j,j<k->bl l j=bl m j):=hj;have HB:Hid (Below w.heap.size w wr):=hb;by_cases hlt:k<l.length
  · obtain⟨c0,c1,c2,c3⟩:=hl.below hb k hlt;obtain⟨e0,e1,e2,e3⟩:=hm.below hb k (by rw[<- hle.out];exact hlt);obtain⟨a,ha⟩:=ex (bl l k);obtain⟨d,hd⟩:=ex (bl m k);rw[<- ha] at c0 c1 c2 c3;rw[<- hd] at e0 e1 e2 e3;have HA:Hid (a=bl l k):=ha;have HD:Hid (d=bl m k):=hd;clear ha hd hj hb;have JC:(k:Int)<(l.length:Int):=by omega
    obtain⟨p1,n1,q1,z1⟩:=a;obtain⟨p2,n2,q2,z2⟩:=d;simp only at c0 c1 c2 c3 e0 e1 e2 e3;have aaw:(p1==p2)=false∨(p1=p2/\(n1==n2)=false)∨(p1=p2/\n1=n2/\(q1==q2)=false)∨(p1=p2/\n1=n2/\q1=q2/\z2=!z1)∨(p1=p2/\n1=n2/\q1=q2/\z1=z2):=by
     by_cases h1:p1=p2
     · by_cases h2:n1=n2
       · by_cases h3:q1=q2
         · by_cases h4:z1=z2
           · exact .inr (.inr (.inr (.inr ⟨h1,h2,h3,h4⟩)))
           · exact .inr (.inr (.inr (.inl ⟨h1,h2,h3,by cases z1 <;> cases z2 <;> simp_all⟩)))
         · exact .inr (.inr (.inl ⟨h1,h2,by simp[h3]⟩))
       grind
     grind
    have ahB:∀h:¬((⟨p1,n1,q1,z1⟩:aZ)=⟨p2,n2,q2,z2⟩),l≠m:=fun h e=>h (by rw[HA.o,HD.o,e])
    have HDF:Hid (¬((⟨p1,n1,q1,z1⟩:aZ)=⟨p2,n2,q2,z2⟩)->l≠m):=ahB;clear ahB;rcases aaw with h1 | ⟨h1,h2⟩ | ⟨h1,h2,h3⟩ | ⟨h1,h2,h3,h4⟩ | ⟨h1,h2,h3,h4⟩
    · have hne:Hid (l≠m):=HDF.o (fun e=>by have:=dQ aZ.page e;simp at this;simp[this] at h1);clear HDF HA HD;go_wp2
      go_quiet (fail)
      go_wp2;go_ret;exact⟨false,rfl,⟨fun h=>(by cases h),fun h=>absurd h hne.out⟩,ko HB.o _⟩
    · have hne:Hid (l≠m):=HDF.o (fun e=>by have:=dQ aZ.bC e;simp at this;simp[this] at h2);clear HDF HA HD;subst h1;go_wp2
      go_quiet (fail)
      go_wp2;go_ret;exact⟨false,rfl,⟨fun h=>(by cases h),fun h=>absurd h hne.out⟩,ko HB.o _⟩
    · have hne:Hid (l≠m):=HDF.o (fun e=>by have:=dQ aZ.fI e;simp at this;simp[this] at h3);clear HDF HA HD;subst h1;subst h2;go_wp2
      go_quiet (fail)
      go_wp2;go_ret;exact⟨false,rfl,⟨fun h=>(by cases h),fun h=>absurd h hne.out⟩,ko HB.o _⟩
    · have hne:Hid (l≠m):=HDF.o (fun e=>by have:=dQ aZ.zero e;simp at this;rw[h4] at this;cases z1 <;> simp at this);clear HDF HA HD;subst h1;subst h2;subst h3;subst h4;go_wp2
      go_quiet (fail)
      go_wp2;go_ret;exact⟨false,rfl,⟨fun h=>(by cases h),fun h=>absurd h hne.out⟩,ko HB.o _⟩
    · have heq:Hid (bl l k=bl m k):=by show _=_;rw[<- HA.o,<- HD.o,h1,h2,h3,h4]
      clear HDF HA HD;subst h1;subst h2;subst h3;subst h4;go_wp2
      go_quiet (fail)
      go_wp2;go_roundw
      case rel=>exact⟨k+1,by omega,by go_num,fun j hj=>if e:j=k then by rw[e];exact heq.out else HJ.o j (by omega),ko HB.o _⟩
      case measure=>simp[intOf];omega
  · obtain rfl:k=l.length:=by omega
    go_wp2;go_ret;exact⟨true,rfl,⟨fun _=>ZO l m hle.out HJ.o,fun _=>rfl⟩,HB.o⟩
theorem UZ (n m:Nat) (ao bo:Option Addr) (c d:Nat) (w:World) (h:n≠m) (hn:n<=140737488351232) (hm:m<=140737488351232) :
  Calls Tryz.prog 58 #[.slice ao n c,.slice bo m d] w fun e w'=>e=.returned (.bool false)/\w=w':=by
 have h':((n:Int) != (m:Int))=true:=by grind
 go_enter Tryz.func58,Tryz.ntmps58;go_wp2;go_ret
 simp_all
theorem Jm (ao bo:Option Addr) (c d:Nat) (w:World) :
  Calls Tryz.prog 58 #[.slice ao 0 c,.slice bo 0 d] w fun e w'=>e=.returned (.bool true)/\w=w':=by
 go_enter Tryz.func58,Tryz.ntmps58;go_wp2;refine vo 1 ?_;rw[vg];go_wp2;go_ret
 simp_all
theorem Jn (l m:List aZ) (v u:Value) (w:World) (hl:fu w v l) (hm:fu w u m) (hn:l.length<=140737488351232) (Fg:m.length<=140737488351232) :
  Calls Tryz.prog 58 #[v,u] w fun e w'=>∃r:Bool,e=.returned (.bool r)/\(r=true↔l=m)/\Below w.heap.size w w':=by
 obtain⟨ao,cap,rfl,h⟩:=hl;obtain⟨bo,cap2,rfl,h2⟩:=hm;by_cases hlen:l.length=m.length
 · rcases h with rfl | ⟨b,off,rfl,hl⟩
   · have hm0:m=[]:=iT hlen.symm;subst hm0;exact(Jm ao bo cap cap2 w).mono fun e w' ⟨he,hw⟩=>⟨true,he,by simp,by grind [Below.refl]⟩
   · rcases h2 with rfl | ⟨b2,SL,rfl,hm⟩
     · have hl0:l=[]:=iT hlen;subst hl0;exact(Jm _ bo cap cap2 w).mono fun e w' ⟨he,hw⟩=>⟨true,he,by simp,by grind [Below.refl]⟩
     · exact Sj l m b off cap b2 SL cap2 w hl hm hlen hn
 · exact(UZ l.length m.length ao bo cap cap2 w hlen hn Fg).mono fun e w' ⟨he,hw⟩=>⟨false,he,⟨fun h=>(by cases h),fun h=>absurd (dQ List.length h) hlen⟩,by grind [Below.refl]⟩
open Go.RowKit
def sX (n a b:Int):Bool:=decide (a<=n/\n<=b)
theorem EM (n a b:Int):sX n a b=true↔a<=n/\n<=b:=⟨fun h=>kr h,fun h=>dI h⟩
theorem tU (n a b:Int) (w:World):Calls Tryz.prog 44 #[I n,I a,I b] w fun e w'=>e=.returned (.bool (sX n a b))/\w=w':=gv n a b w
theorem D4 (a:aZ):(fC a.page a.bC&&jx a.fI)=true↔sX a.page 1 255=true/\sX a.bC 1 255=true/\a.page+a.bC-1<=255/\sX a.fI 0 3=true:=by
 grind [nX,Jo,EM]
theorem OE (l:List aZ) (hn:¬255<l.length) (h:gL l l.length=false):bB l=1:=by
 unfold bB;rw[bf hn,bf];intro hg;have:=(Aq l l.length hg).1
 grind
theorem OD (l:List aZ) (hn:¬255<l.length) (h:js l l.length=false):bB l=1:=by
 unfold bB;rw[bf hn,bf];intro hg;have:=(Aq l l.length hg).2
 grind
theorem D5 (l:List aZ) (hn:¬255<l.length) (h:gL l l.length=true):bB l=0↔gw (eK l)=l:=by
 grind [ID,uY,Hb]
theorem U7 (l:List aZ) (hn:¬255<l.length) (h:bB l≠0):bB l=1:=by
 grind [bB]
theorem Sp (ao:Option Addr) (cap:Nat) (w:World) :
  Calls Tryz.prog 126 #[.slice ao 0 cap] w fun e w'=>∃C,e=.returned (.tuple #[.agg C,.bool (js [] 0)])/\G8 [] C/\Below w.heap.size w w':=by
 obtain⟨Z,hZ⟩:=ex (iC (fun _=>0));have hz:=Sh;rw[<- hZ] at hz;have HZ:Hid (Z=iC (fun _=>0)):=hZ;have hZs:Z.size=256:=by grind [s9]
 have hZo:Z.all (·.oneCell')=true:=by grind [yQ]
 have HZO:Hid (Z.all (·.oneCell')=true):=hZo;clear hZ hZo;have HR:Hid (((w.alloc (.cells Z 177)).alloc (.cells Z 177)).heap[w.heap.size]?=some (.cells Z 177 (0,0))):=bM (bO w Z 177) _;have HA:Hid (((w.alloc (.cells Z 177)).alloc (.cells Z 177)).heap[w.heap.size+1]?=some (.cells Z 177 (0,0))):=by
  grind [World.alloc]
 have HB:Hid (Below w.heap.size w ((w.alloc (.cells Z 177)).alloc (.cells Z 177))):=((aK _ _).alloc (aI _) _).alloc (by simp) _;go_enter Tryz.func126,Tryz.ntmps126;go_wp2;refine vo 1 ?_;rw[vg];go_wp2_with (first | (refine vq rfl 177 _ rfl (w.heap.size+1) rfl 177 Z (0,0) _ HA.o Tryz.underlying177 rfl (by grind [mD]) ?_) | (refine xD rfl 177 _ _ rfl w.heap.size Z rfl rfl 177 Z HR.o (by rw[hZs];exact mD) rfl HZO.o ?_))
 have hfin:=oP _ _ _ Z 177 (0,0) HR.o;have hld:=PS (P:=Tryz.prog) _ _ 177 177 Z (0,0) _ hfin Tryz.underlying177 rfl (by grind [mD]);refine cm (v:=.tuple #[.agg Z,.bool true]) ?_ rfl ⟨Z,rfl,⟨hZs,HZO.o,fun _=>HZ.o⟩,below_setRow HB.o (aI _) _⟩;rw[PU rfl]
 simp_all [asAddr]
theorem MH (l:List aZ) (v:Value) (w:World) (h:fu w v l) (he:gL l l.length=true) (hn:l.length<=255) :
  Calls Tryz.prog 126 #[v] w fun e w'=>∃C,e=.returned (.tuple #[.agg C,.bool (js l l.length)])/\G8 l C/\Below w.heap.size w w':=by
 obtain⟨ao,cap,rfl,h⟩:=h;rcases h with rfl | ⟨b,off,rfl,hl⟩
 · exact Sp ao cap w
 · exact J6 l b off cap w hl he hn
theorem Ix (l:List aZ) (v:Value) (w:World) (h:fu w v l) (he:gL l l.length=true) (hn:¬255<l.length) (ao:Option Addr) (cap:Nat) (hv:v=.slice ao l.length cap)
  (adQ:∀i,i<l.length->∃b off,ao=some (Ad b off)/\oI w b off l) :
  Calls Tryz.prog 90 #[.slice ao l.length cap] w fun e w'=>e=.returned (I (bB l))/\Below w.heap.size w w':=by
 have HH:Hid (fu w (.slice ao l.length cap) l):=by show fu _ _ _;grind
 have HE:Hid (gL l l.length=true):=he;have HL:Hid (∀i,i<l.length->∃b off,ao=some (Ad b off)/\oI w b off l):=adQ;have HNl:Hid (¬255<l.length):=hn;have hn':¬(255:Int)<(l.length:Int):=by omega
 obtain⟨Z,hZ⟩:=ex (iC (fun _=>0));have hz:=Sh;rw[<- hZ] at hz;have hZs:Z.size=256:=by grind [s9]
 clear h he hv adQ hZ;go_enter Tryz.func90,Tryz.ntmps90;go_wp2;go_loopw [3] (fun i wr=>∃k:Nat,k<=l.length/\i=I k/\Below w.heap.size w wr) (fun i _=>l.length-(intOf i).toNat)
 case atStart=>grind [Below.refl]
 case round =>
  obtain⟨k,hk,rfl,hb⟩:=hrel;have HB:Hid (Below w.heap.size w wr):=hb;by_cases hlt:k<l.length
  · obtain⟨b,off,hao,hl⟩:=HL.o k hlt;obtain⟨c0,c1,c2,c3⟩:=hl.below hb k hlt;have hw:=Au l _ HE.o k hlt;have hw2:=(D4 (bl l k)).1 (by rw[hw.1,hw.2];rfl);have hbk:=(nX _ _).1 hw.1;obtain⟨a,ha⟩:=ex (bl l k);rw[<- ha] at c0 c1 c2 c3 hw2 hbk;clear ha hb hl hw;subst hao;obtain⟨d1,d2,d3,d4⟩:=hw2;have d3':¬255<a.page+a.bC-1:=by omega
    have JC:(k:Int)<(l.length:Int):=by omega
    go_wp2_with (first | (go_at_call 44;refine(tU _ _ _ _).mono ?_;rintro e w' ⟨rfl,rfl⟩))
    go_roundw
    case rel=>exact⟨k+1,by omega,by go_num,HB.o.alloc HB.o.size _⟩
    case measure=>simp[intOf];omega
  · obtain rfl:k=l.length:=by omega
    clear hb;go_wp2_with fail
    refine(MH l (.slice ao l.length cap) _ (HH.o.below HB.o) HE.o (by omega)).mono ?_;rintro e w2 ⟨C,rfl,hC,hb2⟩;have ET:Hid (G8 l C):=hC;have hCs:C.size=256:=hC.1;have hCo:C.all (·.oneCell')=true:=hC.2.1;have HCO:Hid (C.all (·.oneCell')=true):=hCo;have gj:Hid (Below w.heap.size w w2):=HB.o.trans (hb2.mono HB.o.size);clear hC hCo hb2;have Fg:Hid ((w2.alloc (.cells Z 177)).heap[w2.heap.size]?=some (.cells Z 177 (0,0))):=bO w2 Z 177;have HA0:Hid (((w2.alloc (.cells Z 177)).setRow w2.heap.size C).heap[w2.heap.size]?=some (.cells C 177 (0,0))):=oP _ _ _ _ 177 (0,0) Fg.out;have kJ:Hid (Below w.heap.size w ((w2.alloc (.cells Z 177)).setRow w2.heap.size C)):=below_setRow (gj.o.alloc gj.o.size _) gj.o.size _;by_cases hr:js l l.length=true
    · have hCb:Hid (C=ve (eK l)):=ET.o.2.2 hr;go_wp2_with (first | (refine xD rfl 177 _ _ rfl w2.heap.size C rfl rfl 177 Z Fg.out (by rw[hCs];exact mD) (by omega) HCO.o ?_) | (refine vq rfl 177 _ rfl w2.heap.size rfl 177 C (0,0) _ HA0.o Tryz.underlying177 rfl (by rw[hCs];exact mD) ?_))
      refine wp_load_row 177 _ rfl w2.heap.size rfl 177 C (0,0) _ HA0.o Tryz.underlying177 rfl (by rw[hCs];exact mD) ?_;go_wp2_with fail
      have hcall:=MK (eK l) (Hb l HE.o) ((w2.alloc (.cells Z 177)).setRow w2.heap.size C);rw[show iC (fun n=>nZ (eK l n))=C from hCb.out.symm] at hcall;refine hcall.mono ?_;clear hcall;rintro e w3 ⟨v3,rfl,h3,hb4⟩;have pZ:Hid (Below w.heap.size w w3):=kJ.o.trans (hb4.mono kJ.o.size);have HG3:Hid (fu w3 v3 (gw (eK l))):=h3;clear hb4 h3;go_wp2_with fail
      refine(Jn (gw (eK l)) l v3 (.slice ao l.length cap) _ HG3.o (HH.o.below pZ.o) (by have:=pD (eK l) 256;unfold gw;omega) (by omega)).mono ?_;rintro e w4 ⟨r,rfl,hr2,Bk⟩;have EJ:Hid (Below w.heap.size w w4):=pZ.o.trans (Bk.mono pZ.o.size);have Hh:Hid (r=true↔gw (eK l)=l):=hr2;clear Bk hr2;cases r
      · have hres:Hid (bB l=1):=U7 l HNl.o (fun e=>by have:=Hh.o.2 ((D5 l HNl.o HE.o).1 e);cases this);go_wp2;go_ret;exact⟨jT hres.out.symm,EJ.o⟩
      · have hres:Hid (bB l=0):=(D5 l HNl.o HE.o).2 (Hh.o.1 rfl);go_wp2;go_ret;exact⟨jT hres.out.symm,EJ.o⟩
    · have hr':js l l.length=false:=by simpa using hr
      have hres:Hid (bB l=1):=OD l HNl.o hr';go_wp2_with (refine xD rfl 177 _ _ rfl w2.heap.size C rfl rfl 177 Z Fg.out (by rw[hCs];exact mD) (by omega) HCO.o ?_)
      go_ret;exact⟨jT hres.out.symm,kJ.o⟩
open Go.RowKit
theorem J2 (l:List aZ) (b off cap:Nat) (w:World) (hl:oI w b off l) (hf:∀i,i<l.length->wa (bl l i)) (he:gL l l.length=false) (hn:¬255<l.length) :
  Calls Tryz.prog 90 #[.slice (some (Ad b off)) l.length cap] w fun e w'=>e=.returned (I (bB l))/\Below w.heap.size w w':=by
 have hres:Hid (bB l=1):=OE l hn he;have HE:Hid (gL l l.length=false):=he;have hn':¬(255:Int)<(l.length:Int):=by omega
 clear he;go_enter Tryz.func90,Tryz.ntmps90;go_wp2;go_loopw [3] (fun i wr=>∃k:Nat,k<=l.length/\i=I k/\gL l k=true/\Below w.heap.size w wr) (fun i _=>l.length-(intOf i).toNat)
 case atStart=>exact⟨0,by omega,rfl,rfl,aK _ _⟩
 case round =>
  obtain⟨k,hk,rfl,Vg,hb⟩:=hrel;have HB:Hid (Below w.heap.size w wr):=hb;have HEK:Hid (gL l k=true):=Vg;clear Vg;by_cases hlt:k<l.length
  · obtain⟨c0,c1,c2,c3⟩:=hl.below hb k hlt;obtain⟨f1,f2,f3⟩:=hf k hlt;have hw:=D4 (bl l k);obtain⟨a,ha⟩:=ex (bl l k);rw[<- ha] at c0 c1 c2 c3 f1 f2 f3 hw;have HW:Hid ((fC a.page a.bC&&jx a.fI)=true↔sX a.page 1 255=true/\sX a.bC 1 255=true/\a.page+a.bC-1<=255/\sX a.fI 0 3=true):=hw;have HA:Hid (a=bl l k):=ha;clear ha hb hw;have JC:(k:Int)<(l.length:Int):=by omega
    by_cases d1:sX a.page 1 255=true
    · have b1:=(EM _ _ _).1 d1;by_cases d2:sX a.bC 1 255=true
      · have b2:=(EM _ _ _).1 d2;by_cases d3:a.page+a.bC-1<=255
        · have d3':¬255<a.page+a.bC-1:=by omega
          by_cases d4:sX a.fI 0 3=true
          · have hok:Hid (gL l (k+1)=true):=by show _=_;simp only[gL,HEK.o,lT];rw[<- HA.o];exact HW.o.2 ⟨d1,d2,d3,d4⟩
            go_wp2_with (first | (go_at_call 44;refine(tU _ _ _ _).mono ?_;rintro e w' ⟨rfl,rfl⟩))
            go_roundw
            case rel=>exact⟨k+1,by omega,by go_num,hok.out,HB.o.alloc HB.o.size _⟩
            case measure=>simp[intOf];omega
          · have d4':sX a.fI 0 3=false:=by simpa using d4
            clear d4;go_wp2_with (first | (go_at_call 44;refine(tU _ _ _ _).mono ?_;rintro e w' ⟨rfl,rfl⟩))
            go_ret;exact⟨jT hres.out.symm,HB.o.alloc HB.o.size _⟩
        · have d3':255<a.page+a.bC-1:=by omega
          go_wp2_with (first | (go_at_call 44;refine(tU _ _ _ _).mono ?_;rintro e w' ⟨rfl,rfl⟩))
          go_ret;exact⟨jT hres.out.symm,HB.o.alloc HB.o.size _⟩
      · have d2':sX a.bC 1 255=false:=by simpa using d2
        clear d2;go_wp2_with (first | (go_at_call 44;refine(tU _ _ _ _).mono ?_;rintro e w' ⟨rfl,rfl⟩))
        go_ret;exact⟨jT hres.out.symm,HB.o.alloc HB.o.size _⟩
    · have d1':sX a.page 1 255=false:=by simpa using d1
      clear d1;go_wp2_with (first | (go_at_call 44;refine(tU _ _ _ _).mono ?_;rintro e w' ⟨rfl,rfl⟩))
      go_ret;exact⟨jT hres.out.symm,HB.o.alloc HB.o.size _⟩
  · exfalso;obtain rfl:k=l.length:=by omega
    have:=HEK.o;rw[HE.o] at this
    grind
theorem Iy (n:Nat) (ao:Option Addr) (cap:Nat) (w:World) (hn:255<n) (hm:n<=140737488351232) :
  Calls Tryz.prog 90 #[.slice ao n cap] w fun e w'=>e=.returned (I 2)/\Below w.heap.size w w':=by
 have hn':(255:Int)<(n:Int):=by omega
 go_enter Tryz.func90,Tryz.ntmps90;go_wp2;go_ret;exact⟨rfl,aK _ _⟩
theorem J3 (l:List aZ) (v:Value) (w:World) (h:fu w v l) (hf:fU l) :
  Calls Tryz.prog 90 #[v] w fun e w'=>e=.returned (I (bB l))/\Below w.heap.size w w':=by
 have h':=h;obtain⟨ao,cap,rfl,hh⟩:=h;by_cases hn:255<l.length
 · have e:bB l=2:=by grind [bB]
   rw[e];exact Iy l.length ao cap w hn hf.2
 · by_cases he:gL l l.length=true
   · refine Ix l _ w h' he hn ao cap rfl (fun i hi=>?_)
     grind
   · have he':gL l l.length=false:=by grind
     rcases hh with e | ⟨b,off,hao,hl⟩
     · subst e;simp[gL] at he'
     · subst hao;exact J2 l b off cap w hl hf.1 he' hn
open Go.RowKit
theorem rQ {f g:Nat->Bool} (hs:∀k,g (k+1)=(g k&&f k)):∀(n i:Nat),i<n->f i=false->g n=false
 | 0,i,h,_=>absurd h (gN _)
 | n+1,i,h,hf=>by
  rw[hs];by_cases c:i=n
  · grind
  · rw[rQ hs n i (by omega) hf,tX]
theorem Wp {nf ns:Nat} {ar:List aZ} {es:List bG} {i:Nat} (hi:i<es.length) (h:rB nf ns ar es i=false):nI nf ns ar es es.length=false:=rQ (f:=rB nf ns ar es) (g:=nI nf ns ar es) (fun _=>rfl) _ i hi h
theorem QO {hs:List bR} {ar:List aZ} {i:Nat} (hi:i<255) (h:qq hs ar ((i:Int)+1)=false):l6 hs ar 255=false:=rQ (f:=fun n:Nat=>qq hs ar ((n:Int)+1)) (g:=l6 hs ar) (fun _=>rfl) 255 i hi h
theorem H0 (k:aN) (a:fR) (s:cO) (aa ap:Option Addr) (ca cp:Nat) (w:World) (hA:fu w (.slice aa s.bk.length ca) s.bk) (hfA:fU s.bk) (hE:cJ bj 3 dW w ap s.aU) (hEn:bT s.aU.length) (hS:fX w a.aS k.aD) (hfS:nk k.aD) (tq:k.frames.length<=64) (hns:k.slots.length<=512) :
  Calls Tryz.prog 46 #[.agg (bg a k),.agg #[.bool s.live,.slice aa s.bk.length ca,.slice ap s.aU.length cp]] w fun e w'=>e=.returned (.bool (lh k.aD k.frames.length k.slots.length s))/\Below w.heap.size w w':=by
 obtain⟨WA,jG⟩:=ex ((w.alloc (.cells (bg a k) 27)).alloc (.cells #[.bool s.live,.slice aa s.bk.length ca,.slice ap s.aU.length cp] 43));have hb0:Below w.heap.size w WA:=by simp_all [aK,m9]
 have kb:WA.heap[w.heap.size]?=some (.cells (bg a k) 27 (0,0)):=by grind [bM,bO]
 have sb:WA.heap[w.heap.size+1]?=some (.cells #[.bool s.live,.slice aa s.bk.length ca,.slice ap s.aU.length cp] 43 (0,0)):=by
  grind [bO,World.size_alloc]
 have HC:Hid (∀V,Below WA.heap.size WA V->(V.cell? (Ad w.heap.size 0)=some (.slice a.aS k.aD.length a.cS)/\V.cell? (Ad w.heap.size 1)=some (.slice a.aF k.frames.length a.cF)/\V.cell? (Ad w.heap.size 2)=some (.slice a.aL k.slots.length a.cL))/\V.cell? (Ad (w.heap.size+1) 0)=some (.bool s.live)/\V.cell? (Ad (w.heap.size+1) 1)=some (.slice aa s.bk.length ca)/\V.cell? (Ad (w.heap.size+1) 2)=some (.slice ap s.aU.length cp)):=fun V hV=>by
  have h1:=aQ kb hV (aT kb);have h2:=aQ sb hV (aT sb);exact⟨⟨aB h1 0 rfl,aB h1 1 rfl,aB h1 2 rfl⟩,aB h2 0 rfl,aB h2 1 rfl,aB h2 2 rfl⟩
 have oD:Hid (∀V m,Below WA.heap.size WA V->m<s.aU.length->∃eb eo,ap=some (Ad eb eo)/\(V.cell? (Ad eb (eo+m*3))=some (I (aH s.aU m).page)/\V.cell? (Ad eb (eo+m*3+1))=some (I (aH s.aU m).kind)/\V.cell? (Ad eb (eo+m*3+2))=some (I (aH s.aU m).loc))/\∀U,Below V.heap.size V U->0<m->U.cell? ⟨eb,eo+(m-1)*3,none⟩=some (I (aH s.aU (m-1)).page)):=fun V m hV hm=>by
  have hvw:=hb0.trans (hV.mono hb0.size);obtain⟨eb,eo,g1,g2,g3⟩:=(hE.below hvw) (by omega);have z0:=g3 m hm 0 (by omega);rw[fW] at z0;refine⟨eb,eo,g1,⟨z0,g3 m hm 1 (by omega),g3 m hm 2 (by omega)⟩,fun U hU h0=>?_⟩;have z1:=g3 (m-1) (by omega) 0 (by omega);rw[fW] at z1;exact(hU.cell (p:=⟨eb,eo+(m-1)*3,none⟩) g2).trans z1
 have Xw:Hid (Calls Tryz.prog 90 #[.slice aa s.bk.length ca] WA fun e w'=>e=.returned (I (bB s.bk))/\Below WA.heap.size WA w'):=J3 s.bk _ WA (hA.below hb0) hfA;have Z4:bB s.bk=0->Hid (∀V p,Below WA.heap.size WA V->Calls Tryz.prog 31 #[.slice aa s.bk.length ca,I p] V fun e w'=>e=.returned (.tuple #[.agg #[I (bh s.bk p).1.page,I (bh s.bk p).1.bC,I (bh s.bk p).1.fI,.bool (bh s.bk p).1.zero],.bool (bh s.bk p).2])/\Below V.heap.size V w'):=fun hc V p hV=>yL _ _ p V (hA.below (hb0.trans (hV.mono hb0.size))) hc
 have Xo:Hid (∀V p,Below WA.heap.size WA V->Calls Tryz.prog 91 #[.slice a.aS k.aD.length a.cS,I p] V fun e w'=>(∃q1 q2 q3 q4 q5,e=.returned (.tuple #[.agg #[I q1,.string q2,.slice q3 q4 q5],.bool (cY k.aD p).isSome]))/\Below V.heap.size V w'):=fun V p hV=>(B0 k.aD a.aS a.cS p V (hS.below (hb0.trans (hV.mono hb0.size))) hfS.1).mono fun e w' ⟨h1,h2⟩=>⟨⟨_,_,_,_,_,h1⟩,h2⟩
 have Oi:=ai gv;have lI:=ai jG;have eU:=ai hb0;have hel:s.aU.length<=140737488351232:=hEn;have hal:s.bk.length<=140737488351232:=hfA.2;obtain⟨nf,SU⟩:=ex k.frames.length;obtain⟨ns,ahh⟩:=ex k.slots.length;unfold bg at lI ⊢;rw[<- SU] at HC lI tq ⊢;rw[<- ahh] at HC lI hns ⊢;obtain⟨lv,ar,es⟩:=s;simp only at HC oD Xw Z4 Xo lI hel hal ⊢;clear hA hfA hE hEn hS hfS hb0 kb sb jG SU ahh;obtain⟨⟨k0,k1,k2⟩,x0,x1,x2⟩:=HC.o WA (aK _ _);unfold lh;simp only;cases lv with
 | false =>
  rw[bf (by decide)];rcases(show ¬ar.length=0∨ar.length=0 by omega) with h1 | h1
  · have b1:((ar.length:Int)==0)=false:=by grind
    clear oD Xw Z4 Xo HC;go_enter Tryz.func46,Tryz.ntmps46;go_upto_region 1 with fail;rw[<- lI.o];go_wp2;go_ret;exact⟨by simp[h1],eU.o⟩
  · have H1:=ai h1;clear oD Xw Z4 Xo HC h1;go_enter Tryz.func46,Tryz.ntmps46;go_upto_region 1 with fail;rw[<- lI.o];have h1:=H1.o;go_wp2;go_ret;exact⟨dQ (fun b=>Ending.returned (.bool b)) (by grind),eU.o⟩
 | true =>
  rw[aR rfl];by_cases hc:bB ar=0
  · have wj:=Z4 hc;rw[hc] at Xw;rw[dI hc,lT];clear Z4 hc;have pK:Hid (∀i,i<es.length->rB nf ns ar es i=false->nI nf ns ar es es.length=false):=fun i hi h=>Wp hi h
    have Vj:Hid (∀i,nI nf ns ar es (i+1)=(nI nf ns ar es i&&rB nf ns ar es i)):=fun _=>rfl
    obtain⟨ER,hER⟩:=ex (nI nf ns ar es es.length);have HER:=ai hER;rw[<- hER];rw[<- hER] at pK;clear hER;have M0:Hid (∀i:Nat,i<255->qq k.aD ar ((i:Int)+1)=false->l6 k.aD ar 255=false):=fun i hi h=>QO hi h
    have Vk:Hid (∀i:Nat,l6 k.aD ar (i+1)=(l6 k.aD ar i&&qq k.aD ar ((i:Int)+1))):=fun _=>rfl
    obtain⟨SR,hSR⟩:=ex (l6 k.aD ar 255);have JW:=ai hSR;rw[<- hSR];rw[<- hSR] at M0;clear hSR;go_enter Tryz.func46,Tryz.ntmps46;go_upto_region 1 with fail;rw[<- lI.o];go_upto_region 5 with(go_at_call 90;refine Xw.o.mono ?_;rintro e w1 ⟨rfl,hb1⟩;have dz:=ai hb1;clear hb1)
    clear k0 k1 k2 x0 x1 x2 Xw;go_wp2;go_loopw [5] (fun iv wq=>∃i:Nat,i<=es.length/\iv=I (i:Int)/\nI nf ns ar es i=true/\Below WA.heap.size WA wq) (fun iv _=>es.length-(intOf iv).toNat)
    case atStart=>exact⟨0,by omega,rfl,rfl,dz.o⟩
    case round =>
     obtain⟨i,hi,rfl,hei,jQ⟩:=hrel;have HEI:=ai hei;have R8:=ai jQ;obtain⟨⟨k0,k1,k2⟩,x0,x1,x2⟩:=HC.o wr jQ;clear hei;by_cases hlt:i<es.length
     · have Dw:(i:Int)<(es.length:Int):=by omega
       obtain⟨eb,eo,hap,⟨z0,z1,z2⟩,hpv⟩:=oD.o wr i jQ hlt;have HPV:=ai hpv;have Ol:=ai (pK.o i hlt);have Vm:=ai (Vj.o i);have rD:Hid (rB nf ns ar es i=((bh ar (aH es i).page).2&&(i==0 || decide ((aH es (i-1)).page<(aH es i).page))&&(if (aH es i).kind=1 then decide (0<=(aH es i).loc/\(aH es i).loc<=(nf:Int)-1) else if (aH es i).kind=2 then decide (0<=(aH es i).loc/\(aH es i).loc<=(ns:Int)-1) else false))):=rfl;obtain⟨en,hen⟩:=ex (aH es i);rw[<- hen] at z0 z1 z2 rD;obtain⟨pg,kx,lx⟩:=en;simp only at z0 z1 z2 rD;have Xz:=ai (fun V hV=>wj.o V pg hV);subst hap;clear hpv hen pK Vj HER;obtain⟨W1,hW1⟩:=ex (wr.alloc (.cells #[I pg,I kx,I lx] 45));have hb1:Below wr.heap.size wr W1:=by grind [Below.refl,Below.alloc]
       have YI:W1.heap[wr.heap.size]?=some (.cells #[I pg,I kx,I lx] 45 (0,0)):=by grind [bO]
       have JF:=jQ.trans (hb1.mono jQ.size);have HBL:=ai hb1;have fV:=ai JF;have Yz:=ai YI;have CG:=ai hW1;obtain⟨F,hF⟩:=ex (bh ar pg);rw[<- hF] at rD Xz;obtain⟨⟨g1,g2,g3,g4⟩,gf⟩:=F;simp only at rD Xz;go_upto_region 9 with fail;rw[<- CG.o];clear hW1 hb1 jQ k0 k1 k2 x0 x1 x2 z0 z1 z2 hF;obtain⟨⟨k0,k1,k2⟩,x0,x1,x2⟩:=HC.o W1 JF;obtain⟨y0,y1,y2⟩:=nV YI;obtain⟨xb,Su⟩:=ex wr.heap.size;rw[<- Su] at Yz y0 y1 y2 ⊢;clear JF YI Su;go_upto_region 10 with(go_at_call 31;refine(Xz.o _ fV.o).mono ?_;rintro e w2 ⟨rfl,hb2⟩;have gj:=ai hb2;clear hb2)
       have hb3:Below W1.heap.size W1 (w2.alloc (.cells #[I g1,I g2,I g3,.bool g4] 47)):=gj.o.alloc gj.o.size _;obtain⟨W3,hW3⟩:=ex (w2.alloc (.cells #[I g1,I g2,I g3,.bool g4] 47));rw[<- hW3] at hb3 ⊢;have hb4:=fV.o.trans (hb3.mono fV.o.size);have pZ:=ai hb4;obtain⟨y0,y1,y2⟩:=nV (aQ Yz.o hb3 (aT Yz.o));obtain⟨⟨k0,k1,k2⟩,x0,x1,x2⟩:=HC.o W3 hb4;have HPW:=ai (HPV.o W3 (HBL.o.trans (hb3.mono HBL.o.size)));clear hW3 hb3 hb4 Xz HPV;by_cases hgo:gf=true/\(i=0∨(aH es (i-1)).page<pg)
       · obtain⟨rfl,ho⟩:=hgo;have GQ:Hid (rB nf ns ar es i=if kx=1 then decide (0<=lx/\lx<=(nf:Int)-1) else if kx=2 then decide (0<=lx/\lx<=(ns:Int)-1) else false):=(show rB nf ns ar es i=if kx=1 then decide (0<=lx/\lx<=(nf:Int)-1) else if kx=2 then decide (0<=lx/\lx<=(ns:Int)-1) else false by
          rw[rD.o]
          simp_all)
         clear rD;go_cut [68] (fun c wx=>c=.bool false/\Below W3.heap.size W3 wx)
         case first =>
          rcases(show i=0∨(0<i/\(aH es (i-1)).page<pg) by omega) with h0 | ⟨h0,h1⟩
          · subst h0;go_region;go_wp2_with fail
            go_meet
            simp[aK,Below.drew]
          · have pw:=HPW.o h0;have Qa:(i:Int)-1=((i-1:Nat):Int):=by omega
            have h2:¬pg<=(aH es (i-1)).page:=by omega
            go_region;go_wp2_with fail
            go_meet
            simp[aK,Below.drew]
         case rest =>
          obtain⟨rfl,hbc⟩:=hcut;have Bk:=pZ.o.trans (hbc.mono pZ.o.size);have EJ:=ai Bk;obtain⟨⟨k0,k1,k2⟩,x0,x1,x2⟩:=HC.o wc Bk;have t:∀{o:Nat} {u:Value},W3.cell? (Ad xb o)=some u->wc.cell? (Ad xb o)=some u:=fun {o u} h=>(hbc.cell (p:=(Ad xb o)) (oc W3 _ h)).trans h
          have u1:=t y1;have u2:=t y2;clear Bk hbc t y0 y1 y2 HPW pZ;rcases(show kx=1∨kx=2∨(¬kx=1/\¬kx=2) by omega) with hk | hk | ⟨hk,hk2⟩
          · rw[aR hk] at GQ;subst hk;obtain⟨bv,hbv⟩:=ex (decide (0<=lx/\lx<=(nf:Int)-1));have HWV:=ai (fun V=>Oi.o lx 0 ((nf:Int)-1) V);rw[<- hbv] at GQ HWV;clear hbv;cases bv with
            | false =>
             have e0:=Ol.o GQ.o;subst e0;go_wp2_with (go_at_call 44;refine(HWV.o _).mono ?_;rintro e w6 ⟨rfl,rfl⟩)
             go_ret;exact⟨rfl,eU.o.trans (EJ.o.mono eU.o.size)⟩
            | true =>
             have ZH:Hid (nI nf ns ar es (i+1)=true):=(show nI nf ns ar es (i+1)=true by rw[Vm.o,HEI.o,GQ.o];rfl);go_wp2_with (go_at_call 44;refine(HWV.o _).mono ?_;rintro e w6 ⟨rfl,rfl⟩)
             go_roundw
             case rel=>grind [Hid.o]
             grind [intOf]
          · rw[bf (by omega),aR hk] at GQ;subst hk;obtain⟨bv,hbv⟩:=ex (decide (0<=lx/\lx<=(ns:Int)-1));have HWV:=ai (fun V=>Oi.o lx 0 ((ns:Int)-1) V);rw[<- hbv] at GQ HWV;clear hbv;cases bv with
            | false =>
             have e0:=Ol.o GQ.o;subst e0;go_wp2_with (go_at_call 44;refine(HWV.o _).mono ?_;rintro e w6 ⟨rfl,rfl⟩)
             go_ret;exact⟨rfl,eU.o.trans (EJ.o.mono eU.o.size)⟩
            | true =>
             have ZH:Hid (nI nf ns ar es (i+1)=true):=(show nI nf ns ar es (i+1)=true by rw[Vm.o,HEI.o,GQ.o];rfl);go_wp2_with (go_at_call 44;refine(HWV.o _).mono ?_;rintro e w6 ⟨rfl,rfl⟩)
             go_roundw
             case rel=>grind [Hid.o]
             grind [intOf]
          · rw[bf hk,bf hk2] at GQ;have b1:(kx==1)=false:=by simp_all
            have b2:(kx==2)=false:=by simp_all
            have e0:=Ol.o GQ.o;subst e0;go_wp2;go_ret;exact⟨rfl,eU.o.trans (EJ.o.mono eU.o.size)⟩
       · have hR0:rB nf ns ar es i=false:=by
          rw[rD.o];cases gf with
          | false=>simp
          | true =>
           have h1:¬i=0:=fun e=>hgo ⟨rfl,.inl e⟩
           have h2:¬(aH es (i-1)).page<pg:=fun e=>hgo ⟨rfl,.inr e⟩
           simp[h1,h2]
         have e0:=Ol.o hR0;subst e0;clear rD hR0 Ol Vm HEI;cases gf with
         | false =>
          go_region;go_wp2;go_ret;exact⟨rfl,(eU.o.trans (pZ.o.mono eU.o.size)).drew⟩
         | true =>
          have h0:0<i:=by
           by_cases e:i=0
           · simp_all
           · omega
          have h2:pg<=(aH es (i-1)).page:=by
           simp_all
          have pw:=HPW.o h0;have Qa:(i:Int)-1=((i-1:Nat):Int):=by omega
          have him:((i:Int)-1).toNat=i-1:=by omega
          clear hgo;go_region;go_wp2;go_ret;exact⟨rfl,(eU.o.trans (pZ.o.mono eU.o.size)).drew⟩
     · obtain rfl:i=es.length:=by omega
       have he1:ER=true:=HER.o.trans HEI.o;subst he1;clear HER HEI pK Vj oD Oi;go_wp2;go_loopw [9] (fun iv wq=>∃n:Nat,n<=255/\iv=I ((n:Int)+1)/\l6 k.aD ar n=true/\Below WA.heap.size WA wq) (fun iv _=>256-(intOf iv).toNat)
       case atStart=>exact⟨0,by omega,rfl,rfl,R8.o⟩
       case round =>
        obtain⟨n,hn,rfl,hsn,hb⟩:=hrel;have HS:=ai hsn;have HBn:=ai hb;obtain⟨⟨k0,k1,k2⟩,x0,x1,x2⟩:=HC.o wr hb;clear hsn hb;by_cases hlt:n<255
        · have hni:(n:Int)+1<=255:=by omega
          have Xz:=ai (wj.o wr ((n:Int)+1) HBn.o);have Vl:=ai (fun V hV=>Xo.o V ((n:Int)+1) hV);have HX:=ai (M0.o n hlt);have HY:=ai (Vk.o n);have HD:Hid (qq k.aD ar ((n:Int)+1)=!((bh ar ((n:Int)+1)).2&&(!(bh ar ((n:Int)+1)).1.zero&&!(cY k.aD ((n:Int)+1)).isSome))):=rfl;obtain⟨F,hF⟩:=ex (bh ar ((n:Int)+1));obtain⟨H,hH⟩:=ex ((cY k.aD ((n:Int)+1)).isSome);rw[<- hF] at Xz HD;rw[<- hH] at Vl HD;obtain⟨⟨g1,g2,g3,g4⟩,gf⟩:=F;simp only at Xz HD;clear hF hH wj Xo M0 Vk JW;go_upto_region 24 with(go_at_call 31;refine Xz.o.mono ?_;rintro e w2 ⟨rfl,hb2⟩;have gj:=ai hb2;clear hb2)
          have hb3:=(HBn.o.trans (gj.o.mono HBn.o.size)).alloc (HBn.o.trans (gj.o.mono HBn.o.size)).size (.cells #[I g1,I g2,I g3,.bool g4] 47);have ab:=bO w2 #[I g1,I g2,I g3,.bool g4] 47;obtain⟨W3,hW3⟩:=ex (w2.alloc (.cells #[I g1,I g2,I g3,.bool g4] 47));obtain⟨gb,hgb⟩:=ex w2.heap.size;rw[<- hW3] at hb3 ab ⊢;rw[<- hgb] at ab ⊢;have kJ:=ai hb3;have HGB:=ai ab;obtain⟨⟨k0,k1,k2⟩,x0,x1,x2⟩:=HC.o W3 hb3;clear hW3 hgb hb3 ab;go_upto_region 25 with(go_at_call 91;refine(Vl.o _ kJ.o).mono ?_;rintro e w4 ⟨⟨q1,q2,q3,q4,q5,rfl⟩,hb4⟩;have pZ:=ai (kJ.o.trans (hb4.mono kJ.o.size));have HG4:=ai (aQ HGB.o hb4 (aT HGB.o));clear hb4)
          have EJ:=ai (pZ.o.alloc pZ.o.size (.cells #[I q1,.string q2,.slice q3 q4 q5] 50));have g5:=aB (v:=.bool g4) (bM HG4.o (.cells #[I q1,.string q2,.slice q3 q4 q5] 50)) 3 rfl;obtain⟨W5,ZT⟩:=ex (w4.alloc (.cells #[I q1,.string q2,.slice q3 q4 q5] 50));rw[<- ZT] at EJ g5 ⊢;clear ZT k0 k1 k2 x0 x1 x2;by_cases hbad:gf=true/\g4=false/\H=false
          · obtain⟨rfl,rfl,rfl⟩:=hbad;have e0:SR=false:=HX.o (by rw[HD.o];rfl);subst e0;go_wp2;go_ret;exact⟨rfl,eU.o.trans (EJ.o.mono eU.o.size)⟩
          · have ZH:Hid (l6 k.aD ar (n+1)=true):=(show l6 k.aD ar (n+1)=true by
             rw[HY.o,HS.o,HD.o];revert hbad;cases gf <;> cases g4 <;> cases H <;> simp)
            cases gf with
            | false =>
             go_wp2;go_roundw
             case rel=>exact⟨n+1,by omega,by go_num,ZH.o,EJ.o⟩
             case measure=>simp[intOf];omega
            | true =>
             cases g4 with
             | true =>
              go_wp2;go_roundw
              case rel=>exact⟨n+1,by omega,by go_num,ZH.o,EJ.o⟩
              case measure=>simp[intOf];omega
             | false =>
              cases H with
              | true =>
               go_wp2;go_roundw
               case rel=>exact⟨n+1,by omega,by go_num,ZH.o,EJ.o⟩
               case measure=>simp[intOf];omega
              | false=>exact absurd ⟨rfl,rfl,rfl⟩ hbad
        · obtain rfl:n=255:=by omega
          have e1:SR=true:=JW.o.trans HS.o;subst e1;go_wp2;go_ret;exact⟨rfl,eU.o.trans (HBn.o.mono eU.o.size)⟩
  · have cb:(bB ar != 0)=true:=by grind
    rw[dJ hc,tX];clear Z4 oD Xo;go_enter Tryz.func46,Tryz.ntmps46;go_upto_region 1 with fail;rw[<- lI.o];go_wp2_with (go_at_call 90;refine Xw.o.mono ?_;rintro e w1 ⟨rfl,hb1⟩;have dz:=ai hb1;clear hb1)
    go_ret;exact⟨rfl,eU.o.trans (dz.o.mono eU.o.size)⟩
end Go.Proofs.YtpgifpeohlllfaaGreat
