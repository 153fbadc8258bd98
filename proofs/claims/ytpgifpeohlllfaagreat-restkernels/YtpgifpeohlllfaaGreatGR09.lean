import Derived.Test.YtpgifpeohlllfaaGreatGR08
set_option maxHeartbeats 20000000
set_option linter.unusedVariables false
set_option maxRecDepth 100000
set_option linter.unusedSimpArgs false
namespace Go.Proofs.YtpgifpeohlllfaaGreat
open Go.RowKit
theorem gv (n a b:Int) (w:World):Calls Tryz.prog 44 #[I n,I a,I b] w fun e w'=>e=.returned (.bool (decide (a<=n/\n<=b)))/\w=w':=by
 by_cases h1:a<=n
 · by_cases h2:n<=b
   · rw[show decide (a<=n/\n<=b)=true from dI ⟨h1,h2⟩];go_enter Tryz.func44,Tryz.ntmps44;go_wp2;go_ret
     simp_all
   · rw[show decide (a<=n/\n<=b)=false from dJ (by omega)];go_enter Tryz.func44,Tryz.ntmps44;go_wp2;go_ret
     simp_all
 · rw[show decide (a<=n/\n<=b)=false from dJ (by omega)];go_enter Tryz.func44,Tryz.ntmps44;go_wp2;go_ret
   simp_all
theorem U3 (p:Int) (z:Bool) (w:World) (h:0<=p/\p<=3):Calls Tryz.prog 127 #[I p,.bool z] w fun e w'=>e=.returned (I (yh p z))/\w=w':=by
 cases z
 · go_enter Tryz.func127,Tryz.ntmps127;go_wp2;go_ret;exact⟨jT (by simp[yh]),rfl⟩
 · go_enter Tryz.func127,Tryz.ntmps127;go_wp2;go_ret;exact⟨jT (by rfl),rfl⟩
theorem PJ:(Tryz.prog.info? 177).map (fun i=>(i.zero,i.size))=some (some (.agg (iC (fun _=>0))),256):=by kernel_rfl
theorem mD:(Tryz.prog.info? 177).map (·.size)=some 256:=(zero_of_info PJ).2
theorem Sh (w:World):(zeroValue 177).run Tryz.prog w=.ok (.agg (iC (fun _=>0))) w:=(zero_of_info PJ).1 w
def ve (F:Nat->di):Array Value:=iC (fun n=>nZ (F n))
theorem MI (F:Nat->di):(ve F).size=256:=s9 _
def G8 (l:List aZ) (C:Array Value):Prop:=C.size=256/\C.all (·.oneCell')=true/\(js l l.length=true->C=ve (eK l))
theorem J6 (l:List aZ) (b off cap:Nat) (w:World) (hl:oI w b off l) (he:gL l l.length=true) (hn:l.length<=255) :
  Calls Tryz.prog 126 #[.slice (some (Ad b off)) l.length cap] w fun e w'=>∃C,e=.returned (.tuple #[.agg C,.bool (js l l.length)])/\G8 l C/\Below w.heap.size w w':=by
 have HE:Hid (gL l l.length=true):=he;clear he;obtain⟨Z,hZ⟩:=ex (iC (fun _=>0));have hz:=Sh;rw[<- hZ] at hz;have HZ:Hid (Z=iC (fun _=>0)):=hZ;have hZs:Z.size=256:=by grind [s9]
 clear hZ;go_enter Tryz.func126,Tryz.ntmps126;go_wp2;go_loopw [5,6] (fun la i wr=>∃(k:Nat) (t:Int),k<=l.length/\i=I k/\la=I t/\(k=0/\t=0∨0<k/\t=(bl l (k-1)).page+(bl l (k-1)).bC-1)/\js l k=true/\wr.heap[w.heap.size]?=some (.cells Z 177 (0,0))/\wr.heap[w.heap.size+1]?=some (.cells (ve (b9 l k)) 177 (0,0))/\Below w.heap.size w wr) (fun _ i _=>l.length-(intOf i).toNat)
 case atStart =>
  refine⟨0,0,by omega,rfl,rfl,.inl ⟨rfl,rfl⟩,rfl,bM (bO w Z 177) _,?_,((aK _ _).alloc (aI _) _).alloc (by simp) _⟩;have e:ve (b9 l 0)=Z:=by rw[HZ.o];rfl
  grind [World.alloc]
 case round =>
  obtain⟨k,t,hk,rfl,rfl,hlast,hri,hR,hA,hb⟩:=hrel;have HR:Hid (wr.heap[w.heap.size]?=some (.cells Z 177 (0,0))):=hR;have HA:Hid (wr.heap[w.heap.size+1]?=some (.cells (ve (b9 l k)) 177 (0,0))):=hA;have HB:Hid (Below w.heap.size w wr):=hb;have UG:Hid (js l k=true):=hri;have HL:Hid (k=0/\t=0∨0<k/\t=(bl l (k-1)).page+(bl l (k-1)).bC-1):=hlast;have hsz:w.heap.size+2<=wr.heap.size:=aT hA;by_cases hlt:k<l.length
  · obtain⟨c0,c1,c2,c3⟩:=hl.below hb k hlt;have Vg:=Au l _ HE.o k hlt;have hbk:=(nX _ _).1 Vg.1;have Ve:0<=(bl l k).fI/\(bl l k).fI<=3:=kr Vg.2;have ZR:Hid (Dq l k=decide (t<(bl l k).page)):=by
     show _=_;unfold Dq;rcases HL.o with⟨h1,h2⟩ | ⟨h1,h2⟩
     · rw[h1,h2];rw[h1] at hbk;simp;omega
     · have YU:(k==0)=false:=by simp;omega
       rw[YU,Bool.false_or];unfold aZ.mW;rw[h2];exact decide_eq_decide.2 (by omega)
    obtain⟨a,ha⟩:=ex (bl l k);rw[<- ha] at c0 c1 c2 c3 hbk ZR Ve;have HAr:Hid (a=bl l k):=ha;clear ha hR hA hb hlast hri Vg;have hkl:(k:Int)<(l.length:Int):=by omega
    by_cases hup:t<a.page
    · have ali:¬a.page<=t:=by omega
      obtain⟨wo,hwo⟩:∃wo:World,wo=wr:=⟨_,rfl⟩;subst hwo;go_wp2;go_loopw [8] (fun tt wi=>∃n:Nat,a.page<=(n:Int)/\(n:Int)<=a.page+a.bC/\tt=I n/\wi.heap[w.heap.size]?=some (.cells Z 177 (0,0))/\wi.heap[w.heap.size+1]?=some (.cells (ve (iq (b9 l k) a n)) 177 (0,0))/\wi.heap[wo.heap.size]?=some (.cells #[I a.page,I a.bC,I a.fI,.bool a.zero] 47 (0,0))/\Below w.heap.size w wi) (fun tt _=>(a.page+a.bC-intOf tt).toNat)
      case atStart =>
       refine⟨a.page.toNat,by omega,by omega,by rw[PW (by omega)],bM HR.o _,?_,bO _ _ _,HB.o.alloc HB.o.size _⟩;rw[PW (by omega),CN];exact bM HA.o _
      case round =>
       obtain⟨n,hn1,Fg,rfl,iR,iA,iX,ib⟩:=hrel;have IR:Hid (wr.heap[w.heap.size]?=some (.cells Z 177 (0,0))):=iR;have IA:Hid (wr.heap[w.heap.size+1]?=some (.cells (ve (iq (b9 l k) a n)) 177 (0,0))):=iA;have IB:Hid (Below w.heap.size w wr):=ib;have x2:=aB iX 2 rfl;have x3:=aB iX 3 rfl;have IX:Hid (wr.heap[wo.heap.size]?=some (.cells #[I a.page,I a.bC,I a.fI,.bool a.zero] 47 (0,0))):=iX;clear iR iX ib;by_cases hin:(n:Int)<a.page+a.bC
       · have hin':(n:Int)<=a.page+a.bC-1:=by omega
         have z0:=aB iA n (Ec _ n (by omega));have zf:=aO iA;have adO:(n:Int)<256:=by omega
         clear iA;go_wp2_with (first | (go_at_call 127;refine(U3 _ _ _ Ve).mono ?_;rintro e w' ⟨rfl,rfl⟩))
         go_roundw
         case rel =>
          refine⟨n+1,by omega,by omega,by go_num,iM IR.o _ _ _ (by omega),?_,iM IX.o _ _ _ (by omega),IB.o.setCell (by simp) _⟩;have h:=dD IA.o n (I (yh a.fI a.zero));have e:(ve (iq (b9 l k) a n)).setIfInBounds n (I (yh a.fI a.zero))=ve (iq (b9 l k) a ((n:Int)+1)):=by
           unfold ve;rw[OH _ n _ (by omega),<- D9 _ _ _ hn1];congr 1;exact U9 (iq (b9 l k) a n) n ⟨true,a.fI,a.zero⟩
          rw[e] at h;rw[show((n+1:Nat):Int)=(n:Int)+1 from by omega];exact h
         case measure=>simp[intOf];omega
       · have hin':¬(n:Int)<=a.page+a.bC-1:=by omega
         have hE2:Hid ((n:Int)=a.page+a.bC):=by show _=_;omega
         clear iA;go_wp2;go_roundw
         case rel =>
          refine⟨k+1,a.page+a.bC-1,by omega,by go_num,rfl,.inr ⟨by omega,?_⟩,?_,IR.o,?_,IB.o⟩
          · rw[Ks,<- HAr.o]
          · simp only[js,UG.o,ZR.out,lT];exact dI hup
          · have h:=IA.o;rw[hE2.out] at h;show _=some (Obj.cells (ve (iq (b9 l k) (bl l k) (bl l k).mW)) 177 (0,0));rw[<- HAr.o];exact h
         case measure=>simp[intOf];omega
    · have ali:a.page<=t:=by omega
      have hbad:Hid (js l l.length=false):=by
       show _=_;have e:js l (k+1)=false:=by simp only[js,UG.o,ZR.out,lT];exact dJ hup
       exact A7 l (k+1) l.length (by omega) e
      have SC:Hid ((wr.alloc (.cells #[I a.page,I a.bC,I a.fI,.bool a.zero] 47)).heap[w.heap.size+1]?=some (.cells (ve (b9 l k)) 177 (0,0))):=bM HA.o _;have KV:Hid ((wr.alloc (.cells #[I a.page,I a.bC,I a.fI,.bool a.zero] 47)).heap[w.heap.size]?=some (.cells Z 177 (0,0))):=bM HR.o _;have hB2:Hid (Below w.heap.size w (wr.alloc (.cells #[I a.page,I a.bC,I a.fI,.bool a.zero] 47))):=HB.o.alloc HB.o.size _;obtain⟨D,hD⟩:=ex (ve (b9 l k));have hDs:D.size=256:=by rw[hD];exact MI _
      have hDo:D.all (·.oneCell')=true:=by rw[hD];exact yQ _
      rw[<- hD] at SC;clear hD;go_wp2_with (first | (refine vq rfl 177 _ rfl (w.heap.size+1) rfl 177 D (0,0) _ SC.out Tryz.underlying177 rfl (by rw[hDs];exact mD) ?_) | (refine xD rfl 177 _ _ rfl w.heap.size D rfl rfl 177 Z KV.out (by rw[hDs];exact mD) (by omega) hDo ?_))
      have hfin:=oP _ _ _ D 177 (0,0) KV.out;have hld:=PS (P:=Tryz.prog) _ _ 177 177 D (0,0) _ hfin Tryz.underlying177 rfl (by rw[hDs];exact mD);refine cm (v:=.tuple #[.agg D,.bool false]) ?_ rfl ⟨D,by rw[hbad.out],⟨hDs,hDo,fun h=>(by rw[hbad.out] at h;cases h)⟩,below_setRow hB2.out (aI _) _⟩;rw[PU rfl];simp[asAddr,Result.andThen,hld]
  · obtain rfl:k=l.length:=by omega
    obtain⟨D,hD⟩:=ex (ve (b9 l l.length));have hDs:D.size=256:=by rw[hD];exact MI _
    have hDo:D.all (·.oneCell')=true:=by rw[hD];exact yQ _
    have HD:Hid (D=ve (b9 l l.length)):=hD;rw[<- hD] at HA;clear hD hR hA hb hlast hri;go_wp2_with (first | (refine vq rfl 177 _ rfl (w.heap.size+1) rfl 177 D (0,0) _ HA.o Tryz.underlying177 rfl (by rw[hDs];exact mD) ?_) | (refine xD rfl 177 _ _ rfl w.heap.size D rfl rfl 177 Z HR.o (by rw[hDs];exact mD) (by omega) hDo ?_))
    have hfin:=oP _ _ _ D 177 (0,0) HR.o;have hld:=PS (P:=Tryz.prog) _ _ 177 177 D (0,0) _ hfin Tryz.underlying177 rfl (by rw[hDs];exact mD);refine cm (v:=.tuple #[.agg D,.bool true]) ?_ rfl ⟨D,by rw[UG.o],⟨hDs,hDo,fun _=>HD.o⟩,below_setRow HB.o (aI _) _⟩;rw[PU rfl];simp[asAddr,Result.andThen,hld]
open Go.RowKit
theorem Hr (s:bR) (w:World) (h:kQ w s.ao s.cM) (hf:vD s) :
  Calls Tryz.prog 89 #[.agg (mZ s)] w fun e w'=>e=.returned (.bool (cu s))/\Below w.heap.size w w':=by
 obtain⟨f1,f2,f3,f4⟩:=hf;obtain⟨pg,dt,fs,ao,cap⟩:=s;simp only at f1 f2 f3 f4;unfold eY at f1;unfold bT at f2 f3;simp only[mZ];have F4:=aA f4;have HH:=aA h;clear f4 h;have HB:=aA ((aK w.heap.size w).alloc (aI _) (.cells #[I pg,.string dt,.slice ao fs.length cap] 50));have BX:=aA (bO w #[I pg,.string dt,.slice ao fs.length cap] 50);by_cases h1:1<=pg/\pg<=255
 · have d1:decide (1<=pg/\pg<=255)=true:=dI h1;by_cases h3:dt.size=16
   · by_cases h4:fs.length<=16
     · have h3':(dt.size:Int)=16:=by omega
       have h4':¬(16:Int)<(fs.length:Int):=by omega
       have e:jY ⟨pg,dt,fs,ao,cap⟩=true:=by
        grind [jY]
       have E:Hid (cu ⟨pg,dt,fs,ao,cap⟩=dn fs fs.length):=by
        show _=_
        grind [cu]
       clear e h3;go_enter Tryz.func89,Tryz.ntmps89;go_wp2_with (go_at_call 44;refine(gv _ _ _ _).mono ?_;rintro e w' ⟨rfl,rfl⟩;rw[d1])
       go_loopw [4,3] (fun i en wr=>∃k:Nat,k<=fs.length/\i=I k/\en=I (l9 fs k)/\dn fs k=true/\Below w.heap.size w wr/\wr.heap[w.heap.size]?=some (.cells #[I pg,.string dt,.slice ao fs.length cap] 50 (0,0))) (fun i _ _=>fs.length-(intOf i).toNat)
       case atStart=>exact⟨0,by omega,rfl,rfl,rfl,HB.o,BX.o⟩
       case round =>
        obtain⟨k,hk,rfl,rfl,hg,hb,C7⟩:=hrel;have HG:=aA hg;have qL:=aA hb;have BXr:=aA C7;have x2:=aB C7 2 rfl;clear hg C7;by_cases hlt:k<fs.length
        · obtain⟨b,off,hao,hbl,eI⟩:=(HH.o.below hb) (by omega);subst hao;obtain⟨c0,c1⟩:=eI k hlt;obtain⟨g1,g2⟩:=F4.o k hlt;have hed:=mq fs k HG.o;obtain⟨f,EP⟩:=ex (ki fs k);rw[<- EP] at c0 c1 g1 g2;unfold eY at g1;unfold bT at g2;have A4:=aA EP;clear EP eI hb;obtain⟨en,hen⟩:=ex (l9 fs k);rw[<- hen] at hed;have oD:=aA hen;rw[<- hen];clear hen;have fV:=aA (qL.o.alloc qL.o.size (.cells #[I f.off,.string f.bytes] 52));have BXA:=aA (bM BXr.o (.cells #[I f.off,.string f.bytes] 52));by_cases q1:en<=f.off/\f.off<=16
          · have z1:decide (en<=f.off/\f.off<=16)=true:=dI q1;by_cases q3:1<=(f.bytes.size:Int)/\(f.bytes.size:Int)<=16-f.off
            · have z2:decide (1<=(f.bytes.size:Int)/\(f.bytes.size:Int)<=16-f.off)=true:=dI q3;have HX:Hid (dn fs (k+1)=true):=by
               show _=_;simp only[dn,cR];exact⟨HG.o,by rw[<- A4.o,<- oD.o];exact(rO _ _).2 (by omega)⟩
              have HY:Hid (l9 fs (k+1)=f.off+(f.bytes.size:Int)):=by show _=_;simp only[l9];rw[<- A4.o]
              go_wp2_with (first | (go_at_call 44;refine(gv _ _ _ _).mono ?_;rintro e w' ⟨rfl,rfl⟩;rw[z2]) | (go_at_call 44;refine(gv _ _ _ _).mono ?_;rintro e w' ⟨rfl,rfl⟩;rw[z1];have FA:=trivial))
              go_roundw
              case rel=>exact⟨k+1,by omega,by go_num,by rw[HY.o],HX.o,fV.o,BXA.o⟩
              case measure=>simp[intOf];omega
            · have z2:decide (1<=(f.bytes.size:Int)/\(f.bytes.size:Int)<=16-f.off)=false:=dJ q3;have HX:Hid (dn fs fs.length=false):=ql fs k hlt (by rw[<- A4.o,<- oD.o];exact tH (by omega));go_wp2_with (first | (go_at_call 44;refine(gv _ _ _ _).mono ?_;rintro e w' ⟨rfl,rfl⟩;rw[z2]) | (go_at_call 44;refine(gv _ _ _ _).mono ?_;rintro e w' ⟨rfl,rfl⟩;rw[z1];have FA:=trivial))
              go_ret;exact⟨fT (by rw[E.o,HX.o]),fV.o⟩
          · have z1:decide (en<=f.off/\f.off<=16)=false:=dJ q1;have HX:Hid (dn fs fs.length=false):=ql fs k hlt (by rw[<- A4.o,<- oD.o];exact tH (by omega));go_wp2_with (go_at_call 44;refine(gv _ _ _ _).mono ?_;rintro e w' ⟨rfl,rfl⟩;rw[z1])
            go_ret;exact⟨fT (by rw[E.o,HX.o]),fV.o⟩
        · obtain rfl:k=fs.length:=by omega
          go_wp2;go_ret;exact⟨fT (by rw[E.o,HG.o]),qL.o⟩
     · have h4':(16:Int)<(fs.length:Int):=by omega
       have e:cu ⟨pg,dt,fs,ao,cap⟩=false:=by
        unfold cu;cases e:dn fs fs.length
        · grind
        · have:=mq fs fs.length e;omega
       rw[e];go_enter Tryz.func89,Tryz.ntmps89;go_wp2_with (go_at_call 44;refine(gv _ _ _ _).mono ?_;rintro e w' ⟨rfl,rfl⟩;rw[d1])
       go_ret;exact⟨rfl,HB.o⟩
   · have e:cu ⟨pg,dt,fs,ao,cap⟩=false:=by
      grind [cu,jY]
     rw[e];go_enter Tryz.func89,Tryz.ntmps89;go_wp2_with (go_at_call 44;refine(gv _ _ _ _).mono ?_;rintro e w' ⟨rfl,rfl⟩;rw[d1])
     go_ret;exact⟨rfl,HB.o⟩
 · have d1:decide (1<=pg/\pg<=255)=false:=dJ h1;have e:cu ⟨pg,dt,fs,ao,cap⟩=false:=by
    grind [cu,jY]
   rw[e];go_enter Tryz.func89,Tryz.ntmps89;go_wp2_with (go_at_call 44;refine(gv _ _ _ _).mono ?_;rintro e w' ⟨rfl,rfl⟩;rw[d1])
   go_ret;exact⟨rfl,HB.o⟩
theorem Nk (s:bR) (w:World) (h:kQ w s.ao s.cM) (hf:vD s) (hs:cu s=true) :
  Calls Tryz.prog 92 #[.agg (mZ s)] w fun e w'=>e=.returned (.string (mI s))/\Below w.heap.size w w':=by
 obtain⟨f1,f2,f3,f4⟩:=hf;obtain⟨pg,dt,fs,ao,cap⟩:=s;simp only at f1 f2 f3 f4;unfold bT at f2 f3;simp only[mZ];have HH:=aA h;clear f4 h f1;have HB:=aA ((aK w.heap.size w).alloc (aI _) (.cells #[I pg,.string dt,.slice ao fs.length cap] 50));have BX:=aA (bO w #[I pg,.string dt,.slice ao fs.length cap] 50);have HN:Hid (mI ⟨pg,dt,fs,ao,cap⟩=lV dt fs fs.length):=rfl;obtain⟨hd,Vv⟩:jY ⟨pg,dt,fs,ao,cap⟩=true/\dn fs fs.length=true:=by
  grind [cu]
 have h16:dt.size=16:=by
  grind [jY]
 have Xt:=aA Vv;clear hs hd Vv;rw[HN.o];go_enter Tryz.func92,Tryz.ntmps92;go_wp2;go_loopw [4,3] (fun i d wr=>∃k:Nat,k<=fs.length/\i=I k/\d=.string (lV dt fs k)/\Below w.heap.size w wr/\wr.heap[w.heap.size]?=some (.cells #[I pg,.string dt,.slice ao fs.length cap] 50 (0,0))) (fun i _ _=>fs.length-(intOf i).toNat)
 case atStart=>exact⟨0,by omega,rfl,rfl,HB.o,BX.o⟩
 case round =>
  obtain⟨k,hk,rfl,rfl,hb,C7⟩:=hrel;have qL:=aA hb;have BXr:=aA C7;have x2:=aB C7 2 rfl;clear C7;by_cases hlt:k<fs.length
  · obtain⟨b,off,hao,hbl,eI⟩:=(HH.o.below hb) (by omega);subst hao;obtain⟨c0,c1⟩:=eI k hlt;have hok:=(rO _ _).1 (yo fs fs.length Xt.o k hlt);have YW:dn fs k=true:=by
     cases e:dn fs k
     · rw[qm fs k fs.length (by omega) e] at Xt;cases Xt
     · rfl
    have hed:=mq fs k YW;have hsz:=sA dt fs h16 k YW;have qH:Hid (lV dt fs (k+1)=gF (lV dt fs k) (ki fs k).off.toNat (ki fs k).bytes):=rfl;obtain⟨f,EP⟩:=ex (ki fs k);rw[<- EP] at c0 c1 hok qH;obtain⟨D,hD⟩:=ex (lV dt fs k);rw[<- hD] at hsz qH;rw[<- hD];obtain⟨o,ho⟩:∃o:Nat,f.off=(o:Int):=⟨f.off.toNat,by omega⟩;rw[ho] at c0 hok;rw[ho,jn] at qH;have HBd:=aA (Nn wr);clear EP hD YW eI hb;go_wp2
    go_region_law (go_simp;go_at_call 68;refine(UO D f.bytes o _ (by omega) (by omega)).mono ?_;rintro e w3 ⟨rfl,hb⟩;have kJ:=aA (qL.o.trans ((HBd.o.trans hb).mono qL.o.size));have BX3:=aA (aQ (aQ BXr.o HBd.o (aT BXr.o)) hb (by have:=aT BXr.o;simpa using this));clear hb;go_simp)
    all_goals
     go_wp2;go_roundw
     case rel=>exact⟨k+1,by omega,by go_num,by rw[qH.o],kJ.o,BX3.o⟩
     case measure=>simp[intOf];omega
  · obtain rfl:k=fs.length:=by omega
    go_wp2;go_ret;exact⟨rfl,qL.o⟩
open Go.RowKit
theorem jM {P:Program} {f:FuncId} {args:Array Value} {v:Value} {w:World} (x:dm w.heap.size w) (h:∀W,Below w.heap.size w W->Calls P f args W fun e w'=>e=.returned v/\Below W.heap.size W w') :
  Calls P f args x.world fun e w''=>e=.returned v/\∃y:dm w.heap.size w,w''=y.world :=
 (h x.world x.keeps).mono fun e w'' ⟨he,hb⟩=>⟨he,⟨w'',x.keeps.trans (hb.mono x.keeps.size)⟩,rfl⟩
theorem Fw (hs:List bR) (ao:Option Addr) (cap:Nat) (w:World) (h:fX w ao hs) (hf:nk hs) :
  Calls Tryz.prog 45 #[.slice ao hs.length cap] w fun e w'=>e=.returned (.bool (ed hs))/\Below w.heap.size w w':=by
 have HF:=aA hf;have HH:=aA h;have hn:hs.length<=140737488351232:=hf.1;clear h hf;go_enter Tryz.func45,Tryz.ntmps45;go_wp2;go_loopw [3] (fun i wr=>∃k:Nat,k<=hs.length/\i=I k/\gX hs k=true/\Below w.heap.size w wr) (fun i _=>hs.length-(intOf i).toNat)
 case atStart=>exact⟨0,by omega,rfl,rfl,aK _ _⟩
 case round =>
  obtain⟨k,hk,rfl,hz,hb⟩:=hrel;have HZ:=aA hz;have qL:=aA hb;clear hz;by_cases hlt:k<hs.length
  · obtain⟨b,off,hao,hbl,eI⟩:=(HH.o.below hb) (by omega);subst hao;obtain⟨c0,c1,c2,c3⟩:=eI k hlt;have Dx:=HF.o.2 k hlt;have HE:Hid (gX hs (k+1)=(cu (aV hs k)&&kZ hs k)):=by
     show _=_;simp only[gX];rw[HZ.o,lT]
    have M6:Hid ((cu (aV hs k)&&kZ hs k)=false->ed hs=false):=fun e=>IU hs k hlt e
    have uP:=gG wr;have hkc:=@fD wr;have acK:Hid (0<k->wr.cell? ⟨b,off+(k-1)*3,none⟩=some (I (aV hs (k-1)).page)):=fun h0=>(eI (k-1) (by omega)).1
    have UG:Hid (kZ hs k=(k==0 || decide ((aV hs (k-1)).page<(aV hs k).page))):=rfl;obtain⟨s,XZ⟩:=ex (aV hs k);rw[<- XZ] at c0 c1 c2 c3 Dx HE M6 UG;have e0:∀x:dm wr.heap.size wr,x.world.cell? (Ad b (off+k*3))=some (I s.page):=fun x=>by rw[hkc x _ _ hbl,c0]
    have e1:∀x:dm wr.heap.size wr,x.world.cell? (Ad b (off+k*3+1))=some (.string s.data):=fun x=>by rw[hkc x _ _ hbl,c1]
    have e2:∀x:dm wr.heap.size wr,x.world.cell? (Ad b (off+k*3+2))=some (.slice s.ao s.cM.length s.cap):=fun x=>by rw[hkc x _ _ hbl,c2]
    have HC:Hid (∀W,Below wr.heap.size wr W->Calls Tryz.prog 89 #[.agg #[I s.page,.string s.data,.slice s.ao s.cM.length s.cap]] W fun e w'=>e=.returned (.bool (cu s))/\Below W.heap.size W w'):=fun W hb=>Hr s W (c3.below hb) Dx
    clear XZ eI hb c0 c1 c2 c3 Dx;cases e:cu s with
    | false =>
     have HX:=aA (M6.o (by rw[e];rfl));rw[e] at HC;clear e HE M6 UG acK hkc;go_wp2;refine cA (by kernel_rfl) (by kernel_rfl) ?_
     repeat (first | go_big_quiet_step ((go_at_call 89;exact jM _ HC.o)) | quiet_step ((go_at_call 89;exact jM _ HC.o)))
     refine fK ?_;intro _ hw';obtain⟨x,hw''⟩:=hw';subst hw'';go_wp2;go_ret;exact⟨fT HX.o.symm,qL.o.trans (x.keeps.mono qL.o.size)⟩
    | true =>
     rw[e] at HC HE M6;rw[lT] at HE M6;clear e;by_cases YU:k=0
     · have z1:decide ((0:Int)<(k:Int))=false:=by simp;omega
       have z2:decide (0<k)=false:=by simp;omega
       have HX:Hid (kZ hs k=true):=by show _=_;rw[UG.o,YU];rfl
       rw[HX.o] at HE;clear YU M6 UG acK hkc HX;go_wp2;refine cA (by kernel_rfl) (by kernel_rfl) ?_
       repeat (first | go_big_quiet_step ((go_at_call 89;exact jM _ HC.o)) | quiet_step ((go_at_call 89;exact jM _ HC.o)))
       refine fK ?_;intro _ hw';obtain⟨x,hw''⟩:=hw';subst hw'';go_wp2;go_roundw
       case rel=>exact⟨k+1,by omega,by go_num,HE.o,qL.o.trans (x.keeps.mono qL.o.size)⟩
       case measure=>simp[intOf];omega
     · have hk1:(1:Int)<=(k:Int):=by omega
       have hk2:0<k:=by omega
       have hk3:(0:Int)<(k:Int):=by omega
       have hkz:(k==0)=false:=by simpa using YU
       obtain⟨p,hp⟩:=ex ((aV hs (k-1)).page);have hpv:=acK.o hk2;rw[<- hp] at hpv UG;rw[hkz,Bool.false_or] at UG;have e3:∀x:dm wr.heap.size wr,x.world.cell? ⟨b,off+(k-1)*3,none⟩=some (I p):=fun x=>by rw[hkc x _ _ hbl,hpv]
       clear hp hpv YU acK hkc hkz;by_cases zF:p<s.page
       · have HX:Hid (kZ hs k=true):=by show _=_;rw[UG.o,dI zF]
         rw[HX.o] at HE;have hnl:¬s.page<=p:=by omega
         clear M6 UG HX;go_wp2;refine cA (by kernel_rfl) (by kernel_rfl) ?_
         repeat (first | go_big_quiet_step ((go_at_call 89;exact jM _ HC.o)) | quiet_step ((go_at_call 89;exact jM _ HC.o)))
         refine fK ?_;intro _ hw';obtain⟨x,hw''⟩:=hw';subst hw'';go_wp2;go_roundw
         case rel=>exact⟨k+1,by omega,by go_num,HE.o,qL.o.trans (x.keeps.mono qL.o.size)⟩
         case measure=>simp[intOf];omega
       · have HX:Hid (ed hs=false):=M6.o (by rw[UG.o,dJ zF]);have hnl:s.page<=p:=by omega
         clear HE M6 UG;go_wp2;refine cA (by kernel_rfl) (by kernel_rfl) ?_
         repeat (first | go_big_quiet_step ((go_at_call 89;exact jM _ HC.o)) | quiet_step ((go_at_call 89;exact jM _ HC.o)))
         refine fK ?_;intro _ hw';obtain⟨x,hw''⟩:=hw';subst hw'';go_wp2;go_ret;exact⟨fT HX.o.symm,qL.o.trans (x.keeps.mono qL.o.size)⟩
  · obtain rfl:k=hs.length:=by omega
    go_wp2;go_ret;exact⟨fT HZ.o.symm,qL.o⟩
end Go.Proofs.YtpgifpeohlllfaaGreat
