import Derived.Test.YtlgoihmkgaaemaaGreatGO10
import Derived.Test.YtlgoihmkgaaemaaGreatGO08
set_option maxHeartbeats 20000000
set_option linter.unusedVariables false
set_option maxRecDepth 100000
set_option linter.unusedSimpArgs false
namespace Go.Proofs.YtlgoihmkgaaemaaGreat
open Go.RowKit
theorem H9 (s:cZ) (va:Value) (ap:Option Addr) (cp:Nat) (uf us:List fh) (lo gf nf cf gs ns cs:Nat) (bd:Int) (w0 w:World) (ha:gD w0 va s.aT) (he:eB bw 3 gY w0 ap s.bf) (hfit:QV s) (hw:Below w0.heap.size w0 w) (hlo:w0.heap.size<=lo) (huf:ig lo w gf nf cf uf) (hus:ig lo w gs ns cs us) (hne:¬gf=gs) (hb1:mJ uf nf bd) (hb2:mJ us ns bd) (hB:bd<=100000) (Cb:nf<=1000) (hns:ns<=1000) :
  Calls Tryz.prog 142 #[.agg #[.bool s.live,va,.slice ap s.bf.length cp],.slice (some (Ad gf 0)) nf cf,.slice (some (Ad gs 0)) ns cs] w fun x w'=>x=.returned (.bool (jV s.aT s.bf (uf,us) s.bf.length))/\aC (fun b=>b=gf∨b=gs) w w'/\(jV s.aT s.bf (uf,us) s.bf.length=true->ig lo w' gf nf cf (jD s.aT s.bf (uf,us) s.bf.length).1/\ig lo w' gs ns cs (jD s.aT s.bf (uf,us) s.bf.length).2):=by
 obtain⟨lv,ar,es⟩:=s;simp only at ha he hfit ⊢;have HHA:=ai ha;have HHE:=ai he;have Fe:=ai hfit.aT;have OW:=ai hfit.Mq;have hel:es.length<=140737488351232:=hfit.bf;have HW:=ai hw;have hgf:=huf.lt;have hgs:=hus.lt;have HBD:=ai (Jw ar es (uf,us) nf ns bd hb1 hb2);have qg:=ai (Zt ar es (uf,us));have wW:Hid (∀k,jV ar es (uf,us) k=true->yb ar (rT es k) (jD ar es (uf,us) k).1 (jD ar es (uf,us) k).2 (aX es k)=true->jV ar es (uf,us) (k+1)=true/\jD ar es (uf,us) (k+1)=tX ar (jD ar es (uf,us) k) (aX es k)):=fun k h1 h2=>⟨by grind [jV],rfl⟩
 have HL1:Hid (∀k,rT es (k+1)=(aX es k).page):=fun k=>by rfl
 obtain⟨aa,ca,H8,_⟩:=id ha;subst H8;obtain⟨na,rH⟩:=ex ar.length;rw[<- rH] at HHA ⊢;have ub:=ai (aC.alloc (fun b=>b=gf∨b=gs) w (.cells #[.bool lv,.slice aa na ca,.slice ap es.length cp] 99));have BS:=ai (bB w #[.bool lv,.slice aa na ca,.slice ap es.length cp] 99);have akp:=ai (huf.kp (aC.alloc (fun _=>False) w (.cells #[.bool lv,.slice aa na ca,.slice ap es.length cp] 99)) (fun x=>x));have ako:=ai (hus.kp (aC.alloc (fun _=>False) w (.cells #[.bool lv,.slice aa na ca,.slice ap es.length cp] 99)) (fun x=>x));clear ha he hfit hw huf hus hb1 hb2 rH;go_enter Tryz.func142,Tryz.ntmps142;go_wp2;obtain⟨W,hW⟩:=ex (w.alloc (.cells #[.bool lv,.slice aa na ca,.slice ap es.length cp] 99));rw[<- hW] at ub BS akp ako ⊢;obtain⟨sb,Jh⟩:=ex w.heap.size;have auF:¬sb=gf:=by omega
 have auE:¬sb=gs:=by omega
 have hsW:W.heap.size=sb+1:=by simp_all
 have h0s:w0.heap.size<=sb:=by omega
 have avd:gf<sb:=by omega
 have au9:gs<sb:=by omega
 rw[<- Jh] at BS ⊢;clear hW Jh;go_loopw [7,15] (fun lv iv wr=>∃k:Nat,k<=es.length/\iv=I (k:Int)/\lv=I (rT es k)/\jV ar es (uf,us) k=true/\aC (fun b=>b=gf∨b=gs) W wr/\ig lo wr gf nf cf (jD ar es (uf,us) k).1/\ig lo wr gs ns cs (jD ar es (uf,us) k).2) (fun _ iv _=>es.length-(intOf iv).toNat)
 case atStart=>exact⟨0,by omega,rfl,rfl,rfl,aC.refl _ _,akp.o,ako.o⟩
 case round =>
  obtain⟨k,hk,rfl,rfl,hbk,PM,hof,hos⟩:=hrel;have HKP:=ai PM;have HBK:=ai hbk;have HOF:=ai hof;have HOS:=ai hos;obtain⟨L,hL⟩:=ex (rT es k);rw[<- hL];have bs:=PM.keep BS.o (fun x=>by omega);have hsz:=PM.size;have s2:wr.cell? (Ad sb 2)=some (.slice ap es.length cp):=aq bs 2 rfl;have HBS:=ai bs;by_cases hlt:k<es.length
  · have hb0:=(PM.below (ub.o.below HW.o HW.o.size (fun b hb=>by omega)) (by omega) (fun b hb=>by omega):Below w0.heap.size w0 wr);have gB:=ai hb0;obtain⟨eb,eo,hao,hbl,eY⟩:=HHE.o (by omega);subst hao;have ce:∀j,j<3->wr.cell? (Ad eb (eo+k*3+j))=(bw (aX es k))[j]?:=fun j hj=>(hb0.cell (p:=(Ad eb (eo+k*3+j))) hbl).trans (eY k hlt j hj)
    have e0:=ce 0 (by omega);have e1:=ce 1 (by omega);have e2:=ce 2 (by omega);rw[mF] at e0;have Vz:=OW.o k hlt;have qg:=ai (qg.o k hlt);have wW:=ai (wW.o k HBK.o);have HL1:=ai (HL1.o k);obtain⟨bd1,bd2,bd3,bd4⟩:=HBD.o k (by omega) HBK.o;have hk5:(k:Int)<=255:=by omega
    have HUB:Hid (mJ (jD ar es (uf,us) k).1 nf 1000000/\mJ (jD ar es (uf,us) k).2 ns 1000000):=⟨bd1.mono (by omega),bd2.mono (by omega)⟩;have LP:Hid (∀V,Below w0.heap.size w0 V->Calls Tryz.prog 77 #[.slice aa na ca,I (aX es k).page] V fun e w'=>e=.returned (.tuple #[.agg (nK (aV ar (aX es k).page).1),.bool (aV ar (aX es k).page).2])/\Below V.heap.size V w'):=fun V hV=>vH ar _ _ V (HHA.o.below hV) Fe.o
    rw[<- hL] at qg wW;have HEU:Hid (∀u:List fh×List fh,tX ar u (aX es k)=if (aX es k).kind=1 then (sK u.1 (aX es k) (aV ar (aX es k).page).1.zero,u.2) else (u.1,sK u.2 (aX es k) (aV ar (aX es k).page).1.zero)):=fun u=>rfl
    obtain⟨UU,hUU⟩:=ex (jD ar es (uf,us) k);rw[<- hUU] at qg wW HUB HOF HOS;obtain⟨U1,U2⟩:=UU;unfold yb at qg wW;obtain⟨E,hE⟩:=ex (aX es k);rw[<- hE] at e0 e1 e2 Vz qg wW HL1 LP HEU;obtain⟨pg,kd,lc⟩:=E;simp only at qg wW HUB HOF HOS Vz HL1 LP HEU;have x0:wr.cell? (Ad eb (eo+k*3))=some (I pg):=e0;have x1:wr.cell? (Ad eb (eo+k*3+1))=some (I kd):=e1;have x2:wr.cell? (Ad eb (eo+k*3+2))=some (I lc):=e2;obtain⟨⟨fa,ok⟩,hF⟩:∃F,F=aV ar pg:=⟨_,rfl⟩;rw[<- hF] at qg wW LP HEU;obtain⟨f1,f2,f3,z⟩:=fa;unfold nK at LP;simp only at qg wW LP HEU;have HU1:=ai (fun V (hV:ig lo V gf nf cf U1)=>QS U1 ⟨pg,kd,lc⟩ z lo gf nf cf V hV Cb ⟨Vz.1,Vz.2.2⟩ (fun i hi=>HUB.o.1.2 i hi));have HU2:=ai (fun V (hV:ig lo V gs ns cs U2)=>QS U2 ⟨pg,kd,lc⟩ z lo gs ns cs V hV hns ⟨Vz.1,Vz.2.2⟩ (fun i hi=>HUB.o.2.2 i hi));obtain⟨A1,hA1⟩:=ex (oP U1 ⟨pg,kd,lc⟩ z);obtain⟨A2,hA2⟩:=ex (oP U2 ⟨pg,kd,lc⟩ z);rw[<- hA1,<- hA2] at qg wW;rw[<- hA1] at HU1;rw[<- hA2] at HU2;have ahM:=hb0.size;have KA:=ai (HKP.o.trans (aC.alloc (fun b=>b=gf∨b=gs) wr (.cells #[I pg,I kd,I lc] 174)) (fun _ _ x=>x));have jk:=ai (gB.o.alloc gB.o.size (.cells #[I pg,I kd,I lc] 174));have OA:=ai (HOF.o.kp (aC.alloc (fun _=>False) wr (.cells #[I pg,I kd,I lc] 174)) (fun x=>x));have OB:=ai (HOS.o.kp (aC.alloc (fun _=>False) wr (.cells #[I pg,I kd,I lc] 174)) (fun x=>x));have s1A:(wr.alloc (.cells #[I pg,I kd,I lc] 174)).cell? (Ad sb 1)=some (.slice aa na ca):=aq (bk HBS.o _) 1 rfl;have BE:=ai (bB wr #[I pg,I kd,I lc] 174);clear e0 e1 e2 hL hUU hE hF hA1 hA2 PM hbk hof hos hb0 eY ce bd1 bd2 bd3 bd4 HBD HHE HHA Fe OW akp ako HKP gB HOF HOS HUB bs HBS BS hk5;cases ok with
    | false =>
     have HAF:=ai (qg.o rfl);clear qg wW HU1 HU2 HEU;go_wp2_with (go_at_call 77;refine(LP.o _ jk.o).mono ?_;rintro e w1 ⟨rfl,hb1⟩;have K1:=ai (KA.o.trans (aC.bZ hb1) (fun _ _ x=>x));have Mj:=ai (aN BE.o hb1 (by simp));have hx1:wr.heap.size<w1.heap.size:=aJ Mj.o;clear hb1)
     have KX:=ai (K1.o.trans (aC.alloc (fun b=>b=gf∨b=gs) w1 (.cells #[I f1,I f2,I f3,.bool z] 139)) (fun _ _ x=>x));go_ret;exact⟨ed (fun b=>Ending.returned (.bool b)) HAF.o.symm,ub.o.trans KX.o (fun _ _ x=>x),fun x=>by rw[HAF.o] at x;cases x⟩
    | true =>
     by_cases hlp:pg<=L
     · have HAF:=ai (qg.o (by grind));clear qg wW HU1 HU2 HEU;go_wp2_with (go_at_call 77;refine(LP.o _ jk.o).mono ?_;rintro e w1 ⟨rfl,hb1⟩;have K1:=ai (KA.o.trans (aC.bZ hb1) (fun _ _ x=>x));have Mj:=ai (aN BE.o hb1 (by simp));have t0:w1.cell? (Ad wr.heap.size 0)=some (I pg):=aq Mj.o 0 rfl;have hx1:wr.heap.size<w1.heap.size:=aJ Mj.o;clear hb1)
       have KX:=ai (K1.o.trans (aC.alloc (fun b=>b=gf∨b=gs) w1 (.cells #[I f1,I f2,I f3,.bool z] 139)) (fun _ _ x=>x));go_ret;exact⟨ed (fun b=>Ending.returned (.bool b)) HAF.o.symm,ub.o.trans KX.o (fun _ _ x=>x),fun x=>by rw[HAF.o] at x;cases x⟩
     · have aps:L<pg:=by omega
       rw[ic aps] at qg wW;by_cases k1:kd=1
       · rw[aB k1] at qg wW;have k1b:(kd==1)=true:=by grind
         have HK:=ai k1;clear HU2 k1;cases A1 with
         | false =>
          have HAF:=ai (qg.o rfl);clear qg wW HEU;go_wp2_with (first | (go_at_call 77;refine(LP.o _ jk.o).mono ?_;rintro e w1 ⟨rfl,hb1⟩;have K1:=ai (KA.o.trans (aC.bZ hb1) (fun _ _ x=>x));have O1:=ai (OA.o.kp (aC.bZ (D:=fun _=>False) hb1) (fun x=>x));have O2:=ai (OB.o.kp (aC.bZ (D:=fun _=>False) hb1) (fun x=>x));have Mj:=ai (aN BE.o hb1 (by simp));have t0:w1.cell? (Ad wr.heap.size 0)=some (I pg):=aq Mj.o 0 rfl;have t1:w1.cell? (Ad wr.heap.size 1)=some (I kd):=aq Mj.o 1 rfl;have t2:w1.cell? (Ad wr.heap.size 2)=some (I lc):=aq Mj.o 2 rfl;have hx1:wr.heap.size<w1.heap.size:=aJ Mj.o;clear hb1) | (go_at_call 191;refine(HU1.o _ (O1.o.kp (aC.alloc (fun _=>False) _ _) (fun x=>x))).mono ?_;rintro e w3 ⟨rfl,hk3,ho3⟩;have K3:=ai ((K1.o.trans (aC.alloc (fun b=>b=gf∨b=gs) _ _) (fun _ _ x=>x)).trans (hk3.mono (D1:=fun b=>b=gf∨b=gs) (fun b _ x=>.inl x)) (fun _ _ x=>x));clear hk3 ho3))
          have KX:=ai K3.o;go_ret;exact⟨ed (fun b=>Ending.returned (.bool b)) HAF.o.symm,ub.o.trans KX.o (fun _ _ x=>x),fun x=>by rw[HAF.o] at x;cases x⟩
         | true =>
          have HN1:=ai (wW.o rfl);clear qg wW;go_wp2_with (first | (go_at_call 77;refine(LP.o _ jk.o).mono ?_;rintro e w1 ⟨rfl,hb1⟩;have K1:=ai (KA.o.trans (aC.bZ hb1) (fun _ _ x=>x));have O1:=ai (OA.o.kp (aC.bZ (D:=fun _=>False) hb1) (fun x=>x));have O2:=ai (OB.o.kp (aC.bZ (D:=fun _=>False) hb1) (fun x=>x));have Mj:=ai (aN BE.o hb1 (by simp));have t0:w1.cell? (Ad wr.heap.size 0)=some (I pg):=aq Mj.o 0 rfl;have t1:w1.cell? (Ad wr.heap.size 1)=some (I kd):=aq Mj.o 1 rfl;have t2:w1.cell? (Ad wr.heap.size 2)=some (I lc):=aq Mj.o 2 rfl;have hx1:wr.heap.size<w1.heap.size:=aJ Mj.o;clear hb1) | (go_at_call 191;refine(HU1.o _ (O1.o.kp (aC.alloc (fun _=>False) _ _) (fun x=>x))).mono ?_;rintro e w3 ⟨rfl,hk3,ho3⟩;have K3:=ai ((K1.o.trans (aC.alloc (fun b=>b=gf∨b=gs) _ _) (fun _ _ x=>x)).trans (hk3.mono (D1:=fun b=>b=gf∨b=gs) (fun b _ x=>.inl x)) (fun _ _ x=>x));have O3:=ai ho3;have P3:=ai ((O2.o.kp (aC.alloc (fun _=>False) _ _) (fun x=>x)).kp hk3 (fun x=>hne x.symm));clear hk3 ho3))
          go_roundw
          case rel=>grind [Hid.o]
          grind [intOf]
       · rw[au k1] at qg wW;clear HU1;have k1b:(kd==1)=false:=by grind
         by_cases k2:kd=2
         · rw[aB k2] at qg wW;have k2b:(kd==2)=true:=by grind
           have HK:=ai k1;clear k1 k2;cases A2 with
           | false =>
            have HAF:=ai (qg.o rfl);clear qg wW HEU;go_wp2_with (first | (go_at_call 77;refine(LP.o _ jk.o).mono ?_;rintro e w1 ⟨rfl,hb1⟩;have K1:=ai (KA.o.trans (aC.bZ hb1) (fun _ _ x=>x));have O1:=ai (OA.o.kp (aC.bZ (D:=fun _=>False) hb1) (fun x=>x));have O2:=ai (OB.o.kp (aC.bZ (D:=fun _=>False) hb1) (fun x=>x));have Mj:=ai (aN BE.o hb1 (by simp));have t0:w1.cell? (Ad wr.heap.size 0)=some (I pg):=aq Mj.o 0 rfl;have t1:w1.cell? (Ad wr.heap.size 1)=some (I kd):=aq Mj.o 1 rfl;have t2:w1.cell? (Ad wr.heap.size 2)=some (I lc):=aq Mj.o 2 rfl;have hx1:wr.heap.size<w1.heap.size:=aJ Mj.o;clear hb1) | (go_at_call 191;refine(HU2.o _ (O2.o.kp (aC.alloc (fun _=>False) _ _) (fun x=>x))).mono ?_;rintro e w3 ⟨rfl,hk3,ho3⟩;have K3:=ai ((K1.o.trans (aC.alloc (fun b=>b=gf∨b=gs) _ _) (fun _ _ x=>x)).trans (hk3.mono (D1:=fun b=>b=gf∨b=gs) (fun b _ x=>.inr x)) (fun _ _ x=>x));clear hk3 ho3))
            have KX:=ai K3.o;go_ret;exact⟨ed (fun b=>Ending.returned (.bool b)) HAF.o.symm,ub.o.trans KX.o (fun _ _ x=>x),fun x=>by rw[HAF.o] at x;cases x⟩
           | true =>
            have HN1:=ai (wW.o rfl);clear qg wW;go_wp2_with (first | (go_at_call 77;refine(LP.o _ jk.o).mono ?_;rintro e w1 ⟨rfl,hb1⟩;have K1:=ai (KA.o.trans (aC.bZ hb1) (fun _ _ x=>x));have O1:=ai (OA.o.kp (aC.bZ (D:=fun _=>False) hb1) (fun x=>x));have O2:=ai (OB.o.kp (aC.bZ (D:=fun _=>False) hb1) (fun x=>x));have Mj:=ai (aN BE.o hb1 (by simp));have t0:w1.cell? (Ad wr.heap.size 0)=some (I pg):=aq Mj.o 0 rfl;have t1:w1.cell? (Ad wr.heap.size 1)=some (I kd):=aq Mj.o 1 rfl;have t2:w1.cell? (Ad wr.heap.size 2)=some (I lc):=aq Mj.o 2 rfl;have hx1:wr.heap.size<w1.heap.size:=aJ Mj.o;clear hb1) | (go_at_call 191;refine(HU2.o _ (O2.o.kp (aC.alloc (fun _=>False) _ _) (fun x=>x))).mono ?_;rintro e w3 ⟨rfl,hk3,ho3⟩;have K3:=ai ((K1.o.trans (aC.alloc (fun b=>b=gf∨b=gs) _ _) (fun _ _ x=>x)).trans (hk3.mono (D1:=fun b=>b=gf∨b=gs) (fun b _ x=>.inr x)) (fun _ _ x=>x));have O3:=ai ho3;have P3:=ai ((O1.o.kp (aC.alloc (fun _=>False) _ _) (fun x=>x)).kp hk3 hne);clear hk3 ho3))
            go_roundw
            case rel=>grind [Hid.o]
            grind [intOf]
         · rw[au k2] at qg wW;have k2b:(kd==2)=false:=by grind
           have HAF:=ai (qg.o rfl);clear qg wW HU2 HEU k1 k2;go_wp2_with (go_at_call 77;refine(LP.o _ jk.o).mono ?_;rintro e w1 ⟨rfl,hb1⟩;have K1:=ai (KA.o.trans (aC.bZ hb1) (fun _ _ x=>x));have Mj:=ai (aN BE.o hb1 (by simp));have t0:w1.cell? (Ad wr.heap.size 0)=some (I pg):=aq Mj.o 0 rfl;have t1:w1.cell? (Ad wr.heap.size 1)=some (I kd):=aq Mj.o 1 rfl;have hx1:wr.heap.size<w1.heap.size:=aJ Mj.o;clear hb1)
           have KX:=ai (K1.o.trans (aC.alloc (fun b=>b=gf∨b=gs) w1 (.cells #[I f1,I f2,I f3,.bool z] 139)) (fun _ _ x=>x));go_ret;exact⟨ed (fun b=>Ending.returned (.bool b)) HAF.o.symm,ub.o.trans KX.o (fun _ _ x=>x),fun x=>by rw[HAF.o] at x;cases x⟩
  · obtain rfl:k=es.length:=by omega
    clear hL;go_wp2;go_ret;exact⟨ed (fun b=>Ending.returned (.bool b)) HBK.o.symm,ub.o.trans HKP.o (fun _ _ x=>x),fun _=>⟨HOF.o,HOS.o⟩⟩
open Go.RowKit
theorem Qx (ao:Option Addr) (cap:Nat) (w:World) :
  Calls Tryz.prog 118 #[.slice ao 0 cap] w fun e w'=>e=.returned (.bool (mA []))/\Below w.heap.size w w':=by
 go_enter Tryz.func118,Tryz.ntmps118;go_wp2;refine JY 1 ?_;rw[JU];go_wp2;go_ret;exact⟨rfl,aK _ _⟩
theorem OC (l:List aY) (b off cap:Nat) (w:World) (hl:yX w b off l) (hn:l.length<=140737488351232) :
  Calls Tryz.prog 118 #[.slice (some (Ad b off)) l.length cap] w fun e w'=>e=.returned (.bool (mA l))/\Below w.heap.size w w':=by
 go_enter Tryz.func118,Tryz.ntmps118;go_wp2;go_loopw [7] (fun i wr=>∃k:Nat,k<=l.length/\i=I k/\oF l k=false/\Below w.heap.size w wr) (fun i _=>l.length-(intOf i).toNat)
 case atStart=>exact⟨0,by omega,rfl,rfl,aK _ _⟩
 case round =>
  obtain⟨k,hk,rfl,hz,hb⟩:=hrel;have HZ:=aA hz;have AH:=aA hb;clear hz;by_cases hlt:k<l.length
  · obtain⟨c0,c1,c2,c3⟩:=(hl.below hb) k hlt;obtain⟨a,ha⟩:=ex (bC l k);rw[<- ha] at c0 c1 c2 c3;have HA:=aA ha;clear ha hb;by_cases hzr:a.zero=true
    · have HX:Hid (mA l=true):=abv l k hlt (by grind [Hid.o]);go_wp2;go_ret;exact⟨kG (by rw[HX.o]),AH.o.alloc AH.o.size _⟩
    · have aut:a.zero=false:=by grind
      clear hzr;have HX:Hid (oF l (k+1)=false):=by
       grind [oF,Hid.o]
      go_wp2
      grind [intOf,Hid.o,Below.alloc,Below.size]
  · obtain rfl:k=l.length:=by omega
    go_wp2;go_ret;exact⟨kG HZ.o.symm,AH.o⟩
theorem Qy (l:List aY) (v:Value) (w:World) (h:gD w v l) (hf:dO l) :
  Calls Tryz.prog 118 #[v] w fun e w'=>e=.returned (.bool (mA l))/\Below w.heap.size w w':=by
 obtain⟨ao,cap,rfl,h⟩:=h;rcases h with rfl | ⟨b,off,rfl,hl⟩
 · exact Qx ao cap w
 · exact OC l b off cap w hl hf.2
theorem Jn (hs:List bG) (ao:Option Addr) (cap:Nat) (w:World) (h:jB w ao hs) (hf:rM hs) :
  Calls Tryz.prog 120 #[.slice ao hs.length cap] w fun e w'=>e=.returned (.bool (sW hs))/\Below w.heap.size w w':=by
 have HF:=aA hf;have HH:=aA h;have hn:hs.length<=140737488351232:=hf.1;clear h hf;go_enter Tryz.func120,Tryz.ntmps120;go_wp2;go_loopw [7] (fun i wr=>∃k:Nat,k<=hs.length/\i=I k/\lD hs k=true/\Below w.heap.size w wr) (fun i _=>hs.length-(intOf i).toNat)
 case atStart=>exact⟨0,by omega,rfl,rfl,aK _ _⟩
 case round =>
  obtain⟨k,hk,rfl,hz,hb⟩:=hrel;have HZ:=aA hz;have AH:=aA hb;clear hz;by_cases hlt:k<hs.length
  · obtain⟨b,off,hao,hbl,eY⟩:=(HH.o.below hb) (by omega);subst hao;obtain⟨c0,c1,c2,c3⟩:=eY k hlt;have PN:=HF.o.2 k hlt;have HE:Hid (lD hs (k+1)=dw (bu hs k)):=by
     grind [lD,Hid.o]
    have HE2:Hid (dw (bu hs k)=false->sW hs=false):=fun e=>SQ hs k hlt e
    obtain⟨s,hse⟩:=ex (bu hs k);rw[<- hse] at c0 c1 c2 c3 PN HE HE2;clear hse eY hb;have jk:=aA (AH.o.alloc AH.o.size (.cells #[I s.page,.string s.data,.slice s.ao s.eZ.length s.cap] 145));have HC:Hid (∀W,Below wr.heap.size wr W->Calls Tryz.prog 122 #[.agg #[I s.page,.string s.data,.slice s.ao s.eZ.length s.cap]] W fun e w'=>e=.returned (.bool (dw s))/\Below W.heap.size W w'):=fun W hb=>A5 s W (c3.below hb) PN
    clear c3 PN;cases e:dw s with
    | true =>
     rw[e] at HC HE;clear e;go_wp2_with (go_at_call 122;refine(HC.o _ ((aK _ _).alloc (aD _) _)).mono ?_;rintro e w1 ⟨rfl,hb⟩;have jk:=aA (jk.o.trans (hb.mono jk.o.size));clear hb)
     go_roundw
     case rel=>exact⟨k+1,by omega,by go_num,HE.o,jk.o⟩
     case measure=>simp[intOf];omega
    | false =>
     have HX:=aA (HE2.o e);rw[e] at HC;clear e HE2 HE;go_wp2_with (go_at_call 122;refine(HC.o _ ((aK _ _).alloc (aD _) _)).mono ?_;rintro e w1 ⟨rfl,hb⟩;have jk:=aA (jk.o.trans (hb.mono jk.o.size));clear hb)
     go_ret;exact⟨kG (by rw[HX.o]),jk.o⟩
  · obtain rfl:k=hs.length:=by omega
    go_wp2;go_ret;exact⟨kG HZ.o.symm,AH.o⟩
open Go.RowKit
theorem Nr {a a':Option Addr} {n n' m m':Nat} (h1:a=a') (h2:n=n') (h3:m=m'):Value.slice a n m=.slice a' n' m':=by grind
theorem Qt (l:List aY) (hs:List bG) (en:Int) (va:Value) (ao:Option Addr) (cap:Nat) (w:World) (ha:gD w va l) (hc:bj l=0) (h:jB w ao hs) (hn:hs.length<=140737488351232) (hcap:hs.length<=cap) :
  Calls Tryz.prog 119 #[.agg #[va,.slice ao hs.length cap,I en]] w fun e w'=>e=.returned (.bool (jN l hs))/\Below w.heap.size w w':=by
 obtain⟨b,off,hbo⟩:∃b off,0<hs.length->ao=some (Ad b off)/\b<w.heap.size/\KJ w b off hs:=by
  by_cases h0:0<hs.length
  · obtain⟨b,off,h1,h2,h3⟩:=h h0
    grind
  simp_all
 have HBO:=aA hbo;have HC:=aA hc;have hlen:=oC l hc;obtain⟨aa,ca,rfl,hal⟩:=ha;have Yp:Hid (0<l.length->∃b off,aa=some (Ad b off)/\yX w b off l):=fun g=>by
  grind
 clear hbo hc h hal;have HB:=aA ((aK w.heap.size w).alloc (aD _) (.cells #[.slice aa l.length ca,.slice ao hs.length cap,I en] 25));go_enter Tryz.func119,Tryz.ntmps119;go_wp2;go_loopw [12,3] (fun ix v wr=>∃(i c:Nat) (ao':Option Addr),i<=l.length/\ix=I i/\v=.slice ao' (hs.length-c) (cap-c)/\c<=hs.length/\(c<hs.length->ao'=some (Ad b (off+c*3)))/\(hs.take c).map (·.page)=fG l i/\Below w.heap.size w wr) (fun ix _ _=>l.length-(intOf ix).toNat)
 case atStart=>exact⟨0,0,ao,by omega,rfl,rfl,by omega,fun g=>by grind [Hid.o],rfl,HB.o⟩
 case round =>
  obtain⟨i,c,ao',hi,rfl,rfl,hcl,hao,htk,hb⟩:=hrel;have HAO:=aA hao;have HTK:=aA htk;have AH:=aA hb;clear hao htk;by_cases hlt:i<l.length
  · obtain⟨ba,aue,hae,hl⟩:=Yp.o (by omega);subst hae;obtain⟨c0,c1,c2,c3⟩:=(hl.below hb) i hlt;have hbk:=iy l i (gZ l HC.o i hlt);have HSP:Hid (∀n,n<(bC l i).aQ.toNat->∃t,mM l=(fG l i++kN (bC l i) n)++((bC l i).page+(n:Int))::t):=fun n hn=>QE l i hlt n hn
    have wW:Hid (fG l (i+1)=fG l i++kN (bC l i) (bC l i).aQ.toNat):=rfl;obtain⟨a,hae⟩:=ex (bC l i);rw[<- hae] at c0 c1 c2 c3 hbk HSP wW;clear hae hb;obtain⟨P,hP⟩:∃P:Nat,a.aQ=(P:Int):=⟨a.aQ.toNat,by omega⟩;rw[hP] at c1 hbk HSP wW;rw[jz] at HSP wW;have jk:=aA (AH.o.alloc AH.o.size (.cells #[I a.page,I (P:Int),I a.jL,.bool a.zero] 139));have BA:=aA (bB wr #[I a.page,I (P:Int),I a.jL,.bool a.zero] 139);go_wp2;go_loopw [18,3] (fun nx v wi=>∃(n c:Nat) (ao':Option Addr),n<=P/\nx=I n/\v=.slice ao' (hs.length-c) (cap-c)/\c<=hs.length/\(c<hs.length->ao'=some (Ad b (off+c*3)))/\(hs.take c).map (·.page)=fG l i++kN a n/\Below w.heap.size w wi/\wi.heap[wr.heap.size]?=some (.cells #[I a.page,I (P:Int),I a.jL,.bool a.zero] 139 (0,0))) (fun nx _ _=>P-(intOf nx).toNat)
    case atStart=>exact⟨0,c,ao',by omega,rfl,rfl,hcl,HAO.o,by rw[HTK.o];simp[kN],jk.o,BA.o⟩
    case round =>
     obtain⟨n,c,ao',hn',rfl,rfl,hcl,hao,htk,hb,hba⟩:=hrel;have HAO:=aA hao;have HTK:=aA htk;have HBi:=aA hb;have BAi:=aA hba;have x0:=aq hba 0 rfl;clear hao htk hba;by_cases hlp:n<P
     · obtain⟨t,ht⟩:=HSP.o n hlp;have HT:=aA ht;clear ht;by_cases hce:c=hs.length
       · have HX:Hid (jN l hs=false):=SZ (by have h:=HTK.o;rw[hce] at h;exact h) HT.o;have hz:hs.length-c=0:=by omega
         rw[hz];clear hz hce;go_wp2
         go_quiet (fail)
         go_wp2;go_ret;exact⟨kG HX.o.symm,G8 HBi.o _⟩
       · have ahL:c<hs.length:=by omega
         have hcz:(((hs.length-c:Nat):Int)==0)=false:=by simp;omega
         have avj:0<hs.length-c:=by omega
         obtain⟨-,g2,g3⟩:=HBO.o (by omega);obtain⟨d0,d1,d2,d3⟩:=(adh (hb.mono (Nat.le_of_eq rfl)) g2 g3) c ahL;have hae:=HAO.o ahL;subst hae;have auW:(1:Int)<=((hs.length-c:Nat):Int):=by omega
         by_cases PL:(bu hs c).page=a.page+(n:Int)
         · have HX:Hid ((hs.take (c+1)).map (·.page)=fG l i++kN a (n+1)):=by
            show _=_;rw[CW hs c ahL,HTK.o,PL,wh,vR]
           rw[PL] at d0;clear PL d1 d2 d3 hb hce;by_cases hc1:cap-c=1
           · go_wp2
             go_quiet (fail)
             go_wp2;go_roundw
             case rel=>exact⟨n+1,c+1,_,by omega,by go_num,Nr rfl (by omega) (by omega),by omega,fun g=>by omega,HX.o,G8 HBi.o _,BAi.o⟩
             case measure=>simp[intOf];omega
           · go_wp2
             go_quiet (fail)
             go_wp2;go_roundw
             case rel=>exact⟨n+1,c+1,_,by omega,by go_num,Nr rfl (by omega) (by omega),by omega,fun g=>by simp[Nat.add_mul,za],HX.o,G8 HBi.o _,BAi.o⟩
             case measure=>simp[intOf];omega
         · have HX:Hid (jN l hs=false):=S0 ahL HTK.o HT.o PL;have hpz:((bu hs c).page==a.page+(n:Int))=false:=by simpa using PL
           clear PL d1 d2 d3 hb hce;go_wp2
           go_quiet (fail)
           go_wp2;go_ret;exact⟨kG HX.o.symm,G8 HBi.o _⟩
     · obtain rfl:n=P:=by omega
       go_wp2;go_roundw
       case rel=>exact⟨i+1,c,ao',by omega,by go_num,rfl,hcl,HAO.o,by rw[wW.o];exact HTK.o,HBi.o⟩
       case measure=>simp[intOf];omega
  · obtain rfl:i=l.length:=by omega
    have HX:=aA (VV hcl HTK.o);go_wp2;go_ret;refine⟨kG ?_,AH.o⟩;rw[HX.o];rw[Bool.eq_iff_iff];simp;omega
open Go.RowKit
theorem Ko (l:List aY) (va vs:Value) (en:Int) (w:World) (ha:gD w va l) (hf:dO l) (hc:bj l=0) (he:cN en) (H8:∃ao n c,va=.slice ao n c) (hvs:∃ao n c,vs=.slice ao n c) :
  Calls Tryz.prog 121 #[.agg #[va,vs,I en]] w fun e w'=>e=.returned (.bool (Bb l en))/\Below w.heap.size w w':=by
 have RO:Hid (aV l (en.tdiv 16)=bW l (en.tdiv 16)):=by show _=_;grind [aV]
 have Bv:=aA (SY l hc (en.tdiv 16));have HE:Hid (Bb l en=((bW l (en.tdiv 16)).2&&(decide (2<=(bW l (en.tdiv 16)).1.jL)&&decide (en.tmod 8=0)))):=rfl;have LP:Hid (∀W,Below w.heap.size w W->Calls Tryz.prog 77 #[va,I (en.tdiv 16)] W fun e w'=>e=.returned (.tuple #[.agg (nK (bW l (en.tdiv 16)).1),.bool (bW l (en.tdiv 16)).2])/\Below W.heap.size W w'):=fun W hb=>by
  have h:=vH l va (en.tdiv 16) W (ha.below hb) hf;rw[RO.o] at h;exact h
 obtain⟨r,hr⟩:=ex (bW l (en.tdiv 16));rw[<- hr] at Bv HE LP;clear hr RO ha hf hc;obtain⟨⟨pg,pn,pr,zr⟩,ok⟩:=r;simp only[nK] at LP Bv HE;obtain⟨aa,na,ca,rfl⟩:=H8;obtain⟨ao,no,co,rfl⟩:=hvs;unfold cN at he;have HB:=aA ((aK w.heap.size w).alloc (aD _) (.cells #[.slice aa na ca,.slice ao no co,I en] 25));have BX:=aA (bB w #[.slice aa na ca,.slice ao no co,I en] 25);rw[HE.o];cases ok with
 | false =>
  go_enter Tryz.func121,Tryz.ntmps121;go_wp2_with (go_at_call 77;refine(LP.o _ HB.o).mono ?_;rintro e w1 ⟨rfl,hb⟩;have HB:=aA (HB.o.trans (hb.mono HB.o.size));clear hb)
  go_ret;exact⟨rfl,HB.o.alloc HB.o.size _⟩
 | true =>
  have hpr:=SU (Bv.o rfl);have b0:bits BinOp.and IntKind.i64 0 2=0:=by decide
  have b1:bits BinOp.and IntKind.i64 1 2=0:=by decide
  have b2:bits BinOp.and IntKind.i64 2 2=2:=by decide
  have b3:bits BinOp.and IntKind.i64 3 2=2:=by decide
  clear Bv;by_cases h8:en.tmod 8=0
  · rcases hpr with rfl | rfl | rfl | rfl
    all_goals
     go_enter Tryz.func121,Tryz.ntmps121;go_wp2_with (go_at_call 77;refine(LP.o _ HB.o).mono ?_;rintro e w1 ⟨rfl,hb⟩;have HB:=aA (HB.o.trans (hb.mono HB.o.size));have BX:=aA (aN BX.o hb (aJ BX.o));have hbx:=aJ BX.o;have x2:=aq BX.o 2 rfl;clear hb)
     go_ret;exact⟨kG (by simp[h8]),HB.o.alloc HB.o.size _⟩
  · have h8':(en.tmod 8==0)=false:=by grind
    rcases hpr with rfl | rfl | rfl | rfl
    all_goals
     go_enter Tryz.func121,Tryz.ntmps121;go_wp2_with (go_at_call 77;refine(LP.o _ HB.o).mono ?_;rintro e w1 ⟨rfl,hb⟩;have HB:=aA (HB.o.trans (hb.mono HB.o.size));have BX:=aA (aN BX.o hb (aJ BX.o));have hbx:=aJ BX.o;have x2:=aq BX.o 2 rfl;clear hb)
     go_ret;exact⟨kG (by simp[h8]),HB.o.alloc HB.o.size _⟩
theorem Qs {w:World} {v:Value} {l:List aY} (h:gD w v l):∃ao n c,v=.slice ao n c:=by
 obtain⟨ao,cap,h,_⟩:=h
 grind
theorem VO (l:List aY) (hs:List bG) (en:Int) (va:Value) (ao:Option Addr) (cap:Nat) (w:World) (ha:gD w va l) (hf:dO l) (h:jB w ao hs) (Qd:rM hs) (hcap:hs.length<=cap) (he:cN en) :
  Calls Tryz.prog 69 #[.agg #[va,.slice ao hs.length cap,I en]] w fun e w'=>e=.returned (I (lG l hs en))/\Below w.heap.size w w':=by
 have Cv:Hid (∀W,Below w.heap.size w W->Calls Tryz.prog 117 #[va] W fun e w'=>e=.returned (I (bj l))/\Below W.heap.size W w'):=fun W hb=>jF l va W (ha.below hb) hf
 have HZ:Hid (∀W,Below w.heap.size w W->Calls Tryz.prog 118 #[va] W fun e w'=>e=.returned (.bool (mA l))/\Below W.heap.size W w'):=fun W hb=>Qy l va W (ha.below hb) hf
 have HEA:Hid (bj l=0->∀W,Below w.heap.size w W->Calls Tryz.prog 119 #[.agg #[va,.slice ao hs.length cap,I en]] W fun e w'=>e=.returned (.bool (jN l hs))/\Below W.heap.size W w'):=fun hc W hb=>Qt l hs en va ao cap W (ha.below hb) hc (h.below hb) Qd.1 hcap
 have HSH:Hid (∀W,Below w.heap.size w W->Calls Tryz.prog 120 #[.slice ao hs.length cap] W fun e w'=>e=.returned (.bool (sW hs))/\Below W.heap.size W w'):=fun W hb=>Jn hs ao cap W (h.below hb) Qd
 have yF:Hid (bj l=0->∀W,Below w.heap.size w W->Calls Tryz.prog 121 #[.agg #[va,.slice ao hs.length cap,I en]] W fun e w'=>e=.returned (.bool (Bb l en))/\Below W.heap.size W w'):=fun hc W hb=>Ko l va _ en W (ha.below hb) hf hc he (Qs ha) ⟨_,_,_,rfl⟩
 have HR:Hid (lG l hs en=if bj l=0 then (if !mA l&&(jN l hs&&(sW hs&&Bb l en)) then 0 else 1) else bj l):=rfl;obtain⟨aa,na,ca,rfl⟩:=Qs ha;clear ha hf h Qd hcap he;obtain⟨N,hN⟩:=ex hs.length;rw[<- hN] at HEA HSH yF;rw[<- hN];obtain⟨z,hz⟩:=ex (mA l);rw[<- hz] at HZ HR;obtain⟨q,hq⟩:=ex (jN l hs);rw[<- hq] at HEA HR;obtain⟨s,hs'⟩:=ex (sW hs);rw[<- hs'] at HSH HR;obtain⟨r,hr⟩:=ex (Bb l en);rw[<- hr] at yF HR;obtain⟨C,hC⟩:=ex (bj l);rw[<- hC] at Cv HEA yF HR;rw[HR.o];clear hN hz hq hs' hr hC HR;have HB:=aA ((aK w.heap.size w).alloc (aD _) (.cells #[.slice aa na ca,.slice ao N cap,I en] 25));have BX:=aA (bB w #[.slice aa na ca,.slice ao N cap,I en] 25);by_cases hc:C=0
 · subst hc;have aq9:=aA (HEA.o rfl);have aq8:=aA (yF.o rfl);clear HEA yF;rw[aB rfl];cases z <;> cases q <;> cases s <;> cases r
   all_goals
    go_enter Tryz.func69,Tryz.ntmps69;go_wp2_with (first
     | (go_at_call 117;refine(Cv.o _ HB.o).mono ?_;rintro e w1 ⟨rfl,hb⟩;have HB:=aA (HB.o.trans (hb.mono HB.o.size));have BX:=aA (aN BX.o hb (aJ BX.o));have x0:=aq BX.o 0 rfl;clear hb)
     | (go_at_call 118;refine(HZ.o _ HB.o).mono ?_;rintro e w1 ⟨rfl,hb⟩;have HB:=aA (HB.o.trans (hb.mono HB.o.size));have BX:=aA (aN BX.o hb (aJ BX.o));have x0:=aq BX.o 0 rfl;have x1:=aq BX.o 1 rfl;have x2:=aq BX.o 2 rfl;clear hb)
     | (go_at_call 119;refine(aq9.o _ HB.o).mono ?_;rintro e w1 ⟨rfl,hb⟩;have HB:=aA (HB.o.trans (hb.mono HB.o.size));have BX:=aA (aN BX.o hb (aJ BX.o));have x1:=aq BX.o 1 rfl;clear hb)
     | (go_at_call 120;refine(HSH.o _ HB.o).mono ?_;rintro e w1 ⟨rfl,hb⟩;have HB:=aA (HB.o.trans (hb.mono HB.o.size));have BX:=aA (aN BX.o hb (aJ BX.o));have x0:=aq BX.o 0 rfl;have x1:=aq BX.o 1 rfl;have x2:=aq BX.o 2 rfl;clear hb)
     | (go_at_call 121;refine(aq8.o _ HB.o).mono ?_;rintro e w1 ⟨rfl,hb⟩;have HB:=aA (HB.o.trans (hb.mono HB.o.size));clear hb))
    go_ret;exact⟨rfl,HB.o⟩
 · have hc':(C==0)=false:=by grind
   rw[au hc];go_enter Tryz.func69,Tryz.ntmps69;go_wp2_with (go_at_call 117;refine(Cv.o _ HB.o).mono ?_;rintro e w1 ⟨rfl,hb⟩;have HB:=aA (HB.o.trans (hb.mono HB.o.size));clear hb)
   go_ret;exact⟨rfl,HB.o⟩
open Go.RowKit
theorem abn (o:kr) (w:World) (h:qm w o.a o.i) (hc:mC o.i=0) (h0:0<=o.base) (h1:o.base<=100000) :
  Calls Tryz.prog 65 #[.agg (px o)] w fun e w'=>e=.returned (I (xU o))/\Below w.heap.size w w':=by
 have hl:=Fv hc;have hn:=wk hc;have HS:=h.jK;obtain⟨⟨nm,ns,gs,ys,rs,en⟩,⟨an,cn,ag,cg,ay,cy,ar,cr⟩,ba⟩:=o;simp only[px];simp only at HS hn h0 h1;obtain⟨b,off,hag,hbl,eY⟩:=HS (by omega);subst hag;have E:Hid (xU ⟨⟨nm,ns,gs,ys,rs,en⟩,⟨an,cn,some (Ad b off),cg,ay,cy,ar,cr⟩,ba⟩=ba+(eN gs (gs.length-1)).page+(eN gs (gs.length-1)).aQ):=rfl;have hl':0<=(eN gs (gs.length-1)).page/\1<=(eN gs (gs.length-1)).aQ/\(eN gs (gs.length-1)).page+(eN gs (gs.length-1)).aQ<=255:=hl;obtain⟨c0,c1,c2,c3,c4⟩:=eY (gs.length-1) (by omega);rw[E.o];obtain⟨s,hs⟩:=ex (eN gs (gs.length-1));rw[<- hs] at c0 c1 c2 c3 c4 hl';rw[<- hs];clear hs hl eY HS h E;obtain⟨G,hG⟩:=ex gs.length;rw[<- hG] at c0 c1 c2 c3 c4 hn;rw[<- hG];clear hG hc;have HB:=aA ((aK w.heap.size w).alloc (aD _) (.cells #[.string nm,.slice an ns.length cn,.slice (some (Ad b off)) G cg,.slice ay ys.length cy,.slice ar rs.length cr,I en,I ba] 131));go_enter Tryz.func65,Tryz.ntmps65;go_wp2;go_ret;exact⟨rfl,HB.o.alloc HB.o.size _⟩
theorem Qz (o:kr) (Yj:Int) (w:World) (h0:0<=o.base) (h1:o.base<=100000) (h2:0<=Yj) (h3:Yj<=100000) :
  Calls Tryz.prog 68 #[.agg (px o),I Yj] w fun e w'=>e=.returned (I (yq o Yj))/\Below w.heap.size w w':=by
 obtain⟨⟨nm,ns,gs,ys,rs,en⟩,⟨an,cn,ag,cg,ay,cy,ar,cr⟩,ba⟩:=o;simp only[px,yq];simp only at h0 h1;go_enter Tryz.func68,Tryz.ntmps68;go_wp2;go_ret;exact⟨rfl,(aK _ _).alloc (aD _) _⟩
theorem YP (s:pR) (w:World) :
  Calls Tryz.prog 116 #[.agg #[I s.page,I s.aQ,.string s.data,.bool s.wr,.bool s.ex]] w fun e w'=>e=.returned (I (vW s))/\Below w.heap.size w w':=by
 obtain⟨pg,pn,dt,wr,ex⟩:=s;have b1:bits BinOp.or IntKind.i64 0 1=1:=by decide
 have b2:bits BinOp.or IntKind.i64 0 2=2:=by decide
 have b3:bits BinOp.or IntKind.i64 1 2=3:=by decide
 cases wr <;> cases ex
 all_goals
  go_enter Tryz.func116,Tryz.ntmps116;go_wp2;go_ret;simp[vW,aK,qj]
open Go.RowKit
open Go.RowKit
open Go.RowKit Go.WideMaps Go.Maps
def ah3 (l:List iW) (w:World) (e:Ending) (w':World):Prop:=Below w.heap.size w w' /\
 if oM l=0 then ∃m D,e=.returned (.tuple #[.map (some m),I 0])/\w'.ownsMap Tryz.prog 9 Y3 m l.length D/\KG l l.length D
 else e=.returned (.tuple #[.map none,I (oM l)])
open Go.RowKit
open Go.RowKit Go.WideMaps Go.Maps
theorem vv {α:Type} (f:α->List Value) (c:Nat) (hc:∀x,(f x).length=c) (d:α):∀(l:List α) (i j:Nat),i<l.length->j<c->(l.flatMap f)[i*c+j]?=(f (l.getD i d))[j]?
 | a::r,0,j,_,hj=>by
  grind
 | a::r,i+1,j,hi,hj=>by
  rw[nV,zj (by grind),hc,show(i+1)*c+j-c=i*c+j by grind];exact vv f c hc d r i j (by grind) hj
def PQ (all:List iW) (R:Option (List Nat)) (w:World) (e:Ending) (w':World):Prop:=Below w.heap.size w w'/\match R with
 | none=>e=.returned (.tuple #[Nl,.bool false])
 | some ix=>Hn all ix/\∃ao cap,e=.returned (.tuple #[.slice ao ix.length cap,.bool true])/\KM w' ao (eV all 1 ix)
structure ajf (all:List iW) (m:Nat) (D:DataW Value) (w:World):Prop where
 pos:0<all.length
 few:all.length<=7
 chk:∀j,j<all.length->mC (cD all j).i=0
 fit:∀j,j<all.length->Kj (cD all j).i
 once:xP (kj all)=true
 im:∀j,j<all.length->qm w (cD all j).a (cD all j).i
 map:w.ownsMap Tryz.prog 9 Y3 m all.length D
 nm:KG all all.length D
open Go.RowKit Go.WideMaps Go.Maps
theorem DD {w w':World} {base:Nat} {e:TypeId} {size:Nat} {v:Value} {n:Nat} {xs:List Value} (h:w.ownsRow base e size v n xs) (hb:Below w.heap.size w w'):w'.ownsRow base e size v n xs:=by
 refine⟨h.1,?_⟩;rcases h.2 with h2 | ⟨g,cap,cur,hv,hbg,hg,rest⟩
 · grind
 · exact .inr ⟨g,cap,cur,hv,hbg,(hb.block g (aJ hg)).trans hg,rest⟩
open Go.RowKit
open Go.RowKit
theorem zl {P:Program} {f:FuncId} {args:Array Value} {v:Value} {w:World} (x:dW w.heap.size w) (h:∀W,Below w.heap.size w W->Calls P f args W fun e w'=>e=.returned v/\Below W.heap.size W w') :
  Calls P f args x.world fun e w''=>e=.returned v/\∃y:dW w.heap.size w,w''=y.world :=
 (h x.world x.keeps).mono fun e w'' ⟨he,hb⟩=>⟨he,⟨w'',x.keeps.trans (hb.mono x.keeps.size)⟩,rfl⟩
end Go.Proofs.YtlgoihmkgaaemaaGreat
