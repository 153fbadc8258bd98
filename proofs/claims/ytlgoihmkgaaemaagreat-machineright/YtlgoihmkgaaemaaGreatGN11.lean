import Derived.Test.YtlgoihmkgaaemaaGreatGN10
import Derived.Test.YtlgoihmkgaaemaaGreatGN08
set_option maxHeartbeats 20000000
set_option linter.unusedVariables false
set_option maxRecDepth 100000
set_option linter.unusedSimpArgs false
namespace Go.Proofs.YtlgoihmkgaaemaaGreat
open Go.RowKit
theorem Ht (s:cY) (va:Value) (ap:Option Addr) (cp:Nat) (uf us:List fe) (lo gf nf cf gs ns cs:Nat) (bd:Int) (w0 w:World) (ha:fZ w0 va s.aU) (he:dW bG 3 gV w0 ap s.bc) (hfit:QJ s) (hw:Below w0.heap.size w0 w) (hlo:w0.heap.size<=lo) (huf:ic lo w gf nf cf uf) (hus:ic lo w gs ns cs us) (hne:¬gf=gs) (hb1:mI uf nf bd) (hb2:mI us ns bd) (hB:bd<=100000) (B6:nf<=1000) (hns:ns<=1000) :
  Calls Tryz.prog 142 #[.agg #[.bool s.live,va,.slice ap s.bc.length cp],.slice (some (Ad gf 0)) nf cf,.slice (some (Ad gs 0)) ns cs] w fun x w'=>x=.returned (.bool (jS s.aU s.bc (uf,us) s.bc.length))/\aD (fun b=>b=gf∨b=gs) w w'/\(jS s.aU s.bc (uf,us) s.bc.length=true->ic lo w' gf nf cf (jx s.aU s.bc (uf,us) s.bc.length).1/\ic lo w' gs ns cs (jx s.aU s.bc (uf,us) s.bc.length).2):=by
 obtain⟨lv,ar,es⟩:=s;simp only at ha he hfit ⊢;have HHA:=ai ha;have HHE:=ai he;have E7:=ai hfit.aU;have OG:=ai hfit.M6;have hel:es.length<=140737488351232:=hfit.bc;have HW:=ai hw;have hgf:=huf.lt;have hgs:=hus.lt;have HBD:=ai (Jq ar es (uf,us) nf ns bd hb1 hb2);have pW:=ai (Zf ar es (uf,us));have wS:Hid (∀k,jS ar es (uf,us) k=true->xY ar (rJ es k) (jx ar es (uf,us) k).1 (jx ar es (uf,us) k).2 (aW es k)=true->jS ar es (uf,us) (k+1)=true/\jx ar es (uf,us) (k+1)=tT ar (jx ar es (uf,us) k) (aW es k)):=fun k h1 h2=>⟨by grind [jS],rfl⟩
 have Z8:Hid (∀k,rJ es (k+1)=(aW es k).page):=fun k=>by rfl
 obtain⟨aa,ca,Ja,_⟩:=id ha;subst Ja;obtain⟨na,rz⟩:=ex ar.length;rw[<- rz] at HHA ⊢;have tV:=ai (aD.alloc (fun b=>b=gf∨b=gs) w (.cells #[.bool lv,.slice aa na ca,.slice ap es.length cp] 99));have BS:=ai (bE w #[.bool lv,.slice aa na ca,.slice ap es.length cp] 99);have akV:=ai (huf.kp (aD.alloc (fun _=>False) w (.cells #[.bool lv,.slice aa na ca,.slice ap es.length cp] 99)) (fun x=>x));have akU:=ai (hus.kp (aD.alloc (fun _=>False) w (.cells #[.bool lv,.slice aa na ca,.slice ap es.length cp] 99)) (fun x=>x));clear ha he hfit hw huf hus hb1 hb2 rz;go_enter Tryz.func142,Tryz.ntmps142;go_wp2;obtain⟨W,hW⟩:=ex (w.alloc (.cells #[.bool lv,.slice aa na ca,.slice ap es.length cp] 99));rw[<- hW] at tV BS akV akU ⊢;obtain⟨sb,Jc⟩:=ex w.heap.size;have avn:¬sb=gf:=by omega
 have avm:¬sb=gs:=by omega
 have hsW:W.heap.size=sb+1:=by simp_all
 have h0s:w0.heap.size<=sb:=by omega
 have avV:gf<sb:=by omega
 have avR:gs<sb:=by omega
 rw[<- Jc] at BS ⊢;clear hW Jc;go_loopw [7,15] (fun lv iv wr=>∃k:Nat,k<=es.length/\iv=I (k:Int)/\lv=I (rJ es k)/\jS ar es (uf,us) k=true/\aD (fun b=>b=gf∨b=gs) W wr/\ic lo wr gf nf cf (jx ar es (uf,us) k).1/\ic lo wr gs ns cs (jx ar es (uf,us) k).2) (fun _ iv _=>es.length-(intOf iv).toNat)
 case atStart=>exact⟨0,by omega,rfl,rfl,rfl,aD.refl _ _,akV.o,akU.o⟩
 case round =>
  obtain⟨k,hk,rfl,rfl,hbk,Px,hof,hos⟩:=hrel;have HKP:=ai Px;have HBK:=ai hbk;have HOF:=ai hof;have HOS:=ai hos;obtain⟨L,hL⟩:=ex (rJ es k);rw[<- hL];have bs:=Px.keep BS.o (fun x=>by omega);have hsz:=Px.size;have s2:wr.cell? (Ad sb 2)=some (.slice ap es.length cp):=au bs 2 rfl;have HBS:=ai bs;by_cases hlt:k<es.length
  · have hb0:=(Px.below (tV.o.below HW.o HW.o.size (fun b hb=>by omega)) (by omega) (fun b hb=>by omega):Below w0.heap.size w0 wr);have gK:=ai hb0;obtain⟨eb,eo,hao,hbl,eY⟩:=HHE.o (by omega);subst hao;have ce:∀j,j<3->wr.cell? (Ad eb (eo+k*3+j))=(bG (aW es k))[j]?:=fun j hj=>(hb0.cell (p:=(Ad eb (eo+k*3+j))) hbl).trans (eY k hlt j hj)
    have e0:=ce 0 (by omega);have e1:=ce 1 (by omega);have e2:=ce 2 (by omega);rw[kW] at e0;have hfe:=OG.o k hlt;have pW:=ai (pW.o k hlt);have wS:=ai (wS.o k HBK.o);have Z8:=ai (Z8.o k);obtain⟨bd1,bd2,bd3,bd4⟩:=HBD.o k (by omega) HBK.o;have hk5:(k:Int)<=255:=by omega
    have HUB:Hid (mI (jx ar es (uf,us) k).1 nf 1000000/\mI (jx ar es (uf,us) k).2 ns 1000000):=⟨bd1.mono (by omega),bd2.mono (by omega)⟩;have Rn:Hid (∀V,Below w0.heap.size w0 V->Calls Tryz.prog 77 #[.slice aa na ca,I (aW es k).page] V fun e w'=>e=.returned (.tuple #[.agg (ru (aY ar (aW es k).page).1),.bool (aY ar (aW es k).page).2])/\Below V.heap.size V w'):=fun V hV=>yI ar _ _ V (HHA.o.below hV) E7.o
    rw[<- hL] at pW wS;have HEU:Hid (∀u:List fe×List fe,tT ar u (aW es k)=if (aW es k).kind=1 then (sF u.1 (aW es k) (aY ar (aW es k).page).1.zero,u.2) else (u.1,sF u.2 (aW es k) (aY ar (aW es k).page).1.zero)):=fun u=>rfl
    obtain⟨UU,hUU⟩:=ex (jx ar es (uf,us) k);rw[<- hUU] at pW wS HUB HOF HOS;obtain⟨U1,U2⟩:=UU;unfold xY at pW wS;obtain⟨E,hE⟩:=ex (aW es k);rw[<- hE] at e0 e1 e2 hfe pW wS Z8 Rn HEU;obtain⟨pg,kd,lc⟩:=E;simp only at pW wS HUB HOF HOS hfe Z8 Rn HEU;have x0:wr.cell? (Ad eb (eo+k*3))=some (I pg):=e0;have x1:wr.cell? (Ad eb (eo+k*3+1))=some (I kd):=e1;have x2:wr.cell? (Ad eb (eo+k*3+2))=some (I lc):=e2;obtain⟨⟨fa,ok⟩,hF⟩:∃F,F=aY ar pg:=⟨_,rfl⟩;rw[<- hF] at pW wS Rn HEU;obtain⟨f1,f2,f3,z⟩:=fa;unfold ru at Rn;simp only at pW wS Rn HEU;have HU1:=ai (fun V (hV:ic lo V gf nf cf U1)=>QG U1 ⟨pg,kd,lc⟩ z lo gf nf cf V hV B6 ⟨hfe.1,hfe.2.2⟩ (fun i hi=>HUB.o.1.2 i hi));have HU2:=ai (fun V (hV:ic lo V gs ns cs U2)=>QG U2 ⟨pg,kd,lc⟩ z lo gs ns cs V hV hns ⟨hfe.1,hfe.2.2⟩ (fun i hi=>HUB.o.2.2 i hi));obtain⟨A1,hA1⟩:=ex (oJ U1 ⟨pg,kd,lc⟩ z);obtain⟨A2,hA2⟩:=ex (oJ U2 ⟨pg,kd,lc⟩ z);rw[<- hA1,<- hA2] at pW wS;rw[<- hA1] at HU1;rw[<- hA2] at HU2;have ahF:=hb0.size;have KA:=ai (HKP.o.trans (aD.alloc (fun b=>b=gf∨b=gs) wr (.cells #[I pg,I kd,I lc] 174)) (fun _ _ x=>x));have jV:=ai (gK.o.alloc gK.o.size (.cells #[I pg,I kd,I lc] 174));have OA:=ai (HOF.o.kp (aD.alloc (fun _=>False) wr (.cells #[I pg,I kd,I lc] 174)) (fun x=>x));have OB:=ai (HOS.o.kp (aD.alloc (fun _=>False) wr (.cells #[I pg,I kd,I lc] 174)) (fun x=>x));have s1A:(wr.alloc (.cells #[I pg,I kd,I lc] 174)).cell? (Ad sb 1)=some (.slice aa na ca):=au (br HBS.o _) 1 rfl;have BE:=ai (bE wr #[I pg,I kd,I lc] 174);clear e0 e1 e2 hL hUU hE hF hA1 hA2 Px hbk hof hos hb0 eY ce bd1 bd2 bd3 bd4 HBD HHE HHA E7 OG akV akU HKP gK HOF HOS HUB bs HBS BS hk5;cases ok with
    | false =>
     have HAF:=ai (pW.o rfl);clear pW wS HU1 HU2 HEU;go_wp2_with (go_at_call 77;refine(Rn.o _ jV.o).mono ?_;rintro e w1 ⟨rfl,hb1⟩;have K1:=ai (KA.o.trans (aD.b9 hb1) (fun _ _ x=>x));have L5:=ai (aO BE.o hb1 (by simp));have hx1:wr.heap.size<w1.heap.size:=aJ L5.o;clear hb1)
     have KX:=ai (K1.o.trans (aD.alloc (fun b=>b=gf∨b=gs) w1 (.cells #[I f1,I f2,I f3,.bool z] 139)) (fun _ _ x=>x));go_ret;exact⟨dI (fun b=>Ending.returned (.bool b)) HAF.o.symm,tV.o.trans KX.o (fun _ _ x=>x),fun x=>by rw[HAF.o] at x;cases x⟩
    | true =>
     by_cases hlp:pg<=L
     · have HAF:=ai (pW.o (by grind));clear pW wS HU1 HU2 HEU;go_wp2_with (go_at_call 77;refine(Rn.o _ jV.o).mono ?_;rintro e w1 ⟨rfl,hb1⟩;have K1:=ai (KA.o.trans (aD.b9 hb1) (fun _ _ x=>x));have L5:=ai (aO BE.o hb1 (by simp));have t0:w1.cell? (Ad wr.heap.size 0)=some (I pg):=au L5.o 0 rfl;have hx1:wr.heap.size<w1.heap.size:=aJ L5.o;clear hb1)
       have KX:=ai (K1.o.trans (aD.alloc (fun b=>b=gf∨b=gs) w1 (.cells #[I f1,I f2,I f3,.bool z] 139)) (fun _ _ x=>x));go_ret;exact⟨dI (fun b=>Ending.returned (.bool b)) HAF.o.symm,tV.o.trans KX.o (fun _ _ x=>x),fun x=>by rw[HAF.o] at x;cases x⟩
     · have adE:L<pg:=by omega
       rw[gZ adE] at pW wS;by_cases k1:kd=1
       · rw[aC k1] at pW wS;have k1b:(kd==1)=true:=by grind
         have HK:=ai k1;clear HU2 k1;cases A1 with
         | false =>
          have HAF:=ai (pW.o rfl);clear pW wS HEU;go_wp2_with (first | (go_at_call 77;refine(Rn.o _ jV.o).mono ?_;rintro e w1 ⟨rfl,hb1⟩;have K1:=ai (KA.o.trans (aD.b9 hb1) (fun _ _ x=>x));have O1:=ai (OA.o.kp (aD.b9 (D:=fun _=>False) hb1) (fun x=>x));have O2:=ai (OB.o.kp (aD.b9 (D:=fun _=>False) hb1) (fun x=>x));have L5:=ai (aO BE.o hb1 (by simp));have t0:w1.cell? (Ad wr.heap.size 0)=some (I pg):=au L5.o 0 rfl;have t1:w1.cell? (Ad wr.heap.size 1)=some (I kd):=au L5.o 1 rfl;have t2:w1.cell? (Ad wr.heap.size 2)=some (I lc):=au L5.o 2 rfl;have hx1:wr.heap.size<w1.heap.size:=aJ L5.o;clear hb1) | (go_at_call 191;refine(HU1.o _ (O1.o.kp (aD.alloc (fun _=>False) _ _) (fun x=>x))).mono ?_;rintro e w3 ⟨rfl,hk3,ho3⟩;have K3:=ai ((K1.o.trans (aD.alloc (fun b=>b=gf∨b=gs) _ _) (fun _ _ x=>x)).trans (hk3.mono (D1:=fun b=>b=gf∨b=gs) (fun b _ x=>.inl x)) (fun _ _ x=>x));clear hk3 ho3))
          have KX:=ai K3.o;go_ret;exact⟨dI (fun b=>Ending.returned (.bool b)) HAF.o.symm,tV.o.trans KX.o (fun _ _ x=>x),fun x=>by rw[HAF.o] at x;cases x⟩
         | true =>
          have HN1:=ai (wS.o rfl);clear pW wS;go_wp2_with (first | (go_at_call 77;refine(Rn.o _ jV.o).mono ?_;rintro e w1 ⟨rfl,hb1⟩;have K1:=ai (KA.o.trans (aD.b9 hb1) (fun _ _ x=>x));have O1:=ai (OA.o.kp (aD.b9 (D:=fun _=>False) hb1) (fun x=>x));have O2:=ai (OB.o.kp (aD.b9 (D:=fun _=>False) hb1) (fun x=>x));have L5:=ai (aO BE.o hb1 (by simp));have t0:w1.cell? (Ad wr.heap.size 0)=some (I pg):=au L5.o 0 rfl;have t1:w1.cell? (Ad wr.heap.size 1)=some (I kd):=au L5.o 1 rfl;have t2:w1.cell? (Ad wr.heap.size 2)=some (I lc):=au L5.o 2 rfl;have hx1:wr.heap.size<w1.heap.size:=aJ L5.o;clear hb1) | (go_at_call 191;refine(HU1.o _ (O1.o.kp (aD.alloc (fun _=>False) _ _) (fun x=>x))).mono ?_;rintro e w3 ⟨rfl,hk3,ho3⟩;have K3:=ai ((K1.o.trans (aD.alloc (fun b=>b=gf∨b=gs) _ _) (fun _ _ x=>x)).trans (hk3.mono (D1:=fun b=>b=gf∨b=gs) (fun b _ x=>.inl x)) (fun _ _ x=>x));have O3:=ai ho3;have P3:=ai ((O2.o.kp (aD.alloc (fun _=>False) _ _) (fun x=>x)).kp hk3 (fun x=>hne x.symm));clear hk3 ho3))
          go_roundw
          case rel=>grind [Hid.o]
          grind [intOf]
       · rw[aA k1] at pW wS;clear HU1;have k1b:(kd==1)=false:=by grind
         by_cases k2:kd=2
         · rw[aC k2] at pW wS;have k2b:(kd==2)=true:=by grind
           have HK:=ai k1;clear k1 k2;cases A2 with
           | false =>
            have HAF:=ai (pW.o rfl);clear pW wS HEU;go_wp2_with (first | (go_at_call 77;refine(Rn.o _ jV.o).mono ?_;rintro e w1 ⟨rfl,hb1⟩;have K1:=ai (KA.o.trans (aD.b9 hb1) (fun _ _ x=>x));have O1:=ai (OA.o.kp (aD.b9 (D:=fun _=>False) hb1) (fun x=>x));have O2:=ai (OB.o.kp (aD.b9 (D:=fun _=>False) hb1) (fun x=>x));have L5:=ai (aO BE.o hb1 (by simp));have t0:w1.cell? (Ad wr.heap.size 0)=some (I pg):=au L5.o 0 rfl;have t1:w1.cell? (Ad wr.heap.size 1)=some (I kd):=au L5.o 1 rfl;have t2:w1.cell? (Ad wr.heap.size 2)=some (I lc):=au L5.o 2 rfl;have hx1:wr.heap.size<w1.heap.size:=aJ L5.o;clear hb1) | (go_at_call 191;refine(HU2.o _ (O2.o.kp (aD.alloc (fun _=>False) _ _) (fun x=>x))).mono ?_;rintro e w3 ⟨rfl,hk3,ho3⟩;have K3:=ai ((K1.o.trans (aD.alloc (fun b=>b=gf∨b=gs) _ _) (fun _ _ x=>x)).trans (hk3.mono (D1:=fun b=>b=gf∨b=gs) (fun b _ x=>.inr x)) (fun _ _ x=>x));clear hk3 ho3))
            have KX:=ai K3.o;go_ret;exact⟨dI (fun b=>Ending.returned (.bool b)) HAF.o.symm,tV.o.trans KX.o (fun _ _ x=>x),fun x=>by rw[HAF.o] at x;cases x⟩
           | true =>
            have HN1:=ai (wS.o rfl);clear pW wS;go_wp2_with (first | (go_at_call 77;refine(Rn.o _ jV.o).mono ?_;rintro e w1 ⟨rfl,hb1⟩;have K1:=ai (KA.o.trans (aD.b9 hb1) (fun _ _ x=>x));have O1:=ai (OA.o.kp (aD.b9 (D:=fun _=>False) hb1) (fun x=>x));have O2:=ai (OB.o.kp (aD.b9 (D:=fun _=>False) hb1) (fun x=>x));have L5:=ai (aO BE.o hb1 (by simp));have t0:w1.cell? (Ad wr.heap.size 0)=some (I pg):=au L5.o 0 rfl;have t1:w1.cell? (Ad wr.heap.size 1)=some (I kd):=au L5.o 1 rfl;have t2:w1.cell? (Ad wr.heap.size 2)=some (I lc):=au L5.o 2 rfl;have hx1:wr.heap.size<w1.heap.size:=aJ L5.o;clear hb1) | (go_at_call 191;refine(HU2.o _ (O2.o.kp (aD.alloc (fun _=>False) _ _) (fun x=>x))).mono ?_;rintro e w3 ⟨rfl,hk3,ho3⟩;have K3:=ai ((K1.o.trans (aD.alloc (fun b=>b=gf∨b=gs) _ _) (fun _ _ x=>x)).trans (hk3.mono (D1:=fun b=>b=gf∨b=gs) (fun b _ x=>.inr x)) (fun _ _ x=>x));have O3:=ai ho3;have P3:=ai ((O1.o.kp (aD.alloc (fun _=>False) _ _) (fun x=>x)).kp hk3 hne);clear hk3 ho3))
            go_roundw
            case rel=>grind [Hid.o]
            grind [intOf]
         · rw[aA k2] at pW wS;have k2b:(kd==2)=false:=by grind
           have HAF:=ai (pW.o rfl);clear pW wS HU2 HEU k1 k2;go_wp2_with (go_at_call 77;refine(Rn.o _ jV.o).mono ?_;rintro e w1 ⟨rfl,hb1⟩;have K1:=ai (KA.o.trans (aD.b9 hb1) (fun _ _ x=>x));have L5:=ai (aO BE.o hb1 (by simp));have t0:w1.cell? (Ad wr.heap.size 0)=some (I pg):=au L5.o 0 rfl;have t1:w1.cell? (Ad wr.heap.size 1)=some (I kd):=au L5.o 1 rfl;have hx1:wr.heap.size<w1.heap.size:=aJ L5.o;clear hb1)
           have KX:=ai (K1.o.trans (aD.alloc (fun b=>b=gf∨b=gs) w1 (.cells #[I f1,I f2,I f3,.bool z] 139)) (fun _ _ x=>x));go_ret;exact⟨dI (fun b=>Ending.returned (.bool b)) HAF.o.symm,tV.o.trans KX.o (fun _ _ x=>x),fun x=>by rw[HAF.o] at x;cases x⟩
  · obtain rfl:k=es.length:=by omega
    clear hL;go_wp2;go_ret;exact⟨dI (fun b=>Ending.returned (.bool b)) HBK.o.symm,tV.o.trans HKP.o (fun _ _ x=>x),fun _=>⟨HOF.o,HOS.o⟩⟩
open Go.RowKit
theorem Ql (ao:Option Addr) (cap:Nat) (w:World) :
  Calls Tryz.prog 118 #[.slice ao 0 cap] w fun e w'=>e=.returned (.bool (mv []))/\Below w.heap.size w w':=by
 go_enter Tryz.func118,Tryz.ntmps118;go_wp2;refine G0 1 ?_;rw[GX];go_wp2;go_ret;exact⟨rfl,aK _ _⟩
theorem Oi (l:List aX) (b off cap:Nat) (w:World) (hl:wQ w b off l) (hn:l.length<=140737488351232) :
  Calls Tryz.prog 118 #[.slice (some (Ad b off)) l.length cap] w fun e w'=>e=.returned (.bool (mv l))/\Below w.heap.size w w':=by
 go_enter Tryz.func118,Tryz.ntmps118;go_wp2;go_loopw [7] (fun i wr=>∃k:Nat,k<=l.length/\i=I k/\ou l k=false/\Below w.heap.size w wr) (fun i _=>l.length-(intOf i).toNat)
 case atStart=>exact⟨0,by omega,rfl,rfl,aK _ _⟩
 case round =>
  obtain⟨k,hk,rfl,hz,hb⟩:=hrel;have HZ:=aB hz;have zJ:=aB hb;clear hz;by_cases hlt:k<l.length
  · obtain⟨c0,c1,c2,c3⟩:=(hl.below hb) k hlt;obtain⟨a,ha⟩:=ex (bC l k);rw[<- ha] at c0 c1 c2 c3;have HA:=aB ha;clear ha hb;by_cases hzr:a.zero=true
    · have HX:Hid (mv l=true):=abk l k hlt (by grind [Hid.o]);go_wp2;go_ret;exact⟨kz (by rw[HX.o]),zJ.o.alloc zJ.o.size _⟩
    · have avc:a.zero=false:=by grind
      clear hzr;have HX:Hid (ou l (k+1)=false):=by
       grind [ou,Hid.o]
      go_wp2
      grind [intOf,Hid.o,Below.alloc,Below.size]
  · obtain rfl:k=l.length:=by omega
    go_wp2;go_ret;exact⟨kz HZ.o.symm,zJ.o⟩
theorem Qm (l:List aX) (v:Value) (w:World) (h:fZ w v l) (hf:dO l) :
  Calls Tryz.prog 118 #[v] w fun e w'=>e=.returned (.bool (mv l))/\Below w.heap.size w w':=by
 obtain⟨ao,cap,rfl,h⟩:=h;rcases h with rfl | ⟨b,off,rfl,hl⟩
 · exact Ql ao cap w
 · exact Oi l b off cap w hl hf.2
theorem Jg (hs:List bJ) (ao:Option Addr) (cap:Nat) (w:World) (h:iT w ao hs) (hf:rD hs) :
  Calls Tryz.prog 120 #[.slice ao hs.length cap] w fun e w'=>e=.returned (.bool (sO hs))/\Below w.heap.size w w':=by
 have HF:=aB hf;have HH:=aB h;have hn:hs.length<=140737488351232:=hf.1;clear h hf;go_enter Tryz.func120,Tryz.ntmps120;go_wp2;go_loopw [7] (fun i wr=>∃k:Nat,k<=hs.length/\i=I k/\lq hs k=true/\Below w.heap.size w wr) (fun i _=>hs.length-(intOf i).toNat)
 case atStart=>exact⟨0,by omega,rfl,rfl,aK _ _⟩
 case round =>
  obtain⟨k,hk,rfl,hz,hb⟩:=hrel;have HZ:=aB hz;have zJ:=aB hb;clear hz;by_cases hlt:k<hs.length
  · obtain⟨b,off,hao,hbl,eY⟩:=(HH.o.below hb) (by omega);subst hao;obtain⟨c0,c1,c2,c3⟩:=eY k hlt;have L3:=HF.o.2 k hlt;have HE:Hid (lq hs (k+1)=di (bl hs k)):=by
     grind [lq,Hid.o]
    have HE2:Hid (di (bl hs k)=false->sO hs=false):=fun e=>Sw hs k hlt e
    obtain⟨s,hse⟩:=ex (bl hs k);rw[<- hse] at c0 c1 c2 c3 L3 HE HE2;clear hse eY hb;have jV:=aB (zJ.o.alloc zJ.o.size (.cells #[I s.page,.string s.data,.slice s.ao s.dZ.length s.cap] 145));have HC:Hid (∀W,Below wr.heap.size wr W->Calls Tryz.prog 122 #[.agg #[I s.page,.string s.data,.slice s.ao s.dZ.length s.cap]] W fun e w'=>e=.returned (.bool (di s))/\Below W.heap.size W w'):=fun W hb=>A0 s W (c3.below hb) L3
    clear c3 L3;cases e:di s with
    | true =>
     rw[e] at HC HE;clear e;go_wp2_with (go_at_call 122;refine(HC.o _ ((aK _ _).alloc (aI _) _)).mono ?_;rintro e w1 ⟨rfl,hb⟩;have jV:=aB (jV.o.trans (hb.mono jV.o.size));clear hb)
     go_roundw
     case rel=>exact⟨k+1,by omega,by go_num,HE.o,jV.o⟩
     case measure=>simp[intOf];omega
    | false =>
     have HX:=aB (HE2.o e);rw[e] at HC;clear e HE2 HE;go_wp2_with (go_at_call 122;refine(HC.o _ ((aK _ _).alloc (aI _) _)).mono ?_;rintro e w1 ⟨rfl,hb⟩;have jV:=aB (jV.o.trans (hb.mono jV.o.size));clear hb)
     go_ret;exact⟨kz (by rw[HX.o]),jV.o⟩
  · obtain rfl:k=hs.length:=by omega
    go_wp2;go_ret;exact⟨kz HZ.o.symm,zJ.o⟩
open Go.RowKit
theorem Nc {a a':Option Addr} {n n' m m':Nat} (h1:a=a') (h2:n=n') (h3:m=m'):Value.slice a n m=.slice a' n' m':=by grind
theorem Qh (l:List aX) (hs:List bJ) (en:Int) (va:Value) (ao:Option Addr) (cap:Nat) (w:World) (ha:fZ w va l) (hc:bk l=0) (h:iT w ao hs) (hn:hs.length<=140737488351232) (hcap:hs.length<=cap) :
  Calls Tryz.prog 119 #[.agg #[va,.slice ao hs.length cap,I en]] w fun e w'=>e=.returned (.bool (jK l hs))/\Below w.heap.size w w':=by
 obtain⟨b,off,hbo⟩:∃b off,0<hs.length->ao=some (Ad b off)/\b<w.heap.size/\Ky w b off hs:=by
  by_cases h0:0<hs.length
  · obtain⟨b,off,h1,h2,h3⟩:=h h0
    grind
  simp_all
 have HBO:=aB hbo;have HC:=aB hc;have hlen:=oq l hc;obtain⟨aa,ca,rfl,hal⟩:=ha;have XX:Hid (0<l.length->∃b off,aa=some (Ad b off)/\wQ w b off l):=fun g=>by
  grind
 clear hbo hc h hal;have HB:=aB ((aK w.heap.size w).alloc (aI _) (.cells #[.slice aa l.length ca,.slice ao hs.length cap,I en] 25));go_enter Tryz.func119,Tryz.ntmps119;go_wp2;go_loopw [12,3] (fun ix v wr=>∃(i c:Nat) (XQ:Option Addr),i<=l.length/\ix=I i/\v=.slice XQ (hs.length-c) (cap-c)/\c<=hs.length/\(c<hs.length->XQ=some (Ad b (off+c*3)))/\(hs.take c).map (·.page)=fC l i/\Below w.heap.size w wr) (fun ix _ _=>l.length-(intOf ix).toNat)
 case atStart=>exact⟨0,0,ao,by omega,rfl,rfl,by omega,fun g=>by grind [Hid.o],rfl,HB.o⟩
 case round =>
  obtain⟨i,c,XQ,hi,rfl,rfl,hcl,hao,htk,hb⟩:=hrel;have HAO:=aB hao;have HTK:=aB htk;have zJ:=aB hb;clear hao htk;by_cases hlt:i<l.length
  · obtain⟨ba,auZ,hae,hl⟩:=XX.o (by omega);subst hae;obtain⟨c0,c1,c2,c3⟩:=(hl.below hb) i hlt;have hbk:=iw l i (gW l HC.o i hlt);have ZI:Hid (∀n,n<(bC l i).aQ.toNat->∃t,mM l=(fC l i++kK (bC l i) n)++((bC l i).page+(n:Int))::t):=fun n hn=>Qs l i hlt n hn
    have wS:Hid (fC l (i+1)=fC l i++kK (bC l i) (bC l i).aQ.toNat):=rfl;obtain⟨a,hae⟩:=ex (bC l i);rw[<- hae] at c0 c1 c2 c3 hbk ZI wS;clear hae hb;obtain⟨P,hP⟩:∃P:Nat,a.aQ=(P:Int):=⟨a.aQ.toNat,by omega⟩;rw[hP] at c1 hbk ZI wS;rw[lM] at ZI wS;have jV:=aB (zJ.o.alloc zJ.o.size (.cells #[I a.page,I (P:Int),I a.jG,.bool a.zero] 139));have BA:=aB (bE wr #[I a.page,I (P:Int),I a.jG,.bool a.zero] 139);go_wp2;go_loopw [18,3] (fun nx v wi=>∃(n c:Nat) (XQ:Option Addr),n<=P/\nx=I n/\v=.slice XQ (hs.length-c) (cap-c)/\c<=hs.length/\(c<hs.length->XQ=some (Ad b (off+c*3)))/\(hs.take c).map (·.page)=fC l i++kK a n/\Below w.heap.size w wi/\wi.heap[wr.heap.size]?=some (.cells #[I a.page,I (P:Int),I a.jG,.bool a.zero] 139 (0,0))) (fun nx _ _=>P-(intOf nx).toNat)
    case atStart=>exact⟨0,c,XQ,by omega,rfl,rfl,hcl,HAO.o,by rw[HTK.o];simp[kK],jV.o,BA.o⟩
    case round =>
     obtain⟨n,c,XQ,hn',rfl,rfl,hcl,hao,htk,hb,hba⟩:=hrel;have HAO:=aB hao;have HTK:=aB htk;have HBi:=aB hb;have BAi:=aB hba;have x0:=au hba 0 rfl;clear hao htk hba;by_cases hlp:n<P
     · obtain⟨t,ht⟩:=ZI.o n hlp;have HT:=aB ht;clear ht;by_cases hce:c=hs.length
       · have HX:Hid (jK l hs=false):=SF (by have h:=HTK.o;rw[hce] at h;exact h) HT.o;have hz:hs.length-c=0:=by omega
         rw[hz];clear hz hce;go_wp2
         go_quiet (fail)
         go_wp2;go_ret;exact⟨kz HX.o.symm,nV HBi.o _⟩
       · have ahE:c<hs.length:=by omega
         have hcz:(((hs.length-c:Nat):Int)==0)=false:=by simp;omega
         have av1:0<hs.length-c:=by omega
         obtain⟨-,g2,g3⟩:=HBO.o (by omega);obtain⟨d0,d1,d2,d3⟩:=(PA (hb.mono (Nat.le_of_eq rfl)) g2 g3) c ahE;have hae:=HAO.o ahE;subst hae;have avE:(1:Int)<=((hs.length-c:Nat):Int):=by omega
         by_cases Pw:(bl hs c).page=a.page+(n:Int)
         · have HX:Hid ((hs.take (c+1)).map (·.page)=fC l i++kK a (n+1)):=by
            show _=_;rw[CU hs c ahE,HTK.o,Pw,vV,vM]
           rw[Pw] at d0;clear Pw d1 d2 d3 hb hce;by_cases hc1:cap-c=1
           · go_wp2
             go_quiet (fail)
             go_wp2;go_roundw
             case rel=>exact⟨n+1,c+1,_,by omega,by go_num,Nc rfl (by omega) (by omega),by omega,fun g=>by omega,HX.o,nV HBi.o _,BAi.o⟩
             case measure=>simp[intOf];omega
           · go_wp2
             go_quiet (fail)
             go_wp2;go_roundw
             case rel=>exact⟨n+1,c+1,_,by omega,by go_num,Nc rfl (by omega) (by omega),by omega,fun g=>by simp[Nat.add_mul,xL],HX.o,nV HBi.o _,BAi.o⟩
             case measure=>simp[intOf];omega
         · have HX:Hid (jK l hs=false):=SG ahE HTK.o HT.o Pw;have hpz:((bl hs c).page==a.page+(n:Int))=false:=by simpa using Pw
           clear Pw d1 d2 d3 hb hce;go_wp2
           go_quiet (fail)
           go_wp2;go_ret;exact⟨kz HX.o.symm,nV HBi.o _⟩
     · obtain rfl:n=P:=by omega
       go_wp2;go_roundw
       case rel=>exact⟨i+1,c,XQ,by omega,by go_num,rfl,hcl,HAO.o,by rw[wS.o];exact HTK.o,HBi.o⟩
       case measure=>simp[intOf];omega
  · obtain rfl:i=l.length:=by omega
    have HX:=aB (VA hcl HTK.o);go_wp2;go_ret;refine⟨kz ?_,zJ.o⟩;rw[HX.o];rw[Bool.eq_iff_iff];simp;omega
open Go.RowKit
theorem Kg (l:List aX) (va vs:Value) (en:Int) (w:World) (ha:fZ w va l) (hf:dO l) (hc:bk l=0) (he:cO en) (Ja:∃ao n c,va=.slice ao n c) (hvs:∃ao n c,vs=.slice ao n c) :
  Calls Tryz.prog 121 #[.agg #[va,vs,I en]] w fun e w'=>e=.returned (.bool (A7 l en))/\Below w.heap.size w w':=by
 have OE:Hid (aY l (en.tdiv 16)=bY l (en.tdiv 16)):=by show _=_;grind [aY]
 have PF:=aB (SE l hc (en.tdiv 16));have HE:Hid (A7 l en=((bY l (en.tdiv 16)).2&&(decide (2<=(bY l (en.tdiv 16)).1.jG)&&decide (en.tmod 8=0)))):=rfl;have Rn:Hid (∀W,Below w.heap.size w W->Calls Tryz.prog 77 #[va,I (en.tdiv 16)] W fun e w'=>e=.returned (.tuple #[.agg (ru (bY l (en.tdiv 16)).1),.bool (bY l (en.tdiv 16)).2])/\Below W.heap.size W w'):=fun W hb=>by
  have h:=yI l va (en.tdiv 16) W (ha.below hb) hf;rw[OE.o] at h;exact h
 obtain⟨r,hr⟩:=ex (bY l (en.tdiv 16));rw[<- hr] at PF HE Rn;clear hr OE ha hf hc;obtain⟨⟨pg,pn,pr,zr⟩,ok⟩:=r;simp only[ru] at Rn PF HE;obtain⟨aa,na,ca,rfl⟩:=Ja;obtain⟨ao,no,co,rfl⟩:=hvs;unfold cO at he;have HB:=aB ((aK w.heap.size w).alloc (aI _) (.cells #[.slice aa na ca,.slice ao no co,I en] 25));have BX:=aB (bE w #[.slice aa na ca,.slice ao no co,I en] 25);rw[HE.o];cases ok with
 | false =>
  go_enter Tryz.func121,Tryz.ntmps121;go_wp2_with (go_at_call 77;refine(Rn.o _ HB.o).mono ?_;rintro e w1 ⟨rfl,hb⟩;have HB:=aB (HB.o.trans (hb.mono HB.o.size));clear hb)
  go_ret;exact⟨rfl,HB.o.alloc HB.o.size _⟩
 | true =>
  have hpr:=Sz (PF.o rfl);have b0:bits BinOp.and IntKind.i64 0 2=0:=by decide
  have b1:bits BinOp.and IntKind.i64 1 2=0:=by decide
  have b2:bits BinOp.and IntKind.i64 2 2=2:=by decide
  have b3:bits BinOp.and IntKind.i64 3 2=2:=by decide
  clear PF;by_cases h8:en.tmod 8=0
  · rcases hpr with rfl | rfl | rfl | rfl
    all_goals
     go_enter Tryz.func121,Tryz.ntmps121;go_wp2_with (go_at_call 77;refine(Rn.o _ HB.o).mono ?_;rintro e w1 ⟨rfl,hb⟩;have HB:=aB (HB.o.trans (hb.mono HB.o.size));have BX:=aB (aO BX.o hb (aJ BX.o));have hbx:=aJ BX.o;have x2:=au BX.o 2 rfl;clear hb)
     go_ret;exact⟨kz (by simp[h8]),HB.o.alloc HB.o.size _⟩
  · have h8':(en.tmod 8==0)=false:=by grind
    rcases hpr with rfl | rfl | rfl | rfl
    all_goals
     go_enter Tryz.func121,Tryz.ntmps121;go_wp2_with (go_at_call 77;refine(Rn.o _ HB.o).mono ?_;rintro e w1 ⟨rfl,hb⟩;have HB:=aB (HB.o.trans (hb.mono HB.o.size));have BX:=aB (aO BX.o hb (aJ BX.o));have hbx:=aJ BX.o;have x2:=au BX.o 2 rfl;clear hb)
     go_ret;exact⟨kz (by simp[h8]),HB.o.alloc HB.o.size _⟩
theorem Qg {w:World} {v:Value} {l:List aX} (h:fZ w v l):∃ao n c,v=.slice ao n c:=by
 obtain⟨ao,cap,h,_⟩:=h
 grind
theorem Vt (l:List aX) (hs:List bJ) (en:Int) (va:Value) (ao:Option Addr) (cap:Nat) (w:World) (ha:fZ w va l) (hf:dO l) (h:iT w ao hs) (PX:rD hs) (hcap:hs.length<=cap) (he:cO en) :
  Calls Tryz.prog 69 #[.agg #[va,.slice ao hs.length cap,I en]] w fun e w'=>e=.returned (I (lu l hs en))/\Below w.heap.size w w':=by
 have E9:Hid (∀W,Below w.heap.size w W->Calls Tryz.prog 117 #[va] W fun e w'=>e=.returned (I (bk l))/\Below W.heap.size W w'):=fun W hb=>jB l va W (ha.below hb) hf
 have HZ:Hid (∀W,Below w.heap.size w W->Calls Tryz.prog 118 #[va] W fun e w'=>e=.returned (.bool (mv l))/\Below W.heap.size W w'):=fun W hb=>Qm l va W (ha.below hb) hf
 have HEA:Hid (bk l=0->∀W,Below w.heap.size w W->Calls Tryz.prog 119 #[.agg #[va,.slice ao hs.length cap,I en]] W fun e w'=>e=.returned (.bool (jK l hs))/\Below W.heap.size W w'):=fun hc W hb=>Qh l hs en va ao cap W (ha.below hb) hc (h.below hb) PX.1 hcap
 have HSH:Hid (∀W,Below w.heap.size w W->Calls Tryz.prog 120 #[.slice ao hs.length cap] W fun e w'=>e=.returned (.bool (sO hs))/\Below W.heap.size W w'):=fun W hb=>Jg hs ao cap W (h.below hb) PX
 have Az:Hid (bk l=0->∀W,Below w.heap.size w W->Calls Tryz.prog 121 #[.agg #[va,.slice ao hs.length cap,I en]] W fun e w'=>e=.returned (.bool (A7 l en))/\Below W.heap.size W w'):=fun hc W hb=>Kg l va _ en W (ha.below hb) hf hc he (Qg ha) ⟨_,_,_,rfl⟩
 have HR:Hid (lu l hs en=if bk l=0 then (if !mv l&&(jK l hs&&(sO hs&&A7 l en)) then 0 else 1) else bk l):=rfl;obtain⟨aa,na,ca,rfl⟩:=Qg ha;clear ha hf h PX hcap he;obtain⟨N,hN⟩:=ex hs.length;rw[<- hN] at HEA HSH Az;rw[<- hN];obtain⟨z,hz⟩:=ex (mv l);rw[<- hz] at HZ HR;obtain⟨q,hq⟩:=ex (jK l hs);rw[<- hq] at HEA HR;obtain⟨s,hs'⟩:=ex (sO hs);rw[<- hs'] at HSH HR;obtain⟨r,hr⟩:=ex (A7 l en);rw[<- hr] at Az HR;obtain⟨C,hC⟩:=ex (bk l);rw[<- hC] at E9 HEA Az HR;rw[HR.o];clear hN hz hq hs' hr hC HR;have HB:=aB ((aK w.heap.size w).alloc (aI _) (.cells #[.slice aa na ca,.slice ao N cap,I en] 25));have BX:=aB (bE w #[.slice aa na ca,.slice ao N cap,I en] 25);by_cases hc:C=0
 · subst hc;have ar4:=aB (HEA.o rfl);have ar3:=aB (Az.o rfl);clear HEA Az;rw[aC rfl];cases z <;> cases q <;> cases s <;> cases r
   all_goals
    go_enter Tryz.func69,Tryz.ntmps69;go_wp2_with (first
     | (go_at_call 117;refine(E9.o _ HB.o).mono ?_;rintro e w1 ⟨rfl,hb⟩;have HB:=aB (HB.o.trans (hb.mono HB.o.size));have BX:=aB (aO BX.o hb (aJ BX.o));have x0:=au BX.o 0 rfl;clear hb)
     | (go_at_call 118;refine(HZ.o _ HB.o).mono ?_;rintro e w1 ⟨rfl,hb⟩;have HB:=aB (HB.o.trans (hb.mono HB.o.size));have BX:=aB (aO BX.o hb (aJ BX.o));have x0:=au BX.o 0 rfl;have x1:=au BX.o 1 rfl;have x2:=au BX.o 2 rfl;clear hb)
     | (go_at_call 119;refine(ar4.o _ HB.o).mono ?_;rintro e w1 ⟨rfl,hb⟩;have HB:=aB (HB.o.trans (hb.mono HB.o.size));have BX:=aB (aO BX.o hb (aJ BX.o));have x1:=au BX.o 1 rfl;clear hb)
     | (go_at_call 120;refine(HSH.o _ HB.o).mono ?_;rintro e w1 ⟨rfl,hb⟩;have HB:=aB (HB.o.trans (hb.mono HB.o.size));have BX:=aB (aO BX.o hb (aJ BX.o));have x0:=au BX.o 0 rfl;have x1:=au BX.o 1 rfl;have x2:=au BX.o 2 rfl;clear hb)
     | (go_at_call 121;refine(ar3.o _ HB.o).mono ?_;rintro e w1 ⟨rfl,hb⟩;have HB:=aB (HB.o.trans (hb.mono HB.o.size));clear hb))
    go_ret;exact⟨rfl,HB.o⟩
 · have hc':(C==0)=false:=by grind
   rw[aA hc];go_enter Tryz.func69,Tryz.ntmps69;go_wp2_with (go_at_call 117;refine(E9.o _ HB.o).mono ?_;rintro e w1 ⟨rfl,hb⟩;have HB:=aB (HB.o.trans (hb.mono HB.o.size));clear hb)
   go_ret;exact⟨rfl,HB.o⟩
open Go.RowKit
theorem abc (o:km) (w:World) (h:qc w o.a o.i) (hc:mz o.i=0) (h0:0<=o.base) (h1:o.base<=100000) :
  Calls Tryz.prog 65 #[.agg (o5 o)] w fun e w'=>e=.returned (I (xS o))/\Below w.heap.size w w':=by
 have hl:=Fl hc;have hn:=vX hc;have HS:=h.jI;obtain⟨⟨nm,ns,gs,ys,rs,en⟩,⟨an,cn,ag,cg,ay,cy,ar,cr⟩,ba⟩:=o;simp only[o5];simp only at HS hn h0 h1;obtain⟨b,off,hag,hbl,eY⟩:=HS (by omega);subst hag;have E:Hid (xS ⟨⟨nm,ns,gs,ys,rs,en⟩,⟨an,cn,some (Ad b off),cg,ay,cy,ar,cr⟩,ba⟩=ba+(eO gs (gs.length-1)).page+(eO gs (gs.length-1)).aQ):=rfl;have hl':0<=(eO gs (gs.length-1)).page/\1<=(eO gs (gs.length-1)).aQ/\(eO gs (gs.length-1)).page+(eO gs (gs.length-1)).aQ<=255:=hl;obtain⟨c0,c1,c2,c3,c4⟩:=eY (gs.length-1) (by omega);rw[E.o];obtain⟨s,hs⟩:=ex (eO gs (gs.length-1));rw[<- hs] at c0 c1 c2 c3 c4 hl';rw[<- hs];clear hs hl eY HS h E;obtain⟨G,hG⟩:=ex gs.length;rw[<- hG] at c0 c1 c2 c3 c4 hn;rw[<- hG];clear hG hc;have HB:=aB ((aK w.heap.size w).alloc (aI _) (.cells #[.string nm,.slice an ns.length cn,.slice (some (Ad b off)) G cg,.slice ay ys.length cy,.slice ar rs.length cr,I en,I ba] 131));go_enter Tryz.func65,Tryz.ntmps65;go_wp2;go_ret;exact⟨rfl,HB.o.alloc HB.o.size _⟩
theorem Qn (o:km) (XO:Int) (w:World) (h0:0<=o.base) (h1:o.base<=100000) (h2:0<=XO) (h3:XO<=100000) :
  Calls Tryz.prog 68 #[.agg (o5 o),I XO] w fun e w'=>e=.returned (I (yn o XO))/\Below w.heap.size w w':=by
 obtain⟨⟨nm,ns,gs,ys,rs,en⟩,⟨an,cn,ag,cg,ay,cy,ar,cr⟩,ba⟩:=o;simp only[o5,yn];simp only at h0 h1;go_enter Tryz.func68,Tryz.ntmps68;go_wp2;go_ret;exact⟨rfl,(aK _ _).alloc (aI _) _⟩
theorem Yz (s:pL) (w:World) :
  Calls Tryz.prog 116 #[.agg #[I s.page,I s.aQ,.string s.data,.bool s.wr,.bool s.ex]] w fun e w'=>e=.returned (I (vQ s))/\Below w.heap.size w w':=by
 obtain⟨pg,pn,dt,wr,ex⟩:=s;have b1:bits BinOp.or IntKind.i64 0 1=1:=by decide
 have b2:bits BinOp.or IntKind.i64 0 2=2:=by decide
 have b3:bits BinOp.or IntKind.i64 1 2=3:=by decide
 cases wr <;> cases ex
 all_goals
  go_enter Tryz.func116,Tryz.ntmps116;go_wp2;go_ret;simp[vQ,aK,pZ]
open Go.RowKit
open Go.RowKit
open Go.RowKit Go.WideMaps Go.Maps
def ahU (l:List iV) (w:World) (e:Ending) (w':World):Prop:=Below w.heap.size w w' /\
 if oH l=0 then ∃m D,e=.returned (.tuple #[.map (some m),I 0])/\w'.ownsMap Tryz.prog 9 YN m l.length D/\Ku l l.length D
 else e=.returned (.tuple #[.map none,I (oH l)])
open Go.RowKit
open Go.RowKit Go.WideMaps Go.Maps
theorem vg {α:Type} (f:α->List Value) (c:Nat) (hc:∀x,(f x).length=c) (d:α):∀(l:List α) (i j:Nat),i<l.length->j<c->(l.flatMap f)[i*c+j]?=(f (l.getD i d))[j]?
 | a::r,0,j,_,hj=>by
  grind
 | a::r,i+1,j,hi,hj=>by
  rw[nW,ze (by grind),hc,show(i+1)*c+j-c=i*c+j by grind];exact vg f c hc d r i j (by grind) hj
def Pz (all:List iV) (R:Option (List Nat)) (w:World) (e:Ending) (w':World):Prop:=Below w.heap.size w w'/\match R with
 | none=>e=.returned (.tuple #[Nl,.bool false])
 | some ix=>Hh all ix/\∃ao cap,e=.returned (.tuple #[.slice ao ix.length cap,.bool true])/\KC w' ao (eX all 1 ix)
structure ajs (all:List iV) (m:Nat) (D:DataW Value) (w:World):Prop where
 pos:0<all.length
 few:all.length<=7
 chk:∀j,j<all.length->mz (cH all j).i=0
 fit:∀j,j<all.length->J6 (cH all j).i
 once:xO (kf all)=true
 im:∀j,j<all.length->qc w (cH all j).a (cH all j).i
 map:w.ownsMap Tryz.prog 9 YN m all.length D
 nm:Ku all all.length D
open Go.RowKit Go.WideMaps Go.Maps
theorem Dy {w w':World} {base:Nat} {e:TypeId} {size:Nat} {v:Value} {n:Nat} {xs:List Value} (h:w.ownsRow base e size v n xs) (hb:Below w.heap.size w w'):w'.ownsRow base e size v n xs:=by
 refine⟨h.1,?_⟩;rcases h.2 with h2 | ⟨g,cap,cur,hv,hbg,hg,rest⟩
 · grind
 · exact .inr ⟨g,cap,cur,hv,hbg,(hb.block g (aJ hg)).trans hg,rest⟩
open Go.RowKit
open Go.RowKit
theorem zh {P:Program} {f:FuncId} {args:Array Value} {v:Value} {w:World} (x:dV w.heap.size w) (h:∀W,Below w.heap.size w W->Calls P f args W fun e w'=>e=.returned v/\Below W.heap.size W w') :
  Calls P f args x.world fun e w''=>e=.returned v/\∃y:dV w.heap.size w,w''=y.world :=
 (h x.world x.keeps).mono fun e w'' ⟨he,hb⟩=>⟨he,⟨w'',x.keeps.trans (hb.mono x.keeps.size)⟩,rfl⟩
end Go.Proofs.YtlgoihmkgaaemaaGreat
