import Derived.Test.YtlgoihmkgaaemaaGreatGM10
import Derived.Test.YtlgoihmkgaaemaaGreatGM08
set_option maxHeartbeats 20000000
set_option linter.unusedVariables false
set_option maxRecDepth 100000
set_option linter.unusedSimpArgs false
namespace Go.Proofs.YtlgoihmkgaaemaaGreat
open Go.RowKit
theorem Hg (s:cV) (va:Value) (ap:Option Addr) (cp:Nat) (uf us:List eT) (lo gf nf cf gs ns cs:Nat) (bd:Int) (w0 w:World) (ha:gu w0 va s.aT) (he:dW bw 3 gY w0 ap s.bf) (hfit:Qu s) (hw:Below w0.heap.size w0 w) (hlo:w0.heap.size<=lo) (huf:gW lo w gf nf cf uf) (hus:gW lo w gs ns cs us) (hne:¬gf=gs) (hb1:mF uf nf bd) (hb2:mF us ns bd) (hB:bd<=100000) (Bt:nf<=1000) (hns:ns<=1000) :
  Calls Tryz.prog 142 #[.agg #[.bool s.live,va,.slice ap s.bf.length cp],.slice (some (Ad gf 0)) nf cf,.slice (some (Ad gs 0)) ns cs] w fun x w'=>x=.returned (.bool (jN s.aT s.bf (uf,us) s.bf.length))/\aC (fun b=>b=gf∨b=gs) w w'/\(jN s.aT s.bf (uf,us) s.bf.length=true->gW lo w' gf nf cf (jr s.aT s.bf (uf,us) s.bf.length).1/\gW lo w' gs ns cs (jr s.aT s.bf (uf,us) s.bf.length).2):=by
 obtain⟨lv,ar,es⟩:=s;simp only at ha he hfit ⊢;have HHA:=ai ha;have HHE:=ai he;have ES:=ai hfit.aT;have Oi:=ai hfit.ML;have hel:es.length<=140737488351232:=hfit.bf;have HW:=ai hw;have hgf:=huf.lt;have hgs:=hus.lt;have HBD:=ai (Je ar es (uf,us) nf ns bd hb1 hb2);have pO:=ai (YM ar es (uf,us));have wE:Hid (∀k,jN ar es (uf,us) k=true->xI ar (rq es k) (jr ar es (uf,us) k).1 (jr ar es (uf,us) k).2 (aV es k)=true->jN ar es (uf,us) (k+1)=true/\jr ar es (uf,us) (k+1)=tJ ar (jr ar es (uf,us) k) (aV es k)):=fun k h1 h2=>⟨by grind [jN],rfl⟩
 have ZB:Hid (∀k,rq es (k+1)=(aV es k).page):=fun k=>by rfl
 obtain⟨aa,ca,IP,_⟩:=id ha;subst IP;obtain⟨na,qV⟩:=ex ar.length;rw[<- qV] at HHA ⊢;have tM:=ai (aC.alloc (fun b=>b=gf∨b=gs) w (.cells #[.bool lv,.slice aa na ca,.slice ap es.length cp] 99));have BS:=ai (bD w #[.bool lv,.slice aa na ca,.slice ap es.length cp] 99);have ajz:=ai (huf.kp (aC.alloc (fun _=>False) w (.cells #[.bool lv,.slice aa na ca,.slice ap es.length cp] 99)) (fun x=>x));have ajy:=ai (hus.kp (aC.alloc (fun _=>False) w (.cells #[.bool lv,.slice aa na ca,.slice ap es.length cp] 99)) (fun x=>x));clear ha he hfit hw huf hus hb1 hb2 qV;go_enter Tryz.func142,Tryz.ntmps142;go_wp2;obtain⟨W,hW⟩:=ex (w.alloc (.cells #[.bool lv,.slice aa na ca,.slice ap es.length cp] 99));rw[<- hW] at tM BS ajz ajy ⊢;obtain⟨sb,IU⟩:=ex w.heap.size;have aui:¬sb=gf:=by omega
 have auh:¬sb=gs:=by omega
 have hsW:W.heap.size=sb+1:=by simp_all
 have h0s:w0.heap.size<=sb:=by omega
 have auS:gf<sb:=by omega
 have auO:gs<sb:=by omega
 rw[<- IU] at BS ⊢;clear hW IU;go_loopw [7,15] (fun lv iv wr=>∃k:Nat,k<=es.length/\iv=I (k:Int)/\lv=I (rq es k)/\jN ar es (uf,us) k=true/\aC (fun b=>b=gf∨b=gs) W wr/\gW lo wr gf nf cf (jr ar es (uf,us) k).1/\gW lo wr gs ns cs (jr ar es (uf,us) k).2) (fun _ iv _=>es.length-(intOf iv).toNat)
 case atStart=>exact⟨0,by omega,rfl,rfl,rfl,aC.refl _ _,ajz.o,ajy.o⟩
 case round =>
  obtain⟨k,hk,rfl,rfl,hbk,Pe,hof,hos⟩:=hrel;have HKP:=ai Pe;have HBK:=ai hbk;have HOF:=ai hof;have HOS:=ai hos;obtain⟨L,hL⟩:=ex (rq es k);rw[<- hL];have bs:=Pe.keep BS.o (fun x=>by omega);have hsz:=Pe.size;have s2:wr.cell? (Ad sb 2)=some (.slice ap es.length cp):=aq bs 2 rfl;have HBS:=ai bs;by_cases hlt:k<es.length
  · have hb0:=(Pe.below (tM.o.below HW.o HW.o.size (fun b hb=>by omega)) (by omega) (fun b hb=>by omega):Below w0.heap.size w0 wr);have gG:=ai hb0;obtain⟨eb,eo,hao,hbl,eX⟩:=HHE.o (by omega);subst hao;have ce:∀j,j<3->wr.cell? (Ad eb (eo+k*3+j))=(bw (aV es k))[j]?:=fun j hj=>(hb0.cell (p:=(Ad eb (eo+k*3+j))) hbl).trans (eX k hlt j hj)
    have e0:=ce 0 (by omega);have e1:=ce 1 (by omega);have e2:=ce 2 (by omega);rw[mA] at e0;have hfe:=Oi.o k hlt;have pO:=ai (pO.o k hlt);have wE:=ai (wE.o k HBK.o);have ZB:=ai (ZB.o k);obtain⟨bd1,bd2,bd3,bd4⟩:=HBD.o k (by omega) HBK.o;have hk5:(k:Int)<=255:=by omega
    have HUB:Hid (mF (jr ar es (uf,us) k).1 nf 1000000/\mF (jr ar es (uf,us) k).2 ns 1000000):=⟨bd1.mono (by omega),bd2.mono (by omega)⟩;have Q5:Hid (∀V,Below w0.heap.size w0 V->Calls Tryz.prog 77 #[.slice aa na ca,I (aV es k).page] V fun e w'=>e=.returned (.tuple #[.agg (qT (aW ar (aV es k).page).1),.bool (aW ar (aV es k).page).2])/\Below V.heap.size V w'):=fun V hV=>yo ar _ _ V (HHA.o.below hV) ES.o
    rw[<- hL] at pO wE;have HEU:Hid (∀u:List eT×List eT,tJ ar u (aV es k)=if (aV es k).kind=1 then (rU u.1 (aV es k) (aW ar (aV es k).page).1.zero,u.2) else (u.1,rU u.2 (aV es k) (aW ar (aV es k).page).1.zero)):=fun u=>rfl
    obtain⟨UU,hUU⟩:=ex (jr ar es (uf,us) k);rw[<- hUU] at pO wE HUB HOF HOS;obtain⟨U1,U2⟩:=UU;unfold xI at pO wE;obtain⟨E,hE⟩:=ex (aV es k);rw[<- hE] at e0 e1 e2 hfe pO wE ZB Q5 HEU;obtain⟨pg,kd,lc⟩:=E;simp only at pO wE HUB HOF HOS hfe ZB Q5 HEU;have x0:wr.cell? (Ad eb (eo+k*3))=some (I pg):=e0;have x1:wr.cell? (Ad eb (eo+k*3+1))=some (I kd):=e1;have x2:wr.cell? (Ad eb (eo+k*3+2))=some (I lc):=e2;obtain⟨⟨fa,ok⟩,hF⟩:∃F,F=aW ar pg:=⟨_,rfl⟩;rw[<- hF] at pO wE Q5 HEU;obtain⟨f1,f2,f3,z⟩:=fa;unfold qT at Q5;simp only at pO wE Q5 HEU;have HU1:=ai (fun V (hV:gW lo V gf nf cf U1)=>Qr U1 ⟨pg,kd,lc⟩ z lo gf nf cf V hV Bt ⟨hfe.1,hfe.2.2⟩ (fun i hi=>HUB.o.1.2 i hi));have HU2:=ai (fun V (hV:gW lo V gs ns cs U2)=>Qr U2 ⟨pg,kd,lc⟩ z lo gs ns cs V hV hns ⟨hfe.1,hfe.2.2⟩ (fun i hi=>HUB.o.2.2 i hi));obtain⟨A1,hA1⟩:=ex (ow U1 ⟨pg,kd,lc⟩ z);obtain⟨A2,hA2⟩:=ex (ow U2 ⟨pg,kd,lc⟩ z);rw[<- hA1,<- hA2] at pO wE;rw[<- hA1] at HU1;rw[<- hA2] at HU2;have agV:=hb0.size;have KA:=ai (HKP.o.trans (aC.alloc (fun b=>b=gf∨b=gs) wr (.cells #[I pg,I kd,I lc] 174)) (fun _ _ x=>x));have jQ:=ai (gG.o.alloc gG.o.size (.cells #[I pg,I kd,I lc] 174));have OA:=ai (HOF.o.kp (aC.alloc (fun _=>False) wr (.cells #[I pg,I kd,I lc] 174)) (fun x=>x));have OB:=ai (HOS.o.kp (aC.alloc (fun _=>False) wr (.cells #[I pg,I kd,I lc] 174)) (fun x=>x));have s1A:(wr.alloc (.cells #[I pg,I kd,I lc] 174)).cell? (Ad sb 1)=some (.slice aa na ca):=aq (bl HBS.o _) 1 rfl;have BE:=ai (bD wr #[I pg,I kd,I lc] 174);clear e0 e1 e2 hL hUU hE hF hA1 hA2 Pe hbk hof hos hb0 eX ce bd1 bd2 bd3 bd4 HBD HHE HHA ES Oi ajz ajy HKP gG HOF HOS HUB bs HBS BS hk5;cases ok with
    | false =>
     have ZG:=ai (pO.o rfl);clear pO wE HU1 HU2 HEU;go_wp2_with (go_at_call 77;refine(Q5.o _ jQ.o).mono ?_;rintro e w1 ⟨rfl,hb1⟩;have K1:=ai (KA.o.trans (aC.bY hb1) (fun _ _ x=>x));have LP:=ai (aN BE.o hb1 (by simp));have hx1:wr.heap.size<w1.heap.size:=aI LP.o;clear hb1)
     have KX:=ai (K1.o.trans (aC.alloc (fun b=>b=gf∨b=gs) w1 (.cells #[I f1,I f2,I f3,.bool z] 139)) (fun _ _ x=>x));go_ret;exact⟨dY (fun b=>Ending.returned (.bool b)) ZG.o.symm,tM.o.trans KX.o (fun _ _ x=>x),fun x=>by rw[ZG.o] at x;cases x⟩
    | true =>
     by_cases hlp:pg<=L
     · have ZG:=ai (pO.o (by grind));clear pO wE HU1 HU2 HEU;go_wp2_with (go_at_call 77;refine(Q5.o _ jQ.o).mono ?_;rintro e w1 ⟨rfl,hb1⟩;have K1:=ai (KA.o.trans (aC.bY hb1) (fun _ _ x=>x));have LP:=ai (aN BE.o hb1 (by simp));have t0:w1.cell? (Ad wr.heap.size 0)=some (I pg):=aq LP.o 0 rfl;have hx1:wr.heap.size<w1.heap.size:=aI LP.o;clear hb1)
       have KX:=ai (K1.o.trans (aC.alloc (fun b=>b=gf∨b=gs) w1 (.cells #[I f1,I f2,I f3,.bool z] 139)) (fun _ _ x=>x));go_ret;exact⟨dY (fun b=>Ending.returned (.bool b)) ZG.o.symm,tM.o.trans KX.o (fun _ _ x=>x),fun x=>by rw[ZG.o] at x;cases x⟩
     · have aoi:L<pg:=by omega
       rw[gU aoi] at pO wE;by_cases k1:kd=1
       · rw[aB k1] at pO wE;have k1b:(kd==1)=true:=by grind
         have HK:=ai k1;clear HU2 k1;cases A1 with
         | false =>
          have ZG:=ai (pO.o rfl);clear pO wE HEU;go_wp2_with (first | (go_at_call 77;refine(Q5.o _ jQ.o).mono ?_;rintro e w1 ⟨rfl,hb1⟩;have K1:=ai (KA.o.trans (aC.bY hb1) (fun _ _ x=>x));have O1:=ai (OA.o.kp (aC.bY (D:=fun _=>False) hb1) (fun x=>x));have O2:=ai (OB.o.kp (aC.bY (D:=fun _=>False) hb1) (fun x=>x));have LP:=ai (aN BE.o hb1 (by simp));have t0:w1.cell? (Ad wr.heap.size 0)=some (I pg):=aq LP.o 0 rfl;have t1:w1.cell? (Ad wr.heap.size 1)=some (I kd):=aq LP.o 1 rfl;have t2:w1.cell? (Ad wr.heap.size 2)=some (I lc):=aq LP.o 2 rfl;have hx1:wr.heap.size<w1.heap.size:=aI LP.o;clear hb1) | (go_at_call 191;refine(HU1.o _ (O1.o.kp (aC.alloc (fun _=>False) _ _) (fun x=>x))).mono ?_;rintro e w3 ⟨rfl,hk3,ho3⟩;have K3:=ai ((K1.o.trans (aC.alloc (fun b=>b=gf∨b=gs) _ _) (fun _ _ x=>x)).trans (hk3.mono (D1:=fun b=>b=gf∨b=gs) (fun b _ x=>.inl x)) (fun _ _ x=>x));clear hk3 ho3))
          have KX:=ai K3.o;go_ret;exact⟨dY (fun b=>Ending.returned (.bool b)) ZG.o.symm,tM.o.trans KX.o (fun _ _ x=>x),fun x=>by rw[ZG.o] at x;cases x⟩
         | true =>
          have HN1:=ai (wE.o rfl);clear pO wE;go_wp2_with (first | (go_at_call 77;refine(Q5.o _ jQ.o).mono ?_;rintro e w1 ⟨rfl,hb1⟩;have K1:=ai (KA.o.trans (aC.bY hb1) (fun _ _ x=>x));have O1:=ai (OA.o.kp (aC.bY (D:=fun _=>False) hb1) (fun x=>x));have O2:=ai (OB.o.kp (aC.bY (D:=fun _=>False) hb1) (fun x=>x));have LP:=ai (aN BE.o hb1 (by simp));have t0:w1.cell? (Ad wr.heap.size 0)=some (I pg):=aq LP.o 0 rfl;have t1:w1.cell? (Ad wr.heap.size 1)=some (I kd):=aq LP.o 1 rfl;have t2:w1.cell? (Ad wr.heap.size 2)=some (I lc):=aq LP.o 2 rfl;have hx1:wr.heap.size<w1.heap.size:=aI LP.o;clear hb1) | (go_at_call 191;refine(HU1.o _ (O1.o.kp (aC.alloc (fun _=>False) _ _) (fun x=>x))).mono ?_;rintro e w3 ⟨rfl,hk3,ho3⟩;have K3:=ai ((K1.o.trans (aC.alloc (fun b=>b=gf∨b=gs) _ _) (fun _ _ x=>x)).trans (hk3.mono (D1:=fun b=>b=gf∨b=gs) (fun b _ x=>.inl x)) (fun _ _ x=>x));have O3:=ai ho3;have P3:=ai ((O2.o.kp (aC.alloc (fun _=>False) _ _) (fun x=>x)).kp hk3 (fun x=>hne x.symm));clear hk3 ho3))
          go_roundw
          case rel=>grind [Hid.o]
          grind [intOf]
       · rw[au k1] at pO wE;clear HU1;have k1b:(kd==1)=false:=by grind
         by_cases k2:kd=2
         · rw[aB k2] at pO wE;have k2b:(kd==2)=true:=by grind
           have HK:=ai k1;clear k1 k2;cases A2 with
           | false =>
            have ZG:=ai (pO.o rfl);clear pO wE HEU;go_wp2_with (first | (go_at_call 77;refine(Q5.o _ jQ.o).mono ?_;rintro e w1 ⟨rfl,hb1⟩;have K1:=ai (KA.o.trans (aC.bY hb1) (fun _ _ x=>x));have O1:=ai (OA.o.kp (aC.bY (D:=fun _=>False) hb1) (fun x=>x));have O2:=ai (OB.o.kp (aC.bY (D:=fun _=>False) hb1) (fun x=>x));have LP:=ai (aN BE.o hb1 (by simp));have t0:w1.cell? (Ad wr.heap.size 0)=some (I pg):=aq LP.o 0 rfl;have t1:w1.cell? (Ad wr.heap.size 1)=some (I kd):=aq LP.o 1 rfl;have t2:w1.cell? (Ad wr.heap.size 2)=some (I lc):=aq LP.o 2 rfl;have hx1:wr.heap.size<w1.heap.size:=aI LP.o;clear hb1) | (go_at_call 191;refine(HU2.o _ (O2.o.kp (aC.alloc (fun _=>False) _ _) (fun x=>x))).mono ?_;rintro e w3 ⟨rfl,hk3,ho3⟩;have K3:=ai ((K1.o.trans (aC.alloc (fun b=>b=gf∨b=gs) _ _) (fun _ _ x=>x)).trans (hk3.mono (D1:=fun b=>b=gf∨b=gs) (fun b _ x=>.inr x)) (fun _ _ x=>x));clear hk3 ho3))
            have KX:=ai K3.o;go_ret;exact⟨dY (fun b=>Ending.returned (.bool b)) ZG.o.symm,tM.o.trans KX.o (fun _ _ x=>x),fun x=>by rw[ZG.o] at x;cases x⟩
           | true =>
            have HN1:=ai (wE.o rfl);clear pO wE;go_wp2_with (first | (go_at_call 77;refine(Q5.o _ jQ.o).mono ?_;rintro e w1 ⟨rfl,hb1⟩;have K1:=ai (KA.o.trans (aC.bY hb1) (fun _ _ x=>x));have O1:=ai (OA.o.kp (aC.bY (D:=fun _=>False) hb1) (fun x=>x));have O2:=ai (OB.o.kp (aC.bY (D:=fun _=>False) hb1) (fun x=>x));have LP:=ai (aN BE.o hb1 (by simp));have t0:w1.cell? (Ad wr.heap.size 0)=some (I pg):=aq LP.o 0 rfl;have t1:w1.cell? (Ad wr.heap.size 1)=some (I kd):=aq LP.o 1 rfl;have t2:w1.cell? (Ad wr.heap.size 2)=some (I lc):=aq LP.o 2 rfl;have hx1:wr.heap.size<w1.heap.size:=aI LP.o;clear hb1) | (go_at_call 191;refine(HU2.o _ (O2.o.kp (aC.alloc (fun _=>False) _ _) (fun x=>x))).mono ?_;rintro e w3 ⟨rfl,hk3,ho3⟩;have K3:=ai ((K1.o.trans (aC.alloc (fun b=>b=gf∨b=gs) _ _) (fun _ _ x=>x)).trans (hk3.mono (D1:=fun b=>b=gf∨b=gs) (fun b _ x=>.inr x)) (fun _ _ x=>x));have O3:=ai ho3;have P3:=ai ((O1.o.kp (aC.alloc (fun _=>False) _ _) (fun x=>x)).kp hk3 hne);clear hk3 ho3))
            go_roundw
            case rel=>grind [Hid.o]
            grind [intOf]
         · rw[au k2] at pO wE;have k2b:(kd==2)=false:=by grind
           have ZG:=ai (pO.o rfl);clear pO wE HU2 HEU k1 k2;go_wp2_with (go_at_call 77;refine(Q5.o _ jQ.o).mono ?_;rintro e w1 ⟨rfl,hb1⟩;have K1:=ai (KA.o.trans (aC.bY hb1) (fun _ _ x=>x));have LP:=ai (aN BE.o hb1 (by simp));have t0:w1.cell? (Ad wr.heap.size 0)=some (I pg):=aq LP.o 0 rfl;have t1:w1.cell? (Ad wr.heap.size 1)=some (I kd):=aq LP.o 1 rfl;have hx1:wr.heap.size<w1.heap.size:=aI LP.o;clear hb1)
           have KX:=ai (K1.o.trans (aC.alloc (fun b=>b=gf∨b=gs) w1 (.cells #[I f1,I f2,I f3,.bool z] 139)) (fun _ _ x=>x));go_ret;exact⟨dY (fun b=>Ending.returned (.bool b)) ZG.o.symm,tM.o.trans KX.o (fun _ _ x=>x),fun x=>by rw[ZG.o] at x;cases x⟩
  · obtain rfl:k=es.length:=by omega
    clear hL;go_wp2;go_ret;exact⟨dY (fun b=>Ending.returned (.bool b)) HBK.o.symm,tM.o.trans HKP.o (fun _ _ x=>x),fun _=>⟨HOF.o,HOS.o⟩⟩
open Go.RowKit
theorem P6 (ao:Option Addr) (cap:Nat) (w:World) :
  Calls Tryz.prog 118 #[.slice ao 0 cap] w fun e w'=>e=.returned (.bool (mo []))/\Below w.heap.size w w':=by
 go_enter Tryz.func118,Tryz.ntmps118;go_wp2;refine Jz 1 ?_;rw[Jx];go_wp2;go_ret;exact⟨rfl,aJ _ _⟩
theorem N1 (l:List aX) (b off cap:Nat) (w:World) (hl:yF w b off l) (hn:l.length<=140737488351232) :
  Calls Tryz.prog 118 #[.slice (some (Ad b off)) l.length cap] w fun e w'=>e=.returned (.bool (mo l))/\Below w.heap.size w w':=by
 go_enter Tryz.func118,Tryz.ntmps118;go_wp2;go_loopw [7] (fun i wr=>∃k:Nat,k<=l.length/\i=I k/\od l k=false/\Below w.heap.size w wr) (fun i _=>l.length-(intOf i).toNat)
 case atStart=>exact⟨0,by omega,rfl,rfl,aJ _ _⟩
 case round =>
  obtain⟨k,hk,rfl,hz,hb⟩:=hrel;have HZ:=aA hz;have Al:=aA hb;clear hz;by_cases hlt:k<l.length
  · obtain⟨c0,c1,c2,c3⟩:=(hl.below hb) k hlt;obtain⟨a,ha⟩:=ex (bB l k);rw[<- ha] at c0 c1 c2 c3;have HA:=aA ha;clear ha hb;by_cases hzr:a.zero=true
    · have HX:Hid (mo l=true):=aaI l k hlt (by grind [Hid.o]);go_wp2;go_ret;exact⟨ku (by rw[HX.o]),Al.o.alloc Al.o.size _⟩
    · have at5:a.zero=false:=by grind
      clear hzr;have HX:Hid (od l (k+1)=false):=by
       grind [od,Hid.o]
      go_wp2
      grind [intOf,Hid.o,Below.alloc,Below.size]
  · obtain rfl:k=l.length:=by omega
    go_wp2;go_ret;exact⟨ku HZ.o.symm,Al.o⟩
theorem P7 (l:List aX) (v:Value) (w:World) (h:gu w v l) (hf:dH l) :
  Calls Tryz.prog 118 #[v] w fun e w'=>e=.returned (.bool (mo l))/\Below w.heap.size w w':=by
 obtain⟨ao,cap,rfl,h⟩:=h;rcases h with rfl | ⟨b,off,rfl,hl⟩
 · exact P6 ao cap w
 · exact N1 l b off cap w hl hf.2
theorem I1 (hs:List bG) (ao:Option Addr) (cap:Nat) (w:World) (h:jn w ao hs) (hf:qZ hs) :
  Calls Tryz.prog 120 #[.slice ao hs.length cap] w fun e w'=>e=.returned (.bool (sB hs))/\Below w.heap.size w w':=by
 have HF:=aA hf;have HH:=aA h;have hn:hs.length<=140737488351232:=hf.1;clear h hf;go_enter Tryz.func120,Tryz.ntmps120;go_wp2;go_loopw [7] (fun i wr=>∃k:Nat,k<=hs.length/\i=I k/\lh hs k=true/\Below w.heap.size w wr) (fun i _=>hs.length-(intOf i).toNat)
 case atStart=>exact⟨0,by omega,rfl,rfl,aJ _ _⟩
 case round =>
  obtain⟨k,hk,rfl,hz,hb⟩:=hrel;have HZ:=aA hz;have Al:=aA hb;clear hz;by_cases hlt:k<hs.length
  · obtain⟨b,off,hao,hbl,eX⟩:=(HH.o.below hb) (by omega);subst hao;obtain⟨c0,c1,c2,c3⟩:=eX k hlt;have Pg:=HF.o.2 k hlt;have HE:Hid (lh hs (k+1)=df (bu hs k)):=by
     grind [lh,Hid.o]
    have HE2:Hid (df (bu hs k)=false->sB hs=false):=fun e=>Sa hs k hlt e
    obtain⟨s,hse⟩:=ex (bu hs k);rw[<- hse] at c0 c1 c2 c3 Pg HE HE2;clear hse eX hb;have jQ:=aA (Al.o.alloc Al.o.size (.cells #[I s.page,.string s.data,.slice s.ao s.eO.length s.cap] 145));have HC:Hid (∀W,Below wr.heap.size wr W->Calls Tryz.prog 122 #[.agg #[I s.page,.string s.data,.slice s.ao s.eO.length s.cap]] W fun e w'=>e=.returned (.bool (df s))/\Below W.heap.size W w'):=fun W hb=>AA s W (c3.below hb) Pg
    clear c3 Pg;cases e:df s with
    | true =>
     rw[e] at HC HE;clear e;go_wp2_with (go_at_call 122;refine(HC.o _ ((aJ _ _).alloc (aH _) _)).mono ?_;rintro e w1 ⟨rfl,hb⟩;have jQ:=aA (jQ.o.trans (hb.mono jQ.o.size));clear hb)
     go_roundw
     case rel=>exact⟨k+1,by omega,by go_num,HE.o,jQ.o⟩
     case measure=>simp[intOf];omega
    | false =>
     have HX:=aA (HE2.o e);rw[e] at HC;clear e HE2 HE;go_wp2_with (go_at_call 122;refine(HC.o _ ((aJ _ _).alloc (aH _) _)).mono ?_;rintro e w1 ⟨rfl,hb⟩;have jQ:=aA (jQ.o.trans (hb.mono jQ.o.size));clear hb)
     go_ret;exact⟨ku (by rw[HX.o]),jQ.o⟩
  · obtain rfl:k=hs.length:=by omega
    go_wp2;go_ret;exact⟨ku HZ.o.symm,Al.o⟩
open Go.RowKit
theorem MR {a a':Option Addr} {n n' m m':Nat} (h1:a=a') (h2:n=n') (h3:m=m'):Value.slice a n m=.slice a' n' m':=by grind
theorem PY (l:List aX) (hs:List bG) (en:Int) (va:Value) (ao:Option Addr) (cap:Nat) (w:World) (ha:gu w va l) (hc:bj l=0) (h:jn w ao hs) (hn:hs.length<=140737488351232) (hcap:hs.length<=cap) :
  Calls Tryz.prog 119 #[.agg #[va,.slice ao hs.length cap,I en]] w fun e w'=>e=.returned (.bool (jG l hs))/\Below w.heap.size w w':=by
 obtain⟨b,off,hbo⟩:∃b off,0<hs.length->ao=some (Ad b off)/\b<w.heap.size/\Km w b off hs:=by
  by_cases h0:0<hs.length
  · obtain⟨b,off,h1,h2,h3⟩:=h h0
    grind
  simp_all
 have HBO:=aA hbo;have HC:=aA hc;have hlen:=oa l hc;obtain⟨aa,ca,rfl,hal⟩:=ha;have Xr:Hid (0<l.length->∃b off,aa=some (Ad b off)/\yF w b off l):=fun g=>by
  grind
 clear hbo hc h hal;have HB:=aA ((aJ w.heap.size w).alloc (aH _) (.cells #[.slice aa l.length ca,.slice ao hs.length cap,I en] 25));go_enter Tryz.func119,Tryz.ntmps119;go_wp2;go_loopw [12,3] (fun ix v wr=>∃(i c:Nat) (XK:Option Addr),i<=l.length/\ix=I i/\v=.slice XK (hs.length-c) (cap-c)/\c<=hs.length/\(c<hs.length->XK=some (Ad b (off+c*3)))/\(hs.take c).map (·.page)=ft l i/\Below w.heap.size w wr) (fun ix _ _=>l.length-(intOf ix).toNat)
 case atStart=>exact⟨0,0,ao,by omega,rfl,rfl,by omega,fun g=>by grind [Hid.o],rfl,HB.o⟩
 case round =>
  obtain⟨i,c,XK,hi,rfl,rfl,hcl,hao,htk,hb⟩:=hrel;have HAO:=aA hao;have HTK:=aA htk;have Al:=aA hb;clear hao htk;by_cases hlt:i<l.length
  · obtain⟨ba,atQ,hae,hl⟩:=Xr.o (by omega);subst hae;obtain⟨c0,c1,c2,c3⟩:=(hl.below hb) i hlt;have hbk:=il l i (gQ l HC.o i hlt);have HSP:Hid (∀n,n<(bB l i).aO.toNat->∃t,mK l=(ft l i++kG (bB l i) n)++((bB l i).page+(n:Int))::t):=fun n hn=>Qd l i hlt n hn
    have wE:Hid (ft l (i+1)=ft l i++kG (bB l i) (bB l i).aO.toNat):=rfl;obtain⟨a,hae⟩:=ex (bB l i);rw[<- hae] at c0 c1 c2 c3 hbk HSP wE;clear hae hb;obtain⟨P,hP⟩:∃P:Nat,a.aO=(P:Int):=⟨a.aO.toNat,by omega⟩;rw[hP] at c1 hbk HSP wE;rw[lD] at HSP wE;have jQ:=aA (Al.o.alloc Al.o.size (.cells #[I a.page,I (P:Int),I a.jE,.bool a.zero] 139));have BA:=aA (bD wr #[I a.page,I (P:Int),I a.jE,.bool a.zero] 139);go_wp2;go_loopw [18,3] (fun nx v wi=>∃(n c:Nat) (XK:Option Addr),n<=P/\nx=I n/\v=.slice XK (hs.length-c) (cap-c)/\c<=hs.length/\(c<hs.length->XK=some (Ad b (off+c*3)))/\(hs.take c).map (·.page)=ft l i++kG a n/\Below w.heap.size w wi/\wi.heap[wr.heap.size]?=some (.cells #[I a.page,I (P:Int),I a.jE,.bool a.zero] 139 (0,0))) (fun nx _ _=>P-(intOf nx).toNat)
    case atStart=>exact⟨0,c,XK,by omega,rfl,rfl,hcl,HAO.o,by rw[HTK.o];simp[kG],jQ.o,BA.o⟩
    case round =>
     obtain⟨n,c,XK,hn',rfl,rfl,hcl,hao,htk,hb,hba⟩:=hrel;have HAO:=aA hao;have HTK:=aA htk;have HBi:=aA hb;have BAi:=aA hba;have x0:=aq hba 0 rfl;clear hao htk hba;by_cases hlp:n<P
     · obtain⟨t,ht⟩:=HSP.o n hlp;have HT:=aA ht;clear ht;by_cases hce:c=hs.length
       · have HX:Hid (jG l hs=false):=Si (by have h:=HTK.o;rw[hce] at h;exact h) HT.o;have hz:hs.length-c=0:=by omega
         rw[hz];clear hz hce;go_wp2
         go_quiet (fail)
         go_wp2;go_ret;exact⟨ku HX.o.symm,C4 HBi.o _⟩
       · have agU:c<hs.length:=by omega
         have hcz:(((hs.length-c:Nat):Int)==0)=false:=by simp;omega
         have auY:0<hs.length-c:=by omega
         obtain⟨-,g2,g3⟩:=HBO.o (by omega);obtain⟨d0,d1,d2,d3⟩:=(acB (hb.mono (Nat.le_of_eq rfl)) g2 g3) c agU;have hae:=HAO.o agU;subst hae;have auB:(1:Int)<=((hs.length-c:Nat):Int):=by omega
         by_cases Pd:(bu hs c).page=a.page+(n:Int)
         · have HX:Hid ((hs.take (c+1)).map (·.page)=ft l i++kG a (n+1)):=by
            show _=_;rw[CF hs c agU,HTK.o,Pd,vD,vk]
           rw[Pd] at d0;clear Pd d1 d2 d3 hb hce;by_cases hc1:cap-c=1
           · go_wp2
             go_quiet (fail)
             go_wp2;go_roundw
             case rel=>exact⟨n+1,c+1,_,by omega,by go_num,MR rfl (by omega) (by omega),by omega,fun g=>by omega,HX.o,C4 HBi.o _,BAi.o⟩
             case measure=>simp[intOf];omega
           · go_wp2
             go_quiet (fail)
             go_wp2;go_roundw
             case rel=>exact⟨n+1,c+1,_,by omega,by go_num,MR rfl (by omega) (by omega),by omega,fun g=>by simp[Nat.add_mul,yL],HX.o,C4 HBi.o _,BAi.o⟩
             case measure=>simp[intOf];omega
         · have HX:Hid (jG l hs=false):=Sj agU HTK.o HT.o Pd;have hpz:((bu hs c).page==a.page+(n:Int))=false:=by simpa using Pd
           clear Pd d1 d2 d3 hb hce;go_wp2
           go_quiet (fail)
           go_wp2;go_ret;exact⟨ku HX.o.symm,C4 HBi.o _⟩
     · obtain rfl:n=P:=by omega
       go_wp2;go_roundw
       case rel=>exact⟨i+1,c,XK,by omega,by go_num,rfl,hcl,HAO.o,by rw[wE.o];exact HTK.o,HBi.o⟩
       case measure=>simp[intOf];omega
  · obtain rfl:i=l.length:=by omega
    have HX:=aA (Vf hcl HTK.o);go_wp2;go_ret;refine⟨ku ?_,Al.o⟩;rw[HX.o];rw[Bool.eq_iff_iff];simp;omega
open Go.RowKit
theorem J2 (l:List aX) (va vs:Value) (en:Int) (w:World) (ha:gu w va l) (hf:dH l) (hc:bj l=0) (he:cK en) (IP:∃ao n c,va=.slice ao n c) (hvs:∃ao n c,vs=.slice ao n c) :
  Calls Tryz.prog 121 #[.agg #[va,vs,I en]] w fun e w'=>e=.returned (.bool (AJ l en))/\Below w.heap.size w w':=by
 have Q4:Hid (aW l (en.tdiv 16)=bV l (en.tdiv 16)):=by show _=_;grind [aW]
 have Po:=aA (Sh l hc (en.tdiv 16));have HE:Hid (AJ l en=((bV l (en.tdiv 16)).2&&(decide (2<=(bV l (en.tdiv 16)).1.jE)&&decide (en.tmod 8=0)))):=rfl;have Q5:Hid (∀W,Below w.heap.size w W->Calls Tryz.prog 77 #[va,I (en.tdiv 16)] W fun e w'=>e=.returned (.tuple #[.agg (qT (bV l (en.tdiv 16)).1),.bool (bV l (en.tdiv 16)).2])/\Below W.heap.size W w'):=fun W hb=>by
  have h:=yo l va (en.tdiv 16) W (ha.below hb) hf;rw[Q4.o] at h;exact h
 obtain⟨r,hr⟩:=ex (bV l (en.tdiv 16));rw[<- hr] at Po HE Q5;clear hr Q4 ha hf hc;obtain⟨⟨pg,pn,pr,zr⟩,ok⟩:=r;simp only[qT] at Q5 Po HE;obtain⟨aa,na,ca,rfl⟩:=IP;obtain⟨ao,no,co,rfl⟩:=hvs;unfold cK at he;have HB:=aA ((aJ w.heap.size w).alloc (aH _) (.cells #[.slice aa na ca,.slice ao no co,I en] 25));have BX:=aA (bD w #[.slice aa na ca,.slice ao no co,I en] 25);rw[HE.o];cases ok with
 | false =>
  go_enter Tryz.func121,Tryz.ntmps121;go_wp2_with (go_at_call 77;refine(Q5.o _ HB.o).mono ?_;rintro e w1 ⟨rfl,hb⟩;have HB:=aA (HB.o.trans (hb.mono HB.o.size));clear hb)
  go_ret;exact⟨rfl,HB.o.alloc HB.o.size _⟩
 | true =>
  have hpr:=Sc (Po.o rfl);have b0:bits BinOp.and IntKind.i64 0 2=0:=by decide
  have b1:bits BinOp.and IntKind.i64 1 2=0:=by decide
  have b2:bits BinOp.and IntKind.i64 2 2=2:=by decide
  have b3:bits BinOp.and IntKind.i64 3 2=2:=by decide
  clear Po;by_cases h8:en.tmod 8=0
  · rcases hpr with rfl | rfl | rfl | rfl
    all_goals
     go_enter Tryz.func121,Tryz.ntmps121;go_wp2_with (go_at_call 77;refine(Q5.o _ HB.o).mono ?_;rintro e w1 ⟨rfl,hb⟩;have HB:=aA (HB.o.trans (hb.mono HB.o.size));have BX:=aA (aN BX.o hb (aI BX.o));have hbx:=aI BX.o;have x2:=aq BX.o 2 rfl;clear hb)
     go_ret;exact⟨ku (by simp[h8]),HB.o.alloc HB.o.size _⟩
  · have h8':(en.tmod 8==0)=false:=by grind
    rcases hpr with rfl | rfl | rfl | rfl
    all_goals
     go_enter Tryz.func121,Tryz.ntmps121;go_wp2_with (go_at_call 77;refine(Q5.o _ HB.o).mono ?_;rintro e w1 ⟨rfl,hb⟩;have HB:=aA (HB.o.trans (hb.mono HB.o.size));have BX:=aA (aN BX.o hb (aI BX.o));have hbx:=aI BX.o;have x2:=aq BX.o 2 rfl;clear hb)
     go_ret;exact⟨ku (by simp[h8]),HB.o.alloc HB.o.size _⟩
theorem PX {w:World} {v:Value} {l:List aX} (h:gu w v l):∃ao n c,v=.slice ao n c:=by
 obtain⟨ao,cap,h,_⟩:=h
 grind
theorem U4 (l:List aX) (hs:List bG) (en:Int) (va:Value) (ao:Option Addr) (cap:Nat) (w:World) (ha:gu w va l) (hf:dH l) (h:jn w ao hs) (Pf:qZ hs) (hcap:hs.length<=cap) (he:cK en) :
  Calls Tryz.prog 69 #[.agg #[va,.slice ao hs.length cap,I en]] w fun e w'=>e=.returned (I (kI l hs en))/\Below w.heap.size w w':=by
 have EU:Hid (∀W,Below w.heap.size w W->Calls Tryz.prog 117 #[va] W fun e w'=>e=.returned (I (bj l))/\Below W.heap.size W w'):=fun W hb=>ju l va W (ha.below hb) hf
 have HZ:Hid (∀W,Below w.heap.size w W->Calls Tryz.prog 118 #[va] W fun e w'=>e=.returned (.bool (mo l))/\Below W.heap.size W w'):=fun W hb=>P7 l va W (ha.below hb) hf
 have HEA:Hid (bj l=0->∀W,Below w.heap.size w W->Calls Tryz.prog 119 #[.agg #[va,.slice ao hs.length cap,I en]] W fun e w'=>e=.returned (.bool (jG l hs))/\Below W.heap.size W w'):=fun hc W hb=>PY l hs en va ao cap W (ha.below hb) hc (h.below hb) Pf.1 hcap
 have HSH:Hid (∀W,Below w.heap.size w W->Calls Tryz.prog 120 #[.slice ao hs.length cap] W fun e w'=>e=.returned (.bool (sB hs))/\Below W.heap.size W w'):=fun W hb=>I1 hs ao cap W (h.below hb) Pf
 have Aj:Hid (bj l=0->∀W,Below w.heap.size w W->Calls Tryz.prog 121 #[.agg #[va,.slice ao hs.length cap,I en]] W fun e w'=>e=.returned (.bool (AJ l en))/\Below W.heap.size W w'):=fun hc W hb=>J2 l va _ en W (ha.below hb) hf hc he (PX ha) ⟨_,_,_,rfl⟩
 have HR:Hid (kI l hs en=if bj l=0 then (if !mo l&&(jG l hs&&(sB hs&&AJ l en)) then 0 else 1) else bj l):=rfl;obtain⟨aa,na,ca,rfl⟩:=PX ha;clear ha hf h Pf hcap he;obtain⟨N,hN⟩:=ex hs.length;rw[<- hN] at HEA HSH Aj;rw[<- hN];obtain⟨z,hz⟩:=ex (mo l);rw[<- hz] at HZ HR;obtain⟨q,hq⟩:=ex (jG l hs);rw[<- hq] at HEA HR;obtain⟨s,hs'⟩:=ex (sB hs);rw[<- hs'] at HSH HR;obtain⟨r,hr⟩:=ex (AJ l en);rw[<- hr] at Aj HR;obtain⟨C,hC⟩:=ex (bj l);rw[<- hC] at EU HEA Aj HR;rw[HR.o];clear hN hz hq hs' hr hC HR;have HB:=aA ((aJ w.heap.size w).alloc (aH _) (.cells #[.slice aa na ca,.slice ao N cap,I en] 25));have BX:=aA (bD w #[.slice aa na ca,.slice ao N cap,I en] 25);by_cases hc:C=0
 · subst hc;have ap6:=aA (HEA.o rfl);have ap5:=aA (Aj.o rfl);clear HEA Aj;rw[aB rfl];cases z <;> cases q <;> cases s <;> cases r
   all_goals
    go_enter Tryz.func69,Tryz.ntmps69;go_wp2_with (first
     | (go_at_call 117;refine(EU.o _ HB.o).mono ?_;rintro e w1 ⟨rfl,hb⟩;have HB:=aA (HB.o.trans (hb.mono HB.o.size));have BX:=aA (aN BX.o hb (aI BX.o));have x0:=aq BX.o 0 rfl;clear hb)
     | (go_at_call 118;refine(HZ.o _ HB.o).mono ?_;rintro e w1 ⟨rfl,hb⟩;have HB:=aA (HB.o.trans (hb.mono HB.o.size));have BX:=aA (aN BX.o hb (aI BX.o));have x0:=aq BX.o 0 rfl;have x1:=aq BX.o 1 rfl;have x2:=aq BX.o 2 rfl;clear hb)
     | (go_at_call 119;refine(ap6.o _ HB.o).mono ?_;rintro e w1 ⟨rfl,hb⟩;have HB:=aA (HB.o.trans (hb.mono HB.o.size));have BX:=aA (aN BX.o hb (aI BX.o));have x1:=aq BX.o 1 rfl;clear hb)
     | (go_at_call 120;refine(HSH.o _ HB.o).mono ?_;rintro e w1 ⟨rfl,hb⟩;have HB:=aA (HB.o.trans (hb.mono HB.o.size));have BX:=aA (aN BX.o hb (aI BX.o));have x0:=aq BX.o 0 rfl;have x1:=aq BX.o 1 rfl;have x2:=aq BX.o 2 rfl;clear hb)
     | (go_at_call 121;refine(ap5.o _ HB.o).mono ?_;rintro e w1 ⟨rfl,hb⟩;have HB:=aA (HB.o.trans (hb.mono HB.o.size));clear hb))
    go_ret;exact⟨rfl,HB.o⟩
 · have hc':(C==0)=false:=by grind
   rw[au hc];go_enter Tryz.func69,Tryz.ntmps69;go_wp2_with (go_at_call 117;refine(EU.o _ HB.o).mono ?_;rintro e w1 ⟨rfl,hb⟩;have HB:=aA (HB.o.trans (hb.mono HB.o.size));clear hb)
   go_ret;exact⟨rfl,HB.o⟩
open Go.RowKit
theorem aaB (o:jZ) (w:World) (h:pT w o.a o.i) (hc:mq o.i=0) (h0:0<=o.base) (h1:o.base<=100000) :
  Calls Tryz.prog 65 #[.agg (oP o)] w fun e w'=>e=.returned (I (xC o))/\Below w.heap.size w w':=by
 have hl:=E7 hc;have hn:=vH hc;have HS:=h.jD;obtain⟨⟨nm,ns,gs,ys,rs,en⟩,⟨an,cn,ag,cg,ay,cy,ar,cr⟩,ba⟩:=o;simp only[oP];simp only at HS hn h0 h1;obtain⟨b,off,hag,hbl,eX⟩:=HS (by omega);subst hag;have E:Hid (xC ⟨⟨nm,ns,gs,ys,rs,en⟩,⟨an,cn,some (Ad b off),cg,ay,cy,ar,cr⟩,ba⟩=ba+(eD gs (gs.length-1)).page+(eD gs (gs.length-1)).aO):=rfl;have hl':0<=(eD gs (gs.length-1)).page/\1<=(eD gs (gs.length-1)).aO/\(eD gs (gs.length-1)).page+(eD gs (gs.length-1)).aO<=255:=hl;obtain⟨c0,c1,c2,c3,c4⟩:=eX (gs.length-1) (by omega);rw[E.o];obtain⟨s,hs⟩:=ex (eD gs (gs.length-1));rw[<- hs] at c0 c1 c2 c3 c4 hl';rw[<- hs];clear hs hl eX HS h E;obtain⟨G,hG⟩:=ex gs.length;rw[<- hG] at c0 c1 c2 c3 c4 hn;rw[<- hG];clear hG hc;have HB:=aA ((aJ w.heap.size w).alloc (aH _) (.cells #[.string nm,.slice an ns.length cn,.slice (some (Ad b off)) G cg,.slice ay ys.length cy,.slice ar rs.length cr,I en,I ba] 131));go_enter Tryz.func65,Tryz.ntmps65;go_wp2;go_ret;exact⟨rfl,HB.o.alloc HB.o.size _⟩
theorem P8 (o:jZ) (Xl:Int) (w:World) (h0:0<=o.base) (h1:o.base<=100000) (h2:0<=Xl) (h3:Xl<=100000) :
  Calls Tryz.prog 68 #[.agg (oP o),I Xl] w fun e w'=>e=.returned (I (xU o Xl))/\Below w.heap.size w w':=by
 obtain⟨⟨nm,ns,gs,ys,rs,en⟩,⟨an,cn,ag,cg,ay,cy,ar,cr⟩,ba⟩:=o;simp only[oP,xU];simp only at h0 h1;go_enter Tryz.func68,Tryz.ntmps68;go_wp2;go_ret;exact⟨rfl,(aJ _ _).alloc (aH _) _⟩
theorem XZ (s:pE) (w:World) :
  Calls Tryz.prog 116 #[.agg #[I s.page,I s.aO,.string s.data,.bool s.wr,.bool s.ex]] w fun e w'=>e=.returned (I (vw s))/\Below w.heap.size w w':=by
 obtain⟨pg,pn,dt,wr,ex⟩:=s;have b1:bits BinOp.or IntKind.i64 0 1=1:=by decide
 have b2:bits BinOp.or IntKind.i64 0 2=2:=by decide
 have b3:bits BinOp.or IntKind.i64 1 2=3:=by decide
 cases wr <;> cases ex
 all_goals
  go_enter Tryz.func116,Tryz.ntmps116;go_wp2;go_ret;simp[vw,aJ,pR]
open Go.RowKit
open Go.RowKit
open Go.RowKit Go.WideMaps Go.Maps
def aha (l:List iL) (w:World) (e:Ending) (w':World):Prop:=Below w.heap.size w w' /\
 if ou l=0 then ∃m D,e=.returned (.tuple #[.map (some m),I 0])/\w'.ownsMap Tryz.prog 9 Ym m l.length D/\Kj l l.length D
 else e=.returned (.tuple #[.map none,I (ou l)])
open Go.RowKit
open Go.RowKit Go.WideMaps Go.Maps
theorem uS {α:Type} (f:α->List Value) (c:Nat) (hc:∀x,(f x).length=c) (d:α):∀(l:List α) (i j:Nat),i<l.length->j<c->(l.flatMap f)[i*c+j]?=(f (l.getD i d))[j]?
 | a::r,0,j,_,hj=>by
  grind
 | a::r,i+1,j,hi,hj=>by
  rw[nM,yP (by grind),hc,show(i+1)*c+j-c=i*c+j by grind];exact uS f c hc d r i j (by grind) hj
def Pj (all:List iL) (R:Option (List Nat)) (w:World) (e:Ending) (w':World):Prop:=Below w.heap.size w w'/\match R with
 | none=>e=.returned (.tuple #[Nl,.bool false])
 | some ix=>G0 all ix/\∃ao cap,e=.returned (.tuple #[.slice ao ix.length cap,.bool true])/\Ko w' ao (eN all 1 ix)
structure ain (all:List iL) (m:Nat) (D:DataW Value) (w:World):Prop where
 pos:0<all.length
 few:all.length<=7
 chk:∀j,j<all.length->mq (cB all j).i=0
 fit:∀j,j<all.length->JW (cB all j).i
 once:xx (jU all)=true
 im:∀j,j<all.length->pT w (cB all j).a (cB all j).i
 map:w.ownsMap Tryz.prog 9 Ym m all.length D
 nm:Kj all all.length D
open Go.RowKit Go.WideMaps Go.Maps
theorem Dm {w w':World} {base:Nat} {e:TypeId} {size:Nat} {v:Value} {n:Nat} {xs:List Value} (h:w.ownsRow base e size v n xs) (hb:Below w.heap.size w w'):w'.ownsRow base e size v n xs:=by
 refine⟨h.1,?_⟩;rcases h.2 with h2 | ⟨g,cap,cur,hv,hbg,hg,rest⟩
 · grind
 · exact .inr ⟨g,cap,cur,hv,hbg,(hb.block g (aI hg)).trans hg,rest⟩
open Go.RowKit
open Go.RowKit
theorem yR {P:Program} {f:FuncId} {args:Array Value} {v:Value} {w:World} (x:dM w.heap.size w) (h:∀W,Below w.heap.size w W->Calls P f args W fun e w'=>e=.returned v/\Below W.heap.size W w') :
  Calls P f args x.world fun e w''=>e=.returned v/\∃y:dM w.heap.size w,w''=y.world :=
 (h x.world x.keeps).mono fun e w'' ⟨he,hb⟩=>⟨he,⟨w'',x.keeps.trans (hb.mono x.keeps.size)⟩,rfl⟩
end Go.Proofs.YtlgoihmkgaaemaaGreat
