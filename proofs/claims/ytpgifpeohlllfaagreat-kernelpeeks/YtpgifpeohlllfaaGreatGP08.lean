import Derived.Test.YtpgifpeohlllfaaGreatGP00
import Derived.Test.YtpgifpeohlllfaaGreatGP07
import Derived.Test.YtpgifpeohlllfaaGreatGP06
import Derived.Test.YtpgifpeohlllfaaGreatGP01
import Derived.Test.YtpgifpeohlllfaaGreatGP05
set_option maxHeartbeats 20000000
set_option linter.unusedVariables false
set_option maxRecDepth 100000
set_option linter.unusedSimpArgs false
namespace Go.Proofs.YtpgifpeohlllfaaGreat
namespace KW
open Go.RowKit GK
open FW (ai aC)
theorem sV (s:KM.Sp) (va:Value) (ap:Option Addr) (cp:Nat) (uf us:List KM.Us) (lo gf nf cf gs ns cs:Nat) (bd:Int) (w0 w:World) (ha:AW.Has w0 va s.aA) (he:aU aI 3 KM.jz w0 ap s.au) (hfit:lZ s) (hw:Below w0.heap.size w0 w) (hlo:w0.heap.size<=lo) (XI:gM lo w gf nf cf uf) (XH:gM lo w gs ns cs us) (hne:¬gf=gs) (hb1:KM.lY uf nf bd) (hb2:KM.lY us ns bd) (hB:bd<=100000) (lJ:nf<=1000) (hns:ns<=1000) :
  Calls Tryz.prog 112 #[.agg #[.bool s.live,va,.slice ap s.au.length cp],.slice (some (Ad gf 0)) nf cf,.slice (some (Ad gs 0)) ns cs] w fun x w'=>x=.returned (.bool (KM.gJ s.aA s.au (uf,us) s.au.length))/\Kp (fun b=>b=gf∨b=gs) w w'/\(KM.gJ s.aA s.au (uf,us) s.au.length=true->gM lo w' gf nf cf (KM.gp s.aA s.au (uf,us) s.au.length).1/\gM lo w' gs ns cs (KM.gp s.aA s.au (uf,us) s.au.length).2):=by
 obtain⟨lv,ar,es⟩:=s
 simp only at ha he hfit ⊢
 have W9:=ai ha
 have N6:=ai he
 have oo:=ai hfit.aA
 have q9:=ai hfit.tH
 have hel:es.length<=140737488351232:=hfit.au
 have HW:=ai hw
 have HUF:=ai XI
 have J7:=ai XH
 have hgf:=XI.lt
 have hgs:=XH.lt
 have x7:=ai (KM.vD ar es (uf,us) nf ns bd hb1 hb2)
 have fI:=ai (KM.ML ar es (uf,us))
 have iL:Hid (∀k,KM.gJ ar es (uf,us) k=true->KM.kH ar (KM.kL es k) (KM.gp ar es (uf,us) k).1 (KM.gp ar es (uf,us) k).2 (KM.aJ es k)=true->KM.gJ ar es (uf,us) (k+1)=true/\KM.gp ar es (uf,us) (k+1)=KM.pV ar (KM.gp ar es (uf,us) k) (KM.aJ es k)):=fun k h1 h2=>⟨by rw[KM.gJ,h1,h2];rfl,rfl⟩
 have Nz:Hid (∀k,KM.kL es (k+1)=(KM.aJ es k).page):=fun k=>by unfold KM.kL;rw[if_neg (by omega),Nat.add_sub_cancel]
 have HL0:Hid (KM.kL es 0=0):=rfl
 obtain⟨aa,ca,rU,_⟩:=id ha
 subst rU
 obtain⟨na,p9⟩:=ex ar.length
 rw[<- p9] at W9 ⊢
 have iz:=ai (Kp.alloc (fun b=>b=gf∨b=gs) w (.cells #[.bool lv,.slice aa na ca,.slice ap es.length cp] 43))
 have BS:=ai (B.new w #[.bool lv,.slice aa na ca,.slice ap es.length cp] 43)
 have TC:=ai (XI.kp (Kp.alloc (fun _=>False) w (.cells #[.bool lv,.slice aa na ca,.slice ap es.length cp] 43)) (fun x=>x))
 have TA:=ai (XH.kp (Kp.alloc (fun _=>False) w (.cells #[.bool lv,.slice aa na ca,.slice ap es.length cp] 43)) (fun x=>x))
 clear ha he hfit hw XI XH hb1 hb2 p9
 go_enter Tryz.func112,Tryz.ntmps112
 go_wp2
 obtain⟨W,hW⟩:=ex (w.alloc (.cells #[.bool lv,.slice aa na ca,.slice ap es.length cp] 43))
 rw[<- hW] at iz BS TC TA ⊢
 obtain⟨sb,oU⟩:=ex w.heap.size
 have aeo:¬sb=gf:=by omega
 have aen:¬sb=gs:=by omega
 have hsW:W.heap.size=sb+1:=by rw[hW,World.size_alloc,oU]
 have h0s:w0.heap.size<=sb:=by have:=HW.o.size;omega
 have aeV:gf<sb:=by omega
 have aeR:gs<sb:=by omega
 rw[<- oU] at BS ⊢
 have DY:=ai oU
 clear hW oU HUF J7
 go_loopw [7,15] (fun lv iv wr=>∃k:Nat,k<=es.length/\iv=I (k:Int)/\lv=I (KM.kL es k)/\KM.gJ ar es (uf,us) k=true/\Kp (fun b=>b=gf∨b=gs) W wr/\gM lo wr gf nf cf (KM.gp ar es (uf,us) k).1/\gM lo wr gs ns cs (KM.gp ar es (uf,us) k).2) (fun _ iv _=>es.length-(intOf iv).toNat)
 case atStart=>exact⟨0,by omega,rfl,rfl,rfl,Kp.refl _ _,TC.o,TA.o⟩
 case round =>
  obtain⟨k,hk,rfl,rfl,hbk,vA,hof,hos⟩:=hrel
  have DJ:=ai vA
  have Oc:=ai hbk
  have Hm:=ai hof
  have Hl:=ai hos
  obtain⟨L,hL⟩:=ex (KM.kL es k)
  rw[<- hL]
  have bs:=vA.keep BS.o (fun x=>by omega)
  have hsz:=vA.size
  have s1:wr.cell? (Ad sb 1)=some (.slice aa na ca):=B.cell bs 1 rfl
  have s2:wr.cell? (Ad sb 2)=some (.slice ap es.length cp):=B.cell bs 2 rfl
  have Xn:=ai bs
  by_cases hlt:k<es.length
  · have hb0:=(vA.below (iz.o.below HW.o HW.o.size (fun b hb=>by omega)) (by omega) (fun b hb=>by omega):Below w0.heap.size w0 wr)
    have bI:=ai hb0
    obtain⟨eb,eo,hao,hbl,bC⟩:=N6.o (by omega)
    subst hao
    have ce:∀j,j<3->wr.cell? (Ad eb (eo+k*3+j))=(aI (KM.aJ es k))[j]?:=fun j hj=>(hb0.cell (p:=(Ad eb (eo+k*3+j))) hbl).trans (bC k hlt j hj)
    have e0:=ce 0 (by omega)
    have e1:=ce 1 (by omega)
    have e2:=ce 2 (by omega)
    rw[Nat.add_zero] at e0
    have um:=q9.o k hlt
    have fI:=ai (fI.o k hlt)
    have iL:=ai (iL.o k Oc.o)
    have Nz:=ai (Nz.o k)
    obtain⟨bd1,bd2,bd3,bd4⟩:=x7.o k (by omega) Oc.o
    have SP:(k:Int)<=255:=by omega
    have Ww:Hid (KM.lY (KM.gp ar es (uf,us) k).1 nf 1000000/\KM.lY (KM.gp ar es (uf,us) k).2 ns 1000000):=⟨bd1.mono (by omega),bd2.mono (by omega)⟩
    have su:Hid (∀V,Below w0.heap.size w0 V->Calls Tryz.prog 70 #[.slice aa na ca,I (KM.aJ es k).page] V fun e w'=>e=.returned (.tuple #[.agg (AW.cellsOf (AM.aK ar (KM.aJ es k).page).1),.bool (AM.aK ar (KM.aJ es k).page).2])/\Below V.heap.size V w'):=fun V hV=>AW.oY ar _ _ V (W9.o.below hV) oo.o
    rw[<- hL] at fI iL
    have JQ:Hid (∀u:List KM.Us×List KM.Us,KM.pV ar u (KM.aJ es k)=if (KM.aJ es k).kind=1 then (KM.qp u.1 (KM.aJ es k) (AM.aK ar (KM.aJ es k).page).1.zero,u.2) else (u.1,KM.qp u.2 (KM.aJ es k) (AM.aK ar (KM.aJ es k).page).1.zero)):=fun u=>rfl
    obtain⟨UU,hUU⟩:=ex (KM.gp ar es (uf,us) k)
    rw[<- hUU] at fI iL Ww Hm Hl
    obtain⟨U1,U2⟩:=UU
    unfold KM.kH at fI iL
    obtain⟨E,hE⟩:=ex (KM.aJ es k)
    rw[<- hE] at e0 e1 e2 um fI iL Nz su JQ
    obtain⟨pg,kd,lc⟩:=E
    simp only at fI iL Ww Hm Hl um Nz su JQ
    have x0:wr.cell? (Ad eb (eo+k*3))=some (I pg):=e0
    have x1:wr.cell? (Ad eb (eo+k*3+1))=some (I kd):=e1
    have x2:wr.cell? (Ad eb (eo+k*3+2))=some (I lc):=e2
    obtain⟨⟨fa,ok⟩,hF⟩:∃F,F=AM.aK ar pg:=⟨_,rfl⟩
    rw[<- hF] at fI iL su JQ
    obtain⟨f1,f2,f3,z⟩:=fa
    unfold AW.cellsOf at su
    simp only at fI iL su JQ
    have Qq:=ai (fun V (hV:gM lo V gf nf cf U1)=>Gh U1 ⟨pg,kd,lc⟩ z lo gf nf cf V hV lJ ⟨um.1,um.2.2⟩ (fun i hi=>Ww.o.1.2 i hi))
    have N0:=ai (fun V (hV:gM lo V gs ns cs U2)=>Gh U2 ⟨pg,kd,lc⟩ z lo gs ns cs V hV hns ⟨um.1,um.2.2⟩ (fun i hi=>Ww.o.2.2 i hi))
    obtain⟨A1,hA1⟩:=ex (KM.lh U1 ⟨pg,kd,lc⟩ z)
    obtain⟨A2,Bx⟩:=ex (KM.lh U2 ⟨pg,kd,lc⟩ z)
    rw[<- hA1,<- Bx] at fI iL
    rw[<- hA1] at Qq
    rw[<- Bx] at N0
    have Pp:=hb0.size
    have J3:¬eb=wr.heap.size:=by omega
    have hsr:¬sb=wr.heap.size:=by omega
    have KA:=ai (DJ.o.trans (Kp.alloc (fun b=>b=gf∨b=gs) wr (.cells #[I pg,I kd,I lc] 45)) (fun _ _ x=>x))
    have cj:=ai (bI.o.alloc bI.o.size (.cells #[I pg,I kd,I lc] 45))
    have OA:=ai (Hm.o.kp (Kp.alloc (fun _=>False) wr (.cells #[I pg,I kd,I lc] 45)) (fun x=>x))
    have OB:=ai (Hl.o.kp (Kp.alloc (fun _=>False) wr (.cells #[I pg,I kd,I lc] 45)) (fun x=>x))
    have s1A:(wr.alloc (.cells #[I pg,I kd,I lc] 45)).cell? (Ad sb 1)=some (.slice aa na ca):=B.cell (B.alloc Xn.o _) 1 rfl
    have BE:=ai (B.new wr #[I pg,I kd,I lc] 45)
    clear e0 e1 e2 hL hUU hE hF hA1 Bx vA hbk hof hos hb0 bC ce bd1 bd2 bd3 bd4 x7 N6 W9 oo q9 TC TA DJ bI Hm Hl Ww bs Xn BS DY HL0 SP
    cases ok with
    | false =>
     have DM:=ai (fI.o rfl)
     clear fI iL Qq N0 JQ
     go_wp2_with (go_at_call 70;refine(su.o _ cj.o).mono ?_;rintro e w1 ⟨rfl,hb1⟩;have K1:=ai (KA.o.trans (Kp.aW hb1) (fun _ _ x=>x));have O1:=ai (OA.o.kp (Kp.aW (D:=fun _=>False) hb1) (fun x=>x));have O2:=ai (OB.o.kp (Kp.aW (D:=fun _=>False) hb1) (fun x=>x));have pR:=ai (B.below BE.o hb1 (by simp));have t0:w1.cell? (Ad wr.heap.size 0)=some (I pg):=B.cell pR.o 0 rfl;have t1:w1.cell? (Ad wr.heap.size 1)=some (I kd):=B.cell pR.o 1 rfl;have t2:w1.cell? (Ad wr.heap.size 2)=some (I lc):=B.cell pR.o 2 rfl;have hx1:wr.heap.size<w1.heap.size:=B.isLt pR.o;have hx2:¬wr.heap.size=w1.heap.size:=(by omega);clear hb1)
     have KX:=ai (K1.o.trans (Kp.alloc (fun b=>b=gf∨b=gs) w1 (.cells #[I f1,I f2,I f3,.bool z] 47)) (fun _ _ x=>x))
     go_ret
     exact⟨congrArg (fun b=>Ending.returned (.bool b)) DM.o.symm,iz.o.trans KX.o (fun _ _ x=>x),fun x=>by rw[DM.o] at x;cases x⟩
    | true =>
     by_cases QZ:pg<=L
     · have DM:=ai (fI.o (by rw[decide_eq_false (show ¬L<pg by omega)];rfl))
       clear fI iL Qq N0 JQ
       go_wp2_with (go_at_call 70;refine(su.o _ cj.o).mono ?_;rintro e w1 ⟨rfl,hb1⟩;have K1:=ai (KA.o.trans (Kp.aW hb1) (fun _ _ x=>x));have O1:=ai (OA.o.kp (Kp.aW (D:=fun _=>False) hb1) (fun x=>x));have O2:=ai (OB.o.kp (Kp.aW (D:=fun _=>False) hb1) (fun x=>x));have pR:=ai (B.below BE.o hb1 (by simp));have t0:w1.cell? (Ad wr.heap.size 0)=some (I pg):=B.cell pR.o 0 rfl;have t1:w1.cell? (Ad wr.heap.size 1)=some (I kd):=B.cell pR.o 1 rfl;have t2:w1.cell? (Ad wr.heap.size 2)=some (I lc):=B.cell pR.o 2 rfl;have hx1:wr.heap.size<w1.heap.size:=B.isLt pR.o;have hx2:¬wr.heap.size=w1.heap.size:=(by omega);clear hb1)
       have KX:=ai (K1.o.trans (Kp.alloc (fun b=>b=gf∨b=gs) w1 (.cells #[I f1,I f2,I f3,.bool z] 47)) (fun _ _ x=>x))
       go_ret
       exact⟨congrArg (fun b=>Ending.returned (.bool b)) DM.o.symm,iz.o.trans KX.o (fun _ _ x=>x),fun x=>by rw[DM.o] at x;cases x⟩
     · have Zx:L<pg:=by omega
       rw[decide_eq_true Zx] at fI iL
       by_cases k1:kd=1
       · rw[if_pos k1] at fI iL
         have k1b:(kd==1)=true:=by simpa using k1
         have HK:=ai k1
         clear N0 k1
         cases A1 with
         | false =>
          have DM:=ai (fI.o rfl)
          clear fI iL JQ
          go_wp2_with (first | (go_at_call 70;refine(su.o _ cj.o).mono ?_;rintro e w1 ⟨rfl,hb1⟩;have K1:=ai (KA.o.trans (Kp.aW hb1) (fun _ _ x=>x));have O1:=ai (OA.o.kp (Kp.aW (D:=fun _=>False) hb1) (fun x=>x));have O2:=ai (OB.o.kp (Kp.aW (D:=fun _=>False) hb1) (fun x=>x));have pR:=ai (B.below BE.o hb1 (by simp));have t0:w1.cell? (Ad wr.heap.size 0)=some (I pg):=B.cell pR.o 0 rfl;have t1:w1.cell? (Ad wr.heap.size 1)=some (I kd):=B.cell pR.o 1 rfl;have t2:w1.cell? (Ad wr.heap.size 2)=some (I lc):=B.cell pR.o 2 rfl;have hx1:wr.heap.size<w1.heap.size:=B.isLt pR.o;have hx2:¬wr.heap.size=w1.heap.size:=(by omega);clear hb1) | (go_at_call 150;refine(Qq.o _ (O1.o.kp (Kp.alloc (fun _=>False) _ _) (fun x=>x))).mono ?_;rintro e w3 ⟨rfl,hk3,Mb⟩;have K3:=ai ((K1.o.trans (Kp.alloc (fun b=>b=gf∨b=gs) _ _) (fun _ _ x=>x)).trans (hk3.mono (D1:=fun b=>b=gf∨b=gs) (fun b _ x=>.inl x)) (fun _ _ x=>x));have O3:=ai Mb;have P3:=ai ((O2.o.kp (Kp.alloc (fun _=>False) _ _) (fun x=>x)).kp hk3 (fun x=>hne x.symm));clear hk3 Mb))
          have KX:=ai K3.o
          go_ret
          exact⟨congrArg (fun b=>Ending.returned (.bool b)) DM.o.symm,iz.o.trans KX.o (fun _ _ x=>x),fun x=>by rw[DM.o] at x;cases x⟩
         | true =>
          have x4:=ai (iL.o rfl)
          clear fI iL
          go_wp2_with (first | (go_at_call 70;refine(su.o _ cj.o).mono ?_;rintro e w1 ⟨rfl,hb1⟩;have K1:=ai (KA.o.trans (Kp.aW hb1) (fun _ _ x=>x));have O1:=ai (OA.o.kp (Kp.aW (D:=fun _=>False) hb1) (fun x=>x));have O2:=ai (OB.o.kp (Kp.aW (D:=fun _=>False) hb1) (fun x=>x));have pR:=ai (B.below BE.o hb1 (by simp));have t0:w1.cell? (Ad wr.heap.size 0)=some (I pg):=B.cell pR.o 0 rfl;have t1:w1.cell? (Ad wr.heap.size 1)=some (I kd):=B.cell pR.o 1 rfl;have t2:w1.cell? (Ad wr.heap.size 2)=some (I lc):=B.cell pR.o 2 rfl;have hx1:wr.heap.size<w1.heap.size:=B.isLt pR.o;have hx2:¬wr.heap.size=w1.heap.size:=(by omega);clear hb1) | (go_at_call 150;refine(Qq.o _ (O1.o.kp (Kp.alloc (fun _=>False) _ _) (fun x=>x))).mono ?_;rintro e w3 ⟨rfl,hk3,Mb⟩;have K3:=ai ((K1.o.trans (Kp.alloc (fun b=>b=gf∨b=gs) _ _) (fun _ _ x=>x)).trans (hk3.mono (D1:=fun b=>b=gf∨b=gs) (fun b _ x=>.inl x)) (fun _ _ x=>x));have O3:=ai Mb;have P3:=ai ((O2.o.kp (Kp.alloc (fun _=>False) _ _) (fun x=>x)).kp hk3 (fun x=>hne x.symm));clear hk3 Mb))
          go_roundw
          case rel=>exact⟨k+1,by omega,by go_num,by rw[Nz.o],x4.o.1,K3.o,by rw[x4.o.2,JQ.o,if_pos HK.o];exact O3.o,by rw[x4.o.2,JQ.o,if_pos HK.o];exact P3.o⟩
          case measure=>simp[intOf];omega
       · rw[if_neg k1] at fI iL
         clear Qq
         have k1b:(kd==1)=false:=by simpa using k1
         by_cases k2:kd=2
         · rw[if_pos k2] at fI iL
           have k2b:(kd==2)=true:=by simpa using k2
           have HK:=ai k1
           clear k1 k2
           cases A2 with
           | false =>
            have DM:=ai (fI.o rfl)
            clear fI iL JQ
            go_wp2_with (first | (go_at_call 70;refine(su.o _ cj.o).mono ?_;rintro e w1 ⟨rfl,hb1⟩;have K1:=ai (KA.o.trans (Kp.aW hb1) (fun _ _ x=>x));have O1:=ai (OA.o.kp (Kp.aW (D:=fun _=>False) hb1) (fun x=>x));have O2:=ai (OB.o.kp (Kp.aW (D:=fun _=>False) hb1) (fun x=>x));have pR:=ai (B.below BE.o hb1 (by simp));have t0:w1.cell? (Ad wr.heap.size 0)=some (I pg):=B.cell pR.o 0 rfl;have t1:w1.cell? (Ad wr.heap.size 1)=some (I kd):=B.cell pR.o 1 rfl;have t2:w1.cell? (Ad wr.heap.size 2)=some (I lc):=B.cell pR.o 2 rfl;have hx1:wr.heap.size<w1.heap.size:=B.isLt pR.o;have hx2:¬wr.heap.size=w1.heap.size:=(by omega);clear hb1) | (go_at_call 150;refine(N0.o _ (O2.o.kp (Kp.alloc (fun _=>False) _ _) (fun x=>x))).mono ?_;rintro e w3 ⟨rfl,hk3,Mb⟩;have K3:=ai ((K1.o.trans (Kp.alloc (fun b=>b=gf∨b=gs) _ _) (fun _ _ x=>x)).trans (hk3.mono (D1:=fun b=>b=gf∨b=gs) (fun b _ x=>.inr x)) (fun _ _ x=>x));have O3:=ai Mb;have P3:=ai ((O1.o.kp (Kp.alloc (fun _=>False) _ _) (fun x=>x)).kp hk3 hne);clear hk3 Mb))
            have KX:=ai K3.o
            go_ret
            exact⟨congrArg (fun b=>Ending.returned (.bool b)) DM.o.symm,iz.o.trans KX.o (fun _ _ x=>x),fun x=>by rw[DM.o] at x;cases x⟩
           | true =>
            have x4:=ai (iL.o rfl)
            clear fI iL
            go_wp2_with (first | (go_at_call 70;refine(su.o _ cj.o).mono ?_;rintro e w1 ⟨rfl,hb1⟩;have K1:=ai (KA.o.trans (Kp.aW hb1) (fun _ _ x=>x));have O1:=ai (OA.o.kp (Kp.aW (D:=fun _=>False) hb1) (fun x=>x));have O2:=ai (OB.o.kp (Kp.aW (D:=fun _=>False) hb1) (fun x=>x));have pR:=ai (B.below BE.o hb1 (by simp));have t0:w1.cell? (Ad wr.heap.size 0)=some (I pg):=B.cell pR.o 0 rfl;have t1:w1.cell? (Ad wr.heap.size 1)=some (I kd):=B.cell pR.o 1 rfl;have t2:w1.cell? (Ad wr.heap.size 2)=some (I lc):=B.cell pR.o 2 rfl;have hx1:wr.heap.size<w1.heap.size:=B.isLt pR.o;have hx2:¬wr.heap.size=w1.heap.size:=(by omega);clear hb1) | (go_at_call 150;refine(N0.o _ (O2.o.kp (Kp.alloc (fun _=>False) _ _) (fun x=>x))).mono ?_;rintro e w3 ⟨rfl,hk3,Mb⟩;have K3:=ai ((K1.o.trans (Kp.alloc (fun b=>b=gf∨b=gs) _ _) (fun _ _ x=>x)).trans (hk3.mono (D1:=fun b=>b=gf∨b=gs) (fun b _ x=>.inr x)) (fun _ _ x=>x));have O3:=ai Mb;have P3:=ai ((O1.o.kp (Kp.alloc (fun _=>False) _ _) (fun x=>x)).kp hk3 hne);clear hk3 Mb))
            go_roundw
            case rel=>exact⟨k+1,by omega,by go_num,by rw[Nz.o],x4.o.1,K3.o,by rw[x4.o.2,JQ.o,if_neg HK.o];exact P3.o,by rw[x4.o.2,JQ.o,if_neg HK.o];exact O3.o⟩
            case measure=>simp[intOf];omega
         · rw[if_neg k2] at fI iL
           have k2b:(kd==2)=false:=by simpa using k2
           have DM:=ai (fI.o rfl)
           clear fI iL N0 JQ k1 k2
           go_wp2_with (go_at_call 70;refine(su.o _ cj.o).mono ?_;rintro e w1 ⟨rfl,hb1⟩;have K1:=ai (KA.o.trans (Kp.aW hb1) (fun _ _ x=>x));have O1:=ai (OA.o.kp (Kp.aW (D:=fun _=>False) hb1) (fun x=>x));have O2:=ai (OB.o.kp (Kp.aW (D:=fun _=>False) hb1) (fun x=>x));have pR:=ai (B.below BE.o hb1 (by simp));have t0:w1.cell? (Ad wr.heap.size 0)=some (I pg):=B.cell pR.o 0 rfl;have t1:w1.cell? (Ad wr.heap.size 1)=some (I kd):=B.cell pR.o 1 rfl;have t2:w1.cell? (Ad wr.heap.size 2)=some (I lc):=B.cell pR.o 2 rfl;have hx1:wr.heap.size<w1.heap.size:=B.isLt pR.o;have hx2:¬wr.heap.size=w1.heap.size:=(by omega);clear hb1)
           have KX:=ai (K1.o.trans (Kp.alloc (fun b=>b=gf∨b=gs) w1 (.cells #[I f1,I f2,I f3,.bool z] 47)) (fun _ _ x=>x))
           go_ret
           exact⟨congrArg (fun b=>Ending.returned (.bool b)) DM.o.symm,iz.o.trans KX.o (fun _ _ x=>x),fun x=>by rw[DM.o] at x;cases x⟩
  · obtain rfl:k=es.length:=by omega
    clear hL
    go_wp2
    go_ret
    exact⟨congrArg (fun b=>Ending.returned (.bool b)) Oc.o.symm,iz.o.trans DJ.o (fun _ _ x=>x),fun _=>⟨Hm.o,Hl.o⟩⟩
end KW
namespace LW
open Go.RowKit
open W (ai)
theorem Dy (ao:Option Addr) (cap:Nat) (w:World) :
  Calls Tryz.prog 99 #[.slice ao 0 cap] w fun e w'=>e=.returned (.bool (LM.ez []))/\Below w.heap.size w w':=by
 go_enter Tryz.func99,Tryz.ntmps99
 go_wp2
 refine wp_loop_rounds 1 ?_
 rw[rounds_succ]
 go_wp2
 go_ret
 exact⟨rfl,Below.refl _ _⟩
theorem Bf (l:List AM.Ar) (b off cap:Nat) (w:World) (hl:AM.zP w b off l) (hn:l.length<=140737488351232) :
  Calls Tryz.prog 99 #[.slice (some (Ad b off)) l.length cap] w fun e w'=>e=.returned (.bool (LM.ez l))/\Below w.heap.size w w':=by
 go_enter Tryz.func99,Tryz.ntmps99
 go_wp2
 go_loopw [7] (fun i wr=>∃k:Nat,k<=l.length/\i=I k/\LM.jG l k=false/\Below w.heap.size w wr) (fun i _=>l.length-(intOf i).toNat)
 case atStart=>exact⟨0,by omega,rfl,rfl,Below.refl _ _⟩
 case round =>
  obtain⟨k,hk,rfl,hz,hb⟩:=hrel
  have HZ:=ai hz
  have iM:=ai hb
  clear hz
  by_cases hlt:k<l.length
  · obtain⟨c0,c1,c2,c3⟩:=(hl.below hb) k hlt
    obtain⟨a,ha⟩:=ex (AM.at_ l k)
    rw[<- ha] at c0 c1 c2 c3
    have HA:=ai ha
    clear ha hb
    by_cases Za:a.zero=true
    · have HX:Hid (LM.ez l=true):=LM.Og l k hlt (by rw[<- HA.o];exact Za)
      go_wp2
      go_ret
      exact⟨bN (by rw[HX.o]),iM.o.alloc iM.o.size _⟩
    · have Y9:a.zero=false:=by simpa using Za
      clear Za
      have HX:Hid (LM.jG l (k+1)=false):=by
       show _=_
       simp only[LM.jG]
       rw[HZ.o,<- HA.o,Y9]
       rfl
      go_wp2
      go_roundw
      case rel=>exact⟨k+1,by omega,by go_num,HX.o,iM.o.alloc iM.o.size _⟩
      case measure=>simp[intOf];omega
  · obtain rfl:k=l.length:=by omega
    go_wp2
    go_ret
    exact⟨bN HZ.o.symm,iM.o⟩
theorem Dz (l:List AM.Ar) (v:Value) (w:World) (h:AW.Has w v l) (hf:AW.eH l) :
  Calls Tryz.prog 99 #[v] w fun e w'=>e=.returned (.bool (LM.ez l))/\Below w.heap.size w w':=by
 obtain⟨ao,cap,rfl,h⟩:=h
 rcases h with rfl | ⟨b,off,rfl,hl⟩
 · exact Dy ao cap w
 · exact Bf l b off cap w hl hf.2
theorem uT (hs:List LM.Sh) (ao:Option Addr) (cap:Nat) (w:World) (h:LM.jg w ao hs) (hf:LM.oq hs) :
  Calls Tryz.prog 101 #[.slice ao hs.length cap] w fun e w'=>e=.returned (.bool (LM.iO hs))/\Below w.heap.size w w':=by
 have HF:=ai hf
 have HH:=ai h
 have hn:hs.length<=140737488351232:=hf.1
 clear h hf
 go_enter Tryz.func101,Tryz.ntmps101
 go_wp2
 go_loopw [7] (fun i wr=>∃k:Nat,k<=hs.length/\i=I k/\LM.fL hs k=true/\Below w.heap.size w wr) (fun i _=>hs.length-(intOf i).toNat)
 case atStart=>exact⟨0,by omega,rfl,rfl,Below.refl _ _⟩
 case round =>
  obtain⟨k,hk,rfl,hz,hb⟩:=hrel
  have HZ:=ai hz
  have iM:=ai hb
  clear hz
  by_cases hlt:k<hs.length
  · obtain⟨b,off,hao,hbl,bC⟩:=(HH.o.below hb) (by omega)
    subst hao
    obtain⟨c0,c1,c2,c3⟩:=bC k hlt
    have sF:=HF.o.2 k hlt
    have HE:Hid (LM.fL hs (k+1)=LM.bH (LM.aY hs k)):=by
     show _=_
     simp only[LM.fL]
     rw[HZ.o,Bool.true_and]
    have Bo:Hid (LM.bH (LM.aY hs k)=false->LM.iO hs=false):=fun e=>LM.Ei hs k hlt e
    obtain⟨s,L8⟩:=ex (LM.aY hs k)
    rw[<- L8] at c0 c1 c2 c3 sF HE Bo
    clear L8 bC hb
    have cj:=ai (iM.o.alloc iM.o.size (.cells #[I s.page,.string s.data,.slice s.ao s.bq.length s.cap] 50))
    have HC:Hid (∀W,Below wr.heap.size wr W->Calls Tryz.prog 146 #[.agg #[I s.page,.string s.data,.slice s.ao s.bq.length s.cap]] W fun e w'=>e=.returned (.bool (LM.bH s))/\Below W.heap.size W w'):=fun W hb=>oN s W (c3.below hb) sF
    clear c3 sF
    cases e:LM.bH s with
    | true =>
     rw[e] at HC HE
     clear e
     go_wp2_with (go_at_call 146;refine(HC.o _ ((Below.refl _ _).alloc (Nat.le_refl _) _)).mono ?_;rintro e w1 ⟨rfl,hb⟩;have cj:=ai (cj.o.trans (hb.mono cj.o.size));clear hb)
     go_roundw
     case rel=>exact⟨k+1,by omega,by go_num,HE.o,cj.o⟩
     case measure=>simp[intOf];omega
    | false =>
     have HX:=ai (Bo.o e)
     rw[e] at HC
     clear e Bo HE
     go_wp2_with (go_at_call 146;refine(HC.o _ ((Below.refl _ _).alloc (Nat.le_refl _) _)).mono ?_;rintro e w1 ⟨rfl,hb⟩;have cj:=ai (cj.o.trans (hb.mono cj.o.size));clear hb)
     go_ret
     exact⟨bN (by rw[HX.o]),cj.o⟩
  · obtain rfl:k=hs.length:=by omega
    go_wp2
    go_ret
    exact⟨bN HZ.o.symm,iM.o⟩
theorem Cb {a a':Option Addr} {n n' m m':Nat} (h1:a=a') (h2:n=n') (h3:m=m'):Value.slice a n m=.slice a' n' m':=by rw[h1,h2,h3]
theorem Da (l:List AM.Ar) (hs:List LM.Sh) (en:Int) (va:Value) (ao:Option Addr) (cap:Nat) (w:World) (ha:AW.Has w va l) (hc:AM.aO l=0) (h:LM.jg w ao hs) (hn:hs.length<=140737488351232) (hcap:hs.length<=cap) :
  Calls Tryz.prog 100 #[.agg #[va,.slice ao hs.length cap,I en]] w fun e w'=>e=.returned (.bool (LM.dQ l hs))/\Below w.heap.size w w':=by
 obtain⟨b,off,hbo⟩:∃b off,0<hs.length->ao=some (Ad b off)/\b<w.heap.size/\LM.Nn w b off hs:=by
  by_cases h0:0<hs.length
  · obtain⟨b,off,h1,h2,h3⟩:=h h0
    exact⟨b,off,fun _=>⟨h1,h2,h3⟩⟩
  · exact⟨0,0,fun g=>(h0 g).elim⟩
 have HBO:=ai hbo
 have HC:=ai hc
 have hlen:=AM.gm l hc
 obtain⟨aa,ca,rfl,hal⟩:=ha
 have RI:Hid (0<l.length->∃b off,aa=some (Ad b off)/\AM.zP w b off l):=fun g=>by
  rcases hal with rfl | ⟨b,off,e,hl⟩
  · exact(Nat.lt_irrefl 0 g).elim
  · exact⟨b,off,e,hl⟩
 clear hbo hc h hal
 have HB:=ai ((Below.refl w.heap.size w).alloc (Nat.le_refl _) (.cells #[.slice aa l.length ca,.slice ao hs.length cap,I en] 30))
 go_enter Tryz.func100,Tryz.ntmps100
 go_wp2
 go_loopw [12,3] (fun ix v wr=>∃(i c:Nat) (NW:Option Addr),i<=l.length/\ix=I i/\v=.slice NW (hs.length-c) (cap-c)/\c<=hs.length/\(c<hs.length->NW=some (Ad b (off+c*3)))/\(hs.take c).map (·.page)=LM.cY l i/\Below w.heap.size w wr) (fun ix _ _=>l.length-(intOf ix).toNat)
 case atStart=>exact⟨0,0,ao,by omega,rfl,rfl,by omega,fun g=>by rw[(HBO.o g).1,Nat.zero_mul,Nat.add_zero],rfl,HB.o⟩
 case round =>
  obtain⟨i,c,NW,hi,rfl,rfl,hcl,hao,htk,hb⟩:=hrel
  have YE:=ai hao
  have TE:=ai htk
  have iM:=ai hb
  clear hao htk
  by_cases hlt:i<l.length
  · obtain⟨ba,adZ,NQ,hl⟩:=RI.o (by omega)
    subst NQ
    obtain⟨c0,c1,c2,c3⟩:=(hl.below hb) i hlt
    have hbk:=AM.cM l i (AM.cH l HC.o i hlt)
    have uO:Hid (∀n,n<(AM.at_ l i).aB.toNat->∃t,LM.dD l=(LM.cY l i++LM.fV (AM.at_ l i) n)++((AM.at_ l i).page+(n:Int))::t):=fun n hn=>LM.Cz l i hlt n hn
    have iL:Hid (LM.cY l (i+1)=LM.cY l i++LM.fV (AM.at_ l i) (AM.at_ l i).aB.toNat):=rfl
    obtain⟨a,NQ⟩:=ex (AM.at_ l i)
    rw[<- NQ] at c0 c1 c2 c3 hbk uO iL
    clear NQ hb
    obtain⟨P,hP⟩:∃P:Nat,a.aB=(P:Int):=⟨a.aB.toNat,by omega⟩
    rw[hP] at c1 hbk uO iL
    rw[Int.toNat_natCast] at uO iL
    have cj:=ai (iM.o.alloc iM.o.size (.cells #[I a.page,I (P:Int),I a.bJ,.bool a.zero] 47))
    have BA:=ai (B.new wr #[I a.page,I (P:Int),I a.bJ,.bool a.zero] 47)
    go_wp2
    go_loopw [18,3] (fun nx v wi=>∃(n c:Nat) (NW:Option Addr),n<=P/\nx=I n/\v=.slice NW (hs.length-c) (cap-c)/\c<=hs.length/\(c<hs.length->NW=some (Ad b (off+c*3)))/\(hs.take c).map (·.page)=LM.cY l i++LM.fV a n/\Below w.heap.size w wi/\wi.heap[wr.heap.size]?=some (.cells #[I a.page,I (P:Int),I a.bJ,.bool a.zero] 47 (0,0))) (fun nx _ _=>P-(intOf nx).toNat)
    case atStart=>exact⟨0,c,NW,by omega,rfl,rfl,hcl,YE.o,by rw[TE.o];simp[LM.fV],cj.o,BA.o⟩
    case round =>
     obtain⟨n,c,NW,hn',rfl,rfl,hcl,hao,htk,hb,ZU⟩:=hrel
     have YE:=ai hao
     have TE:=ai htk
     have Hp:=ai hb
     have BAi:=ai ZU
     have x0:=B.cell ZU 0 rfl
     clear hao htk ZU
     by_cases QZ:n<P
     · obtain⟨t,ht⟩:=uO.o n QZ
       have HT:=ai ht
       clear ht
       by_cases hce:c=hs.length
       · have HX:Hid (LM.dQ l hs=false):=LM.Fp (by have h:=TE.o;rw[hce] at h;exact h) HT.o
         have hz:hs.length-c=0:=by omega
         rw[hz]
         clear hz hce
         go_wp2
         go_quiet (fail)
         go_wp2
         go_ret
         exact⟨bN HX.o.symm,below_drewN Hp.o _⟩
       · have Pn:c<hs.length:=by omega
         have hcz:(((hs.length-c:Nat):Int)==0)=false:=by simp;omega
         have ae2:0<hs.length-c:=by omega
         obtain⟨-,g2,g3⟩:=HBO.o (by omega)
         obtain⟨d0,d1,d2,d3⟩:=(LM.UQ (hb.mono (Nat.le_of_eq rfl)) g2 g3) c Pn
         have NQ:=YE.o Pn
         subst NQ
         have aeG:(1:Int)<=((hs.length-c:Nat):Int):=by omega
         by_cases DU:(LM.aY hs c).page=a.page+(n:Int)
         · have HX:Hid ((hs.take (c+1)).map (·.page)=LM.cY l i++LM.fV a (n+1)):=by
            show _=_
            rw[LM.p7 hs c Pn,TE.o,DU,LM.mj,List.append_assoc]
           rw[DU] at d0
           clear DU d1 d2 d3 hb hce
           by_cases hc1:cap-c=1
           · go_wp2
             go_quiet (fail)
             go_wp2
             go_roundw
             case rel=>exact⟨n+1,c+1,_,by omega,by go_num,Cb rfl (by omega) (by omega),by omega,fun g=>by omega,HX.o,below_drewN Hp.o _,BAi.o⟩
             case measure=>simp[intOf];omega
           · go_wp2
             go_quiet (fail)
             go_wp2
             go_roundw
             case rel=>exact⟨n+1,c+1,_,by omega,by go_num,Cb rfl (by omega) (by omega),by omega,fun g=>by simp[Nat.add_mul,Nat.add_assoc],HX.o,below_drewN Hp.o _,BAi.o⟩
             case measure=>simp[intOf];omega
         · have HX:Hid (LM.dQ l hs=false):=LM.Fq Pn TE.o HT.o DU
           have hpz:((LM.aY hs c).page==a.page+(n:Int))=false:=by simpa using DU
           clear DU d1 d2 d3 hb hce
           go_wp2
           go_quiet (fail)
           go_wp2
           go_ret
           exact⟨bN HX.o.symm,below_drewN Hp.o _⟩
     · obtain rfl:n=P:=by omega
       go_wp2
       go_roundw
       case rel=>exact⟨i+1,c,NW,by omega,by go_num,rfl,hcl,YE.o,by rw[iL.o];exact TE.o,Hp.o⟩
       case measure=>simp[intOf];omega
  · obtain rfl:i=l.length:=by omega
    have HX:=ai (LM.Jt hcl TE.o)
    go_wp2
    go_ret
    refine⟨bN ?_,iM.o⟩
    rw[HX.o]
    rw[Bool.eq_iff_iff]
    simp
    omega
theorem ft {k:IntKind} {a b:Int} (h:a=b):Ending.returned (.int k a)=.returned (.int k b):=by rw[h]
theorem wF (l:List AM.Ar) (va vs:Value) (en:Int) (w:World) (ha:AW.Has w va l) (hf:AW.eH l) (hc:AM.aO l=0) (he:M.fR en) (rU:∃ao n c,va=.slice ao n c) (hvs:∃ao n c,vs=.slice ao n c) :
  Calls Tryz.prog 102 #[.agg #[va,vs,I en]] w fun e w'=>e=.returned (.bool (LM.kH l en))/\Below w.heap.size w w':=by
 have Gb:Hid (AM.aK l (en.tdiv 16)=AM.aN l (en.tdiv 16)):=by show _=_;simp[AM.aK,hc]
 have qZ:=ai (LM.Fe l hc (en.tdiv 16))
 have HE:Hid (LM.kH l en=((AM.aN l (en.tdiv 16)).2&&(decide (2<=(AM.aN l (en.tdiv 16)).1.bJ)&&decide (en.tmod 8=0)))):=rfl
 have su:Hid (∀W,Below w.heap.size w W->Calls Tryz.prog 70 #[va,I (en.tdiv 16)] W fun e w'=>e=.returned (.tuple #[.agg (AW.cellsOf (AM.aN l (en.tdiv 16)).1),.bool (AM.aN l (en.tdiv 16)).2])/\Below W.heap.size W w'):=fun W hb=>by
  have h:=AW.oY l va (en.tdiv 16) W (ha.below hb) hf
  rw[Gb.o] at h
  exact h
 obtain⟨r,hr⟩:=ex (AM.aN l (en.tdiv 16))
 rw[<- hr] at qZ HE su
 clear hr Gb ha hf hc
 obtain⟨⟨pg,pn,pr,zr⟩,ok⟩:=r
 simp only[AW.cellsOf] at su qZ HE
 obtain⟨aa,na,ca,rfl⟩:=rU
 obtain⟨ao,no,co,rfl⟩:=hvs
 unfold M.fR at he
 have HB:=ai ((Below.refl w.heap.size w).alloc (Nat.le_refl _) (.cells #[.slice aa na ca,.slice ao no co,I en] 30))
 have BX:=ai (B.new w #[.slice aa na ca,.slice ao no co,I en] 30)
 rw[HE.o]
 cases ok with
 | false =>
  go_enter Tryz.func102,Tryz.ntmps102
  go_wp2_with (go_at_call 70;refine(su.o _ HB.o).mono ?_;rintro e w1 ⟨rfl,hb⟩;have HB:=ai (HB.o.trans (hb.mono HB.o.size));clear hb)
  go_ret
  exact⟨rfl,HB.o.alloc HB.o.size _⟩
 | true =>
  have E3:=LM.Ep (qZ.o rfl)
  have b0:bits BinOp.and IntKind.i64 0 2=0:=by decide
  have b1:bits BinOp.and IntKind.i64 1 2=0:=by decide
  have b2:bits BinOp.and IntKind.i64 2 2=2:=by decide
  have b3:bits BinOp.and IntKind.i64 3 2=2:=by decide
  clear qZ
  by_cases h8:en.tmod 8=0
  · rcases E3 with rfl | rfl | rfl | rfl
    all_goals
     go_enter Tryz.func102,Tryz.ntmps102
     go_wp2_with (go_at_call 70;refine(su.o _ HB.o).mono ?_;rintro e w1 ⟨rfl,hb⟩;have HB:=ai (HB.o.trans (hb.mono HB.o.size));have BX:=ai (B.below BX.o hb (B.isLt BX.o));have zq:=B.isLt BX.o;have x2:=B.cell BX.o 2 rfl;clear hb)
     go_ret
     exact⟨bN (by simp[h8]),HB.o.alloc HB.o.size _⟩
  · have h8':(en.tmod 8==0)=false:=by simpa using h8
    rcases E3 with rfl | rfl | rfl | rfl
    all_goals
     go_enter Tryz.func102,Tryz.ntmps102
     go_wp2_with (go_at_call 70;refine(su.o _ HB.o).mono ?_;rintro e w1 ⟨rfl,hb⟩;have HB:=ai (HB.o.trans (hb.mono HB.o.size));have BX:=ai (B.below BX.o hb (B.isLt BX.o));have zq:=B.isLt BX.o;have x2:=B.cell BX.o 2 rfl;clear hb)
     go_ret
     exact⟨bN (by simp[h8]),HB.o.alloc HB.o.size _⟩
theorem isSlice {w:World} {v:Value} {l:List AM.Ar} (h:AW.Has w v l):∃ao n c,v=.slice ao n c:=by
 obtain⟨ao,cap,h,_⟩:=h
 exact⟨ao,_,cap,h⟩
theorem gv (l:List AM.Ar) (hs:List LM.Sh) (en:Int) (va:Value) (ao:Option Addr) (cap:Nat) (w:World) (ha:AW.Has w va l) (hf:AW.eH l) (h:LM.jg w ao hs) (DW:LM.oq hs) (hcap:hs.length<=cap) (he:M.fR en) :
  Calls Tryz.prog 53 #[.agg #[va,.slice ao hs.length cap,I en]] w fun e w'=>e=.returned (I (LM.lR l hs en))/\Below w.heap.size w w':=by
 have sI:Hid (∀W,Below w.heap.size w W->Calls Tryz.prog 98 #[va] W fun e w'=>e=.returned (I (AM.aO l))/\Below W.heap.size W w'):=fun W hb=>AW.gv l va W (ha.below hb) hf
 have HZ:Hid (∀W,Below w.heap.size w W->Calls Tryz.prog 99 #[va] W fun e w'=>e=.returned (.bool (LM.ez l))/\Below W.heap.size W w'):=fun W hb=>Dz l va W (ha.below hb) hf
 have Kf:Hid (AM.aO l=0->∀W,Below w.heap.size w W->Calls Tryz.prog 100 #[.agg #[va,.slice ao hs.length cap,I en]] W fun e w'=>e=.returned (.bool (LM.dQ l hs))/\Below W.heap.size W w'):=fun hc W hb=>Da l hs en va ao cap W (ha.below hb) hc (h.below hb) DW.1 hcap
 have Hj:Hid (∀W,Below w.heap.size w W->Calls Tryz.prog 101 #[.slice ao hs.length cap] W fun e w'=>e=.returned (.bool (LM.iO hs))/\Below W.heap.size W w'):=fun W hb=>uT hs ao cap W (h.below hb) DW
 have fX:Hid (AM.aO l=0->∀W,Below w.heap.size w W->Calls Tryz.prog 102 #[.agg #[va,.slice ao hs.length cap,I en]] W fun e w'=>e=.returned (.bool (LM.kH l en))/\Below W.heap.size W w'):=fun hc W hb=>wF l va _ en W (ha.below hb) hf hc he (isSlice ha) ⟨_,_,_,rfl⟩
 have HR:Hid (LM.lR l hs en=if AM.aO l=0 then (if !LM.ez l&&(LM.dQ l hs&&(LM.iO hs&&LM.kH l en)) then 0 else 1) else AM.aO l):=rfl
 obtain⟨aa,na,ca,rfl⟩:=isSlice ha
 clear ha hf h DW hcap he
 obtain⟨N,hN⟩:=ex hs.length
 rw[<- hN] at Kf Hj fX
 rw[<- hN]
 obtain⟨z,hz⟩:=ex (LM.ez l)
 rw[<- hz] at HZ HR
 obtain⟨q,hq⟩:=ex (LM.dQ l hs)
 rw[<- hq] at Kf HR
 obtain⟨s,hs'⟩:=ex (LM.iO hs)
 rw[<- hs'] at Hj HR
 obtain⟨r,hr⟩:=ex (LM.kH l en)
 rw[<- hr] at fX HR
 obtain⟨C,hC⟩:=ex (AM.aO l)
 rw[<- hC] at sI Kf fX HR
 rw[HR.o]
 clear hN hz hq hs' hr hC HR
 have HB:=ai ((Below.refl w.heap.size w).alloc (Nat.le_refl _) (.cells #[.slice aa na ca,.slice ao N cap,I en] 30))
 have BX:=ai (B.new w #[.slice aa na ca,.slice ao N cap,I en] 30)
 by_cases hc:C=0
 · subst hc
   have abe:=ai (Kf.o rfl)
   have abc:=ai (fX.o rfl)
   clear Kf fX
   rw[if_pos rfl]
   cases z <;> cases q <;> cases s <;> cases r
   all_goals
    go_enter Tryz.func53,Tryz.ntmps53
    go_wp2_with (first
     | (go_at_call 98;refine(sI.o _ HB.o).mono ?_;rintro e w1 ⟨rfl,hb⟩;have HB:=ai (HB.o.trans (hb.mono HB.o.size));have BX:=ai (B.below BX.o hb (B.isLt BX.o));have x0:=B.cell BX.o 0 rfl;have x1:=B.cell BX.o 1 rfl;have x2:=B.cell BX.o 2 rfl;clear hb)
     | (go_at_call 99;refine(HZ.o _ HB.o).mono ?_;rintro e w1 ⟨rfl,hb⟩;have HB:=ai (HB.o.trans (hb.mono HB.o.size));have BX:=ai (B.below BX.o hb (B.isLt BX.o));have x0:=B.cell BX.o 0 rfl;have x1:=B.cell BX.o 1 rfl;have x2:=B.cell BX.o 2 rfl;clear hb)
     | (go_at_call 100;refine(abe.o _ HB.o).mono ?_;rintro e w1 ⟨rfl,hb⟩;have HB:=ai (HB.o.trans (hb.mono HB.o.size));have BX:=ai (B.below BX.o hb (B.isLt BX.o));have x0:=B.cell BX.o 0 rfl;have x1:=B.cell BX.o 1 rfl;have x2:=B.cell BX.o 2 rfl;clear hb)
     | (go_at_call 101;refine(Hj.o _ HB.o).mono ?_;rintro e w1 ⟨rfl,hb⟩;have HB:=ai (HB.o.trans (hb.mono HB.o.size));have BX:=ai (B.below BX.o hb (B.isLt BX.o));have x0:=B.cell BX.o 0 rfl;have x1:=B.cell BX.o 1 rfl;have x2:=B.cell BX.o 2 rfl;clear hb)
     | (go_at_call 102;refine(abc.o _ HB.o).mono ?_;rintro e w1 ⟨rfl,hb⟩;have HB:=ai (HB.o.trans (hb.mono HB.o.size));clear hb))
    go_ret
    exact⟨rfl,HB.o⟩
 · have hc':(C==0)=false:=by simpa using hc
   rw[if_neg hc]
   go_enter Tryz.func53,Tryz.ntmps53
   go_wp2_with (go_at_call 98;refine(sI.o _ HB.o).mono ?_;rintro e w1 ⟨rfl,hb⟩;have HB:=ai (HB.o.trans (hb.mono HB.o.size));clear hb)
   go_ret
   exact⟨rfl,HB.o⟩
end LW
namespace LM
open Go.RowKit
structure Ob where
 i:M.Im
 a:M.At
 base:Int
def ob0:Ob:=⟨⟨⟨#[]⟩,[],[],[],[],0⟩,⟨none,0,none,0,none,0,none,0⟩,0⟩
def dK (l:List Ob) (k:Nat):Ob:=l.getD k ob0
def kI (o:Ob):Array Value:=#[.string o.i.name,.slice o.a.an o.i.needs.length o.a.cn,.slice o.a.ag o.i.cU.length o.a.cg,.slice o.a.ay o.i.syms.length o.a.cy,.slice o.a.ar o.i.fu.length o.a.cr,I o.i.entry,I o.base]
def Qp (w:World) (b off:Nat) (l:List Ob):Prop:=∀k,k<l.length ->
 (w.cell? (Ad b (off+k*7))=some (.string (dK l k).i.name)/\w.cell? (Ad b (off+k*7+1))=some (.slice (dK l k).a.an (dK l k).i.needs.length (dK l k).a.cn) /\
  w.cell? (Ad b (off+k*7+2))=some (.slice (dK l k).a.ag (dK l k).i.cU.length (dK l k).a.cg)/\w.cell? (Ad b (off+k*7+3))=some (.slice (dK l k).a.ay (dK l k).i.syms.length (dK l k).a.cy) /\
  w.cell? (Ad b (off+k*7+4))=some (.slice (dK l k).a.ar (dK l k).i.fu.length (dK l k).a.cr)/\w.cell? (Ad b (off+k*7+5))=some (I (dK l k).i.entry)/\w.cell? (Ad b (off+k*7+6))=some (I (dK l k).base))/\M.mK w (dK l k).a (dK l k).i
theorem YX {w w':World} {b off:Nat} {l:List Ob} (hb:Below w.heap.size w w') (hlt:b<w.heap.size) (h:Qp w b off l):Qp w' b off l:=fun k hk=>by
 obtain⟨⟨c0,c1,c2,c3,c4,c5,c6⟩,hi⟩:=h k hk
 exact⟨⟨(M.aX hb hlt).trans c0,(M.aX hb hlt).trans c1,(M.aX hb hlt).trans c2,(M.aX hb hlt).trans c3,(M.aX hb hlt).trans c4,(M.aX hb hlt).trans c5,(M.aX hb hlt).trans c6⟩,hi.below hb⟩
def Nr (w:World) (ao:Option Addr) (l:List Ob):Prop:=M.eB Qp w ao l
theorem Nr.below {w w':World} {ao:Option Addr} {l:List Ob} (h:Nr w ao l) (hb:Below w.heap.size w w'):Nr w' ao l:=M.eB.below (lie:=Qp) (fun hb hlt h=>YX hb hlt h) h hb
def mo (i:M.Im):M.Sg:=M.dn i.cU (i.cU.length-1)
def yz (o:Ob):Int:=o.base+(mo o.i).page+(mo o.i).aB
def uN (o:Ob) (Bz:Int):Int:=o.base*16+Bz
def rB (s:M.Sg):Int:=if s.wr then (if s.ex then 3 else 1) else (if s.ex then 2 else 0)
theorem nH {i:M.Im} (hc:M.jB i=0) (k:Nat) (hk:k<i.cU.length):0<=(M.dn i.cU k).page/\1<=(M.dn i.cU k).aB/\(M.dn i.cU k).page+(M.dn i.cU k).aB<=255/\((M.dn i.cU k).data.size:Int)<=(M.dn i.cU k).aB*16:=by
 unfold M.jB at hc
 split at hc
 · simp at hc
 · split at hc
   · simp at hc
   · split at hc
     · simp at hc
     · rename_i h
       have h':M.Ah i=true:=by simpa using h
       unfold M.Ah at h'
       have:=M.xP M.fB M.NJ i.cU k hk h'
       unfold M.fB at this
       exact of_decide_eq_true this
theorem counts_of {i:M.Im} (hc:M.jB i=0):1<=i.cU.length/\i.cU.length<=6/\i.needs.length<=4/\i.syms.length<=12/\i.fu.length<=16:=by
 unfold M.jB at hc
 split at hc
 · simp at hc
 · split at hc
   · simp at hc
   · rename_i h
     have h':M.pN i=true:=by simpa using h
     unfold M.pN at h'
     exact of_decide_eq_true h'
theorem ug {i:M.Im} (hc:M.jB i=0):0<=(mo i).page/\1<=(mo i).aB/\(mo i).page+(mo i).aB<=255:=by
 have h1:=counts_of hc
 have h2:=nH hc (i.cU.length-1) (by omega)
 exact⟨h2.1,h2.2.1,h2.2.2.1⟩
end LM
namespace LW
open Go.RowKit
open W (ai)
theorem iQ (o:LM.Ob) (w:World) (h:M.mK w o.a o.i) (hc:M.jB o.i=0) (h0:0<=o.base) (h1:o.base<=100000) :
  Calls Tryz.prog 134 #[.agg (LM.kI o)] w fun e w'=>e=.returned (I (LM.yz o))/\Below w.heap.size w w':=by
 have hl:=LM.ug hc
 have hn:=LM.counts_of hc
 have HS:=h.cU
 obtain⟨⟨nm,ns,gs,ys,rs,en⟩,⟨an,cn,ag,cg,ay,cy,ar,cr⟩,ba⟩:=o
 simp only[LM.kI]
 simp only at HS hn h0 h1
 obtain⟨b,off,hag,hbl,bC⟩:=HS (by omega)
 subst hag
 have E:Hid (LM.yz ⟨⟨nm,ns,gs,ys,rs,en⟩,⟨an,cn,some (Ad b off),cg,ay,cy,ar,cr⟩,ba⟩=ba+(M.dn gs (gs.length-1)).page+(M.dn gs (gs.length-1)).aB):=rfl
 have hl':0<=(M.dn gs (gs.length-1)).page/\1<=(M.dn gs (gs.length-1)).aB/\(M.dn gs (gs.length-1)).page+(M.dn gs (gs.length-1)).aB<=255:=hl
 obtain⟨c0,c1,c2,c3,c4⟩:=bC (gs.length-1) (by omega)
 rw[E.o]
 obtain⟨s,hs⟩:=ex (M.dn gs (gs.length-1))
 rw[<- hs] at c0 c1 c2 c3 c4 hl'
 rw[<- hs]
 clear hs hl bC HS h E
 obtain⟨G,hG⟩:=ex gs.length
 rw[<- hG] at c0 c1 c2 c3 c4 hn
 rw[<- hG]
 clear hG hc
 have hG1:(1:Int)<=(G:Int):=by omega
 have hG2:0<G:=by omega
 have HB:=ai ((Below.refl w.heap.size w).alloc (Nat.le_refl _) (.cells #[.string nm,.slice an ns.length cn,.slice (some (Ad b off)) G cg,.slice ay ys.length cy,.slice ar rs.length cr,I en,I ba] 195))
 go_enter Tryz.func134,Tryz.ntmps134
 go_wp2
 go_ret
 exact⟨rfl,HB.o.alloc HB.o.size _⟩
theorem DB (o:LM.Ob) (Bz:Int) (w:World) (h0:0<=o.base) (h1:o.base<=100000) (h2:0<=Bz) (h3:Bz<=100000) :
  Calls Tryz.prog 137 #[.agg (LM.kI o),I Bz] w fun e w'=>e=.returned (I (LM.uN o Bz))/\Below w.heap.size w w':=by
 obtain⟨⟨nm,ns,gs,ys,rs,en⟩,⟨an,cn,ag,cg,ay,cy,ar,cr⟩,ba⟩:=o
 simp only[LM.kI,LM.uN]
 simp only at h0 h1
 go_enter Tryz.func137,Tryz.ntmps137
 go_wp2
 go_ret
 exact⟨rfl,(Below.refl _ _).alloc (Nat.le_refl _) _⟩
theorem Ld (s:M.Sg) (w:World) :
  Calls Tryz.prog 164 #[.agg #[I s.page,I s.aB,.string s.data,.bool s.wr,.bool s.ex]] w fun e w'=>e=.returned (I (LM.rB s))/\Below w.heap.size w w':=by
 obtain⟨pg,pn,dt,wr,ex⟩:=s
 have b1:bits BinOp.or IntKind.i64 0 1=1:=by decide
 have b2:bits BinOp.or IntKind.i64 0 2=2:=by decide
 have b3:bits BinOp.or IntKind.i64 1 2=3:=by decide
 cases wr <;> cases ex
 all_goals
  go_enter Tryz.func164,Tryz.ntmps164
  go_wp2
  go_ret
  exact⟨ft (by first | rfl | simp[LM.rB,b1,b2,b3]),(Below.refl _ _).alloc (Nat.le_refl _) _⟩
end LW
namespace W
open Go.RowKit
end W
end Go.Proofs.YtpgifpeohlllfaaGreat
