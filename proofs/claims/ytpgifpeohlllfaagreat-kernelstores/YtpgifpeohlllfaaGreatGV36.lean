import Derived.Test.YtpgifpeohlllfaaGreatGV28
set_option maxHeartbeats 20000000
set_option linter.unusedVariables false
set_option maxRecDepth 100000
set_option linter.unusedSimpArgs false
namespace Go.Proofs.YtpgifpeohlllfaaGreat
namespace Go.Proofs.YtpgifpeohlllfaaGreat
open Go.RowKit
theorem Qq (l:List bc) (v:Value) (a size way:Int) (w:World) (h:eU w v l) (hc:br l=0) (ha:-9223372036854775808<=a/\a<=9223372036854775807) (hz:size<=9223372036854775807) :
  Calls Tryz.prog 26 #[v,I a,I size,I way] w fun e w'=>e=.returned (.agg (yz (dQ l a size way)))/\Below w.heap.size w w':=by
 have Gi:=ai (fun p V (hV:eU V v l)=>tC l v p V hV hc);have HH:=ai h;have eO:=ai ((aK w.heap.size w).alloc (aM _) (.cells #[I 0,I 0] 36));have X0:=ai (bG w #[I 0,I 0] 36);have HF:Hid (dQ l a size way=if way=2/\¬a%8=0 then (3,a) else gu l a way size.toNat):=rfl;obtain⟨⟨R1,R2⟩,hR⟩:∃R,R=dQ l a size way:=⟨_,rfl⟩;rw[<- hR] at HF ⊢;clear hR h hc;unfold yz;simp only;obtain⟨ao,vn,cap,rfl⟩:∃ao n cap,v=.slice ao n cap:=by
  obtain⟨ao,cap,h,_⟩:=HH.o
  grind
 have htm:a.tmod 8=0↔a%8=0:=by grind
 by_cases hal:way=2/\¬a%8=0
 · have HR:Hid ((R1,R2)=(3,a)):=by grind
   obtain⟨rfl,hal⟩:=hal;have h8:(a.tmod 8==0)=false:=by grind
   clear htm hal;go_enter Tryz.func26,Tryz.ntmps26;go_wp2;exact bR (v:=.agg #[I 3,I a]) (by simp[results,Tryz.results26,go_sem]) rfl ⟨by grind [Hid.o],(aK w.heap.size w).alloc (aM _) _⟩
 · have HR:Hid ((R1,R2)=gu l a way size.toNat):=by grind
   clear HF;by_cases c:way=2
   · subst c;have h8:a.tmod 8=0:=htm.2 (pK.1 (fun g=>hal ⟨rfl,g⟩));clear htm hal;go_enter Tryz.func26,Tryz.ntmps26;go_wp2_with fail
     go_loopw [9] (fun iv wr=>∃k:Nat,k<=size.toNat/\iv=I (k:Int)/\gu l a 2 k=(0,0)/\wr.heap[w.heap.size]?=some (.cells #[I 0,I 0] 36 (0,0))/\Below w.heap.size w wr) (fun iv _=>size.toNat-(intOf iv).toNat)
     case atStart=>exact⟨0,by omega,rfl,rfl,X0.o,eO.o⟩
     case round =>
      obtain⟨k,hk,rfl,rU,hx,hb⟩:=hrel;have HN:=ai rU;have HX:=ai hx;have HB:=ai hb;clear rU hx hb X0 eO;by_cases hlt:(k:Int)<size
      · have hsm:k=0∨(16<=a/\a+k<=4096):=by
         cases k with
         | zero=>omega
         | succ j =>
          have:=oK HN.o;omega
        have HST:=ai (pE HN.o);have uu:Hid (∀f:Int×Int,gu l a 2 (k+1)=f->¬f.1=0->(R1,R2)=f):=fun f h1 h2=>HR.o.trans (qW h1 h2 _ (by omega))
        by_cases hout:a<0∨4096<a
        · obtain rfl:k=0:=by omega
          have qj:Hid ((R1,R2)=(1,a)):=uu.o _ (HST.o.trans (by
           rw[show a+((0:Nat):Int)=a by omega];refine oa ?_;rcases hout with g | g
           · omega
           · right;cases e:(aV l (a/16)).2 with
             | false=>rfl
             | true =>
              have:=ki (j5 e) e;omega)) (by simp)
          obtain⟨x0,x1⟩:=kI HX.o;have f0:∀k,wr.frozen? (Ad w.heap.size k)=false:=fun k=>aJ HX.o k
          clear uu HST hsm;by_cases hneg:a<0
          · clear hout;go_wp2;exact bR (v:=.agg #[I 1,I a]) (by simp[results,Tryz.results26,go_sem,x0,x1]) rfl ⟨by rw[(fW qj.o).1,(fW qj.o).2],fD HB.o (aM _) _ _⟩
          · have hbig:4096<a:=by omega
            clear hout;go_wp2;exact bR (v:=.agg #[I 1,I a]) (by simp[results,Tryz.results26,go_sem,x0,x1]) rfl ⟨by rw[(fW qj.o).1,(fW qj.o).2],fD HB.o (aM _) _ _⟩
        · have h1:¬a<0:=by omega
          have h2:¬4096<a:=by omega
          have hnn:0<=a+k:=by omega
          have hub:a+k<=4096:=by omega
          clear hout hsm;have xJ:=ai (fun V hV=>Gi.o ((a+k)/16) V hV);obtain⟨⟨⟨pp,pn,pt,pz⟩,ok⟩,hF⟩:∃F,F=aV l ((a+k)/16):=⟨_,rfl⟩;have E7:=ai hF;rw[<- hF] at xJ;have DW:Hid (∀V,eU V (.slice ao vn cap) l->Calls Tryz.prog 31 #[.slice ao vn cap,I ((a+k)/16)] V fun e w'=>e=.returned (.tuple #[.agg #[I pp,I pn,I pt,.bool pz],.bool ok])/\Below V.heap.size V w'):=xJ;clear hF xJ;have Ky:Hid ((ok=false->iw l (a+k) 2=(1,a+k))/\(ok=true->0<=pt/\pt<=3/\(iz pt 2=true->iw l (a+k) 2=(2,a+k))/\(iz pt 2=false->iw l (a+k) 2=(0,0)))):=by
           refine⟨fun h2=>?_,fun h2=>?_⟩
           · grind [oa,Hid.o]
           · have e1:=E7.o;have h3:(aV l ((a+k)/16)).2=true:=by grind
             have h4:=ki (j5 h3) h3
             grind [tA,zh]
          clear E7;cases ok with
          | false =>
           have qj:=ai (uu.o _ (HST.o.trans (Ky.o.1 rfl)) (by simp));clear Ky uu HST;go_wp2_with (go_at_call 31;refine(DW.o _ (HH.o.below HB.o)).mono ?_;rintro e w1 ⟨rfl,hb1⟩;have cT:=ai (bZ HB.o hb1);have X1:=ai (aQ HX.o hb1 (aO HX.o));clear hb1;have G1:=aO X1.o;obtain⟨x0,x1⟩:=kI X1.o;have f0:∀k,w1.frozen? (Ad w.heap.size k)=false:=fun k=>aJ X1.o k)
           exact bR (v:=.agg #[I 1,I (a+k)]) (by simp[results,Tryz.results26,go_sem,x0,x1,G1]) rfl ⟨by rw[(fW qj.o).1,(fW qj.o).2],(fD cT.o (aM _) _ _).alloc (by simp;omega) _⟩
          | true =>
           have hpt:=Ky.o.2 rfl;have zF:=ai hpt.2.2;clear Ky;cases Av:iz pt 2 with
           | true =>
            have hp2:pt<2:=by
             have:=jH Av;omega
            have qj:=ai (uu.o _ (HST.o.trans (zF.o.1 Av)) (by simp));clear uu HST zF Av hpt;go_wp2_with (go_at_call 31;refine(DW.o _ (HH.o.below HB.o)).mono ?_;rintro e w1 ⟨rfl,hb1⟩;have cT:=ai (bZ HB.o hb1);have X1:=ai (aQ HX.o hb1 (aO HX.o));clear hb1;have G1:=aO X1.o;obtain⟨x0,x1⟩:=kI X1.o;have f0:∀k,w1.frozen? (Ad w.heap.size k)=false:=fun k=>aJ X1.o k)
            exact bR (v:=.agg #[I 2,I (a+k)]) (by simp[results,Tryz.results26,go_sem,x0,x1,G1]) rfl ⟨by rw[(fW qj.o).1,(fW qj.o).2],(fD cT.o (aM _) _ _).alloc (by simp;omega) _⟩
           | false =>
            have hp2:¬pt<2:=by
             have:=NU Av;omega
            have rR:=ai (HST.o.trans (zF.o.2 Av));clear uu HST zF Av hpt;go_wp2_with (go_at_call 31;refine(DW.o _ (HH.o.below HB.o)).mono ?_;rintro e w1 ⟨rfl,hb1⟩;have cT:=ai (bZ HB.o hb1);have X1:=ai (aQ HX.o hb1 (aO HX.o));clear hb1;have G1:=aO X1.o;have hne:¬w.heap.size=w1.heap.size:=(by omega);have f0:∀k,w1.frozen? (Ad w.heap.size k)=false:=fun k=>aJ X1.o k)
            grind [bE,intOf,Hid.o,Below.alloc]
      · have hke:k=size.toNat:=by omega
        have qj:Hid ((R1,R2)=(0,0)):=by grind [Hid.o]
        obtain⟨x0,x1⟩:=kI HX.o;have f0:∀k,wr.frozen? (Ad w.heap.size k)=false:=fun k=>aJ HX.o k
        clear hke;go_wp2;exact bR (v:=.agg #[I 0,I 0]) (by simp[results,Tryz.results26,go_sem,x0,x1]) rfl ⟨by rw[(fW qj.o).1,(fW qj.o).2],fD HB.o (aM _) _ _⟩
   · by_cases c1:way=1
     · subst c1;clear htm hal c;go_enter Tryz.func26,Tryz.ntmps26;go_wp2_with fail
       go_loopw [9] (fun iv wr=>∃k:Nat,k<=size.toNat/\iv=I (k:Int)/\gu l a 1 k=(0,0)/\wr.heap[w.heap.size]?=some (.cells #[I 0,I 0] 36 (0,0))/\Below w.heap.size w wr) (fun iv _=>size.toNat-(intOf iv).toNat)
       case atStart=>exact⟨0,by omega,rfl,rfl,X0.o,eO.o⟩
       case round =>
        obtain⟨k,hk,rfl,rU,hx,hb⟩:=hrel;have HN:=ai rU;have HX:=ai hx;have HB:=ai hb;clear rU hx hb X0 eO;by_cases hlt:(k:Int)<size
        · have hsm:k=0∨(16<=a/\a+k<=4096):=by
           cases k with
           | zero=>omega
           | succ j =>
            have:=oK HN.o;omega
          have HST:=ai (pE HN.o);have uu:Hid (∀f:Int×Int,gu l a 1 (k+1)=f->¬f.1=0->(R1,R2)=f):=fun f h1 h2=>HR.o.trans (qW h1 h2 _ (by omega))
          by_cases hout:a<0∨4096<a
          · obtain rfl:k=0:=by omega
            have qj:Hid ((R1,R2)=(1,a)):=uu.o _ (HST.o.trans (by
             rw[show a+((0:Nat):Int)=a by omega];refine oa ?_;rcases hout with g | g
             · omega
             · right;cases e:(aV l (a/16)).2 with
               | false=>rfl
               | true =>
                have:=ki (j5 e) e;omega)) (by simp)
            obtain⟨x0,x1⟩:=kI HX.o;have f0:∀k,wr.frozen? (Ad w.heap.size k)=false:=fun k=>aJ HX.o k
            clear uu HST hsm;by_cases hneg:a<0
            · clear hout;go_wp2;exact bR (v:=.agg #[I 1,I a]) (by simp[results,Tryz.results26,go_sem,x0,x1]) rfl ⟨by rw[(fW qj.o).1,(fW qj.o).2],fD HB.o (aM _) _ _⟩
            · have hbig:4096<a:=by omega
              clear hout;go_wp2;exact bR (v:=.agg #[I 1,I a]) (by simp[results,Tryz.results26,go_sem,x0,x1]) rfl ⟨by rw[(fW qj.o).1,(fW qj.o).2],fD HB.o (aM _) _ _⟩
          · have h1:¬a<0:=by omega
            have h2:¬4096<a:=by omega
            have hnn:0<=a+k:=by omega
            have hub:a+k<=4096:=by omega
            clear hout hsm;have xJ:=ai (fun V hV=>Gi.o ((a+k)/16) V hV);obtain⟨⟨⟨pp,pn,pt,pz⟩,ok⟩,hF⟩:∃F,F=aV l ((a+k)/16):=⟨_,rfl⟩;have E7:=ai hF;rw[<- hF] at xJ;have DW:Hid (∀V,eU V (.slice ao vn cap) l->Calls Tryz.prog 31 #[.slice ao vn cap,I ((a+k)/16)] V fun e w'=>e=.returned (.tuple #[.agg #[I pp,I pn,I pt,.bool pz],.bool ok])/\Below V.heap.size V w'):=xJ;clear hF xJ;have Ky:Hid ((ok=false->iw l (a+k) 1=(1,a+k))/\(ok=true->0<=pt/\pt<=3/\(iz pt 1=true->iw l (a+k) 1=(2,a+k))/\(iz pt 1=false->iw l (a+k) 1=(0,0)))):=by
             refine⟨fun h2=>?_,fun h2=>?_⟩
             · grind [oa,Hid.o]
             · have e1:=E7.o;have h3:(aV l ((a+k)/16)).2=true:=by grind
               have h4:=ki (j5 h3) h3
               grind [tA,zh]
            clear E7;cases ok with
            | false =>
             have qj:=ai (uu.o _ (HST.o.trans (Ky.o.1 rfl)) (by simp));clear Ky uu HST;go_wp2_with (go_at_call 31;refine(DW.o _ (HH.o.below HB.o)).mono ?_;rintro e w1 ⟨rfl,hb1⟩;have cT:=ai (bZ HB.o hb1);have X1:=ai (aQ HX.o hb1 (aO HX.o));clear hb1;have G1:=aO X1.o;obtain⟨x0,x1⟩:=kI X1.o;have f0:∀k,w1.frozen? (Ad w.heap.size k)=false:=fun k=>aJ X1.o k)
             exact bR (v:=.agg #[I 1,I (a+k)]) (by simp[results,Tryz.results26,go_sem,x0,x1,G1]) rfl ⟨by rw[(fW qj.o).1,(fW qj.o).2],(fD cT.o (aM _) _ _).alloc (by simp;omega) _⟩
            | true =>
             have hpt:=Ky.o.2 rfl;have zF:=ai hpt.2.2;clear Ky;cases Av:iz pt 1 with
             | true =>
              have hp2:pt.tmod 2=0:=by
               have:=jH Av
               grind
              have qj:=ai (uu.o _ (HST.o.trans (zF.o.1 Av)) (by simp));clear uu HST zF Av hpt;go_wp2_with (go_at_call 31;refine(DW.o _ (HH.o.below HB.o)).mono ?_;rintro e w1 ⟨rfl,hb1⟩;have cT:=ai (bZ HB.o hb1);have X1:=ai (aQ HX.o hb1 (aO HX.o));clear hb1;have G1:=aO X1.o;obtain⟨x0,x1⟩:=kI X1.o;have f0:∀k,w1.frozen? (Ad w.heap.size k)=false:=fun k=>aJ X1.o k)
              exact bR (v:=.agg #[I 2,I (a+k)]) (by simp[results,Tryz.results26,go_sem,x0,x1,G1]) rfl ⟨by rw[(fW qj.o).1,(fW qj.o).2],(fD cT.o (aM _) _ _).alloc (by simp;omega) _⟩
             | false =>
              have hp2:pt.tmod 2=1:=by
               have:=NU Av
               grind
              have rR:=ai (HST.o.trans (zF.o.2 Av));clear uu HST zF Av hpt;go_wp2_with (go_at_call 31;refine(DW.o _ (HH.o.below HB.o)).mono ?_;rintro e w1 ⟨rfl,hb1⟩;have cT:=ai (bZ HB.o hb1);have X1:=ai (aQ HX.o hb1 (aO HX.o));clear hb1;have G1:=aO X1.o;have hne:¬w.heap.size=w1.heap.size:=(by omega);have f0:∀k,w1.frozen? (Ad w.heap.size k)=false:=fun k=>aJ X1.o k)
              grind [bE,intOf,Hid.o,Below.alloc]
        · have hke:k=size.toNat:=by omega
          have qj:Hid ((R1,R2)=(0,0)):=by grind [Hid.o]
          obtain⟨x0,x1⟩:=kI HX.o;have f0:∀k,wr.frozen? (Ad w.heap.size k)=false:=fun k=>aJ HX.o k
          clear hke;go_wp2;exact bR (v:=.agg #[I 0,I 0]) (by simp[results,Tryz.results26,go_sem,x0,x1]) rfl ⟨by rw[(fW qj.o).1,(fW qj.o).2],fD HB.o (aM _) _ _⟩
     · have hw2:(way==2)=false:=by grind
       have hw1:(way==1)=false:=by grind
       clear htm hal;go_enter Tryz.func26,Tryz.ntmps26;go_wp2_with fail
       go_loopw [9] (fun iv wr=>∃k:Nat,k<=size.toNat/\iv=I (k:Int)/\gu l a way k=(0,0)/\wr.heap[w.heap.size]?=some (.cells #[I 0,I 0] 36 (0,0))/\Below w.heap.size w wr) (fun iv _=>size.toNat-(intOf iv).toNat)
       case atStart=>exact⟨0,by omega,rfl,rfl,X0.o,eO.o⟩
       case round =>
        obtain⟨k,hk,rfl,rU,hx,hb⟩:=hrel;have HN:=ai rU;have HX:=ai hx;have HB:=ai hb;clear rU hx hb X0 eO;by_cases hlt:(k:Int)<size
        · have hsm:k=0∨(16<=a/\a+k<=4096):=by
           cases k with
           | zero=>omega
           | succ j =>
            have:=oK HN.o;omega
          have HST:=ai (pE HN.o);have uu:Hid (∀f:Int×Int,gu l a way (k+1)=f->¬f.1=0->(R1,R2)=f):=fun f h1 h2=>HR.o.trans (qW h1 h2 _ (by omega))
          by_cases hout:a<0∨4096<a
          · obtain rfl:k=0:=by omega
            have qj:Hid ((R1,R2)=(1,a)):=uu.o _ (HST.o.trans (by
             rw[show a+((0:Nat):Int)=a by omega];refine oa ?_;rcases hout with g | g
             · omega
             · right;cases e:(aV l (a/16)).2 with
               | false=>rfl
               | true =>
                have:=ki (j5 e) e;omega)) (by simp)
            obtain⟨x0,x1⟩:=kI HX.o;have f0:∀k,wr.frozen? (Ad w.heap.size k)=false:=fun k=>aJ HX.o k
            clear uu HST hsm;by_cases hneg:a<0
            · clear hout;go_wp2;exact bR (v:=.agg #[I 1,I a]) (by simp[results,Tryz.results26,go_sem,x0,x1]) rfl ⟨by rw[(fW qj.o).1,(fW qj.o).2],fD HB.o (aM _) _ _⟩
            · have hbig:4096<a:=by omega
              clear hout;go_wp2;exact bR (v:=.agg #[I 1,I a]) (by simp[results,Tryz.results26,go_sem,x0,x1]) rfl ⟨by rw[(fW qj.o).1,(fW qj.o).2],fD HB.o (aM _) _ _⟩
          · have h1:¬a<0:=by omega
            have h2:¬4096<a:=by omega
            have hnn:0<=a+k:=by omega
            have hub:a+k<=4096:=by omega
            clear hout hsm;have xJ:=ai (fun V hV=>Gi.o ((a+k)/16) V hV);obtain⟨⟨⟨pp,pn,pt,pz⟩,ok⟩,hF⟩:∃F,F=aV l ((a+k)/16):=⟨_,rfl⟩;have E7:=ai hF;rw[<- hF] at xJ;have DW:Hid (∀V,eU V (.slice ao vn cap) l->Calls Tryz.prog 31 #[.slice ao vn cap,I ((a+k)/16)] V fun e w'=>e=.returned (.tuple #[.agg #[I pp,I pn,I pt,.bool pz],.bool ok])/\Below V.heap.size V w'):=xJ;clear hF xJ;have Ky:Hid ((ok=false->iw l (a+k) way=(1,a+k))/\(ok=true->0<=pt/\pt<=3/\(iz pt way=true->iw l (a+k) way=(2,a+k))/\(iz pt way=false->iw l (a+k) way=(0,0)))):=by
             refine⟨fun h2=>?_,fun h2=>?_⟩
             · grind [oa,Hid.o]
             · have e1:=E7.o;have h3:(aV l ((a+k)/16)).2=true:=by grind
               have h4:=ki (j5 h3) h3
               grind [tA,zh]
            clear E7;cases ok with
            | false =>
             have qj:=ai (uu.o _ (HST.o.trans (Ky.o.1 rfl)) (by simp));clear Ky uu HST;go_wp2_with (go_at_call 31;refine(DW.o _ (HH.o.below HB.o)).mono ?_;rintro e w1 ⟨rfl,hb1⟩;have cT:=ai (bZ HB.o hb1);have X1:=ai (aQ HX.o hb1 (aO HX.o));clear hb1;have G1:=aO X1.o;obtain⟨x0,x1⟩:=kI X1.o;have f0:∀k,w1.frozen? (Ad w.heap.size k)=false:=fun k=>aJ X1.o k)
             exact bR (v:=.agg #[I 1,I (a+k)]) (by simp[results,Tryz.results26,go_sem,x0,x1,G1]) rfl ⟨by rw[(fW qj.o).1,(fW qj.o).2],(fD cT.o (aM _) _ _).alloc (by simp;omega) _⟩
            | true =>
             have hpt:=Ky.o.2 rfl;have zF:=ai hpt.2.2;clear Ky;cases Av:iz pt way with
             | true =>
              exfalso;have:=jH Av;omega
             | false =>
              skip
              have rR:=ai (HST.o.trans (zF.o.2 Av));clear uu HST zF Av hpt;go_wp2_with (go_at_call 31;refine(DW.o _ (HH.o.below HB.o)).mono ?_;rintro e w1 ⟨rfl,hb1⟩;have cT:=ai (bZ HB.o hb1);have X1:=ai (aQ HX.o hb1 (aO HX.o));clear hb1;have G1:=aO X1.o;have hne:¬w.heap.size=w1.heap.size:=(by omega);have f0:∀k,w1.frozen? (Ad w.heap.size k)=false:=fun k=>aJ X1.o k)
              grind [bE,intOf,Hid.o,Below.alloc]
        · have hke:k=size.toNat:=by omega
          have qj:Hid ((R1,R2)=(0,0)):=by grind [Hid.o]
          obtain⟨x0,x1⟩:=kI HX.o;have f0:∀k,wr.frozen? (Ad w.heap.size k)=false:=fun k=>aJ HX.o k
          clear hke;go_wp2;exact bR (v:=.agg #[I 0,I 0]) (by simp[results,Tryz.results26,go_sem,x0,x1]) rfl ⟨by rw[(fW qj.o).1,(fW qj.o).2],fD HB.o (aM _) _ _⟩
def mA (es:List bC) (i:Nat) (x:bC):List bC:=es.take i++x::es.drop i
theorem Hj (es:List bC) (i:Nat) (x:bC) (hi:i<=es.length):(mA es i x).length=es.length+1:=by
 grind [mA]
theorem adh (es:List bC) (i:Nat) (x:bC) (hi:i<=es.length) (m:Nat) (hm:m<i):aI (mA es i x) m=aI es m:=by
 grind [mA,aI]
theorem aaF (es:List bC) (i:Nat) (x y:bC) (hi:i<=es.length):(mA es i x).set i y=mA es i y:=by
 simp_all [mA]
theorem Yr (es:List bC) (i:Nat) (hi:i<es.length):mA es (i+1) (aI es i)=mA es i (aI es i):=by
 grind [aI,mA,List.drop_eq_getElem_cons]
theorem Pz (es:List bC) (x:bC):mA es es.length x=es++[x]:=by
 grind [mA]
theorem aaG (es:List bC) (e:bC) (i:Nat) (hi:i<=es.length) (hr:jw es) (hno:∀j,j<es.length->(aI es j).page≠e.page) (h1:∀j,j<es.length->i<=j->e.page<(aI es j).page) (h2:0<i->¬e.page<(aI es (i-1)).page):mA es i e=jJ es e:=by
 have hlt:∀j,j<i->(aI es j).page<e.page:=fun j hj=>by
  have a:=hno (i-1) (by omega);have b:=h2 (by omega);by_cases c:j=i-1
  · grind
  · have hr:=Ud.1 hr j (i-1) (by grind) (by grind) (by omega)
    grind [aI]
 by_cases c:i=es.length
 · grind [Pz,Ej]
 · have hi':i<es.length:=by omega
   rw[FJ es e i hi' hlt (by grind),bl (hno i hi')];rfl
def nC (k:aN) (j:Nat) (L:List bC):aN:={ k with aj:=k.aj.set j (dX (ak k.aj j) L) }
theorem aaN (k:aN) (j:Nat) (L:List bC):(nC k j L).aj.length=k.aj.length:=jk
theorem Th (k:aN) {j:Nat} (hj:j<k.aj.length) (L:List bC):ak (nC k j L).aj j=dX (ak k.aj j) L:=by
 show ak (k.aj.set j _) j=_
 grind [ja]
theorem adj (k:aN) {j:Nat} (hj:j<k.aj.length) (L M:List bC):({ nC k j L with aj:=(nC k j L).aj.set j (dX (ak (nC k j L).aj j) M) }:aN)=nC k j M:=by
 rw[Th k hj];unfold nC;simp only[rh];rfl
theorem Mm (k:aN) (j:Nat):nC k j (ak k.aj j).aW=k:=by
 unfold nC;have:k.aj.set j (dX (ak k.aj j) (ak k.aj j).aW)=k.aj:=by
  by_cases h:j<k.aj.length
  · have e:ak k.aj j=k.aj[j]:=by grind [ak]
    show k.aj.set j (ak k.aj j)=_
    simp_all
  grind [List.set_eq_of_length_le]
 rw[this]
theorem PE (k:aN) (j:Nat) (e:bC):dW k j e=nC k j (jJ (ak k.aj j).aW e):=rfl
structure Vh (lo mb:Nat) (tt:TypeId) (X:List Value) (V:World) (S:dN) (k:aN) (j:Nat) (L:List bC) (pb gb cG:Nat):Prop where
 v:V.cell? (Ad pb (j*3+2))=some (.slice (some (Ad gb 0)) L.length cG)
 x0:∀m,m<L.length->V.cell? (Ad gb (m*3))=some (I (aI L m).page)
 x1:∀m,m<L.length->V.cell? (Ad gb (m*3+1))=some (I (aI L m).kind)
 x2:∀m,m<L.length->V.cell? (Ad gb (m*3+2))=some (I (aI L m).loc)
 fz:∀o,V.frozen? (Ad gb o)=false
 lab:S.lab gb=.aW j
 lay:∀i e,i<L.length->bQ lo mb tt X (((V.setCell (Ad gb (i*3)) (I e.page)).setCell (Ad gb (i*3+1)) (I e.kind)).setCell (Ad gb (i*3+2)) (I e.loc)) S (nC k j (L.set i e))/\dI S V S (((V.setCell (Ad gb (i*3)) (I e.page)).setCell (Ad gb (i*3+1)) (I e.kind)).setCell (Ad gb (i*3+2)) (I e.loc))
theorem Yu {lo mb:Nat} {tt:TypeId} {X:List Value} {V:World} {S:dN} {k:aN} {j:Nat} {L:List bC} {pb nP cP:Nat} (h:bQ lo mb tt X V S (nC k j L)) (hj:j<k.aj.length) (hL:0<L.length) (hP:S.vP=.slice (some (Ad pb 0)) nP cP):∃gb cG,Vh lo mb tt X V S k j L pb gb cG:=by
 have hj':j<(nC k j L).aj.length:=by grind [aaN]
 obtain⟨GV,ZX,A⟩:=h.toiZ.sp (by omega);obtain rfl:pb=GV:=by have ev:=hP.symm.trans A.v;grind
 have hs:=(h.each j hj').aR;have hsp:=Th k hj L;rw[hsp] at hs;have hs:V.ownsRow lo 45 3 (cA S.L j).vp L.length (L.flatMap bk):=hs;obtain⟨ao,cap,e,_,hg⟩:=aY hs;obtain⟨g,rfl,_,_⟩:=hg hL;have a2:=A.x2 j hj';rw[e] at a2;have hs2:=hs;rw[e] at hs2;have at_:=fun m (hm:m<L.length) c (hc:c<3)=>lB bk (fun _=>rfl) eD hs2 m c hm hc
 refine⟨g,cap,a2,fun m hm=>at_ m hm 0 (by omega),fun m hm=>at_ m hm 1 (by omega),fun m hm=>at_ m hm 2 (by omega),ig hs2,h.lE j hj' g (by rw[e];rfl),fun i en hi=>?_⟩;have m:=eT.ak9 h (j:=j) hj' e (i:=i) (by rw[hsp];exact hi) en;rw[adj k hj] at m;rw[hsp] at m;exact m
theorem aaA {lo mb:Nat} {tt:TypeId} {X:List Value} (k:aN) (S:dN) (w:World) (j:Nat) (e:bC) {pb nP cP:Nat} (h:bQ lo mb tt X w S k) (hj:j<k.aj.length) (hP:S.vP=.slice (some (Ad pb 0)) nP cP) (hen:(ak k.aj j).aW.length<=1000) (i:Nat) (hi:i<(ak k.aj j).aW.length) (hpi:(aI (ak k.aj j).aW i).page=e.page) (hno:∀m,m<i->(aI (ak k.aj j).aW m).page≠e.page) (hput:jJ (ak k.aj j).aW e=(ak k.aj j).aW.set i e) :
  Calls Tryz.prog 108 #[.pointer (some (Ad pb (j*3))),lZ e] w (dK lo mb tt X w S (.tuple #[]) (dW k j e)):=by
 obtain⟨es,hes⟩:=ex ((ak k.aj j).aW);have hk:nC k j es=k:=by rw[hes,Mm]
 rw[PE,hput,<- hes];rw[<- hes] at hi hpi hno hen;obtain⟨GV,ZX,A⟩:=h.toiZ.sp (by omega);obtain rfl:pb=GV:=by have ev:=hP.symm.trans A.v;grind
 obtain⟨ae,ce,Cv,hre⟩:=h.toiZ.aW hj;rw[<- hes] at Cv hre;have a0:=A.x0 j hj;have a1:=A.x1 j hj;have a2:=A.x2 j hj;have fz2:=A.fz (j*3+2);have hpl:=A.lt;rw[Cv] at a2;obtain⟨ax,cx,yt,_,_⟩:=aY (h.each j hj).aZ;rw[yt] at a1;obtain⟨lv,hlv⟩:=ex ((ak k.aj j).live);obtain⟨nx,hnx⟩:=ex ((ak k.aj j).aZ.length);rw[<- hlv] at a0;rw[<- hnx] at a1;obtain⟨pg,kd,lc⟩:=e;unfold lZ;simp only at hpi hno ⊢;obtain⟨WA,iK⟩:=ex (w.alloc (.cells #[I pg,I kd,I lc] 45));have hb0:Below w.heap.size w WA:=by rw[iK];exact(aK _ _).alloc (aM _) _
 have eb0:WA.heap[w.heap.size]?=some (.cells #[I pg,I kd,I lc] 45 (0,0)):=by rw[iK];exact bG w _ _
 obtain⟨eb,L6⟩:=ex w.heap.size;have nE:S.lab eb=.no:=by rw[L6];exact h.toiZ.new (aM _)
 rw[<- L6] at eb0;have EB:=ai eb0;have iF:∀{V:World},Below WA.heap.size WA V->Below w.heap.size w V:=fun hV=>hb0.trans (hV.mono hb0.size)
 have Qp:Hid (∀V,Below WA.heap.size WA V->Calls Tryz.prog 67 #[.agg #[.bool lv,.slice ax nx cx,.slice ae es.length ce],I pg] V fun e w'=>e=.returned (I (i:Int))/\Below V.heap.size V w'):=fun V hV=>by
  have:=rK es lv (.slice ax nx cx) ae ce pg i V (hre.below (iF hV)) (by omega) hno (.inr ⟨hi,hpi⟩);rw[bf hi] at this;exact this
 have iG:=ai iK;have HEB:=ai L6;have q0:∀x:dB WA.heap.size WA,x.world.cell? (Ad pb (j*3))=some (.bool lv):=fun x=>((iF x.keeps).cell (p:=(Ad pb (j*3))) hpl).trans a0
 have q1:∀x:dB WA.heap.size WA,x.world.cell? (Ad pb (j*3+1))=some (.slice ax nx cx):=fun x=>((iF x.keeps).cell (p:=(Ad pb (j*3+1))) hpl).trans a1
 have q2:∀x:dB WA.heap.size WA,x.world.cell? (Ad pb (j*3+2))=some (.slice ae es.length ce):=fun x=>((iF x.keeps).cell (p:=(Ad pb (j*3+2))) hpl).trans a2
 have q3:∀x:dB WA.heap.size WA,x.world.cell? (Ad eb 0)=some (I pg):=fun x=>aB (aQ EB.o x.keeps (aO EB.o)) 0 rfl
 have rB:=gw WA;have px:Hid (∀V,Below WA.heap.size WA V->∃gb cG,Vh lo mb tt X V S k j es pb gb cG):=fun V hV=>Yu (by rw[hk];exact h.below (iF hV)) hj (by omega) hP
 have cZ:Hid (∀V U,Below WA.heap.size WA V->bQ lo mb tt X U S (nC k j (es.set i ⟨pg,kd,lc⟩))->dI S V S U->dK lo mb tt X w S (.tuple #[]) (nC k j (es.set i ⟨pg,kd,lc⟩)) (.returned (.tuple #[])) U):=fun V U hV h1 h2=>⟨rfl,S,h1,(dI.below (iF hV)).trans h2⟩
 obtain⟨P,hPP⟩:=ex (dK lo mb tt X w S (.tuple #[]) (nC k j (es.set i ⟨pg,kd,lc⟩)));rw[<- hPP] at cZ ⊢;have Gd:(i:Int)<(es.length:Int):=by omega
 have hi0:(0:Int)<=(i:Int):=by omega
 have HIL:=ai hi;clear h hj hP hen hpi hno hput hk Cv hre a0 a1 a2 hlv hnx A yt iK hb0 eb0 L6 nE iF hPP hes fz2 hpl hi;go_enter Tryz.func108,Tryz.ntmps108;go_upto_region 1 with fail;rw[<- iG.o,<- HEB.o];refine cD (by kernel_rfl) (by kernel_rfl) ?_
 repeat (first | go_big_quiet_step ((go_at_call 67;exact eV _ Qp.o)) | quiet_step ((go_at_call 67;exact eV _ Qp.o)))
 refine fR ?_;rintro _ ⟨X1,rfl⟩;have oo:=ai X1.keeps;obtain⟨WX,N9⟩:=ex X1.world;rw[<- N9] at oo ⊢;clear N9 q0 q1 q2 q3 rB Qp;obtain⟨gb,cG,E⟩:=px.o WX oo.o;have v:=E.v;have x0:=E.x0 i HIL.o;have x1:=E.x1 i HIL.o;have x2:=E.x2 i HIL.o;have f0:=E.fz (i*3);have f1:=E.fz (i*3+1);have f2:=E.fz (i*3+2);obtain⟨l1,l2⟩:=E.lay i ⟨pg,kd,lc⟩ HIL.o;have qN:=ai (fun U (hU:U=((((WX.setCell (Ad gb (i*3)) (I pg)).setCell (Ad gb (i*3+1)) (I kd)).setCell (Ad gb (i*3+2)) (I lc)).drew))=>cZ.o WX U oo.o (by rw[hU];exact l1.below (aK _ _).drew) (by rw[hU];exact l2.trans (dI.below (aK _ _).drew)));have BX:=ai (aQ EB.o oo.o (aO EB.o));obtain⟨d0,d1,d2⟩:=og BX.o;clear E l1 l2;go_upto_region 3 with fail;go_region;go_wp2;refine bR (v:=.tuple #[]) (by simp[results,Tryz.results108,go_sem]) rfl ?_;exact qN.o _ rfl
theorem adf {lo mb:Nat} {tt:TypeId} {X:List Value} (k:aN) (S:dN) (w:World) (j:Nat) (e:bC) {pb nP cP:Nat} (h:bQ lo mb tt X w S k) (hj:j<k.aj.length) (hP:S.vP=.slice (some (Ad pb 0)) nP cP) (hen:(ak k.aj j).aW.length<=1000) (hr:jw (ak k.aj j).aW) (hno:∀m,m<(ak k.aj j).aW.length->(aI (ak k.aj j).aW m).page≠e.page) :
  Calls Tryz.prog 108 #[.pointer (some (Ad pb (j*3))),lZ e] w (dK lo mb tt X w S (.tuple #[]) (dW k j e)):=by
 obtain⟨es,hes⟩:=ex ((ak k.aj j).aW);have hk:nC k j es=k:=by rw[hes,Mm]
 rw[PE,<- hes];rw[<- hes] at hno hen hr;obtain⟨GV,ZX,A⟩:=h.toiZ.sp (by omega);obtain rfl:pb=GV:=by have ev:=hP.symm.trans A.v;grind
 obtain⟨ae,ce,Cv,hre⟩:=h.toiZ.aW hj;rw[<- hes] at Cv hre;have a0:=A.x0 j hj;have a1:=A.x1 j hj;have a2:=A.x2 j hj;have fz2:=A.fz (j*3+2);have hpl:=A.lt;rw[Cv] at a2;obtain⟨ax,cx,yt,_,_⟩:=aY (h.each j hj).aZ;rw[yt] at a1;obtain⟨lv,hlv⟩:=ex ((ak k.aj j).live);obtain⟨nx,hnx⟩:=ex ((ak k.aj j).aZ.length);rw[<- hlv] at a0;rw[<- hnx] at a1;obtain⟨pg,kd,lc⟩:=e;unfold lZ;simp only at hno ⊢;obtain⟨WA,iK⟩:=ex (w.alloc (.cells #[I pg,I kd,I lc] 45));have hb0:Below w.heap.size w WA:=by rw[iK];exact(aK _ _).alloc (aM _) _
 have eb0:WA.heap[w.heap.size]?=some (.cells #[I pg,I kd,I lc] 45 (0,0)):=by rw[iK];exact bG w _ _
 obtain⟨eb,L6⟩:=ex w.heap.size;have nE:S.lab eb=.no:=by rw[L6];exact h.toiZ.new (aM _)
 rw[<- L6] at eb0;have EB:=ai eb0;have iF:∀{V:World},Below WA.heap.size WA V->Below w.heap.size w V:=fun hV=>hb0.trans (hV.mono hb0.size)
 have Qp:Hid (∀V,Below WA.heap.size WA V->Calls Tryz.prog 67 #[.agg #[.bool lv,.slice ax nx cx,.slice ae es.length ce],I pg] V fun e w'=>e=.returned (I (-1))/\Below V.heap.size V w'):=fun V hV=>by
  have:=rK es lv (.slice ax nx cx) ae ce pg es.length V (hre.below (iF hV)) (by omega) hno (.inl rfl);rw[bl (Ih _)] at this;exact this
 have iG:=ai iK;have HEB:=ai L6;have q0:∀x:dB WA.heap.size WA,x.world.cell? (Ad pb (j*3))=some (.bool lv):=fun x=>((iF x.keeps).cell (p:=(Ad pb (j*3))) hpl).trans a0
 have q1:∀x:dB WA.heap.size WA,x.world.cell? (Ad pb (j*3+1))=some (.slice ax nx cx):=fun x=>((iF x.keeps).cell (p:=(Ad pb (j*3+1))) hpl).trans a1
 have q2:∀x:dB WA.heap.size WA,x.world.cell? (Ad pb (j*3+2))=some (.slice ae es.length ce):=fun x=>((iF x.keeps).cell (p:=(Ad pb (j*3+2))) hpl).trans a2
 have q3:∀x:dB WA.heap.size WA,x.world.cell? (Ad eb 0)=some (I pg):=fun x=>aB (aQ EB.o x.keeps (aO EB.o)) 0 rfl
 have rB:=gw WA;have HGP:Hid (∀i,i<=es.length->(∀m,m<es.length->i<=m->pg<(aI es m).page)->(0<i->(aI es (i-1)).page<=pg)->mA es i ⟨pg,kd,lc⟩=jJ es ⟨pg,kd,lc⟩):=fun i h1 h2 h3=>aaG es ⟨pg,kd,lc⟩ i h1 hr hno h2 (fun g=>Int.not_lt.2 (h3 g))
 have cZ:Hid (∀S1 U,bQ lo mb tt X U S1 (nC k j (jJ es ⟨pg,kd,lc⟩))->dI S WA S1 U->dK lo mb tt X w S (.tuple #[]) (nC k j (jJ es ⟨pg,kd,lc⟩)) (.returned (.tuple #[])) U):=fun S1 U h1 h2=>⟨rfl,S1,h1,(dI.below hb0).trans h2⟩
 obtain⟨P,hPP⟩:=ex (dK lo mb tt X w S (.tuple #[]) (nC k j (jJ es ⟨pg,kd,lc⟩)));rw[<- hPP] at cZ ⊢;have HAP:Hid (∀V,Below WA.heap.size WA V->V.cell? (Ad pb (j*3+2))=some (.slice ae es.length ce)/\V.frozen? (Ad pb (j*3+2))=false/\V.ownsRow lo 45 3 (.slice ae es.length ce) es.length (es.flatMap bk)/\lo<=V.heap.size/\(∀o wG vG,(V.alloc o).grownBy wG (Value.slice ae es.length ce).ownBlock->wG.ownsRow lo 45 3 vG (es.length+1) (es.flatMap bk++bk eD)->(vG.ownBlock=(Value.slice ae es.length ce).ownBlock∨vG.ownBlock=some (V.alloc o).heap.size)->(wG.cell? (Ad pb (j*3+2))=some (.slice ae es.length ce)/\wG.frozen? (Ad pb (j*3+2))=false)/\∃S1,(S1.vP=.slice (some (Ad pb 0)) nP cP)/\bQ lo mb tt X (wG.setCell (Ad pb (j*3+2)) vG) S1 (nC k j (mA es es.length eD))/\dI S V S1 (wG.setCell (Ad pb (j*3+2)) vG))):=fun V hV=>by
  have hm:=h.below (iF hV);obtain⟨GV,ZX,A'⟩:=hm.toiZ.sp (by omega);obtain rfl:pb=GV:=by have ev:=hP.symm.trans A'.v;simp at ev;omega
  have b2:=A'.x2 j hj;rw[Cv] at b2;have zy:=(hm.each j hj).aR;rw[Cv,<- hes] at zy;have hlE:∀b,bI (.slice ae es.length ce) b->S.lab b=.aW j:=fun b hb=>hm.lE j hj b (by rw[Cv];exact hb)
  refine⟨b2,A'.fz _,zy,gJ hm.lo_le (rV hm.lt),fun o wG vG q1 q2 q3=>?_⟩;have hGk:aH (fun b=>S.lab b=.aW j) V wG:=(aH.alloc _ _ o).trans (aH.grown q1 (fun b e=>hlE b e)) (fun _ _ g=>g);have hnew:∀b,bI vG b->S.lab b=.aW j∨V.heap.size<=b:=fun b hb=>by
   rcases q3 with q3 | q3
   · exact .inl (hlE b (show(Value.slice ae _ ce).ownBlock=some b by rw[<- q3];exact hb))
   · have hb:vG.ownBlock=some b:=hb;rw[q3] at hb;injection hb with hb;rw[iJ] at hb;omega
  have e6:es.flatMap bk++bk eD=(es++[eD]).flatMap bk:=by rw[tG];simp
  obtain⟨m1,m2⟩:=hm.SG (j:=j) hj (v:=vG) (es:=es++[eD]) hP hGk (by rw[e6] at q2;rw[gh];exact q2) (fun b hb=>(hnew b hb).imp id (fun x=>hm.toiZ.new x));have hpn:¬S.lab pb=.aW j:=by rw[A'.lab];simp
  refine⟨⟨hGk.cell b2 hpn,?_⟩,⟨uO S j vG,S.vS,S.vF,S.vL,S.vP,S.L.set j ⟨(cA S.L j).lv,(cA S.L j).va,vG⟩⟩,hP,?_,m2 (fun b hb hx=>?_)⟩
  · have hrS:=hGk.row hm.aj (fun b hb x=>by have y2:=hm.lP b hb;rw[x] at y2;cases y2);rw[hP] at hrS;obtain⟨_,_,e5,_⟩:=aY hrS;injection e5 with _ e5 _;rw[<- e5] at hrS;exact ig hrS _
  · rw[Pz];exact m1
  · rcases hnew b hx with y | y
    · exact y
    · omega
 have px:Hid (∀V S1 i x,i<=es.length->S1.vP=.slice (some (Ad pb 0)) nP cP->bQ lo mb tt X V S1 (nC k j (mA es i x))->∃gb cG,Vh lo mb tt X V S1 k j (mA es i x) pb gb cG):=fun V S1 i x hi h1 h2=>Yu h2 hj (by rw[Hj _ _ _ hi];omega) h1
 have HNE:=ai nE;have hel:es.length<=1000:=hen;obtain⟨i0,hin,hz0,hz1,hz2⟩:=iq uk;have tP:=ai hin;have Dg:=ai hz0;have Df:=ai hz1;have BI:=ai hz2;clear h hj hP hen hr hno hk Cv hre a0 a1 a2 hlv hnx A yt iK hb0 eb0 L6 nE iF hPP hes fz2 hpl hin hz0 hz1 hz2;go_enter Tryz.func108,Tryz.ntmps108;go_upto_region 1 with fail;rw[<- iG.o,<- HEB.o];refine cD (by kernel_rfl) (by kernel_rfl) ?_
 repeat (first | go_big_quiet_step ((go_at_call 67;exact eV _ Qp.o)) | quiet_step ((go_at_call 67;exact eV _ Qp.o)))
 refine fR ?_;rintro _ ⟨X1,rfl⟩;have oo:=ai X1.keeps;obtain⟨WX,N9⟩:=ex X1.world;rw[<- N9] at oo ⊢;clear N9 q0 q1 q2 q3 rB Qp;obtain⟨p1,p2,p3,p4,p5⟩:=HAP.o WX oo.o;have FZ:=ai (p3.alloc (.cells #[I 0,I 0,I 0] 45));have HP5:=ai p5;have HCX:Hid (dI S WA S WX):=dI.below oo.o;clear p3 p5 HAP;go_upto_region 5 with(at_builtin;refine dU (P:=Tryz.prog) rfl _ _ 41 rfl lo 45 i0 (.agg #[I 0,I 0,I 0]) 3 24 Tryz.underlying41 tP.o Dg.o Df.o BI.o rfl (by decide) (.slice ae es.length ce) es.length (es.flatMap bk) rfl FZ.o (some (Ad WX.heap.size 0)) 1 1 (bk eD) rfl rfl (fun _=>⟨_,rfl,vU (bG WX _ _)⟩) (by intro u hu;simp[bk,eD] at hu;rw[hu];rfl) (by unfold maxLen;omega) (by omega) (by rw[iJ];omega) ?_;intro vG wG zu Ce D5;obtain⟨aG,cG,MT,_,_⟩:=aY zu;subst MT;obtain⟨⟨g1,g2⟩,S1,g3,g4,g5⟩:=HP5.o _ _ _ Ce zu D5;have mg:=ai g3;have yj:=ai g4;have Ht:=ai (HCX.o.trans g5);clear zu Ce D5 g3 g4 g5)
 obtain⟨WL,hWL⟩:=ex (wG.setCell (Ad pb (j*3+2)) (.slice aG (es.length+1) cG));rw[<- hWL] at yj Ht ⊢;obtain⟨gb0,cG0,E0⟩:=px.o _ _ _ _ (aM _) mg.o yj.o;have v0:=E0.v;rw[Hj _ _ _ (aM _)] at v0;clear hWL E0 g1 g2 p1 p2 p4 FZ HP5;go_wp2;go_loopw [4] (fun iv wr=>∃(i:Nat) (x:bC),i<=es.length/\iv=I (i:Int)/\bQ lo mb tt X wr S1 (nC k j (mA es i x))/\dI S WA S1 wr/\(∀m,m<es.length->i<=m->pg<(aI es m).page)) (fun iv _=>(intOf iv).toNat)
 case atStart=>exact⟨es.length,eD,aM _,by go_num,yj.o,Ht.o,fun m h1 h2=>absurd h1 (by omega)⟩
 case round =>
  obtain⟨i,x,hi,rfl,jn,hch,hgt⟩:=hrel;have E6:=ai jn;have TE:=ai hch;have HGT:=ai hgt;obtain⟨gb,cG,E⟩:=px.o wr S1 i x hi mg.o jn;have BX:=ai (hch.keep EB.o HNE.o);obtain⟨d0,d1,d2⟩:=og BX.o;have v:=E.v;have hgl:=Hj es i x hi;have Gd:i<(mA es i x).length:=by omega
  have f0:=E.fz (i*3);have f1:=E.fz (i*3+1);have f2:=E.fz (i*3+2);have x0:=E.x0 i Gd;have x1:=E.x1 i Gd;have x2:=E.x2 i Gd;rw[hgl] at v;have agM:Hid (∀e,bQ lo mb tt X (((wr.setCell (Ad gb (i*3)) (I e.page)).setCell (Ad gb (i*3+1)) (I e.kind)).setCell (Ad gb (i*3+2)) (I e.loc)) S1 (nC k j (mA es i e))/\dI S1 wr S1 (((wr.setCell (Ad gb (i*3)) (I e.page)).setCell (Ad gb (i*3+1)) (I e.kind)).setCell (Ad gb (i*3+2)) (I e.loc))):=fun e=>by
   have:=E.lay i e Gd;rw[aaF _ _ _ _ hi] at this;omega
  obtain⟨X0,hX0⟩:=ex (aI (mA es i x) i);rw[<- hX0] at x0 x1 x2;have hni:(i:Int)<((es.length+1:Nat):Int):=by omega
  have uu:Hid ((0<i->(aI es (i-1)).page<=pg)->∀U,U=(((wr.setCell (Ad gb (i*3)) (I pg)).setCell (Ad gb (i*3+1)) (I kd)).setCell (Ad gb (i*3+2)) (I lc)).drew.drew->P (.returned (.tuple #[])) U):=fun hlast U hU=>by
   have l:=agM.out ⟨pg,kd,lc⟩;have hg:=HGP.o i hi hgt hlast;rw[hg] at l;subst hU;exact cZ.o S1 _ (l.1.below (aK _ _).drew.drew) ((hch.trans l.2).trans (dI.below (aK _ _).drew.drew))
  have HI:=ai hi;by_cases hz:i=0
  · subst hz;have E7:=ai (uu.o (fun h0=>absurd h0 (by omega)));clear E hX0 hgl Gd jn hch hgt agM uu hi;go_upto_region 6 with fail;go_region;go_upto_region 9 with fail;go_region;go_wp2;refine q9 (v:=.tuple #[]) (by simp[results,Tryz.results108,go_sem]) rfl ?_;exact E7.o _ rfl
  · obtain⟨i',rfl⟩:∃i',i=i'+1:=⟨i-1,by omega⟩;have hiL:i'<(mA es (i'+1) x).length:=by omega
    have y0:=E.x0 i' hiL;have y1:=E.x1 i' hiL;have y2:=E.x2 i' hiL;rw[adh es (i'+1) x hi i' (by omega)] at y0 y1 y2;have hp0:(0:Int)<((i'+1:Nat):Int):=by omega
    have hw1:IntKind.i64.wrap (((i'+1:Nat):Int)-1)=(i':Int):=by rw[mP _ (by omega)];omega
    have SJ:(i':Int)<((es.length+1:Nat):Int):=by omega
    have hST:=Yr es i' (by omega);have l:=agM.out (aI es i');rw[hST] at l;have HL:=ai l;obtain⟨Y,hY⟩:=ex (aI es i');have apq:i'+1-1=i':=by omega
    rw[apq] at uu;rw[<- hY] at y0 y1 y2 HL uu;have HYY:=ai hY;clear hY l hST agM;by_cases agB:pg<Y.page
    · have hgb:(pg<Y.page):=agB;obtain⟨yp,yk,yl⟩:=Y;simp only at y0 y1 y2 HL hgb;clear E hX0 hgl Gd jn hch hgt uu hi hiL hz agB;go_upto_region 6 with fail;go_region;go_upto_region 7 with fail;go_region;go_wp2;go_roundw
      case rel =>
       refine⟨i',⟨yp,yk,yl⟩,by omega,by go_num,HL.o.1.below (aK _ _).drew.drew,(TE.o.trans HL.o.2).trans (dI.below (aK _ _).drew.drew),fun m h1 h2=>?_⟩;by_cases c:m=i'
       · rw[c,<- HYY.o];exact hgb
       · exact HGT.o m h1 (by omega)
      case measure=>simp[intOf]
    · have hgb:¬(pg<Y.page):=agB;have E7:=ai (uu.o (fun _=>Int.not_lt.1 hgb));obtain⟨yp,yk,yl⟩:=Y;simp only at y0 y1 y2 hgb;clear E hX0 hgl Gd jn hch hgt uu hi hiL hz agB HL HYY;go_upto_region 6 with fail;go_region;go_upto_region 9 with fail;go_region;go_wp2;refine q9 (v:=.tuple #[]) (by simp[results,Tryz.results108,go_sem]) rfl ?_;exact E7.o _ rfl
theorem Pw {lo mb:Nat} {tt:TypeId} {X:List Value} (k:aN) (S:dN) (w:World) (j:Nat) (e:bC) {pb nP cP:Nat} (h:bQ lo mb tt X w S k) (hj:j<k.aj.length) (hP:S.vP=.slice (some (Ad pb 0)) nP cP) (hen:(ak k.aj j).aW.length<=1000) (hr:jw (ak k.aj j).aW) :
  Calls Tryz.prog 108 #[.pointer (some (Ad pb (j*3))),lZ e] w (dK lo mb tt X w S (.tuple #[]) (dW k j e)):=by
 cases ho:bD (ak k.aj j).aW e.page with
 | none=>exact adf k S w j e h hj hP hen hr (Ev ho)
 | some x =>
  obtain⟨i,h1,h2,h3,h4⟩:=xd ho;refine aaA k S w j e h hj hP hen i h1 h3 h4 ?_;have hlt:∀m,m<i->(aI (ak k.aj j).aW m).page<e.page:=fun m hm=>by
   rw[<- h3];have hr:=Ud.1 hr m i (by grind) (by grind) hm
   grind [aI]
  grind [FJ]
def mU (i:Nat) (o:Option Nat) (e:bC):List bC:=if kr i e then (match o with | none=>[] | some s=>[⟨e.page,2,s⟩]) else [e]
def Ex (i:Nat) (o:Option Nat) (s:dm):dm:=dX s (s.aW.flatMap (mU i o))
theorem Yw (i:Nat) (s:dm):Ex i none s=mD i s:=by
 unfold Ex mD dX tM;congr 1;induction s.aW with
 | nil=>rfl
 | cons a r ih =>
  grind [mU]
theorem Yv (i s0:Nat) (s:dm):Ex i (some s0) s=jq i s0 s:=by
 unfold Ex jq dX jI;congr 1;induction s.aW with
 | nil=>rfl
 | cons a r ih =>
  grind [mU]
def oW (k:aN) (i:Nat) (o:Option Nat) (n:Nat):aN:={ k with aj:=mS (Ex i o) k.aj n }
def Lr (k:aN) (i:Nat) (o:Option Nat):aN:={ k with frames:=k.frames.set i gD,slots:=(match o with | none=>k.slots | some s=>k.slots.set s ⟨(au k.frames i).data,(au k.frames i).refs⟩),aj:=mS (Ex i o) k.aj k.aj.length }
def Vi (k:aN) (i:Nat) (o:Option Nat):Prop:=((au k.frames i).fN=false/\o=none)∨((au k.frames i).fN=true/\∃s,o=some s/\s<k.slots.length/\(bw k.slots s).refs=0/\∀q,q<s->(bw k.slots q).refs≠0)
theorem aeU {k:aN} (h:bg k) {i:Nat} (hi:i<k.frames.length) (ZQ:(au k.frames i).refs≠0):∃o,dZ k i=Lr k i o/\Vi k i o/\0<k.slots.length:=by
 obtain⟨s,Ks,hsl,_⟩:=h.slot hi ZQ;cases hd:(au k.frames i).fN with
 | false =>
  refine⟨none,?_,.inl ⟨hd,rfl⟩,by omega⟩;unfold dZ Lr xm;rw[hd,CL,show Ex i none=mD i from funext (Yw i)];rfl
 | true =>
  refine⟨some s,?_,.inr ⟨hd,s,rfl,hsl,?_,?_⟩,by omega⟩
  · unfold dZ Lr;rw[hd,Ks,CL,show Ex i (some s)=jq i s from funext (Yv i s)];rfl
  · obtain⟨g1,g2,_⟩:=Fy.1 Ks
    grind [bw]
  · obtain⟨g1,_,g3⟩:=Fy.1 Ks
    grind [bw]
theorem aaP (i:Nat) (o:Option Nat) (l:List bC):(l.flatMap (mU i o)).length<=l.length:=by
 induction l with
 | nil=>grind
 | cons a r ih =>
  rw[pJ,gh,Cl];have:(mU i o a).length<=1:=by
   unfold mU
   grind
  omega
theorem Yx (i:Nat) (o:Option Nat) (l:List bC) (m:Nat) (hm:m<l.length):(l.take (m+1)).flatMap (mU i o)=(l.take m).flatMap (mU i o)++mU i o (aI l m):=by
 grind [aI,List.take_add_one]
theorem aaO {lo mb:Nat} {tt:TypeId} {X:List Value} {V V1:World} {S:dN} {k:aN} {i:Nat} {o:Option Nat} {n pb nP cP:Nat} {v:Value} (h:bQ lo mb tt X V S (oW k i o n)) (hn:n<k.aj.length) (hP:S.vP=.slice (some (Ad pb 0)) nP cP) (hb:Below V.heap.size V V1)
  (hr:V1.ownsRow V.heap.size 45 3 v ((ak k.aj n).aW.flatMap (mU i o)).length (((ak k.aj n).aW.flatMap (mU i o)).flatMap bk)):∃S',bQ lo mb tt X (V1.setCell (Ad pb (n*3+2)) v) S' (oW k i o (n+1))/\dI S V S' (V1.setCell (Ad pb (n*3+2)) v):=by
 have hn':n<(oW k i o n).aj.length:=by show n<(mS _ _ _).length;grind [uJ]
 have hat:ak (oW k i o n).aj n=ak k.aj n:=by
  show ak (mS _ _ _) n=_
  grind [Ab]
 have hlo:lo<=V.heap.size:=gJ h.lo_le (rV h.lt);have m:=h.SG (j:=n) hn' (v:=v) (es:=(ak k.aj n).aW.flatMap (mU i o)) hP (aH.b7 hb) (lu hr (fun g hg=>gJ hlo (hr.lt g hg).1)) (fun b hb=>.inr (h.toiZ.new (hr.lt b hb).1));have e:({ oW k i o n with aj:=(oW k i o n).aj.set n (dX (ak (oW k i o n).aj n) ((ak k.aj n).aW.flatMap (mU i o))) }:aN)=oW k i o (n+1):=by
  rw[hat];unfold oW;rw[<- CK _ _ _ hn];rfl
 rw[e] at m;exact⟨_,m.1,m.2 (fun b hb2 hx=>absurd hb2 (by have:=(hr.lt b hx).1;omega))⟩
def U0 (o:Option Nat):Int:=match o with | none=>-1 | some s=>(s:Int)
def Ez (k:aN) (i:Nat) (o:Option Nat) (m:Nat) (z:Int):Prop:=((au k.frames i).fN=false->z=U0 o/\m=k.slots.length)/\((au k.frames i).fN=true->∀s,o=some s->m<=s->z=(s:Int))
theorem Ym {k:aN} {i:Nat} {o:Option Nat} (h:Vi k i o):Ez k i o k.slots.length (-1):=by
 refine⟨fun d=>?_,fun d s e hs=>?_⟩
 · rcases h with⟨_,rfl⟩ | ⟨g,_⟩
   · exact⟨rfl,rfl⟩
   grind
 · rcases h with⟨g,_⟩ | ⟨_,s',e',hl,_⟩
   · grind
   grind
theorem aaB {k:aN} {i:Nat} {o:Option Nat} (h:Vi k i o) (hd:(au k.frames i).fN=true) {m:Nat} {z:Int} (hp:Ez k i o (m+1) z):Ez k i o m (if (bw k.slots m).refs=0 then (m:Int) else z):=by
 refine⟨fun d=>absurd (hd.symm.trans d) (by simp),fun _ s e hs=>?_⟩;rcases h with⟨g,_⟩ | ⟨_,s',e',hl,hz,hn⟩
 · grind
 · rw[e] at e';injection e' with e';subst e';by_cases c:m=s
   · grind
   · rw[bl (hn m (by omega))];exact hp.2 hd s e (by omega)
theorem adg {k:aN} {i:Nat} {o:Option Nat} (h:Vi k i o) {m:Nat} {z:Int} (hp:Ez k i o m z) (hx:(au k.frames i).fN=false∨m=0):z=U0 o:=by
 rcases h with⟨g,rfl⟩ | ⟨g,s',rfl,_⟩
 · exact(hp.1 g).1
 · rcases hx with x | x
   · grind
   · exact hp.2 g s' rfl (by omega)
end Go.Proofs.YtpgifpeohlllfaaGreat
end Go.Proofs.YtpgifpeohlllfaaGreat
