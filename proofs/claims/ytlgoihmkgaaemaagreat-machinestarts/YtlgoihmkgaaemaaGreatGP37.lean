import Derived.Test.YtlgoihmkgaaemaaGreatGP36
set_option maxHeartbeats 20000000
set_option linter.unusedVariables false
set_option maxRecDepth 100000
set_option linter.unusedSimpArgs false
namespace Go.Proofs.YtlgoihmkgaaemaaGreat
open Go.RowKit Tryz
theorem vO {f g:Nat->Bool} (hs:∀k,g (k+1)=(g k&&f k)):∀(n i:Nat),i<n->f i=false->g n=false
 | 0,i,h,_=>absurd h (gY _)
 | n+1,i,h,hf=>by
  rw[hs];by_cases c:i=n
  . grind
  rw[vO hs n i ω hf,qK]
theorem adp {nf ns:Nat} {ar:List aU} {es:List bK} {i:Nat} (hi:i<es.length) (h:uX nf ns ar es i=false):qj nf ns ar es es.length=false:=vO (f:=uX nf ns ar es) (g:=qj nf ns ar es) (λ_=>rfl) _ i hi h
theorem XG {hs:List bD} {ar:List aU} {i:Nat} (hi:i<255) (h:ua hs ar ((i:Int)+1)=false):oo hs ar 255=false:=vO (f:=λn:Nat=>ua hs ar ((n:Int)+1)) (g:=oo hs ar) (λ_=>rfl) 255 i hi h
theorem Na (k:aT) (a:gN) (s:cZ) (aa ap:Option Addr) (ca cp:Nat) (w:World) (hA:eN w (.slice aa s.bu.length ca) s.bu) (hfA:dG s.bu) (hE:dE bC 3 gJ w ap s.bl) (hEn:bM s.bl.length) (hS:gz w a.aS k.aD) (hfS:m6 k.aD) (Ju:k.frames.length<=64) (hns:k.slots.length<=512) :
  Calls prog 90 #[.agg (bj a k),.agg #[.bool s.live,.slice aa s.bu.length ca,.slice ap s.bl.length cp]] w λe w'=>e=.returned (.bool (nj k.aD k.frames.length k.slots.length s))/\Below w.heap.size w w':=by
 obtain⟨WA,lQ⟩:=ex ((w.alloc (.cells (bj a k) 30)).alloc (.cells #[.bool s.live,.slice aa s.bu.length ca,.slice ap s.bl.length cp] 99));have r:Below w.heap.size w WA:=by simp_all [aN,pG]
 have kb:WA.heap[w.heap.size]?=some (.cells (bj a k) 30 (0,0)):=by grind [bB,bG]
 have sb:WA.heap[w.heap.size+1]?=some (.cells #[.bool s.live,.slice aa s.bu.length ca,.slice ap s.bl.length cp] 99 (0,0)):=by
  grind [bG,World.size_alloc]
 have HC:Hid (∀V,Below WA.heap.size WA V->(V.cell? (Ad w.heap.size 0)=some (.slice a.aS k.aD.length a.cS)/\V.cell? (Ad w.heap.size 1)=some (.slice a.aF k.frames.length a.cF)/\V.cell? (Ad w.heap.size 2)=some (.slice a.aL k.slots.length a.cL))/\V.cell? (Ad (w.heap.size+1) 0)=some (.bool s.live)/\V.cell? (Ad (w.heap.size+1) 1)=some (.slice aa s.bu.length ca)/\V.cell? (Ad (w.heap.size+1) 2)=some (.slice ap s.bl.length cp)):=λV hV=>by
  have h1:=aO kb hV (aM kb);have h2:=aO sb hV (aM sb);exact⟨⟨aA h1 0 rfl,aA h1 1 rfl,aA h1 2 rfl⟩,aA h2 0 rfl,aA h2 1 rfl,aA h2 2 rfl⟩
 have vt:Hid (∀V m,Below WA.heap.size WA V->m<s.bl.length->∃eb eo,ap=some (Ad eb eo)/\(V.cell? (Ad eb (eo+m*3))=some (I (aW s.bl m).page)/\V.cell? (Ad eb (eo+m*3+1))=some (I (aW s.bl m).kind)/\V.cell? (Ad eb (eo+m*3+2))=some (I (aW s.bl m).loc))/\∀U,Below V.heap.size V U->0<m->U.cell? ⟨eb,eo+(m-1)*3,none⟩=some (I (aW s.bl (m-1)).page)):=λV m hV hm=>by
  have an:=r.trans (hV.mono r.size);obtain⟨eb,eo,g1,g2,g3⟩:=(hE.below an) ω;have z0:=g3 m hm 0 ω;rw[jt] at z0;refine⟨eb,eo,g1,⟨z0,g3 m hm 1 ω,g3 m hm 2 ω⟩,λU hU h0=>?_⟩;have z1:=g3 (m-1) ω 0 ω;rw[jt] at z1;exact(hU.cell (p:=⟨eb,eo+(m-1)*3,none⟩) g2).trans z1
 have J:Hid (Calls prog 80 #[.slice aa s.bu.length ca] WA λe w'=>e=.returned (I (bf s.bu))/\Below WA.heap.size WA w'):=Fw s.bu _ WA (hA.below r) hfA;have M:bf s.bu=0->Hid (∀V p,Below WA.heap.size WA V->Calls prog 82 #[.slice aa s.bu.length ca,I p] V λe w'=>e=.returned (.tuple #[.agg #[I (bc s.bu p).1.page,I (bc s.bu p).1.aY,I (bc s.bu p).1.gh,.bool (bc s.bu p).1.zero],.bool (bc s.bu p).2])/\Below V.heap.size V w'):=λhc V p hV=>Db _ _ p V (hA.below (r.trans (hV.mono r.size))) hc
 have L:Hid (∀V p,Below WA.heap.size WA V->Calls prog 147 #[.slice a.aS k.aD.length a.cS,I p] V λe w'=>(∃q1 q2 q3 q4 q5,e=.returned (.tuple #[.agg #[I q1,.string q2,.slice q3 q4 q5],.bool (dB k.aD p).isSome]))/\Below V.heap.size V w'):=λV p hV=>(Gi k.aD a.aS a.cS p V (hS.below (r.trans (hV.mono r.size))) hfS.1).mono λe w' ⟨h1,h2⟩=>⟨⟨_,_,_,_,_,h1⟩,h2⟩
 have Pz:=ai ir;have ot:=ai lQ;have eB:=ai r;have aq:s.bl.length<=140737488351232:=hEn;have ao:s.bu.length<=140737488351232:=hfA.2;obtain⟨nf,ae⟩:=ex k.frames.length;obtain⟨ns,Ic⟩:=ex k.slots.length;unfold bj at ot ⊢;rw[<- ae] at HC ot Ju ⊢;rw[<- Ic] at HC ot hns ⊢;obtain⟨lv,ar,es⟩:=s;simp only at HC vt J M L ot aq ao ⊢;clear hA hfA hE hEn hS hfS r kb sb lQ ae Ic;obtain⟨⟨k0,k1,k2⟩,x0,x1,x2⟩:=HC.o WA (aN _ _);unfold nj;simp only;cases lv with
 | false =>
  rw[aH Δ];rcases(ω:¬ar.length=0\/ar.length=0) with h1 | h1
  . have b1:((ar.length:Int)==0)=false:=by grind
    clear vt J M L HC;go_enter func90,ntmps90;go_upto_region 1 with fail;rw[<- ot.o];go_wp2;go_ret;exact⟨by simp[h1],eB.o⟩
  have H1:=ai h1;clear vt J M L HC h1;go_enter func90,ntmps90;go_upto_region 1 with fail;rw[<- ot.o];have h1:=H1.o;go_wp2;go_ret;exact⟨dO (λb=>Ending.returned (.bool b)) Γ,eB.o⟩
 | true =>
  rw[aQ rfl];by_cases hc:bf ar=0
  . have vv:=M hc;rw[hc] at J;rw[dW hc,ju];clear M hc;have sS:Hid (∀i,i<es.length->uX nf ns ar es i=false->qj nf ns ar es es.length=false):=λi hi h=>adp hi h
    have a1:Hid (∀i,qj nf ns ar es (i+1)=(qj nf ns ar es i&&uX nf ns ar es i)):=λ_=>rfl
    obtain⟨ER,W⟩:=ex (qj nf ns ar es es.length);have Y:=ai W;rw[<- W];rw[<- W] at sS;clear W;have Tg:Hid (∀i:Nat,i<255->ua k.aD ar ((i:Int)+1)=false->oo k.aD ar 255=false):=λi hi h=>XG hi h
    have ad:Hid (∀i:Nat,oo k.aD ar (i+1)=(oo k.aD ar i&&ua k.aD ar ((i:Int)+1))):=λ_=>rfl
    obtain⟨SR,T⟩:=ex (oo k.aD ar 255);have Me:=ai T;rw[<- T];rw[<- T] at Tg;clear T;go_enter func90,ntmps90;go_upto_region 1 with fail;rw[<- ot.o];go_upto_region 5 with(go_at_call 80;refine J.o.mono ?_;rintro e w1 ⟨rfl,y⟩;have dz:=ai y;clear y);clear k0 k1 k2 x0 x1 x2 J;go_wp2;go_loopw [5] (λiv wq=>∃i:Nat,i<=es.length/\iv=I (i:Int)/\qj nf ns ar es i=true/\Below WA.heap.size WA wq) (λiv _=>es.length-(intOf iv).toNat)
    case atStart=>exact⟨0,ω,rfl,rfl,dz.o⟩
    case round =>
     obtain⟨i,hi,rfl,ac,ov⟩:=hrel;have N:=ai ac;have EO:=ai ov;obtain⟨⟨k0,k1,k2⟩,x0,x1,x2⟩:=HC.o wr ov;clear ac;by_cases hlt:i<es.length
     . have aw:(i:Int)<(es.length:Int):=by omega
       obtain⟨eb,eo,ah,⟨z0,z1,z2⟩,a6⟩:=vt.o wr i ov hlt;have a9:=ai a6;have Uw:=ai (sS.o i hlt);have X:=ai (a1.o i);have yZ:Hid (uX nf ns ar es i=((bc ar (aW es i).page).2&&(i==0 || decide ((aW es (i-1)).page<(aW es i).page))&&(if (aW es i).kind=1 then decide (0<=(aW es i).loc/\(aW es i).loc<=(nf:Int)-1) else if (aW es i).kind=2 then decide (0<=(aW es i).loc/\(aW es i).loc<=(ns:Int)-1) else false))):=rfl;generalize aW es i=en at z0 z1 z2 yZ;obtain⟨pg,kx,lx⟩:=en;simp only at z0 z1 z2 yZ;have A:=ai (λV hV=>vv.o V pg hV);subst ah;clear a6 sS a1 Y;obtain⟨W1,af⟩:=ex (wr.alloc (.cells #[I pg,I kx,I lx] 174));have y:Below wr.heap.size wr W1:=by grind [Below.refl,Below.alloc]
       have a2:W1.heap[wr.heap.size]?=some (.cells #[I pg,I kx,I lx] 174 (0,0)):=by grind [bG]
       have Tf:=ov.trans (y.mono ov.size);have a4:=ai y;have jo:=ai Tf;have H0:=ai a2;have Fp:=ai af;generalize bc ar pg=F at yZ A;obtain⟨⟨g1,g2,g3,g4⟩,gf⟩:=F;simp only at yZ A;go_upto_region 9 with fail;rw[<- Fp.o];clear af y ov k0 k1 k2 x0 x1 x2 z0 z1 z2;obtain⟨⟨k0,k1,k2⟩,x0,x1,x2⟩:=HC.o W1 Tf;obtain⟨y0,y1,y2⟩:=uo a2;generalize wr.heap.size=xb at H0 y0 y1 y2 ⊢;clear Tf a2;go_upto_region 10 with(go_at_call 82;refine(A.o _ jo.o).mono ?_;rintro e w2 ⟨rfl,O⟩;have iI:=ai O;clear O);have q:Below W1.heap.size W1 (w2.alloc (.cells #[I g1,I g2,I g3,.bool g4] 139)):=iI.o.alloc iI.o.size _;generalize w2.alloc (.cells #[I g1,I g2,I g3,.bool g4] 139)=W3 at q ⊢;have G:=jo.o.trans (q.mono jo.o.size);have vX:=ai G;obtain⟨y0,y1,y2⟩:=uo (aO H0.o q (aM H0.o));obtain⟨⟨k0,k1,k2⟩,x0,x1,x2⟩:=HC.o W3 G;have Z:=ai (a9.o W3 (a4.o.trans (q.mono a4.o.size)));clear q G A a9;by_cases hgo:gf=true/\(i=0\/(aW es (i-1)).page<pg)
       . obtain⟨rfl,ho⟩:=hgo;have Ut:Hid (uX nf ns ar es i=if kx=1 then decide (0<=lx/\lx<=(nf:Int)-1) else if kx=2 then decide (0<=lx/\lx<=(ns:Int)-1) else false):=(show uX nf ns ar es i=if kx=1 then decide (0<=lx/\lx<=(nf:Int)-1) else if kx=2 then decide (0<=lx/\lx<=(ns:Int)-1) else false by
          rw[yZ.o]
          simp_all)
         clear yZ;go_cut [68] (λc wx=>c=.bool false/\Below W3.heap.size W3 wx)
         case first =>
          rcases(show i=0\/(0<i/\(aW es (i-1)).page<pg) by omega) with h0 | ⟨h0,h1⟩
          . subst h0;go_region;go_wp2_with fail;go_meet
            simp[aN,Below.drew]
          have pw:=Z.o h0;have Ww:(i:Int)-1=((i-1:Nat):Int):=by omega
          have h2:¬pg<=(aW es (i-1)).page:=by omega
          go_region;go_wp2_with fail;go_meet
          simp[aN,Below.drew]
         case rest =>
          obtain⟨rfl,a0⟩:=hcut;have Hp:=vX.o.trans (a0.mono vX.o.size);have J0:=ai Hp;obtain⟨⟨k0,k1,k2⟩,x0,x1,x2⟩:=HC.o wc Hp;have t:∀{o:Nat} {u:Value},W3.cell? (Ad xb o)=some u->wc.cell? (Ad xb o)=some u:=λ{o u} h=>(a0.cell (p:=(Ad xb o)) (nu W3 _ h)).trans h
          have u1:=t y1;have u2:=t y2;clear Hp a0 t y0 y1 y2 Z vX;rcases(ω:kx=1\/kx=2\/(¬kx=1/\¬kx=2)) with hk | hk | ⟨hk,al⟩
          . rw[aQ hk] at Ut;subst hk;obtain⟨bv,Q⟩:=ex (decide (0<=lx/\lx<=(nf:Int)-1));have B:=ai (λV=>Pz.o lx 0 ((nf:Int)-1) V);rw[<- Q] at Ut B;clear Q;cases bv with
            | false =>
             have e0:=Uw.o Ut.o;subst e0;go_wp2_with (go_at_call 33;refine(B.o _).mono ?_;rintro e w6 ⟨rfl,rfl⟩);go_ret;exact⟨rfl,eB.o.trans (J0.o.mono eB.o.size)⟩
            | true =>
             have R:Hid (qj nf ns ar es (i+1)=true):=(show qj nf ns ar es (i+1)=true by rw[X.o,N.o,Ut.o];rfl);go_wp2_with (go_at_call 33;refine(B.o _).mono ?_;rintro e w6 ⟨rfl,rfl⟩);go_roundw
             case rel=>grind [Hid.o]
             grind [intOf]
          . rw[aH ω,aQ hk] at Ut;subst hk;obtain⟨bv,Q⟩:=ex (decide (0<=lx/\lx<=(ns:Int)-1));have B:=ai (λV=>Pz.o lx 0 ((ns:Int)-1) V);rw[<- Q] at Ut B;clear Q;cases bv with
            | false =>
             have e0:=Uw.o Ut.o;subst e0;go_wp2_with (go_at_call 33;refine(B.o _).mono ?_;rintro e w6 ⟨rfl,rfl⟩);go_ret;exact⟨rfl,eB.o.trans (J0.o.mono eB.o.size)⟩
            | true =>
             have R:Hid (qj nf ns ar es (i+1)=true):=(show qj nf ns ar es (i+1)=true by rw[X.o,N.o,Ut.o];rfl);go_wp2_with (go_at_call 33;refine(B.o _).mono ?_;rintro e w6 ⟨rfl,rfl⟩);go_roundw
             case rel=>grind [Hid.o]
             grind [intOf]
          rw[aH hk,aH al] at Ut;have b1:(kx==1)=false:=by simp_all
          have b2:(kx==2)=false:=by simp_all
          have e0:=Uw.o Ut.o;subst e0;go_wp2;go_ret;exact⟨rfl,eB.o.trans (J0.o.mono eB.o.size)⟩
       have a7:uX nf ns ar es i=false:=by
        rw[yZ.o];cases gf with
        | false=>simp
        | true =>
         have h1:¬i=0:=λe=>hgo ⟨rfl,.inl e⟩
         have h2:¬(aW es (i-1)).page<pg:=λe=>hgo ⟨rfl,.inr e⟩
         simp[h1,h2]
       have e0:=Uw.o a7;subst e0;clear yZ a7 Uw X N;cases gf with
       | false =>
        go_region;go_wp2;go_ret;exact⟨rfl,(eB.o.trans (vX.o.mono eB.o.size)).drew⟩
       | true =>
        have h0:0<i:=by
         by_cases e:i=0
         . simp_all
         omega
        have h2:pg<=(aW es (i-1)).page:=by
         simp_all
        have pw:=Z.o h0;have Ww:(i:Int)-1=((i-1:Nat):Int):=by omega
        have au:((i:Int)-1).toNat=i-1:=by omega
        clear hgo;go_region;go_wp2;go_ret;exact⟨rfl,(eB.o.trans (vX.o.mono eB.o.size)).drew⟩
     obtain rfl:i=es.length:=by omega
     have aj:ER=true:=Y.o.trans N.o;subst aj;clear Y N sS a1 vt Pz;go_wp2;go_loopw [9] (λiv wq=>∃n:Nat,n<=255/\iv=I ((n:Int)+1)/\oo k.aD ar n=true/\Below WA.heap.size WA wq) (λiv _=>256-(intOf iv).toNat)
     case atStart=>exact⟨0,ω,rfl,rfl,EO.o⟩
     case round =>
      obtain⟨n,hn,rfl,ag,hb⟩:=hrel;have HS:=ai ag;have K:=ai hb;obtain⟨⟨k0,k1,k2⟩,x0,x1,x2⟩:=HC.o wr hb;clear ag hb;by_cases hlt:n<255
      . have av:(n:Int)+1<=255:=by omega
        have A:=ai (vv.o wr ((n:Int)+1) K.o);have a3:=ai (λV hV=>L.o V ((n:Int)+1) hV);have HX:=ai (Tg.o n hlt);have HY:=ai (ad.o n);have HD:Hid (ua k.aD ar ((n:Int)+1)=!((bc ar ((n:Int)+1)).2&&(!(bc ar ((n:Int)+1)).1.zero&&!(dB k.aD ((n:Int)+1)).isSome))):=rfl;obtain⟨H,hH⟩:=ex ((dB k.aD ((n:Int)+1)).isSome);generalize bc ar ((n:Int)+1)=F at A HD;rw[<- hH] at a3 HD;obtain⟨⟨g1,g2,g3,g4⟩,gf⟩:=F;simp only at A HD;clear hH vv L Tg ad Me;go_upto_region 24 with(go_at_call 82;refine A.o.mono ?_;rintro e w2 ⟨rfl,O⟩;have iI:=ai O;clear O);have q:=(K.o.trans (iI.o.mono K.o.size)).alloc (K.o.trans (iI.o.mono K.o.size)).size (.cells #[I g1,I g2,I g3,.bool g4] 139);have ab:=bG w2 #[I g1,I g2,I g3,.bool g4] 139;obtain⟨gb,a5⟩:=ex w2.heap.size;generalize w2.alloc (.cells #[I g1,I g2,I g3,.bool g4] 139)=W3 at q ab ⊢;rw[<- a5] at ab ⊢;have kE:=ai q;have a8:=ai ab;obtain⟨⟨k0,k1,k2⟩,x0,x1,x2⟩:=HC.o W3 q;clear a5 q ab;go_upto_region 25 with(go_at_call 147;refine(a3.o _ kE.o).mono ?_;rintro e w4 ⟨⟨q1,q2,q3,q4,q5,rfl⟩,G⟩;have vX:=ai (kE.o.trans (G.mono kE.o.size));have am:=ai (aO a8.o G (aM a8.o));clear G);have J0:=ai (vX.o.alloc vX.o.size (.cells #[I q1,.string q2,.slice q3 q4 q5] 145));have g5:=aA (v:=.bool g4) (bB am.o (.cells #[I q1,.string q2,.slice q3 q4 q5] 145)) 3 rfl;generalize w4.alloc (.cells #[I q1,.string q2,.slice q3 q4 q5] 145)=W5 at J0 g5 ⊢;clear k0 k1 k2 x0 x1 x2;by_cases hbad:gf=true/\g4=false/\H=false
        . obtain⟨rfl,rfl,rfl⟩:=hbad;have e0:SR=false:=HX.o (by rw[HD.o];rfl);subst e0;go_wp2;go_ret;exact⟨rfl,eB.o.trans (J0.o.mono eB.o.size)⟩
        have R:Hid (oo k.aD ar (n+1)=true):=(show oo k.aD ar (n+1)=true by
         rw[HY.o,HS.o,HD.o];revert hbad;cases gf <;> cases g4 <;> cases H <;> simp)
        cases gf with
        | false =>
         go_wp2;go_roundw
         case rel=>exact⟨n+1,ω,by go_num,R.o,J0.o⟩
         case measure=>simp[intOf];omega
        | true =>
         cases g4 with
         | true =>
          go_wp2;go_roundw
          case rel=>exact⟨n+1,ω,by go_num,R.o,J0.o⟩
          case measure=>simp[intOf];omega
         | false =>
          cases H with
          | true =>
           go_wp2;go_roundw
           case rel=>exact⟨n+1,ω,by go_num,R.o,J0.o⟩
           case measure=>simp[intOf];omega
          | false=>exact absurd ⟨rfl,rfl,rfl⟩ hbad
      obtain rfl:n=255:=by omega
      have e1:SR=true:=Me.o.trans HS.o;subst e1;go_wp2;go_ret;exact⟨rfl,eB.o.trans (K.o.mono eB.o.size)⟩
  have cb:(bf ar != 0)=true:=by grind
  rw[eH hc,qK];clear M vt L;go_enter func90,ntmps90;go_upto_region 1 with fail;rw[<- ot.o];go_wp2_with (go_at_call 80;refine J.o.mono ?_;rintro e w1 ⟨rfl,y⟩;have dz:=ai y;clear y);go_ret;exact⟨rfl,eB.o.trans (dz.o.mono eB.o.size)⟩
end Go.Proofs.YtlgoihmkgaaemaaGreat
