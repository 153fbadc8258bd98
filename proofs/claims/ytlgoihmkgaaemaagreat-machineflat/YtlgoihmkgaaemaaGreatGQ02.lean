import Derived.Test.YtlgoihmkgaaemaaGreatGQ01
set_option maxHeartbeats 20000000
set_option linter.unusedVariables false
set_option maxRecDepth 100000
set_option linter.unusedSimpArgs false
namespace Go.Proofs.YtlgoihmkgaaemaaGreat
open Go.RowKit Tryz
def wU (s:pV):Array Value:=#[I s.page,I s.aD,.string s.data,.bool s.wr,.bool s.ex]
def vR (l:List pV) (a:Int):pV:=(vT l a).getD Lu
theorem Gv:∀(l:List pV) (a:Int),(∀j,j<l.length->uJ (cQ l j) a=false)->vT l a=none
 | [],_,_=>rfl
 | s::r,a,h=>by
  have h0:uJ s a=false:=h 0 ξ;unfold vT;rw[h0,aB ξ];exact Gv r a (λj hj=>h (j+1) Γ)
theorem Gu:∀(l:List pV) (a:Int) (k:Nat),k<l.length->(∀j,j<k->uJ (cQ l j) a=false)->uJ (cQ l k) a=true->vT l a=some (cQ l k)
 | s::r,a,0,_,_,h=>by
  have h0:uJ s a=true:=h;unfold vT;rw[h0,aC rfl];rfl
 | s::r,a,k+1,hk,hj,h=>by
  have h0:uJ s a=false:=hj 0 ω;unfold vT;rw[h0,aB ξ];exact Gu r a k Γ (λj h=>hj (j+1) ω) h
variable {l:List pV} {s:ByteArray} {j:Nat} (i:sO)
theorem UY (h:l.all lM=true) (k:Nat) (hk:k<l.length):0<=(cQ l k).page/\1<=(cQ l k).aD/\(cQ l k).page+(cQ l k).aD<=255/\((cQ l k).data.size:Int)<=(cQ l k).aD*16 :=
 jY (N9 lM Lu l k hk h)
theorem ad2 (h:l.all lM=true) (a:Int) (ha:a<0):vT l a=none :=
 Gv l a (λj hj=>by
  have:=UY h j hj;exact fE ω)
theorem Qv {a b:pV} {x y:Bool} (h:a=b) (g:x=y):Ending.returned (.tuple #[.agg (wU a),.bool x])=.returned (.tuple #[.agg (wU b),.bool y]):=by rw[h,g]
theorem uS (l:List pV) (ao:Option Addr) (cap:Nat) (a:Int) (w:World) (h:dG xN w ao l) (hn:bD l.length) (hr:l.all lM=true) (ha:cH a) :
  Calls prog 201 #[.slice ao l.length cap,I a] w λe w'=>e=.returned (.tuple #[.agg (wU (vR l a)),.bool (eH l a)])/\Below w.heap.size w w':=by
 unfold bD at hn;unfold cH at ha;have H:=aq h;have F:=aq hr;clear h hr;by_cases h0:a<0
 . have HN:=aq (ad2 F.o a h0);have HZ:=aq ((aN w.heap.size w).alloc (aK _) (.cells #[I 0,I 0,.string ⟨#[]⟩,.bool false,.bool false] 166));go_enter func201,ntmps201;go_wp2;exact b9 (v:=.tuple #[.agg #[I 0,I 0,.string ⟨#[]⟩,.bool false,.bool false],.bool false]) (by simp[results,results201,go_sem]) rfl ⟨Qv (a:=Lu) (x:=false) (by grind [vR,Hid.o]) (by grind [eH,Hid.o]),HZ.o⟩
 have A:Below w.heap.size w (w.alloc (.cells #[I 0,I 0,.string ⟨#[]⟩,.bool false,.bool false] 166)):=(aN _ _).alloc (aK _) _;have HZ:=aq A;clear A;go_enter func201,ntmps201;go_wp2;go_loopw [16] (λi wr=>∃k:Nat,k<=l.length/\i=I k/\(∀j,j<k->uJ (cQ l j) a=false)/\Below (w.heap.size+1) (w.alloc (.cells #[I 0,I 0,.string ⟨#[]⟩,.bool false,.bool false] 166)) wr) (λi _=>l.length-(intOf i).toNat)
 case atStart=>grind [Below.refl]
 case round =>
  obtain⟨k,hk,rfl,B,hb⟩:=hrel;have HN:=aq B;have HB:=aq hb;have zE:Hid (Below w.heap.size w wr):=HZ.o.trans (hb.mono (qI _));have M:w.heap.size+1<=wr.heap.size:=by have:=hb.size;simpa using this
  have HR:=aq (aU (bH w #[I 0,I 0,.string ⟨#[]⟩,.bool false,.bool false] 166) hb (T3 _));clear B hb;by_cases hlt:k<l.length
  . obtain⟨b,off,J,K,hl⟩:=H.o ω;subst J;obtain⟨c0,c1,c2,c3,c4⟩:=yB zE.out K hl k hlt;obtain⟨g1,g2,g3,g4⟩:=UY F.o k hlt;obtain⟨s,hs⟩:=ex (cQ l k);rw[<- hs] at c0 c1 c2 c3 c4 g1 g2 g3 g4;have HS:=aq hs;clear hs hl;obtain⟨p,n,d,x,y⟩:=s;simp only at c0 c1 c2 c3 c4 g1 g2 g3 g4;have Xv:(k:Int)<(l.length:Int):=by omega
    clear g4;by_cases d1:p<=a/16
    . by_cases d2:a/16<p+n
      . have q:Hid (uJ (cQ l k) a=true):=by show _=_;rw[<- HS.o];exact fD (ω:p*16<=a/\a<(p+n)*16)
        have t0:=aA (bu HR.o (.cells #[I p,I n,.string d,.bool x,.bool y] 166)) 0 rfl;have t1:=aA (bu HR.o (.cells #[I p,I n,.string d,.bool x,.bool y] 166)) 1 rfl;have t2:=aA (bu HR.o (.cells #[I p,I n,.string d,.bool x,.bool y] 166)) 2 rfl;have t3:=aA (bu HR.o (.cells #[I p,I n,.string d,.bool x,.bool y] 166)) 3 rfl;have t4:=aA (bu HR.o (.cells #[I p,I n,.string d,.bool x,.bool y] 166)) 4 rfl;have u0:=bG (bu HR.o (.cells #[I p,I n,.string d,.bool x,.bool y] 166));have L:=aq (zE.out.alloc zE.out.size (.cells #[I p,I n,.string d,.bool x,.bool y] 166));go_wp2;exact b9 (v:=.tuple #[.agg #[I p,I n,.string d,.bool x,.bool y],.bool true]) (by simp[results,results201,go_sem,t0,t1,t2,t3,t4]) rfl ⟨Qv (a:=⟨p,n,d,x,y⟩) (x:=true) (by unfold vR;rw[Gu l a k hlt HN.o q.out];exact HS.o) (by unfold eH;rw[Gu l a k hlt HN.o q.out];rfl),(((((L.o.setCell (aK _) _).setCell (aK _) _).setCell (aK _) _).setCell (aK _) _).setCell (aK _) _)⟩
      have Rk:Hid (uJ (cQ l k) a=false):=by show _=_;rw[<- HS.o];exact fE (show ¬(p*16<=a/\a<(p+n)*16) by omega)
      go_wp2;go_roundw
      case rel=>exact⟨k+1,ω,by go_num,λj hj=>if e:j=k then by rw[e];exact Rk.out else HN.o j ω,HB.o.alloc ω _⟩
      case measure=>simp[intOf];omega
    have Rk:Hid (uJ (cQ l k) a=false):=by show _=_;rw[<- HS.o];exact fE (show ¬(p*16<=a/\a<(p+n)*16) by omega)
    go_wp2;go_roundw
    case rel=>exact⟨k+1,ω,by go_num,λj hj=>if e:j=k then by rw[e];exact Rk.out else HN.o j ω,HB.o.alloc ω _⟩
    case measure=>simp[intOf];omega
  obtain rfl:k=l.length:=by omega
  have G:=aq (Gv l a HN.o);have t0:=aA HR.o 0 rfl;have t1:=aA HR.o 1 rfl;have t2:=aA HR.o 2 rfl;have t3:=aA HR.o 3 rfl;have t4:=aA HR.o 4 rfl;have u0:=bG HR.o;go_wp2;exact b9 (v:=.tuple #[.agg #[I 0,I 0,.string ⟨#[]⟩,.bool false,.bool false],.bool false]) (by simp[results,results201,go_sem,t0,t1,t2,t3,t4]) rfl ⟨Qv (a:=Lu) (x:=false) (by unfold vR;rw[G.o];rfl) (by unfold eH;rw[G.o];rfl),(((((zE.out.setCell (aK _) _).setCell (aK _) _).setCell (aK _) _).setCell (aK _) _).setCell (aK _) _)⟩
open Go.RowKit
theorem xw (h:l.all lM=true) (a:Int) (hp:eH l a=true):0<=a/\a<4080:=by
 induction l with
 | nil=>cases hp
 | cons s r ih =>
  grind [lM,eH,vT,uJ]
theorem Rn {a:Int} (h:∀n:Nat,n<8->eH l (a+n)=true):wV l a=true:=by
 have e0:=h 0 ω;have e1:=h 1 ω;have e2:=h 2 ω;have e3:=h 3 ω;have e4:=h 4 ω;have e5:=h 5 ω;have e6:=h 6 ω
 grind [wV]
theorem UT {a:Int} (h:wV l a=true) (n:Nat) (hn:n<8):eH l (a+n)=true:=by
 grind [wV]
theorem UR {a:Int} (n:Nat) (hn:n<8) (h:eH l (a+n)=false):wV l a=false:=by
 grind [UT]
theorem Rp (k n:Nat) (h:mS i k=false) (hk:k<=n):mS i n=false:=by
 induction n with
 | zero=>grind
 | succ n ih =>
  grind [mS]
theorem akf (k n:Nat) (h:mS i n=true) (hk:k<n):tK i k=true:=by
 cases e:tK i k
 . have:mS i (k+1)=false:=by grind [mS]
   grind [Rp]
 rfl
theorem ake (k:Nat) (hk:k<i.lV.length) (h:tK i k=false):mS i i.lV.length=false :=
 Rp i (k+1) _ (by grind [mS]) hk
theorem Qt (a:II) (w:World) (h:l9 w a i) (hf:BH i) (hr:i.fA.all lM=true):Calls prog 164 #[.agg (gI a i)] w λe w'=>e=.returned (.bool (i.syms.all (λy=>eH i.fA y.pos)))/\Below w.heap.size w w':=by
 obtain⟨an,cn,ag,cg,ay,cy,ar,cr⟩:=a;obtain⟨nm,ns,gs,ys,rs,en⟩:=i;obtain⟨h1,h2,h3,h4⟩:=h;obtain⟨f1,f2,f3,f4,f5,f6,f7,f8,f9,G⟩:=hf;simp only at h1 h2 h3 h4 f1 f2 f3 f4 f5 f6 f7 f8 f9 G;have F4:=aq f4;unfold bD at f2 f4 f6 f8;simp only[gI];have H2:=aq h2;have H3:=aq h3;have F7:=aq f7;have HG:=aq hr;clear h1 h2 h3 h4 f3 f5 f7 f9 G hr;have F:=aq (bH w #[.string nm,.slice an ns.length cn,.slice ag gs.length cg,.slice ay ys.length cy,.slice ar rs.length cr,I en] 56);have fU:=aq ((aN w.heap.size w).alloc (aK _) (.cells #[.string nm,.slice an ns.length cn,.slice ag gs.length cg,.slice ay ys.length cy,.slice ar rs.length cr,I en] 56));obtain⟨X,hX⟩:∃X:Array Value,X=#[.string nm,.slice an ns.length cn,.slice ag gs.length cg,.slice ay ys.length cy,.slice ar rs.length cr,I en]:=⟨_,rfl⟩;have HX:=aq hX;rw[<- hX] at F fU;clear hX;go_enter func164,ntmps164;go_wp2;rw[<- HX.o];go_loopw [10] (λi wr=>∃k:Nat,k<=ys.length/\i=I k/\(∀j,j<k->eH gs (nu ys j).pos=true)/\wr.heap[w.heap.size]?=some (.cells X 56 (0,0))/\Below w.heap.size w wr) (λi _=>ys.length-(intOf i).toNat)
 case atStart=>exact⟨0,ω,rfl,λj h=>ω,F.o,fU.o⟩
 case round =>
  obtain⟨k,hk,rfl,A,oZ,hb⟩:=hrel;have HA:=aq A;have BX:=aq oZ;have HB:=aq hb;have R:=aA oZ 0 (by rw[HX.o];rfl);have O:=aA oZ 1 (by rw[HX.o];rfl);have L:=aA oZ 2 (by rw[HX.o];rfl);have Q:=aA oZ 3 (by rw[HX.o];rfl);have T:=aA oZ 4 (by rw[HX.o];rfl);have M:=aA oZ 5 (by rw[HX.o];rfl);clear A oZ;by_cases hlt:k<ys.length
  . obtain⟨b,off,J,K,hl⟩:=H3.o ω;have Xv:(k:Int)<(ys.length:Int):=by omega
    obtain⟨c0,c1⟩:=Qy hb K hl k hlt;have fs:=(F7.o k hlt).2;obtain⟨y,hx⟩:=ex (nu ys k);rw[<- hx] at c0 c1 fs;have B:=aq hx;clear hx hb hl;obtain⟨x,xp⟩:=y;simp only at c0 c1 fs;subst J;have cD:=aq (HB.o.alloc HB.o.size (.cells #[.string x,I xp] 315));have SQ:=aq (bu BX.o (.cells #[.string x,I xp] 315));have N:=aA SQ.o 2 (by rw[HX.o];rfl);cases hc:eH gs xp
    . have HR:=aq (ye (λy=>eH gs y.pos) U5 ys k hlt (by show eH gs (nu ys k).pos=false;rw[<- B.o];exact hc));go_wp2_with (go_at_call 201;refine(uS gs ag cg xp _ (dG.below (lie:=xN) (λhb hlt h=>yB hb hlt h) H2.o cD.o) F4.o HG.o fs).mono ?_;rintro e w2 ⟨rfl,q⟩;rw[hc];generalize vR gs xp=sg;obtain⟨sp,sn,sd,sx,sy⟩:=sg;simp only[wU];have iJ:=aq (cD.o.trans (q.mono cD.o.size));clear q);go_ret;exact⟨gX HR.o.symm,iJ.o.alloc iJ.o.size _⟩
    go_wp2_with (go_at_call 201;refine(uS gs ag cg xp _ (dG.below (lie:=xN) (λhb hlt h=>yB hb hlt h) H2.o cD.o) F4.o HG.o fs).mono ?_;rintro e w2 ⟨rfl,q⟩;rw[hc];generalize vR gs xp=sg;obtain⟨sp,sn,sd,sx,sy⟩:=sg;simp only[wU];have iJ:=aq (cD.o.trans (q.mono cD.o.size));have Qb:=aq (aU SQ.o q (aQ SQ.o));clear q)
    go_roundw
    case rel=>exact⟨k+1,ω,by go_num,λj h=>if e:j=k then by rw[e,<- B.o];exact hc else HA.o j ω,bu Qb.o _,iJ.o.alloc iJ.o.size _⟩
    case measure=>simp[intOf];omega
  obtain rfl:k=ys.length:=by omega
  clear hb;have HR:=aq (xM (λy=>eH gs y.pos) U5 ys (λj hj=>HA.o j hj));go_wp2;go_ret;exact⟨gX HR.o.symm,HB.o⟩
theorem N4 (a:II) (w:World) (h:l9 w a i) (hf:BH i) (hr:i.fA.all lM=true):Calls prog 166 #[.agg (gI a i)] w λe w'=>e=.returned (.bool (Fy i))/\Below w.heap.size w w':=by
 obtain⟨an,cn,ag,cg,ay,cy,ar,cr⟩:=a;obtain⟨nm,ns,gs,ys,rs,en⟩:=i;obtain⟨h1,h2,h3,h4⟩:=h;obtain⟨f1,f2,f3,f4,f5,f6,f7,f8,f9,q⟩:=hf;simp only at h1 h2 h3 h4 f1 f2 f3 f4 f5 f6 f7 f8 f9 q;have F4:=aq f4;unfold bD at f2 f4 f6 f8;simp only[gI];have H2:=aq h2;have F:=aq q;have HG:=aq hr;clear h1 h2 h3 h4 f3 f5 f7 f9 q hr;have A:=aq (bH w #[.string nm,.slice an ns.length cn,.slice ag gs.length cg,.slice ay ys.length cy,.slice ar rs.length cr,I en] 56);have fU:=aq ((aN w.heap.size w).alloc (aK _) (.cells #[.string nm,.slice an ns.length cn,.slice ag gs.length cg,.slice ay ys.length cy,.slice ar rs.length cr,I en] 56));obtain⟨X,hX⟩:∃X:Array Value,X=#[.string nm,.slice an ns.length cn,.slice ag gs.length cg,.slice ay ys.length cy,.slice ar rs.length cr,I en]:=⟨_,rfl⟩;have HX:=aq hX;rw[<- hX] at A fU;clear hX;have G:=F.o;unfold cH at G;have HE:Hid (Fy ⟨nm,ns,gs,ys,rs,en⟩=(eH gs en&&((vR gs en).ex&&decide (en%8=0)))):=by
  show _=_
  grind [Fy,eH,vR]
 rw[HE.o];have b:eH gs en=true->0<=en:=λh=>(xw HG.o en h).1
 obtain⟨sg,B⟩:=ex (vR gs en);obtain⟨pb,Rj⟩:=ex (eH gs en);have HS:=aq B;have HP:=aq Rj;rw[<- Rj] at b;rw[<- B,<- Rj];obtain⟨sp,sn,sd,sx,sy⟩:=sg;simp only;clear HE B Rj;go_enter func166,ntmps166;go_wp2_with fail;rw[<- HX.o];refine(uS gs ag cg en _ (dG.below (lie:=xN) (λhb hlt h=>yB hb hlt h) H2.o fU.o) F4.o HG.o F.o).mono ?_;rintro e w2 ⟨rfl,y⟩;have iJ:=aq (fU.o.trans (y.mono fU.o.size));have Qb:=aq (aU A.o y (aQ A.o));have K:=aQ Qb.o;have J:=aA Qb.o 5 (by rw[HX.o];rfl);clear y;rw[<- HS.o,<- HP.o];simp only[wU];rcases(show pb=false\/(pb=true/\sy=false)\/(pb=true/\sy=true/\en%8=0)\/(pb=true/\sy=true/\¬en%8=0) by cases pb <;> cases sy <;> simp <;> omega) with rfl | ⟨rfl,rfl⟩ | ⟨rfl,rfl,d⟩ | ⟨rfl,rfl,d⟩
 all_goals
  try have hp:=b rfl
  clear b;go_wp2;go_ret;exact⟨by first | rfl | exact gX Γ,iJ.o.alloc iJ.o.size _⟩
theorem Qw (a:II) (w:World) (h:l9 w a i) (hf:BH i) (hr:i.fA.all lM=true):Calls prog 165 #[.agg (gI a i)] w λe w'=>e=.returned (.bool (mS i i.lV.length))/\Below w.heap.size w w':=by
 obtain⟨an,cn,ag,cg,ay,cy,ar,cr⟩:=a;obtain⟨nm,ns,gs,ys,rs,en⟩:=i;obtain⟨h1,h2,h3,h4⟩:=h;obtain⟨f1,f2,f3,f4,f5,f6,f7,f8,f9,a2⟩:=hf;simp only at h1 h2 h3 h4 f1 f2 f3 f4 f5 f6 f7 f8 f9 a2;have F4:=aq f4;unfold bD at f2 f4 f6 f8;simp only[gI];have H2:=aq h2;have H4:=aq h4;have F9:=aq f9;have HG:=aq hr;clear h1 h2 h3 h4 f3 f5 f7 f9 a2 hr;have a0:=aq (bH w #[.string nm,.slice an ns.length cn,.slice ag gs.length cg,.slice ay ys.length cy,.slice ar rs.length cr,I en] 56);have fU:=aq ((aN w.heap.size w).alloc (aK _) (.cells #[.string nm,.slice an ns.length cn,.slice ag gs.length cg,.slice ay ys.length cy,.slice ar rs.length cr,I en] 56));obtain⟨X,hX⟩:∃X:Array Value,X=#[.string nm,.slice an ns.length cn,.slice ag gs.length cg,.slice ay ys.length cy,.slice ar rs.length cr,I en]:=⟨_,rfl⟩;have HX:=aq hX;rw[<- hX] at a0 fU;clear hX;have a1:∀k,k<rs.length->tK ⟨nm,ns,gs,ys,rs,en⟩ k=((k==0 || decide ((ji rs (k-1)).pos+8<=(ji rs k).pos))&&wV gs (ji rs k).pos):=λk hk=>rfl
 have O:=aq a1;clear a1;obtain⟨IW,hI⟩:∃IW:sO,IW=⟨nm,ns,gs,ys,rs,en⟩:=⟨_,rfl⟩;have a9:rs.length=IW.lV.length:=by rw[hI]
 have sk:Hid (∀k,k<rs.length->tK IW k=false->mS IW rs.length=false):=λk hk h=>by grind [ake]
 rw[<- hI] at O;rw[<- hI];clear hI a9;go_enter func165,ntmps165;go_wp2;rw[<- HX.o];go_loopw [11] (λi wr=>∃k:Nat,k<=rs.length/\i=I k/\mS IW k=true/\wr.heap[w.heap.size]?=some (.cells X 56 (0,0))/\Below w.heap.size w wr) (λi _=>rs.length-(intOf i).toNat)
 case atStart=>exact⟨0,ω,rfl,rfl,a0.o,fU.o⟩
 case round =>
  obtain⟨k,hk,rfl,B,oZ,hb⟩:=hrel;have HA:=aq B;have BX:=aq oZ;have HB:=aq hb;have ae:=aA oZ 0 (by rw[HX.o];rfl);have ah:=aA oZ 1 (by rw[HX.o];rfl);have ab:=aA oZ 2 (by rw[HX.o];rfl);have aj:=aA oZ 3 (by rw[HX.o];rfl);have al:=aA oZ 4 (by rw[HX.o];rfl);have ac:=aA oZ 5 (by rw[HX.o];rfl);clear B oZ;by_cases hlt:k<rs.length
  . obtain⟨b,off,a6,L,hl⟩:=H4.o ω;have Xv:(k:Int)<(rs.length:Int):=by omega
    obtain⟨c0,c1,c2⟩:=U9 hb L hl k hlt;have fs:=(F9.o k hlt).1;have HK:=aq (O.o k hlt);have Q:Hid (1<=k->wr.cell? ⟨b,off+(k-1)*3,none⟩=some (I (ji rs (k-1)).pos)/\0<=(ji rs (k-1)).pos/\(ji rs (k-1)).pos<4080):=λh=>by
     refine⟨(U9 hb L hl (k-1) ω).1,?_⟩;have:=akf IW (k-1) k HA.o ω;rw[O.o (k-1) ω,cK] at this;have:=UT this.2 0 ω;exact xw HG.o _ Γ
    generalize ji rs k=y at c0 c1 c2 fs HK;generalize (ji rs (k-1)).pos=q at Q HK;clear hb hl;obtain⟨xp,xn,xa⟩:=y;simp only at c0 c1 c2 fs HK;have a4:=fs;unfold cH at a4;subst a6;have a5:b<wr.heap.size:=dV L HB.o.size;have cD:=aq (HB.o.alloc HB.o.size (.cells #[I xp,.string xn,I xa] 278));have SQ:=aq (bu BX.o (.cells #[I xp,.string xn,I xa] 278));have Iz:=aq (bH wr #[I xp,.string xn,I xa] 278);obtain⟨W,hW⟩:=ex (wr.alloc (.cells #[I xp,.string xn,I xa] 278));have HW:=aq hW;rw[<- hW] at cD SQ Iz;have Fs:=kf W;have M:=@fJ W;have Z:=aQ SQ.o;have aa:=aQ Iz.o;have a7:b<W.heap.size:=dV L cD.o.size;have k0:∀x:ed W.heap.size W,x.world.cell? (Ad wr.heap.size 0)=some (I xp):=λx=>by simp_all
    have k1:∀x:ed W.heap.size W,x.world.cell? (Ad w.heap.size 4)=some (.slice (some (Ad b off)) rs.length cr):=λx=>by rw[M x _ _ Z];exact aA SQ.o 4 (by rw[HX.o];rfl)
    have ad:Hid (∀o,W.cell? (Ad b o)=wr.cell? (Ad b o)):=λo=>by rw[HW.o];exact(aN wr.heap.size wr).alloc (aK _) _ |>.cell (p:=(Ad b o)) a5
    clear hW Z aa;by_cases ZL:k=0
    . subst ZL;simp only[NC,lB] at c0 c1 c2;have Qk:Hid (tK IW 0=wV gs xp):=HK.o.trans ξ;clear Q M;go_wp2;rw[<- HW.o];refine eT ρ κ ?_
      repeat (first | go_big_quiet_step (fail) | quiet_step (fail))
      refine mM ?_;intro _ J;obtain⟨x,F⟩:=J;subst F;go_wp2;have jc:=aq (cD.o.trans (x.keeps.mono cD.o.size));have T:=aq (aU SQ.o x.keeps (aQ SQ.o));have U:=aq (aU Iz.o x.keeps (aQ Iz.o));go_loopw [31] (λi wq=>∃n:Nat,n<=8/\i=I n/\(∀m:Nat,m<n->eH gs (xp+m)=true)/\wq.heap[w.heap.size]?=some (.cells X 56 (0,0))/\wq.heap[wr.heap.size]?=some (.cells #[I xp,.string xn,I xa] 278 (0,0))/\Below w.heap.size w wq) (λi _=>8-(intOf i).toNat)
      case atStart=>exact⟨0,ω,rfl,λj h=>ω,T.o,U.o,jc.o⟩
      case round =>
       rename_i wq _ _
       obtain⟨n,hn,rfl,B,oZ,G,hb⟩:=hrel;have qO:=aq B;have Qb:=aq oZ;have TE:=aq G;have iJ:=aq hb;have q2:=aA oZ 2 (by rw[HX.o];rfl);have q0:=aA G 0 rfl;clear B oZ G hb;by_cases hn8:n<8
       . have a3:(n:Int)<8:=by omega
         have K:1<=n->0<=xp/\xp<4080:=λh=>xw HG.o xp (by have:=qO.o 0 ω;simp_all)
         have Lp:cH (xp+n):=by unfold cH;omega
         have Y:=Lp;unfold cH at Y;clear K;cases hc:eH gs (xp+n)
         . have HR:=aq (sk.o 0 hlt (Qk.o.trans (UR n hn8 hc)));go_wp2_with (go_at_call 201;refine(uS gs ag cg (xp+n) _ (dG.below (lie:=xN) (λhb hlt h=>yB hb hlt h) H2.o iJ.o) F4.o HG.o Lp).mono ?_;rintro e w3 ⟨rfl,A⟩;rw[hc];generalize vR gs (xp+n)=sg;obtain⟨sp,sn,sd,sx,sy⟩:=sg;simp only[wU];have ou:=aq (iJ.o.trans (A.mono iJ.o.size));clear A);go_ret;exact⟨gX HR.o.symm,ou.o.alloc ou.o.size _⟩
         go_wp2_with (go_at_call 201;refine(uS gs ag cg (xp+n) _ (dG.below (lie:=xN) (λhb hlt h=>yB hb hlt h) H2.o iJ.o) F4.o HG.o Lp).mono ?_;rintro e w3 ⟨rfl,A⟩;rw[hc];generalize vR gs (xp+n)=sg;obtain⟨sp,sn,sd,sx,sy⟩:=sg;simp only[wU];have ou:=aq (iJ.o.trans (A.mono iJ.o.size));have R:=aq (aU Qb.o A (aQ Qb.o));have UC:=aq (aU TE.o A (aQ TE.o));clear A)
         go_roundw
         case rel=>exact⟨n+1,ω,by go_num,λj h=>if e:j=n then by simp_all else qO.o j ω,bu R.o _,bu UC.o _,ou.o.alloc ou.o.size _⟩
         case measure=>simp[intOf];omega
       obtain rfl:n=8:=by omega
       have N:Hid (mS IW (0+1)=true):=by show(mS IW 0&&tK IW 0)=true;rw[HA.o,Qk.o,Rn (λm hm=>qO.o m hm)];rfl
       go_wp2;go_roundw
       case rel=>exact⟨0+1,ω,by go_num,N.o,Qb.o,iJ.o⟩
       case measure=>simp[intOf];omega
    have a8:1<=k:=by omega
    obtain⟨p0,p1,p2⟩:=Q.o a8;have k2:∀x:ed W.heap.size W,x.world.cell? ⟨b,off+(k-1)*3,none⟩=some (I q):=λx=>by grind [Hid.o]
    have af:0<k:=by omega
    clear M a7 p0;by_cases d:xp<q+8
    . have Qk:Hid (tK IW k=false):=by grind [Hid.o]
      go_wp2;rw[<- HW.o];refine eT ρ κ ?_
      repeat (first | go_big_quiet_step (fail) | quiet_step (fail))
      refine mM ?_;intro _ J;obtain⟨x,F⟩:=J;subst F;go_wp2;go_ret;exact⟨gX (sk.o k hlt Qk.o).symm,cD.o.trans (x.keeps.mono cD.o.size)⟩
    have Qk:Hid (tK IW k=wV gs xp):=by simp_all
    go_wp2;rw[<- HW.o];refine eT ρ κ ?_
    repeat (first | go_big_quiet_step (fail) | quiet_step (fail))
    refine mM ?_;intro _ J;obtain⟨x,F⟩:=J;subst F;go_wp2;have jc:=aq (cD.o.trans (x.keeps.mono cD.o.size));have T:=aq (aU SQ.o x.keeps (aQ SQ.o));have U:=aq (aU Iz.o x.keeps (aQ Iz.o));go_loopw [31] (λi wq=>∃n:Nat,n<=8/\i=I n/\(∀m:Nat,m<n->eH gs (xp+m)=true)/\wq.heap[w.heap.size]?=some (.cells X 56 (0,0))/\wq.heap[wr.heap.size]?=some (.cells #[I xp,.string xn,I xa] 278 (0,0))/\Below w.heap.size w wq) (λi _=>8-(intOf i).toNat)
    case atStart=>exact⟨0,ω,rfl,λj h=>ω,T.o,U.o,jc.o⟩
    case round =>
     rename_i wq _ _
     obtain⟨n,hn,rfl,B,oZ,G,hb⟩:=hrel;have qO:=aq B;have Qb:=aq oZ;have TE:=aq G;have iJ:=aq hb;have q2:=aA oZ 2 (by rw[HX.o];rfl);have q0:=aA G 0 rfl;clear B oZ G hb;by_cases hn8:n<8
     . have a3:(n:Int)<8:=by omega
       have K:1<=n->0<=xp/\xp<4080:=λh=>xw HG.o xp (by have:=qO.o 0 ω;simp_all)
       have Lp:cH (xp+n):=by unfold cH;omega
       have Y:=Lp;unfold cH at Y;clear K;cases hc:eH gs (xp+n)
       . have HR:=aq (sk.o k hlt (Qk.o.trans (UR n hn8 hc)));go_wp2_with (go_at_call 201;refine(uS gs ag cg (xp+n) _ (dG.below (lie:=xN) (λhb hlt h=>yB hb hlt h) H2.o iJ.o) F4.o HG.o Lp).mono ?_;rintro e w3 ⟨rfl,A⟩;rw[hc];generalize vR gs (xp+n)=sg;obtain⟨sp,sn,sd,sx,sy⟩:=sg;simp only[wU];have ou:=aq (iJ.o.trans (A.mono iJ.o.size));clear A);go_ret;exact⟨gX HR.o.symm,ou.o.alloc ou.o.size _⟩
       go_wp2_with (go_at_call 201;refine(uS gs ag cg (xp+n) _ (dG.below (lie:=xN) (λhb hlt h=>yB hb hlt h) H2.o iJ.o) F4.o HG.o Lp).mono ?_;rintro e w3 ⟨rfl,A⟩;rw[hc];generalize vR gs (xp+n)=sg;obtain⟨sp,sn,sd,sx,sy⟩:=sg;simp only[wU];have ou:=aq (iJ.o.trans (A.mono iJ.o.size));have R:=aq (aU Qb.o A (aQ Qb.o));have UC:=aq (aU TE.o A (aQ TE.o));clear A)
       go_roundw
       case rel=>exact⟨n+1,ω,by go_num,λj h=>if e:j=n then by simp_all else qO.o j ω,bu R.o _,bu UC.o _,ou.o.alloc ou.o.size _⟩
       case measure=>simp[intOf];omega
     obtain rfl:n=8:=by omega
     have N:Hid (mS IW (k+1)=true):=by show(mS IW k&&tK IW k)=true;rw[HA.o,Qk.o,Rn (λm hm=>qO.o m hm)];rfl
     go_wp2;go_roundw
     case rel=>exact⟨k+1,ω,by go_num,N.o,Qb.o,iJ.o⟩
     case measure=>simp[intOf];omega
  obtain rfl:k=rs.length:=by omega
  clear hb;go_wp2;go_ret;exact⟨gX HA.o.symm,HB.o⟩
open Go.RowKit Go.WideMaps Go.Maps
theorem Rs:Keyed prog 9:=string_keyed underlying9
theorem aa8 (w:World):(zeroValue 3).run prog w=.ok (I 0) w:=by rfl
def C6 (s:ByteArray):Lit:=.string s.data.toList
theorem ME {t:ByteArray} (h:C6 s=C6 t):s=t:=by
 unfold C6 at h;injection h with h;cases s;simp_all
theorem Qx (h:bD s.size):keyOf prog 9 (.string s)=some (C6 s):=keyOf_string_mk underlying9 (by grind [bD,maxLen])
instance aq4:LawfulBEq ByteArray where
 eq_of_beq {a b} h:=by
  cases a;cases b;congr 1;exact eq_of_beq (α:=Array UInt8) h
 rfl {a}:=by
  cases a;exact beq_self_eq_true (α:=Array UInt8) _
def ajq (l:List ByteArray) (k:Nat) (D:DataW Unit):Prop:=∀s:ByteArray,D.atKey (C6 s) (.lit (.int .i64 0))=.lit (.int .i64 (if (l.take k).contains s then 1 else 0))
theorem ag6 (l:List ByteArray):ajq l 0 (.map []):=λs=>by rfl
theorem Ig (l:List ByteArray) (k:Nat) (hk:k<l.length) (s:ByteArray):(l.take (k+1)).contains s=((l.take k).contains s || s==iy l k):=by
 grind [List.take_add_one,iy]
theorem ag7 {l:List ByteArray} {k:Nat} {D:DataW Unit} (hk:k<l.length) (hD:IsMap D) (h:ajq l k D):ajq l (k+1) (D.put (C6 (iy l k)) (.lit (.int .i64 1))):=λs=>by
 rw[Ig l k hk s];by_cases e:s=iy l k
 . subst e;rw[atKey_put_same hD (by trivial)];simp
 rw[atKey_put_other (λg=>e (ME g)),h s]
 grind
theorem Rq (l:List ByteArray) (k n:Nat) (h:oM l k=false) (hk:k<=n):oM l n=false:=by
 induction n with
 | zero=>grind
 | succ n ih =>
  grind [oM]
theorem Ro (l:List ByteArray) (ao:Option Addr) (cap:Nat) (w:World) (h:dG Gy w ao l) (hn:bD l.length) (hf:∀k,k<l.length->bD (iy l k).size) :
  Calls prog 162 #[.slice ao l.length cap] w λe w'=>e=.returned (.bool (!ry l))/\Below w.heap.size w w':=by
 unfold bD at hn;have H:=aq h;have F:=aq hf;clear h hf;have U:=@run_makeMap prog;go_enter func162,ntmps162;go_wp2;go_loopw [9] (λi wr=>∃(k:Nat) (D:DataW Unit),k<=l.length/\i=I k/\wr.ownsMap prog 9 (plainElem prog 3) w.heap.size k D/\ajq l k D/\oM l k=true/\Below w.heap.size w wr) (λi _=>l.length-(intOf i).toNat)
 case atStart=>exact⟨0,.map [],yt _,rfl,World.ownsMap_made _ _ _ _,ag6 l,rfl,(aN _ _).alloc (aK _) _⟩
 case round =>
  obtain⟨k,D,hk,rfl,A,M,L,hb⟩:=hrel;have HO:=aq L;have HC:=aq M;have HB:=aq hb;have HW:=aq A;clear L M;by_cases hlt:k<l.length
  . obtain⟨b,off,O,R,hl⟩:=H.o ω;subst O;have Xv:(k:Int)<(l.length:Int):=by omega
    have c0:=abg hb R hl k hlt;have fs:=F.o k hlt;have N:=aq (ag7 hlt A.isMap HC.o);have HN:Hid (oM l (k+1)=!(l.take k).contains (iy l k)):=by show(oM l k&&_)=_;rw[HO.o];rfl
    have J:=HC.o (iy l k);generalize iy l k=s at c0 fs N HN J;clear hb hl;have B:=Qx fs;obtain⟨c,K,G,_⟩:=A.lookup_int Rs underlying316 underlying3 (aa8 _) B;rw[J] at G
    have uR:k<maxLen:=by unfold maxLen;omega
    cases hc:(l.take k).contains s
    . rw[hc] at G HN;have e:c=0:=by grind
      subst e;clear G J;go_wp2_with (first | (at_mapUpdate;refine aaU _ rfl _ _ _ 316 rfl 9 3 Rs underlying316 _ w.heap.size k _ rfl HW.o uR _ _ _ rfl rfl B _ [] (plainElem_int underlying3 Δ) ?_) | go_in);intro w1 y q;have R2:=aq (HB.o.grown q HB.o.size (λj hj=>Γ));obtain⟨c,Q,Qq,_⟩:=y.lookup_int Rs underlying316 underlying3 (aa8 _) B;rw[atKey_put_same HW.o.isMap (by trivial)] at Qq;have e:c=1:=by injection Qq with Qq;injection Qq with _ Qq;omega
      subst e;have T:=aq y;clear Qq A K q y;go_wp2;go_roundw
      case rel=>exact⟨k+1,_,ω,by go_num,T.o,N.o,HN.o,R2.o⟩
      case measure=>simp[intOf];omega
    rw[hc] at G HN;have e:c=1:=by grind
    subst e;clear G J;have HR:=aq (Rq l (k+1) l.length HN.o hlt);go_wp2_with (first | (at_mapUpdate;refine aaU _ rfl _ _ _ 316 rfl 9 3 Rs underlying316 _ w.heap.size k _ rfl HW.o uR _ _ _ rfl rfl B _ [] (plainElem_int underlying3 Δ) ?_) | go_in);intro w1 y q;have R2:=aq (HB.o.grown q HB.o.size (λj hj=>Γ));obtain⟨c,Q,Qq,_⟩:=y.lookup_int Rs underlying316 underlying3 (aa8 _) B;rw[atKey_put_same HW.o.isMap (by trivial)] at Qq;have e:c=2:=by injection Qq with Qq;injection Qq with _ Qq;omega
    subst e;clear Qq A K q y;go_wp2;go_ret;exact⟨gX (by unfold ry;rw[HR.o];rfl),R2.o⟩
  obtain rfl:k=l.length:=by omega
  clear hb;go_wp2;go_ret;exact⟨gX (by unfold ry;rw[HO.o];rfl),HB.o⟩
structure fy where
 i:sO
 a:II
variable {all:List fy}
def abw:fy:=⟨⟨⟨#[]⟩,[],[],[],[],0⟩,⟨none,0,none,0,none,0,none,0⟩⟩
def bV (l:List fy) (k:Nat):fy:=l.getD k abw
def xz (x:fy):Value:=.agg (gI x.a x.i)
def OE (w:World) (b off:Nat) (l:List fy):Prop:=∀k,k<l.length ->
 (w.cell? (Ad b (off+k*6))=some (.string (bV l k).i.name)/\w.cell? (Ad b (off+k*6+1))=some (.slice (bV l k).a.an (bV l k).i.needs.length (bV l k).a.cn) /\
  w.cell? (Ad b (off+k*6+2))=some (.slice (bV l k).a.ag (bV l k).i.fA.length (bV l k).a.cg)/\w.cell? (Ad b (off+k*6+3))=some (.slice (bV l k).a.ay (bV l k).i.syms.length (bV l k).a.cy) /\
  w.cell? (Ad b (off+k*6+4))=some (.slice (bV l k).a.ar (bV l k).i.lV.length (bV l k).a.cr)/\w.cell? (Ad b (off+k*6+5))=some (I (bV l k).i.entry))/\l9 w (bV l k).a (bV l k).i
theorem aoH {w w':World} {b off:Nat} {l:List fy} (hb:Below w.heap.size w w') (hlt:b<w.heap.size) (h:OE w b off l):OE w' b off l:=λk hk=>by
 obtain⟨⟨c0,c1,c2,c3,c4,c5⟩,hi⟩:=h k hk
 grind [cJ,l9.below]
def Cu (w:World) (ao:Option Addr) (l:List fy):Prop:=dG OE w ao l
theorem Cu.below {w w':World} {ao:Option Addr} {l:List fy} (h:Cu w ao l) (hb:Below w.heap.size w w'):Cu w' ao l:=dG.below (lie:=OE) (λhb hlt h=>aoH hb hlt h) h hb
def Uq (l:List fy):Prop:=bD l.length/\∀k,k<l.length->BH (bV l k).i
def qq (l:List fy):Nat->Int
 | 0=>0
 | k+1=>if qq l k=0 then gQ (bV l k).i else qq l k
def iz (l:List fy):List ByteArray:=l.map (·.i.name)
def pN (l:List fy):Int:=if qq l l.length=0 then (if ry (iz l) then 0 else 5) else qq l l.length
theorem I4 (l:List fy) (k:Nat) (h:qq l k≠0):∀n,k<=n->qq l n=qq l k
 | 0,hn=>by grind
 | n+1,hn=>by
  by_cases e:k=n+1
  . grind
  have ih:=I4 l k h n ω
  grind [qq]
theorem LH (l:List fy):∀n,qq l n=0->∀k,k<n->gQ (bV l k).i=0
 | 0,_,k,hk=>by omega
 | n+1,h,k,hk=>by
  simp only[qq] at h;by_cases e0:qq l n=0
  . rw[aC e0] at h;by_cases e:k=n
    . grind
    exact LH l n e0 k ω
  omega
theorem GH (l:List fy) (k:Nat) (hk:k<l.length):iy (iz l) k=(bV l k).i.name:=by
 grind [iy,iz,bV]
theorem oF (l:List fy):(iz l).length=l.length:=by simp[iz]
def RO (v:Value):Option (DataW Value×List MemPlace):=some (.held v,[])
def KN:Value:=.agg #[.string ⟨#[]⟩,Nl,Nl,Nl,Nl,I 0]
structure Oz (l:List fy) (k:Nat) (D:DataW Value):Prop where
 has:∀s,Maps.has D (C6 s)=((iz l).take k).contains s
 at_:oM (iz l) k=true->∀j,j<k->D.atKey (C6 (bV l j).i.name) (.held KN)=.held (xz (bV l j))
 le:Maps.size D<=k
 all:Maps.size D=k↔oM (iz l) k=true
theorem aht (l:List fy):Oz l 0 (.map []):=⟨λs=>ρ,λ_ j hj=>ω,by simp[Maps.size],by simp[Maps.size,oM]⟩
theorem VA (l:List fy) (k j:Nat) (hj:j<k) (hk:k<=l.length):((iz l).take k).contains (bV l j).i.name=true:=by
 have h1:j<((iz l).take k).length:=by grind [oF]
 have h2:((iz l).take k)[j]=(bV l j).i.name:=by
  rw[List.getElem_take];have h3:j<(iz l).length:=by grind
  have:=GH l j ω
  grind [iy]
 grind
theorem ahu {l:List fy} {k:Nat} {D:DataW Value} (hk:k<l.length) (hD:IsMap D) (hT:Maps.Tidy D) (h:Oz l k D):Oz l (k+1) (D.put (C6 (bV l k).i.name) (.held (xz (bV l k)))):=by
 have hc:=λs=>Ig (iz l) k (by grind [oF]) s
 have q:=GH l k hk;have b:oM (iz l) (k+1)=(oM (iz l) k&&!((iz l).take k).contains (bV l k).i.name):=by grind [oM]
 have y:=Maps.size_put (k:=C6 (bV l k).i.name) hT (.held (xz (bV l k)));rw[h.has] at y;refine⟨λs=>?_,λho j hj=>?_,?_,?_⟩
 . rw[hc s,q];by_cases e:s=(bV l k).i.name
   . subst e;rw[Maps.has_put_same hD (by trivial)];simp
   grind [Maps.has_put_other,ME,Oz.has]
 . rw[b] at ho;simp only[cK,aaK] at ho;by_cases e:j=k
   . subst e;exact atKey_put_same hD (by trivial) _ _
   grind [VA,atKey_put_other,ME,Oz.at_]
 . have:=h.le
   grind
 rw[b];have h1:=h.le
 grind [Oz.all]
def vZ (all:List fy) (s:ByteArray):Option Nat:=all.findIdx? (λx=>decide (x.i.name=s))
theorem aes (all:List fy) (j:Nat) (h:j<all.length):bV all j=all[j]:=by
 grind [bV]
theorem Co (h:vZ all s=some j):j<all.length/\(bV all j).i.name=s:=by
 grind [vZ,List.findIdx?_eq_some_iff_getElem,aes]
theorem abx (h:vZ all s=none):(iz all).contains s=false:=by
 grind [vZ,iz]
theorem aen {l:List ByteArray} (h:ry l=true) {k:Nat} (hj:j<l.length) (hk:k<l.length) (e:iy l j=iy l k):j=k:=by
 have q:∀j k,j<k->k<l.length->iy l j=iy l k->False:=by
  intro j k b hk e;have hs:∀n,n<=l.length->oM l n=true:=by
   grind [Rq,ry]
  have h1:=hs (k+1) ω;simp only[oM,cK,aaK] at h1;have h2:(l.take k).contains (iy l k)=true:=by
   rw[<- e];refine List.contains_iff_mem.2 ?_;have hl:j<(l.take k).length:=by grind
   have e2:(l.take k)[j]=iy l j:=by
    grind [iy]
   grind
  grind
 grind
theorem aep (h:ry (iz all)=true) {k:Nat} (hj:j<all.length) (hk:k<all.length) (e:(bV all j).i.name=(bV all k).i.name):j=k:=by
 grind [aen,oF,GH]
def yL (ix:List Nat) (j:Nat):List Nat:=if ix.contains j then ix else ix++[j]
def mA (all:List fy) (ix:List Nat) (needs:List ByteArray):Nat->Option (List Nat)
 | 0=>some ix
 | k+1=>match mA all ix needs k with
  | none=>none
  | some Lf=>match vZ all (iy needs k) with
   | none=>none
   | some j=>some (yL Lf j)
def uW (all:List fy) (ix:List Nat) (n:Nat):List ByteArray:=(bV all (ix.getD n 0)).i.needs
def sS (all:List fy):Nat->Nat->List Nat->Option (List Nat)
 | 0,_,ix=>some ix
 | f+1,n,ix=>if n<ix.length then (match mA all ix (uW all ix n) (uW all ix n).length with
  | none=>none
  | some Lf=>sS all f (n+1) Lf) else some ix
structure nk (all:List fy) (ix:List Nat):Prop where
 pos:0<ix.length
 nodup:ix.Nodup
 lt:∀j∈ix,j<all.length
theorem QB:∀(L:Nat) (ix:List Nat),ix.Nodup->(∀j∈ix,j<L)->ix.length<=L
 | 0,ix,_,h=>by
  cases ix with
  | nil=>grind
  | cons x r=>grind [List.mem_cons_self]
 | L+1,ix,hn,h=>by
  by_cases e:L∈ix
  . have h1:=QB L (ix.erase L) (hn.erase L) (λj hj=>by
     grind)
    grind
  have:=QB L ix hn (λj hj=>by
   grind)
  omega
theorem nk.le {ix:List Nat} (h:nk all ix):ix.length<=all.length:=QB _ _ h.nodup h.lt
theorem nk.add {ix:List Nat} (h:nk all ix) (hj:j<all.length):nk all (yL ix j):=by
 unfold yL;split
 . exact h
 rename_i hc
 have b:j∉ix:=λg=>hc (List.contains_iff_mem.2 g)
 refine⟨Γ,?_,λk hk=>?_⟩
 . grind [nodup]
 rcases kJ.1 hk with g | g
 . exact h.lt k g
 grind
theorem ES {all:List fy} {ix:List Nat} {needs:List ByteArray} {k:Nat} (h:mA all ix needs k=none):∀n,k<=n->mA all ix needs n=none
 | 0,hn=>by grind
 | n+1,hn=>by
  by_cases e:k=n+1
  . grind
  simp only[mA];rw[ES h n ω]
theorem Lz {ix Lf:List Nat} {needs:List ByteArray} {k:Nat} (h:mA all ix needs k=some Lf) (hj:vZ all (iy needs k)=some j):mA all ix needs (k+1)=some (yL Lf j):=by
 grind [mA]
theorem LA {ix Lf:List Nat} {needs:List ByteArray} {k:Nat} (h:mA all ix needs k=some Lf) (hj:vZ all (iy needs k)=none):mA all ix needs (k+1)=none:=by
 grind [mA]
theorem VD (all:List fy) (f n:Nat) (ix:List Nat) (h:¬n<ix.length):sS all f n ix=some ix:=by
 cases f with
 | zero=>rfl
 | succ f=>grind [sS]
theorem RG (all:List fy) (f n:Nat) (ix Lf:List Nat) (h:n<ix.length) (ho:mA all ix (uW all ix n) (uW all ix n).length=some Lf):sS all (f+1) n ix=sS all f (n+1) Lf:=by
 grind [sS]
theorem RI (all:List fy) (f n:Nat) (ix:List Nat) (h:n<ix.length) (ho:mA all ix (uW all ix n) (uW all ix n).length=none):sS all (f+1) n ix=none:=by
 grind [sS]
def bM (all:List fy):Int->List Nat->List fw
 | _,[]=>[]
 | b,j::r=>⟨(bV all j).i,(bV all j).a,b⟩::bM all (kK ⟨(bV all j).i,(bV all j).a,b⟩) r
def eQ (all:List fy):Int->List Nat->Int
 | b,[]=>b
 | b,j::r=>eQ all (kK ⟨(bV all j).i,(bV all j).a,b⟩) r
theorem cC (all:List fy):∀(ix:List Nat) (b:Int),(bM all b ix).length=ix.length
 | [],_=>rfl
 | j::r,b=>by simp only[bM,tG,cC all r]
theorem Bo (all:List fy) (j:Nat):∀(ix:List Nat) (b:Int),bM all b (ix++[j])=bM all b ix++[⟨(bV all j).i,(bV all j).a,eQ all b ix⟩]
 | [],b=>rfl
 | k::r,b=>by simp only[D5,bM,eQ,Bo all j r]
theorem ue (all:List fy) (j:Nat):∀(ix:List Nat) (b:Int),eQ all b (ix++[j])=kK ⟨(bV all j).i,(bV all j).a,eQ all b ix⟩
 | [],b=>rfl
 | k::r,b=>by simp only[D5,eQ,ue all j r]
theorem iU (all:List fy):∀(ix:List Nat) (b:Int) (k:Nat),k<ix.length->(bE (bM all b ix) k).i=(bV all (ix.getD k 0)).i/\(bE (bM all b ix) k).a=(bV all (ix.getD k 0)).a/\(bE (bM all b ix) k).base=eQ all b (ix.take k)
 | [],_,k,hk=>by grind
 | j::r,b,0,_=>⟨rfl,rfl,rfl⟩
 | j::r,b,k+1,hk=>by
  have:=iU all r (kK ⟨(bV all j).i,(bV all j).a,b⟩) k Γ
  grind [bE,bM,eQ]
theorem Ij (all:List fy) (ix:List Nat) (b:Int) (h:0<ix.length):kK (bE (bM all b ix) (ix.length-1))=eQ all b ix:=by
 obtain⟨r,j,rfl⟩:∃r j,ix=r++[j]:=⟨ix.dropLast,ix.getLast Γ,(ai4 _).symm⟩
 grind [Bo,ue,cC,bE]
theorem uX (ix:List Nat) (k:Nat) (h:k<ix.length):ix.getD k 0∈ix:=by
 grind
theorem pd (all:List fy) (hc:∀j,j<all.length->gQ (bV all j).i=0):∀(ix:List Nat) (b:Int),(∀j∈ix,j<all.length)->b<=eQ all b ix/\eQ all b ix<=b+255*(ix.length:Int)
 | [],b,_=>by simp[eQ]
 | j::r,b,h=>by
  have hl:=yJ (hc j (h j Gs));have ih:=pd all hc r (kK ⟨(bV all j).i,(bV all j).a,b⟩) (λk hk=>h k (Gp _ hk))
  grind [eQ,kK]
def AU (o:fw):List Value:=(iB o).toList
theorem X9 (w:World):Below w.heap.size w w.drew:=⟨rfl,rfl,rfl,aK _,λ_ _=>rfl⟩
theorem kO {a b:Bool} (h:a=b):Ending.returned (.bool a)=.returned (.bool b):=by rw[h]
theorem Ed (s:bC) (w:World) (h:xC w s.ao s.dR) (hf:KR s) :
  Calls prog 122 #[.agg (ux s)] w λe w'=>e=.returned (.bool (cY s))/\Below w.heap.size w w':=by
 obtain⟨f1,f2,f3,f4⟩:=hf;obtain⟨pg,dt,fs,ao,cap⟩:=s;simp only at f1 f2 f3 f4;unfold cH at f1;unfold bD at f2 f3;simp only[ux];have F4:=aq f4;have HH:=aq h;clear f4 h;have HB:=aq ((aN w.heap.size w).alloc (aK _) (.cells #[I pg,.string dt,.slice ao fs.length cap] 145));by_cases h1:pg<1
 . have e:cY ⟨pg,dt,fs,ao,cap⟩=false:=by
    grind [cY,pM]
   rw[e];go_enter func122,ntmps122;go_wp2;go_ret;exact⟨rfl,HB.o⟩
 by_cases h2:255<pg
 . have e:cY ⟨pg,dt,fs,ao,cap⟩=false:=by
    grind [cY,pM]
   rw[e];go_enter func122,ntmps122;go_wp2;go_ret;exact⟨rfl,HB.o⟩
 by_cases h3:dt.size=16
 . have B:(dt.size:Int)=16:=by omega
   have e:pM ⟨pg,dt,fs,ao,cap⟩=true:=by
    grind [pM]
   have E:Hid (cY ⟨pg,dt,fs,ao,cap⟩=eO fs fs.length):=by
    show _=_
    grind [cY]
   clear e h3;go_enter func122,ntmps122;go_wp2;go_loopw [23,3] (λi en wr=>∃k:Nat,k<=fs.length/\i=I k/\en=I (lO fs k)/\eO fs k=true/\Below w.heap.size w wr) (λi _ _=>fs.length-(intOf i).toNat)
   case atStart=>exact⟨0,ω,rfl,rfl,rfl,HB.o⟩
   case round =>
    obtain⟨k,hk,rfl,rfl,hg,hb⟩:=hrel;have HG:=aq hg;have wQ:=aq hb;clear hg;by_cases hlt:k<fs.length
    . obtain⟨b,off,G,J,di⟩:=(HH.o.below hb) ω;subst G;obtain⟨c0,c1⟩:=di k hlt;obtain⟨g1,g2⟩:=F4.o k hlt;have F:=uY fs k HG.o;obtain⟨f,A⟩:=ex (nD fs k);rw[<- A] at c0 c1 g1 g2;unfold cH at g1;unfold bD at g2;have q:=aq A;clear A di hb;obtain⟨en,y⟩:=ex (lO fs k);rw[<- y] at F;have B6:=aq y;rw[<- y];clear y;have iQ:=aq (wQ.o.alloc wQ.o.size (.cells #[I f.off,.string f.bytes] 226));by_cases q1:f.off<en
      . have HX:Hid (eO fs fs.length=false):=Cs fs k hlt (by rw[<- q.o,<- B6.o];exact GK ω);go_wp2;go_ret;exact⟨kO (by rw[E.o,HX.o]),iQ.o⟩
      by_cases q2:16<f.off
      . have HX:Hid (eO fs fs.length=false):=Cs fs k hlt (by rw[<- q.o,<- B6.o];exact GK ω);go_wp2;go_ret;exact⟨kO (by rw[E.o,HX.o]),iQ.o⟩
      by_cases q3:(f.bytes.size:Int)<1
      . have HX:Hid (eO fs fs.length=false):=Cs fs k hlt (by rw[<- q.o,<- B6.o];exact GK ω);go_wp2;go_ret;exact⟨kO (by rw[E.o,HX.o]),iQ.o⟩
      by_cases q4:16-f.off<(f.bytes.size:Int)
      . have HX:Hid (eO fs fs.length=false):=Cs fs k hlt (by rw[<- q.o,<- B6.o];exact GK ω);go_wp2;go_ret;exact⟨kO (by rw[E.o,HX.o]),iQ.o⟩
      have HX:Hid (eO fs (k+1)=true):=by
       show _=_;simp only[eO,cK];exact⟨HG.o,by rw[<- q.o,<- B6.o];exact(Eg _ _).2 ω⟩
      have HY:Hid (lO fs (k+1)=f.off+(f.bytes.size:Int)):=by show _=_;simp only[lO];rw[<- q.o]
      go_wp2;go_roundw
      case rel=>exact⟨k+1,ω,by go_num,by rw[HY.o],HX.o,iQ.o⟩
      case measure=>simp[intOf];omega
    obtain rfl:k=fs.length:=by omega
    go_wp2;go_ret;exact⟨kO (by rw[E.o,HG.o]),wQ.o⟩
 have e:cY ⟨pg,dt,fs,ao,cap⟩=false:=by
  grind [cY,pM]
 have B:((dt.size:Int)==16)=false:=by grind
 rw[e];go_enter func122,ntmps122;go_wp2;go_ret;exact⟨rfl,HB.o⟩
end Go.Proofs.YtlgoihmkgaaemaaGreat
