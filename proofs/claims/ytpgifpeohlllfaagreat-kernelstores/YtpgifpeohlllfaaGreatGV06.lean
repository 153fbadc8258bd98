import Derived.Test.YtpgifpeohlllfaaGreatGV05
set_option maxHeartbeats 20000000
set_option linter.unusedVariables false
set_option maxRecDepth 100000
set_option linter.unusedSimpArgs false
namespace Go.Proofs.YtpgifpeohlllfaaGreat
namespace Go.Proofs.YtpgifpeohlllfaaGreat
open Go.RowKit
theorem Yd {hs:List bM} {ar:List bc} {k n:Nat} (hk:k<ar.length) (hn:n<(bB ar k).aR.toNat) (hz:(bB ar k).zero=false) (he:fM hs ((bB ar k).page+(n:Int))=⟨#[]⟩):qJ hs ar=false:=by
 cases q:qJ hs ar with
 | false=>rfl
 | true =>
  unfold qJ at q;rw[uw] at q;have:=q (bB ar k) (jD hk);rw[uw] at this;have:=this n (xN.2 hn);rw[hz,he] at this;cases this
theorem UX {hs:List bM} {ar:List bc} (h:∀k,k<ar.length->∀n,n<(bB ar k).aR.toNat->(bB ar k).zero=true∨fM hs ((bB ar k).page+(n:Int))≠⟨#[]⟩):qJ hs ar=true:=by
 unfold qJ;rw[uw];intro a ha;obtain⟨k,hk,rfl⟩:=jb tZ ha;rw[uw];intro n hn;rcases h k hk n (xN.1 hn) with g | g
 · rw[show(ar.getD k tZ).zero=true from g];rfl
 · rw[Ck,iV];right;intro e;refine g ?_;have:(fM hs ((bB ar k).page+(n:Int))).size=0:=e;obtain⟨x,hx⟩:=ex (fM hs ((bB ar k).page+(n:Int)));rw[<- hx] at this ⊢;obtain⟨⟨l⟩⟩:=x;have:l=[]:=jS this;rw[this]
theorem Jt (hs:List bM) (ar:List bc) (va:Value) (mb:Nat) (w:World) (ha:eU w va ar) (hc:br ar=0) (hmb:mb<w.heap.size) (hfl:∀n:Nat,n<256->w.cell? (Ad mb (5+n))=some (.string (fM hs n))) :
  Calls Tryz.prog 149 #[.pointer (some (Ad mb 0)),va] w fun e w'=>e=.returned (.bool (qJ hs ar))/\Below w.heap.size w w':=by
 obtain⟨ao,cap,rfl,fG⟩:=ha;have hlen:=kg ar hc;have HL:=ai fG;have ZL:=ai hfl;have HOK:=ai (fun k (hk:k<ar.length)=>gH ar k (gm ar hc k hk));have lM:=ai (fun k n=>@Yd hs ar k n);have BQ:=ai (@UX hs ar);obtain⟨A,hA⟩:=ex (qJ hs ar);rw[<- hA] at lM BQ ⊢;clear fG hfl hA;go_enter Tryz.func149,Tryz.ntmps149;go_wp2;go_loopw [10] (fun iv wr=>∃k:Nat,k<=ar.length/\iv=I (k:Int)/\Below w.heap.size w wr/\∀i,i<k->∀n,n<(bB ar i).aR.toNat->(bB ar i).zero=true∨fM hs ((bB ar i).page+(n:Int))≠⟨#[]⟩) (fun iv _=>ar.length-(intOf iv).toNat)
 case atStart=>grind [Below.refl]
 case round =>
  obtain⟨k,hk,rfl,hb,D3⟩:=hrel;have HB:=ai hb;have HP:=ai D3;clear D3;by_cases hlt:k<ar.length
  · obtain⟨b,off,hao,Aw⟩:=HL.o.resolve_left (fun e=>by grind);subst hao;obtain⟨d0,d1,d2,d3⟩:=Aw k hlt;have hbl:=Aw.lt k hlt;have c0:=(hb.cell (p:=(Ad b (off+k*4))) hbl).trans d0;have c1:=(hb.cell (p:=(Ad b (off+k*4+1))) hbl).trans d1;have c2:=(hb.cell (p:=(Ad b (off+k*4+2))) hbl).trans d2;have c3:=(hb.cell (p:=(Ad b (off+k*4+3))) hbl).trans d3;have hok:=HOK.o k hlt;have lM:=ai (fun n=>lM.o k n hlt);have HS:Hid (∀n,n<(bB ar k).aR.toNat->(bB ar k).zero=true∨fM hs ((bB ar k).page+(n:Int))≠⟨#[]⟩)->Hid (∀i,i<k+1->∀n,n<(bB ar i).aR.toNat->(bB ar i).zero=true∨fM hs ((bB ar i).page+(n:Int))≠⟨#[]⟩):=fun g i hi=>by
     by_cases e:i=k
     · rw[e];exact g.out
     · exact HP.o i (by omega)
    obtain⟨a,ha⟩:=ex (bB ar k);rw[<- ha] at c0 c1 c2 c3 hok lM HS;obtain⟨pg,ps,pt,z⟩:=a;simp only at c0 c1 c2 c3 hok lM HS;obtain⟨pn,rfl⟩:∃pn:Nat,pg=(pn:Int):=⟨pg.toNat,by omega⟩;obtain⟨pm,rfl⟩:∃pm:Nat,ps=(pm:Int):=⟨ps.toNat,by omega⟩;rw[iu] at HS lM;have gK:=ai (HB.o.alloc HB.o.size (.cells #[I (pn:Int),I (pm:Int),I pt,.bool z] 47));have SA:=ai (bG wr #[I (pn:Int),I (pm:Int),I pt,.bool z] 47);clear ha d0 d1 d2 d3 Aw HP BQ HOK HL hb;go_wp2;obtain⟨W1,hW1⟩:=ex (wr.alloc (.cells #[I (pn:Int),I (pm:Int),I pt,.bool z] 47));rw[<- hW1] at gK SA ⊢;obtain⟨sb,DX⟩:=ex wr.heap.size;rw[<- DX] at SA ⊢;clear hW1 DX c0 c1 c2 c3;have s0:W1.cell? (Ad sb 0)=some (I (pn:Int)):=aB SA.o 0 rfl;have s3:W1.cell? (Ad sb 3)=some (.bool z):=aB SA.o 3 rfl;have HWF:Hid (∀n:Nat,n<256->W1.cell? (Ad mb (5+n))=some (.string (fM hs n))):=fun n hn=>(gK.o.cell (p:=(Ad mb (5+n))) hmb).trans (ZL.o n hn)
    go_loopw [16] (fun iv wq=>∃n:Nat,n<=pm/\iv=I (n:Int)/\(wq.heap=W1.heap/\Below w.heap.size w wq)/\∀i,i<n->z=true∨fM hs ((pn:Int)+(i:Int))≠⟨#[]⟩) (fun iv _=>pm-(intOf iv).toNat)
    case atStart=>exact⟨0,by omega,rfl,⟨rfl,gK.o⟩,fun i hi=>by omega⟩
    case round =>
     obtain⟨n,hn,rfl,⟨hD,WH⟩,D3⟩:=hrel;obtain⟨wq,hwq⟩:=ex wr;rw[<- hwq] at hD WH ⊢;clear hwq;have LL:=ai WH;have HHD:=ai hD;have Gh:=ai D3;have r0:wq.cell? (Ad sb 0)=some (I (pn:Int)):=(Fw (by rw[hD])).trans s0;have r3:wq.cell? (Ad sb 3)=some (.bool z):=(Fw (by rw[hD])).trans s3;have HWQ:Hid (∀n:Nat,n<256->wq.cell? (Ad mb (5+n))=some (.string (fM hs n))):=fun n hn=>(Fw (by rw[HHD.o])).trans (HWF.o n hn)
     clear hD WH D3;by_cases zR:n<pm
     · have hni:(n:Int)<(pm:Int):=by omega
       have HN:Hid (∀wz:World,wz=wq.drew->(wz.heap=W1.heap/\Below w.heap.size w wz)):=fun wz e=>by rw[e];exact⟨HHD.o,LL.o.drew⟩
       have FZ:Hid ((z=true∨fM hs ((pn:Int)+(n:Int))≠⟨#[]⟩)->∀i,i<n+1->z=true∨fM hs ((pn:Int)+(i:Int))≠⟨#[]⟩):=fun g i hi=>by
        by_cases e:i=n
        · rw[e];exact g
        · exact Gh.o i (by omega)
       cases z with
       | true =>
        clear lM HS Gh;go_wp2;go_region;go_wp2;go_roundw
        case rel=>exact⟨n+1,by omega,by go_num,HN.o _ rfl,FZ.o (.inl trivial)⟩
        case measure=>simp[intOf];omega
       | false =>
        have q:=HWQ.o (pn+n) (by omega);have ew:IntKind.i64.wrap ((pn:Int)+(n:Int))=((pn+n:Nat):Int):=by rw[IntKind.wrap_i64];omega
        have ei:((pn+n:Nat):Int)=(pn:Int)+(n:Int):=by omega
        have i0:(0:Int)<=((pn+n:Nat):Int):=by omega
        have i1:((pn+n:Nat):Int)<256:=by omega
        have lM:=ai (lM.o n zR rfl);rw[<- ei] at lM FZ;obtain⟨X,hX⟩:=ex (pn+n);obtain⟨D,hD⟩:=ex (fM hs (X:Int));rw[<- hX] at q ew i0 i1 lM FZ;rw[<- hD] at q lM FZ;clear HS Gh HWQ hX hD ei;by_cases hz:D=⟨#[]⟩
        · have hA:=lM.o hz;subst hA hz;go_wp2;go_region;go_wp2;go_ret;exact⟨rfl,LL.o.drew⟩
        · have hz2:D.toList.isEmpty=false:=by
           rw[Ct];cases q2:D.data.toList.isEmpty with
           | false=>rfl
           | true=>exact absurd (by obtain⟨⟨l⟩⟩:=D;have e:l=[]:=List.isEmpty_iff.1 q2;rw[e]) hz
          clear lM;go_wp2;go_region;go_wp2;go_roundw
          case rel=>exact⟨n+1,by omega,by go_num,HN.o _ rfl,FZ.o (.inr hz)⟩
          case measure=>simp[intOf];omega
     · obtain rfl:n=pm:=by omega
       have qd:=ai (HS Gh);have hni:¬(n:Int)<(n:Int):=by omega
       go_wp2;go_roundw
       case rel=>exact⟨k+1,by omega,by go_num,LL.o,qd.o⟩
       case measure=>simp[intOf];omega
  · obtain rfl:k=ar.length:=by omega
    have hA:=BQ.o HP.o;subst hA;clear hb;go_wp2;go_ret;exact⟨rfl,HB.o⟩
theorem Jq (hs:List bM) (s:dm) (va:Value) (ap:Option Addr) (cp mb:Nat) (w:World) (ha:eU w va s.aZ) (hf:Er s) (hmb:mb<w.heap.size) (hfl:∀n:Nat,n<256->w.cell? (Ad mb (5+n))=some (.string (fM hs n))) :
  Calls Tryz.prog 111 #[.pointer (some (Ad mb 0)),.agg #[.bool s.live,va,.slice ap s.aW.length cp]] w fun e w'=>e=.returned (.bool (pB hs s))/\Below w.heap.size w w':=by
 have LK:=ai (fun V (hV:Below w.heap.size w V)=>jM s.aZ va V (ha.below hV) hf.aZ);have HHS:Hid (br s.aZ=0->∀V,Below w.heap.size w V->Calls Tryz.prog 149 #[.pointer (some (Ad mb 0)),va] V fun e w'=>e=.returned (.bool (qJ hs s.aZ))/\Below V.heap.size V w'):=fun hc V hV=>Jt hs s.aZ va mb V (ha.below hV) hc (jt hmb hV.size) (fun n hn=>(hV.cell (p:=(Ad mb (5+n))) hmb).trans (hfl n hn))
 obtain⟨A,hA⟩:=ex (pB hs s);rw[<- hA];obtain⟨aa,ca,yt,_⟩:=ha;subst yt;have hln:=hf.aZ.2;have hlp:s.aW.length<=140737488351232:=hf.aW;unfold pB at hA;have HA:=ai hA;clear hf hfl hA;obtain⟨na,wh⟩:=ex s.aZ.length;obtain⟨np,G0⟩:=ex s.aW.length;obtain⟨C,hC⟩:=ex (br s.aZ);obtain⟨E,hE⟩:=ex (qJ hs s.aZ);obtain⟨lv,hlv⟩:=ex s.live;rw[<- wh] at HA LK HHS hln ⊢;rw[<- G0] at HA hlp ⊢;rw[<- hC] at HA LK HHS;rw[<- hE] at HA HHS;rw[<- hlv] at HA ⊢;clear wh G0 hC hE hlv;have HB:=ai ((aK w.heap.size w).alloc (aM _) (.cells #[.bool lv,.slice aa na ca,.slice ap np cp] 43));have X0:=ai (bG w #[.bool lv,.slice aa na ca,.slice ap np cp] 43);cases lv with
 | false =>
  have yo:Hid (A=(decide (na=0)&&decide (np=0))):=HA;clear HA LK HHS;rcases(show(na=0/\np=0)∨(na=0/\¬np=0)∨¬na=0 by omega) with⟨g,k⟩ | ⟨g,k⟩ | g
  · have h0:((na:Int)==0)=true:=by grind
    have h1:((np:Int)==0)=true:=by grind
    have xD:Hid (A=true):=by grind
    clear yo g k;go_enter Tryz.func111,Tryz.ntmps111;go_wp2;go_ret;exact⟨fp (fun b=>Ending.returned (.bool b)) xD.o.symm,HB.o⟩
  · have h0:((na:Int)==0)=true:=by grind
    have h1:((np:Int)==0)=false:=by grind
    have xD:Hid (A=false):=by grind
    clear yo g k;go_enter Tryz.func111,Tryz.ntmps111;go_wp2;go_ret;exact⟨fp (fun b=>Ending.returned (.bool b)) xD.o.symm,HB.o⟩
  · have h0:((na:Int)==0)=false:=by grind
    have xD:Hid (A=false):=by grind
    clear yo g;go_enter Tryz.func111,Tryz.ntmps111;go_wp2;go_ret;exact⟨fp (fun b=>Ending.returned (.bool b)) xD.o.symm,HB.o⟩
 | true =>
  have yo:Hid (A=(decide (C=0)&&E)):=HA;clear HA;by_cases g:C=0
  · subst g;have HHT:=ai (HHS.o rfl);have xD:Hid (A=E):=yo;clear yo HHS;go_enter Tryz.func111,Tryz.ntmps111;go_wp2_with (first | (go_at_call 98;refine(LK.o _ HB.o).mono ?_;rintro e w1 ⟨rfl,hb1⟩;have cT:=ai (bZ HB.o hb1);have X1:=ai (aQ X0.o hb1 (by simp));have x1:w1.cell? (Ad w.heap.size 1)=some (.slice aa na ca):=aB X1.o 1 rfl;clear hb1) | (go_at_call 149;refine(HHT.o _ cT.o).mono ?_;rintro e w2 ⟨rfl,hb2⟩;have fq:=ai (bZ cT.o hb2);clear hb2))
    go_ret;exact⟨fp (fun b=>Ending.returned (.bool b)) xD.o.symm,fq.o⟩
  · have xD:Hid (A=false):=by grind
    have g0:(C==0)=false:=by grind
    clear yo HHS;go_enter Tryz.func111,Tryz.ntmps111;go_wp2_with (go_at_call 98;refine(LK.o _ HB.o).mono ?_;rintro e w1 ⟨rfl,hb1⟩;have cT:=ai (bZ HB.o hb1);clear hb1)
    go_ret;exact⟨fp (fun b=>Ending.returned (.bool b)) xD.o.symm,cT.o⟩
theorem nZ (l:List bc):0<=cI l/\cI l<=65025:=by
 unfold cI;split
 · rename_i h
   have h1:=kg l h;have h2:=Au l h l.length (aM _);omega
 · omega
theorem tT (l:List dm):∀k,0<=iP l k/\iP l k<=65025*k
 | 0=>⟨zG _,by show(0:Int)<=_;omega⟩
 | k+1=>by
  have h1:=tT l k;have h2:=nZ (ak l k).aZ
  grind [iP]
theorem CP (l:List dm) (ao:Option Addr) (cap mb:Nat) (w:World) (h:s8 w ao l) (hf:∀k,k<l.length->ed (ak l k).aZ) (hn:l.length<=1000000) (hmb:w.cell? (Ad mb 3)=some (.slice ao l.length cap)) :
  Calls Tryz.prog 83 #[.pointer (some (Ad mb 0))] w fun e w'=>e=.returned (I (eW l))/\Below w.heap.size w w':=by
 have HF:=ai hf;have HH:=ai h;have LI:=ai (tT l);have Nr:Hid (∀k,iP l (k+1)=iP l k+cI (ak l k).aZ):=fun k=>rfl
 clear h hf;go_enter Tryz.func83,Tryz.ntmps83;go_wp2;go_loopw [3,12] (fun sv iv wr=>∃k:Nat,k<=l.length/\iv=I (k:Int)/\sv=I (iP l k)/\Below w.heap.size w wr) (fun _ iv _=>l.length-(intOf iv).toNat)
 case atStart=>exact⟨0,by omega,rfl,rfl,aK _ _⟩
 case round =>
  obtain⟨k,hk,rfl,rfl,hb⟩:=hrel;have HB:=ai hb;have hrb:=LI.o k;by_cases hlt:k<l.length
  · obtain⟨b,off,hao,hbl,fG⟩:=(HH.o.below hb) (by omega);subst hao;obtain⟨va,ap,cp,c0,c1,c2,c3,c4,c5⟩:=fG k hlt;have Gm:=HF.o k hlt;have hst:=Nr.o k;have htb:=nZ (ak l k).aZ;obtain⟨aa,ca,rfl,_⟩:=id c3;have HT:Hid (∀W,Below wr.heap.size wr W->Calls Tryz.prog 54 #[.slice aa (ak l k).aZ.length ca] W fun e w'=>e=.returned (I (cI (ak l k).aZ))/\Below W.heap.size W w'):=fun W hW=>uY _ _ _ (c3.below hW) Gm
    obtain⟨n,hnn⟩:=ex ((ak l k).aW.length);obtain⟨na,wh⟩:=ex ((ak l k).aZ.length);obtain⟨lv,hlv⟩:=ex ((ak l k).live);obtain⟨T,hT⟩:=ex (cI (ak l k).aZ);obtain⟨R,hR⟩:=ex (iP l k);rw[<- hnn] at c2 c5;rw[<- wh] at c1 HT;rw[<- hlv] at c0;rw[<- hT] at HT hst htb;rw[<- hR] at hst hrb ⊢;have HST:=ai hst;clear hnn wh hlv hT hR c3 c4 c5 Gm fG hb hst;have gK:=ai (HB.o.alloc HB.o.size (.cells #[.bool lv,.slice aa na ca,.slice ap n cp] 43));go_wp2_with (go_at_call 54;refine(HT.o _ ((aK _ _).alloc (aM _) _)).mono ?_;rintro e w1 ⟨rfl,hb1⟩;have cT:=ai (bZ gK.o hb1);clear hb1)
    go_roundw
    case rel=>exact⟨k+1,by omega,by go_num,by rw[HST.o],cT.o⟩
    case measure=>simp[intOf];omega
  · obtain rfl:k=l.length:=by omega
    clear hb;go_wp2;go_ret;exact⟨rfl,HB.o⟩
def ue (u:fK):List Value:=[I u.refs,I u.page,.bool u.zero]
theorem wD (u:fK):(ue u).length=3:=rfl
def ir (lo:Nat) (w:World) (g n cap:Nat) (us:List fK):Prop:=us.length=n/\w.ownsRow lo 211 3 (.slice (some (Ad g 0)) n cap) n (us.flatMap ue)
theorem ir.kp {lo:Nat} {w w':World} {D:Nat->Prop} {g n cap:Nat} {us:List fK} (h:ir lo w g n cap us) (hk:aH D w w') (hd:¬D g):ir lo w' g n cap us:=⟨h.1,hk.row h.2 (fun b hb=>by injection hb with hb;grind)⟩
theorem ir.lt {lo:Nat} {w:World} {g n cap:Nat} {us:List fK} (h:ir lo w g n cap us):lo<=g/\g<w.heap.size:=h.2.lt g rfl
theorem ir.at {lo:Nat} {w:World} {g n cap:Nat} {us:List fK} (h:ir lo w g n cap us) (i:Nat) (hi:i<n):w.cell? (Ad g (i*3))=some (I (dO us i).refs)/\w.cell? (Ad g (i*3+1))=some (I (dO us i).page)/\w.cell? (Ad g (i*3+2))=some (.bool (dO us i).zero):=by
 obtain⟨h1,h2⟩:=h;subst h1;exact⟨lB ue wD eB h2 i 0 hi (by omega),lB ue wD eB h2 i 1 hi (by omega),lB ue wD eB h2 i 2 hi (by omega)⟩
theorem AK {D:Nat->Prop} {w w':World} (h:aH D w w'):aH D w w'.drew:=h.trans (aH.drew D w') (fun _ _ x=>x)
theorem ir.d {lo:Nat} {w:World} {g n cap:Nat} {us:List fK} (h:ir lo w g n cap us):ir lo w.drew g n cap us:=h.kp (aH.drew (fun _=>False) w) (fun x=>x)
theorem UR {α:Type} (f:α->List Value) (hf:∀x,(f x).length=3) (d:α) (x:α) (a b c:Value) (hx:f x=[a,b,c]) (l:List α) (i:Nat) (hi:i<l.length):(l.set i x).flatMap f=(((l.flatMap f).set (i*3) a).set (i*3+1) b).set (i*3+2) c:=by
 induction l generalizing i with
 | nil=>cases hi
 | cons y r ih =>
  cases i with
  | zero =>
   rw[bV,pJ,pJ,hx];obtain⟨p,q,s,e⟩:∃p q s,f y=[p,q,s]:=by
    have:=hf y
    match h:f y with
    | [p,q,s]=>grind
    | []=>grind
    | [_]=>grind
    | [_,_]=>grind
    | _::_::_::_::_=>grind
   rw[e];rfl
  | succ i =>
   grind
theorem ir.set {lo:Nat} {w:World} {g n cap:Nat} {us:List fK} (h:ir lo w g n cap us) (i:Nat) (hi:i<n) (u:fK):ir lo (((w.setCell (Ad g (i*3)) (I u.refs)).setCell (Ad g (i*3+1)) (I u.page)).setCell (Ad g (i*3+2)) (.bool u.zero)) g n cap (us.set i u):=by
 refine⟨by rw[jk];exact h.1,?_⟩;rw[UR ue wD eB u _ _ _ rfl us i (by rw[h.1];exact hi)];exact pD (pD (pD h.2 _ _) _ _) _ _
theorem Pn (us:List fK) (e:bC) (z:Bool) (lo g n cap:Nat) (w:World) (h:ir lo w g n cap us) (hn:n<=1000) (he:dY e.page/\dY e.loc) (hr:∀i,i<n->0<=(dO us i).refs/\(dO us i).refs<=1000000) :
  Calls Tryz.prog 150 #[.slice (some (Ad g 0)) n cap,.agg #[I e.page,I e.kind,I e.loc],.bool z] w fun x w'=>x=.returned (.bool (oG us e z))/\aH (fun b=>b=g) w w'/\ir lo w' g n cap (if oG us e z then ry us e z else us):=by
 obtain⟨A,hA⟩:=ex (oG us e z);rw[<- hA];obtain⟨R,hR⟩:=ex (if A then ry us e z else us);rw[<- hR];have HA:=ai hA;have HR:=ai hR;clear hA hR;have avS:=h.lt.2;have HU:=ai h;have hun:us.length=n:=h.1;obtain⟨pg,kd,lc⟩:=e;simp only at he ⊢;have DV:=ai (aH.alloc (fun b=>b=g) w (.cells #[I pg,I kd,I lc] 45));have WM:=ai (h.kp (aH.alloc (fun _=>False) w (.cells #[I pg,I kd,I lc] 45)) (fun x=>x));clear h;by_cases c:0<=lc/\lc<(n:Int)
 · obtain⟨i,rfl⟩:∃i:Nat,lc=(i:Int):=⟨lc.toNat,by omega⟩;have hi:i<n:=by omega
   obtain⟨u0,u1,u2⟩:=HU.o.at i hi;have hri:=hr i hi;have yo:Hid (A=!(decide (0<(dO us i).refs)&&(decide ((dO us i).page≠pg) || (dO us i).zero != z))):=by
    grind [oG]
   have HUS:=ai (WM.o.set i hi ⟨(dO us i).refs+1,pg,z⟩);have HUN:Hid (ry us ⟨pg,kd,(i:Int)⟩ z=us.set i ⟨(dO us i).refs+1,pg,z⟩):=by
    rfl
   obtain⟨U,hU⟩:=ex (dO us i);rw[<- hU] at u0 u1 u2 hri yo HUS HUN;obtain⟨ur,up,uz⟩:=U;simp only at u0 u1 u2 hri yo HUS HUN;have HUI:=ai hU;clear hU hr HA;have wr1:IntKind.i64.wrap (ur+1)=ur+1:=by rw[IntKind.wrap_i64];omega
   have BE:=ai (bG w #[I pg,I kd,I (i:Int)] 45);have cZ:Hid (∀V,aH (fun b=>b=g) w V->∀us',ir lo V g n cap us'->A=true->us'=us.set i ⟨ur+1,pg,z⟩->ir lo V g n cap R):=fun V _ us' ho ha e=>by
    have:R=us':=by rw[HR.o,bf ha,HUN.o,e]
    grind
   have ahu:Hid (A=false->R=us):=fun ha=>by rw[HR.o,ha];rfl
   clear HR HUN;rcases(show ¬0<ur∨(0<ur/\up=pg/\uz=z)∨(0<ur/\up=pg/\¬uz=z)∨(0<ur/\¬up=pg) by
    grind) with g1 | ⟨g1,g2,g3⟩ | ⟨g1,g2,g3⟩ | ⟨g1,g2⟩
   · have d1:decide (0<ur)=false:=dE g1;have xD:Hid (A=true):=by grind
     clear yo;go_enter Tryz.func150,Tryz.ntmps150;go_wp2;obtain⟨W,hW⟩:=ex (w.alloc (.cells #[I pg,I kd,I (i:Int)] 45));rw[<- hW] at DV WM HUS BE ⊢;obtain⟨eb,L6⟩:=ex w.heap.size;rw[<- L6] at BE ⊢;clear hW L6;obtain⟨y0,y1,y2⟩:=WM.o.at i hi;have v0:W.cell? (Ad g (i*3))=some (I ur):=by rw[y0,<- HUI.o]
     have v1:W.cell? (Ad g (i*3+1))=some (I up):=by rw[y1,<- HUI.o]
     have v2:W.cell? (Ad g (i*3+2))=some (.bool uz):=by rw[y2,<- HUI.o]
     have f0:W.frozen? (Ad g (i*3))=false:=ig WM.o.2 _;have f1:W.frozen? (Ad g (i*3+1))=false:=ig WM.o.2 _;have f2:W.frozen? (Ad g (i*3+2))=false:=ig WM.o.2 _;have w0:W.cell? (Ad eb 0)=some (I pg):=aB BE.o 0 rfl;clear u0 u1 u2 y0 y1 y2;go_region;go_wp2;go_region;go_wp2;go_ret;have K:=DV.o.trans (vR (D:=fun b=>b=g) W g (i*3) (i*3+1) (i*3+2) (I (ur+1)) (I pg) (.bool z) rfl) (fun _ _ x=>x);exact⟨fp (fun b=>Ending.returned (.bool b)) xD.o.symm,AK (AK K),cZ.o _ (AK (AK K)) _ HUS.o.d.d xD.o rfl⟩
   · have b1:(up != pg)=false:=by grind
     have b2:(uz==z)=true:=by grind
     have xD:Hid (A=true):=by grind
     clear yo g2 g3;go_enter Tryz.func150,Tryz.ntmps150;go_wp2;obtain⟨W,hW⟩:=ex (w.alloc (.cells #[I pg,I kd,I (i:Int)] 45));rw[<- hW] at DV WM HUS BE ⊢;obtain⟨eb,L6⟩:=ex w.heap.size;rw[<- L6] at BE ⊢;clear hW L6;obtain⟨y0,y1,y2⟩:=WM.o.at i hi;have v0:W.cell? (Ad g (i*3))=some (I ur):=by rw[y0,<- HUI.o]
     have v1:W.cell? (Ad g (i*3+1))=some (I up):=by rw[y1,<- HUI.o]
     have v2:W.cell? (Ad g (i*3+2))=some (.bool uz):=by rw[y2,<- HUI.o]
     have f0:W.frozen? (Ad g (i*3))=false:=ig WM.o.2 _;have f1:W.frozen? (Ad g (i*3+1))=false:=ig WM.o.2 _;have f2:W.frozen? (Ad g (i*3+2))=false:=ig WM.o.2 _;have w0:W.cell? (Ad eb 0)=some (I pg):=aB BE.o 0 rfl;clear u0 u1 u2 y0 y1 y2;go_region;go_wp2;go_region;go_wp2;go_ret;have K:=DV.o.trans (vR (D:=fun b=>b=g) W g (i*3) (i*3+1) (i*3+2) (I (ur+1)) (I pg) (.bool z) rfl) (fun _ _ x=>x);exact⟨fp (fun b=>Ending.returned (.bool b)) xD.o.symm,AK (AK K),cZ.o _ (AK (AK K)) _ HUS.o.d.d xD.o rfl⟩
   · have b1:(up != pg)=false:=by grind
     have b2:(uz==z)=false:=by grind
     have xD:Hid (A=false):=by grind
     clear yo g2 g3 cZ;go_enter Tryz.func150,Tryz.ntmps150;go_wp2;obtain⟨W,hW⟩:=ex (w.alloc (.cells #[I pg,I kd,I (i:Int)] 45));rw[<- hW] at DV WM HUS BE ⊢;obtain⟨eb,L6⟩:=ex w.heap.size;rw[<- L6] at BE ⊢;clear hW L6;obtain⟨y0,y1,y2⟩:=WM.o.at i hi;have v0:W.cell? (Ad g (i*3))=some (I ur):=by rw[y0,<- HUI.o]
     have v1:W.cell? (Ad g (i*3+1))=some (I up):=by rw[y1,<- HUI.o]
     have v2:W.cell? (Ad g (i*3+2))=some (.bool uz):=by rw[y2,<- HUI.o]
     have w0:W.cell? (Ad eb 0)=some (I pg):=aB BE.o 0 rfl;clear u0 u1 u2 y0 y1 y2 HUS;go_region;go_wp2;go_ret;rw[ahu.o xD.o];exact⟨fp (fun b=>Ending.returned (.bool b)) xD.o.symm,AK DV.o,WM.o.d⟩
   · have b1:(up != pg)=true:=by grind
     have xD:Hid (A=false):=by grind
     clear yo g2 cZ;go_enter Tryz.func150,Tryz.ntmps150;go_wp2;obtain⟨W,hW⟩:=ex (w.alloc (.cells #[I pg,I kd,I (i:Int)] 45));rw[<- hW] at DV WM HUS BE ⊢;obtain⟨eb,L6⟩:=ex w.heap.size;rw[<- L6] at BE ⊢;clear hW L6;obtain⟨y0,y1,y2⟩:=WM.o.at i hi;have v0:W.cell? (Ad g (i*3))=some (I ur):=by rw[y0,<- HUI.o]
     have v1:W.cell? (Ad g (i*3+1))=some (I up):=by rw[y1,<- HUI.o]
     have w0:W.cell? (Ad eb 0)=some (I pg):=aB BE.o 0 rfl;clear u0 u1 u2 y0 y1 y2 HUS;go_region;go_wp2;go_ret;rw[ahu.o xD.o];exact⟨fp (fun b=>Ending.returned (.bool b)) xD.o.symm,AK DV.o,WM.o.d⟩
 · have xD:Hid (A=false):=by
    grind [oG]
   have ahu:Hid (R=us):=by grind [Hid.o]
   clear HA hr HR;rcases(show lc<0∨(0<=lc/\(n:Int)<=lc) by omega) with g1 | ⟨g1,g2⟩
   all_goals
    go_enter Tryz.func150,Tryz.ntmps150;go_wp2;go_ret;rw[ahu.o];exact⟨fp (fun b=>Ending.returned (.bool b)) xD.o.symm,DV.o,WM.o⟩
def mE (us:List fK) (n:Nat) (B:Int):Prop:=us.length=n/\∀i,i<n->0<=(dO us i).refs/\(dO us i).refs<=B
theorem mE.mono {us:List fK} {n:Nat} {B C:Int} (h:mE us n B) (hc:B<=C):mE us n C:=⟨h.1,fun i hi=>⟨(h.2 i hi).1,Int.le_trans (h.2 i hi).2 hc⟩⟩
theorem mE.use {us:List fK} {n:Nat} {B:Int} (h:mE us n B) (e:bC) (z:Bool) (hok:oG us e z=true):mE (ry us e z) n (B+1):=by
 have hb:=(xX.1 hok).1;obtain⟨h1,h2⟩:=h;refine⟨by grind [ry],fun i hi=>?_⟩
 grind [ry,EC]
theorem RV {ar:List bc} {last:Int} {uf us:List fK} {e:bC} (h:wK ar last uf us e=true):(aV ar e.page).2=true/\last<e.page/\((e.kind=1/\oG uf e (aV ar e.page).1.zero=true)∨(e.kind=2/\oG us e (aV ar e.page).1.zero=true)):=by
 grind [wK]
theorem Hn (ar:List bc) (es:List bC) (u:List fK×List fK) (nf ns:Nat) (B:Int) (h1:mE u.1 nf B) (h2:mE u.2 ns B):∀k,k<=es.length->j3 ar es u k=true->mE (jK ar es u k).1 nf (B+k)/\mE (jK ar es u k).2 ns (B+k)/\(k:Int)<=(if k=0 then 0 else (aI es (k-1)).page)/\(if k=0 then 0 else (aI es (k-1)).page)<256
 | 0,_,_=>⟨h1.mono (by omega),h2.mono (by omega),zG _,by omega⟩
 | k+1,hk,hb=>by
  unfold j3 at hb;rw[dR] at hb;obtain⟨a1,a2,a3,a4⟩:=Hn ar es u nf ns B h1 h2 k (by omega) hb.1;obtain⟨b1,b2,b3⟩:=RV hb.2;have hm:=gN b1
  grind [pj,sF,jK,mE.use,mE.mono]
theorem GI (ar:List bc) (es:List bC) (u:List fK×List fK):∀(k n:Nat),k<=n->j3 ar es u k=false->j3 ar es u n=false
 | k,0,h,e=>by
  grind
 | k,n+1,h,e=>by
  by_cases c:k=n+1
  · grind
  · rw[j3,GI ar es u k n (by omega) e,vY]
theorem YG (ar:List bc) (es:List bC) (u:List fK×List fK) (k:Nat) (hk:k<es.length) (h:wK ar (pj es k) (jK ar es u k).1 (jK ar es u k).2 (aI es k)=false):j3 ar es u es.length=false :=
 GI ar es u (k+1) es.length hk (by grind [j3])
theorem Tj (n:Nat):mE (List.replicate n eB) n 0:=by
 refine⟨Co,fun i hi=>?_⟩;unfold dO;rw[zQ,List.getElem?_replicate,bf hi];exact⟨zG _,zG _⟩
theorem Tk (hs:List bM) (ss:List dm) (u:List fK×List fK) (nf ns:Nat) (h1:mE u.1 nf 0) (h2:mE u.2 ns 0):∀k,k<=ss.length->nT hs ss u k=true->mE (kN ss u k).1 nf (255*k)/\mE (kN ss u k).2 ns (255*k)
 | 0,_,_=>⟨h1,h2⟩
 | k+1,hk,hb=>by
  unfold nT at hb;rw[dR,dR] at hb;obtain⟨a1,a2⟩:=Tk hs ss u nf ns h1 h2 k (by omega) hb.1;obtain⟨b1,b2,_,_⟩:=Hn (ak ss k).aZ (ak ss k).aW (kN ss u k) nf ns (255*k) a1 a2 _ (aM _) hb.2.2
  grind [kN,mE.mono]
theorem Rv {k:aN} (hr:fJ k.aA=true) (hb:nT k.aA k.aj (List.replicate k.frames.length eB,List.replicate k.slots.length eB) k.aj.length=true) (i:Nat) (hi:i<k.frames.length) (hn:(dO (yN k).1 i).refs≠0):0<=(dO (yN k).1 i).page/\(dO (yN k).1 i).page<256:=by
 obtain⟨a1,a2⟩:=yP hr (Mq k.frames.length k.slots.length) k.aj _ (aM _) hb;have hs:=a1.2.1 i hi;have hs:xC (cO (k.aj.take k.aj.length) 1 i) (dO (yN k).1 i):=hs;rw[tF] at hs;have hne:cO k.aj 1 i≠[]:=fun e=>hn ((yO hs).2 e)
 obtain⟨x,hx⟩:=Iw _ hne;have e:=hs.2 x hx;obtain⟨s,hsm,en,hen,_,_,hxe⟩:=o8.1 hx;obtain⟨j,hj,rfl⟩:=jb uP hsm;have hm:=gN ((a2 j hj).FC en hen).1
 grind
theorem JJ (hs:List bM) (ss:List dm) (u:List fK×List fK):∀(k n:Nat),k<=n->nT hs ss u k=false->nT hs ss u n=false
 | k,0,h,e=>by
  grind
 | k,n+1,h,e=>by
  by_cases c:k=n+1
  · grind
  · rw[nT,JJ hs ss u k n (by omega) e,vY]
theorem Gf (s:dm) (va:Value) (ap:Option Addr) (cp:Nat) (uf us:List fK) (lo gf nf cf gs ns cs:Nat) (bd:Int) (w0 w:World) (ha:eU w0 va s.aZ) (he:dz bk 3 eD w0 ap s.aW) (hfit:Er s) (hw:Below w0.heap.size w0 w) (hlo:w0.heap.size<=lo) (huf:ir lo w gf nf cf uf) (hus:ir lo w gs ns cs us) (hne:¬gf=gs) (hb1:mE uf nf bd) (hb2:mE us ns bd) (hB:bd<=100000) (rU:nf<=1000) (hns:ns<=1000) :
  Calls Tryz.prog 112 #[.agg #[.bool s.live,va,.slice ap s.aW.length cp],.slice (some (Ad gf 0)) nf cf,.slice (some (Ad gs 0)) ns cs] w fun x w'=>x=.returned (.bool (j3 s.aZ s.aW (uf,us) s.aW.length))/\aH (fun b=>b=gf∨b=gs) w w'/\(j3 s.aZ s.aW (uf,us) s.aW.length=true->ir lo w' gf nf cf (jK s.aZ s.aW (uf,us) s.aW.length).1/\ir lo w' gs ns cs (jK s.aZ s.aW (uf,us) s.aW.length).2):=by
 obtain⟨lv,ar,es⟩:=s;simp only at ha he hfit ⊢;have HHA:=ai ha;have HHE:=ai he;have zx:=ai hfit.aZ;have uu:=ai hfit.FC;have hel:es.length<=140737488351232:=hfit.aW;have HW:=ai hw;have hgf:=huf.lt;have hgs:=hus.lt;have LL:=ai (Hn ar es (uf,us) nf ns bd hb1 hb2);have lM:=ai (YG ar es (uf,us));have rR:Hid (∀k,j3 ar es (uf,us) k=true->wK ar (pj es k) (jK ar es (uf,us) k).1 (jK ar es (uf,us) k).2 (aI es k)=true->j3 ar es (uf,us) (k+1)=true/\jK ar es (uf,us) (k+1)=sF ar (jK ar es (uf,us) k) (aI es k)):=fun k h1 h2=>⟨by grind [j3],rfl⟩
 have Qn:Hid (∀k,pj es (k+1)=(aI es k).page):=fun k=>by rfl
 obtain⟨aa,ca,yt,_⟩:=id ha;subst yt;obtain⟨na,wh⟩:=ex ar.length;rw[<- wh] at HHA ⊢;have rz:=ai (aH.alloc (fun b=>b=gf∨b=gs) w (.cells #[.bool lv,.slice aa na ca,.slice ap es.length cp] 43));have BS:=ai (bG w #[.bool lv,.slice aa na ca,.slice ap es.length cp] 43);have ajJ:=ai (huf.kp (aH.alloc (fun _=>False) w (.cells #[.bool lv,.slice aa na ca,.slice ap es.length cp] 43)) (fun x=>x));have ajI:=ai (hus.kp (aH.alloc (fun _=>False) w (.cells #[.bool lv,.slice aa na ca,.slice ap es.length cp] 43)) (fun x=>x));clear ha he hfit hw huf hus hb1 hb2 wh;go_enter Tryz.func112,Tryz.ntmps112;go_wp2;obtain⟨W,hW⟩:=ex (w.alloc (.cells #[.bool lv,.slice aa na ca,.slice ap es.length cp] 43));rw[<- hW] at rz BS ajJ ajI ⊢;obtain⟨sb,DX⟩:=ex w.heap.size;have avd:¬sb=gf:=by omega
 have avc:¬sb=gs:=by omega
 have hsW:W.heap.size=sb+1:=by simp_all
 have h0s:w0.heap.size<=sb:=by omega
 have avT:gf<sb:=by omega
 have avP:gs<sb:=by omega
 rw[<- DX] at BS ⊢;clear hW DX;go_loopw [7,15] (fun lv iv wr=>∃k:Nat,k<=es.length/\iv=I (k:Int)/\lv=I (pj es k)/\j3 ar es (uf,us) k=true/\aH (fun b=>b=gf∨b=gs) W wr/\ir lo wr gf nf cf (jK ar es (uf,us) k).1/\ir lo wr gs ns cs (jK ar es (uf,us) k).2) (fun _ iv _=>es.length-(intOf iv).toNat)
 case atStart=>exact⟨0,by omega,rfl,rfl,rfl,aH.refl _ _,ajJ.o,ajI.o⟩
 case round =>
  obtain⟨k,hk,rfl,rfl,hbk,yu,hof,hos⟩:=hrel;have Y5:=ai yu;have HBK:=ai hbk;have HOF:=ai hof;have HOS:=ai hos;obtain⟨L,hL⟩:=ex (pj es k);rw[<- hL];have bs:=yu.keep BS.o (fun x=>by omega);have hsz:=yu.size;have s2:wr.cell? (Ad sb 2)=some (.slice ap es.length cp):=aB bs 2 rfl;have HBS:=ai bs;by_cases hlt:k<es.length
  · have hb0:=(yu.below (rz.o.below HW.o HW.o.size (fun b hb=>by omega)) (by omega) (fun b hb=>by omega):Below w0.heap.size w0 wr);have eO:=ai hb0;obtain⟨eb,eo,hao,hbl,fG⟩:=HHE.o (by omega);subst hao;have ce:∀j,j<3->wr.cell? (Ad eb (eo+k*3+j))=(bk (aI es k))[j]?:=fun j hj=>(hb0.cell (p:=(Ad eb (eo+k*3+j))) hbl).trans (fG k hlt j hj)
    have e0:=ce 0 (by omega);have e1:=ce 1 (by omega);have e2:=ce 2 (by omega);rw[gV] at e0;have L4:=uu.o k hlt;have lM:=ai (lM.o k hlt);have rR:=ai (rR.o k HBK.o);have Qn:=ai (Qn.o k);obtain⟨bd1,bd2,bd3,bd4⟩:=LL.o k (by omega) HBK.o;have Ou:(k:Int)<=255:=by omega
    have HUB:Hid (mE (jK ar es (uf,us) k).1 nf 1000000/\mE (jK ar es (uf,us) k).2 ns 1000000):=⟨bd1.mono (by omega),bd2.mono (by omega)⟩;have Gi:Hid (∀V,Below w0.heap.size w0 V->Calls Tryz.prog 70 #[.slice aa na ca,I (aI es k).page] V fun e w'=>e=.returned (.tuple #[.agg (kY (aV ar (aI es k).page).1),.bool (aV ar (aI es k).page).2])/\Below V.heap.size V w'):=fun V hV=>uo ar _ _ V (HHA.o.below hV) zx.o
    rw[<- hL] at lM rR;have HEU:Hid (∀u:List fK×List fK,sF ar u (aI es k)=if (aI es k).kind=1 then (ry u.1 (aI es k) (aV ar (aI es k).page).1.zero,u.2) else (u.1,ry u.2 (aI es k) (aV ar (aI es k).page).1.zero)):=fun u=>rfl
    obtain⟨UU,hUU⟩:=ex (jK ar es (uf,us) k);rw[<- hUU] at lM rR HUB HOF HOS;obtain⟨U1,U2⟩:=UU;unfold wK at lM rR;obtain⟨E,hE⟩:=ex (aI es k);rw[<- hE] at e0 e1 e2 L4 lM rR Qn Gi HEU;obtain⟨pg,kd,lc⟩:=E;simp only at lM rR HUB HOF HOS L4 Qn Gi HEU;have x0:wr.cell? (Ad eb (eo+k*3))=some (I pg):=e0;have x1:wr.cell? (Ad eb (eo+k*3+1))=some (I kd):=e1;have x2:wr.cell? (Ad eb (eo+k*3+2))=some (I lc):=e2;obtain⟨⟨fa,ok⟩,hF⟩:∃F,F=aV ar pg:=⟨_,rfl⟩;rw[<- hF] at lM rR Gi HEU;obtain⟨f1,f2,f3,z⟩:=fa;unfold kY at Gi;simp only at lM rR Gi HEU;have Y1:=ai (fun V (hV:ir lo V gf nf cf U1)=>Pn U1 ⟨pg,kd,lc⟩ z lo gf nf cf V hV rU ⟨L4.1,L4.2.2⟩ (fun i hi=>HUB.o.1.2 i hi));have TA:=ai (fun V (hV:ir lo V gs ns cs U2)=>Pn U2 ⟨pg,kd,lc⟩ z lo gs ns cs V hV hns ⟨L4.1,L4.2.2⟩ (fun i hi=>HUB.o.2.2 i hi));obtain⟨A1,hA1⟩:=ex (oG U1 ⟨pg,kd,lc⟩ z);obtain⟨A2,WI⟩:=ex (oG U2 ⟨pg,kd,lc⟩ z);rw[<- hA1,<- WI] at lM rR;rw[<- hA1] at Y1;rw[<- WI] at TA;have agI:=hb0.size;have KA:=ai (Y5.o.trans (aH.alloc (fun b=>b=gf∨b=gs) wr (.cells #[I pg,I kd,I lc] 45)) (fun _ _ x=>x));have gK:=ai (eO.o.alloc eO.o.size (.cells #[I pg,I kd,I lc] 45));have OA:=ai (HOF.o.kp (aH.alloc (fun _=>False) wr (.cells #[I pg,I kd,I lc] 45)) (fun x=>x));have OB:=ai (HOS.o.kp (aH.alloc (fun _=>False) wr (.cells #[I pg,I kd,I lc] 45)) (fun x=>x));have s1A:(wr.alloc (.cells #[I pg,I kd,I lc] 45)).cell? (Ad sb 1)=some (.slice aa na ca):=aB (bE HBS.o _) 1 rfl;have BE:=ai (bG wr #[I pg,I kd,I lc] 45);clear e0 e1 e2 hL hUU hE hF hA1 WI yu hbk hof hos hb0 fG ce bd1 bd2 bd3 bd4 LL HHE HHA zx uu ajJ ajI Y5 eO HOF HOS HUB bs HBS BS Ou;cases ok with
    | false =>
     have Y9:=ai (lM.o rfl);clear lM rR Y1 TA HEU;go_wp2_with (go_at_call 70;refine(Gi.o _ gK.o).mono ?_;rintro e w1 ⟨rfl,hb1⟩;have K1:=ai (KA.o.trans (aH.b7 hb1) (fun _ _ x=>x));have KC:=ai (aQ BE.o hb1 (by simp));have hx1:wr.heap.size<w1.heap.size:=aO KC.o;clear hb1)
     have KX:=ai (K1.o.trans (aH.alloc (fun b=>b=gf∨b=gs) w1 (.cells #[I f1,I f2,I f3,.bool z] 47)) (fun _ _ x=>x));go_ret;exact⟨fp (fun b=>Ending.returned (.bool b)) Y9.o.symm,rz.o.trans KX.o (fun _ _ x=>x),fun x=>by rw[Y9.o] at x;cases x⟩
    | true =>
     by_cases hlp:pg<=L
     · have Y9:=ai (lM.o (by grind));clear lM rR Y1 TA HEU;go_wp2_with (go_at_call 70;refine(Gi.o _ gK.o).mono ?_;rintro e w1 ⟨rfl,hb1⟩;have K1:=ai (KA.o.trans (aH.b7 hb1) (fun _ _ x=>x));have KC:=ai (aQ BE.o hb1 (by simp));have t0:w1.cell? (Ad wr.heap.size 0)=some (I pg):=aB KC.o 0 rfl;have hx1:wr.heap.size<w1.heap.size:=aO KC.o;clear hb1)
       have KX:=ai (K1.o.trans (aH.alloc (fun b=>b=gf∨b=gs) w1 (.cells #[I f1,I f2,I f3,.bool z] 47)) (fun _ _ x=>x));go_ret;exact⟨fp (fun b=>Ending.returned (.bool b)) Y9.o.symm,rz.o.trans KX.o (fun _ _ x=>x),fun x=>by rw[Y9.o] at x;cases x⟩
     · have acM:L<pg:=by omega
       rw[dh acM] at lM rR;by_cases k1:kd=1
       · rw[bf k1] at lM rR;have k1b:(kd==1)=true:=by grind
         have HK:=ai k1;clear TA k1;cases A1 with
         | false =>
          have Y9:=ai (lM.o rfl);clear lM rR HEU;go_wp2_with (first | (go_at_call 70;refine(Gi.o _ gK.o).mono ?_;rintro e w1 ⟨rfl,hb1⟩;have K1:=ai (KA.o.trans (aH.b7 hb1) (fun _ _ x=>x));have O1:=ai (OA.o.kp (aH.b7 (D:=fun _=>False) hb1) (fun x=>x));have O2:=ai (OB.o.kp (aH.b7 (D:=fun _=>False) hb1) (fun x=>x));have KC:=ai (aQ BE.o hb1 (by simp));have t0:w1.cell? (Ad wr.heap.size 0)=some (I pg):=aB KC.o 0 rfl;have t1:w1.cell? (Ad wr.heap.size 1)=some (I kd):=aB KC.o 1 rfl;have t2:w1.cell? (Ad wr.heap.size 2)=some (I lc):=aB KC.o 2 rfl;have hx1:wr.heap.size<w1.heap.size:=aO KC.o;clear hb1) | (go_at_call 150;refine(Y1.o _ (O1.o.kp (aH.alloc (fun _=>False) _ _) (fun x=>x))).mono ?_;rintro e w3 ⟨rfl,hk3,ho3⟩;have K3:=ai ((K1.o.trans (aH.alloc (fun b=>b=gf∨b=gs) _ _) (fun _ _ x=>x)).trans (hk3.mono (D1:=fun b=>b=gf∨b=gs) (fun b _ x=>.inl x)) (fun _ _ x=>x));clear hk3 ho3))
          have KX:=ai K3.o;go_ret;exact⟨fp (fun b=>Ending.returned (.bool b)) Y9.o.symm,rz.o.trans KX.o (fun _ _ x=>x),fun x=>by rw[Y9.o] at x;cases x⟩
         | true =>
          have QN:=ai (rR.o rfl);clear lM rR;go_wp2_with (first | (go_at_call 70;refine(Gi.o _ gK.o).mono ?_;rintro e w1 ⟨rfl,hb1⟩;have K1:=ai (KA.o.trans (aH.b7 hb1) (fun _ _ x=>x));have O1:=ai (OA.o.kp (aH.b7 (D:=fun _=>False) hb1) (fun x=>x));have O2:=ai (OB.o.kp (aH.b7 (D:=fun _=>False) hb1) (fun x=>x));have KC:=ai (aQ BE.o hb1 (by simp));have t0:w1.cell? (Ad wr.heap.size 0)=some (I pg):=aB KC.o 0 rfl;have t1:w1.cell? (Ad wr.heap.size 1)=some (I kd):=aB KC.o 1 rfl;have t2:w1.cell? (Ad wr.heap.size 2)=some (I lc):=aB KC.o 2 rfl;have hx1:wr.heap.size<w1.heap.size:=aO KC.o;clear hb1) | (go_at_call 150;refine(Y1.o _ (O1.o.kp (aH.alloc (fun _=>False) _ _) (fun x=>x))).mono ?_;rintro e w3 ⟨rfl,hk3,ho3⟩;have K3:=ai ((K1.o.trans (aH.alloc (fun b=>b=gf∨b=gs) _ _) (fun _ _ x=>x)).trans (hk3.mono (D1:=fun b=>b=gf∨b=gs) (fun b _ x=>.inl x)) (fun _ _ x=>x));have O3:=ai ho3;have P3:=ai ((O2.o.kp (aH.alloc (fun _=>False) _ _) (fun x=>x)).kp hk3 (fun x=>hne x.symm));clear hk3 ho3))
          go_roundw
          case rel=>grind [Hid.o]
          grind [intOf]
       · rw[bl k1] at lM rR;clear Y1;have k1b:(kd==1)=false:=by grind
         by_cases k2:kd=2
         · rw[bf k2] at lM rR;have k2b:(kd==2)=true:=by grind
           have HK:=ai k1;clear k1 k2;cases A2 with
           | false =>
            have Y9:=ai (lM.o rfl);clear lM rR HEU;go_wp2_with (first | (go_at_call 70;refine(Gi.o _ gK.o).mono ?_;rintro e w1 ⟨rfl,hb1⟩;have K1:=ai (KA.o.trans (aH.b7 hb1) (fun _ _ x=>x));have O1:=ai (OA.o.kp (aH.b7 (D:=fun _=>False) hb1) (fun x=>x));have O2:=ai (OB.o.kp (aH.b7 (D:=fun _=>False) hb1) (fun x=>x));have KC:=ai (aQ BE.o hb1 (by simp));have t0:w1.cell? (Ad wr.heap.size 0)=some (I pg):=aB KC.o 0 rfl;have t1:w1.cell? (Ad wr.heap.size 1)=some (I kd):=aB KC.o 1 rfl;have t2:w1.cell? (Ad wr.heap.size 2)=some (I lc):=aB KC.o 2 rfl;have hx1:wr.heap.size<w1.heap.size:=aO KC.o;clear hb1) | (go_at_call 150;refine(TA.o _ (O2.o.kp (aH.alloc (fun _=>False) _ _) (fun x=>x))).mono ?_;rintro e w3 ⟨rfl,hk3,ho3⟩;have K3:=ai ((K1.o.trans (aH.alloc (fun b=>b=gf∨b=gs) _ _) (fun _ _ x=>x)).trans (hk3.mono (D1:=fun b=>b=gf∨b=gs) (fun b _ x=>.inr x)) (fun _ _ x=>x));clear hk3 ho3))
            have KX:=ai K3.o;go_ret;exact⟨fp (fun b=>Ending.returned (.bool b)) Y9.o.symm,rz.o.trans KX.o (fun _ _ x=>x),fun x=>by rw[Y9.o] at x;cases x⟩
           | true =>
            have QN:=ai (rR.o rfl);clear lM rR;go_wp2_with (first | (go_at_call 70;refine(Gi.o _ gK.o).mono ?_;rintro e w1 ⟨rfl,hb1⟩;have K1:=ai (KA.o.trans (aH.b7 hb1) (fun _ _ x=>x));have O1:=ai (OA.o.kp (aH.b7 (D:=fun _=>False) hb1) (fun x=>x));have O2:=ai (OB.o.kp (aH.b7 (D:=fun _=>False) hb1) (fun x=>x));have KC:=ai (aQ BE.o hb1 (by simp));have t0:w1.cell? (Ad wr.heap.size 0)=some (I pg):=aB KC.o 0 rfl;have t1:w1.cell? (Ad wr.heap.size 1)=some (I kd):=aB KC.o 1 rfl;have t2:w1.cell? (Ad wr.heap.size 2)=some (I lc):=aB KC.o 2 rfl;have hx1:wr.heap.size<w1.heap.size:=aO KC.o;clear hb1) | (go_at_call 150;refine(TA.o _ (O2.o.kp (aH.alloc (fun _=>False) _ _) (fun x=>x))).mono ?_;rintro e w3 ⟨rfl,hk3,ho3⟩;have K3:=ai ((K1.o.trans (aH.alloc (fun b=>b=gf∨b=gs) _ _) (fun _ _ x=>x)).trans (hk3.mono (D1:=fun b=>b=gf∨b=gs) (fun b _ x=>.inr x)) (fun _ _ x=>x));have O3:=ai ho3;have P3:=ai ((O1.o.kp (aH.alloc (fun _=>False) _ _) (fun x=>x)).kp hk3 hne);clear hk3 ho3))
            go_roundw
            case rel=>grind [Hid.o]
            grind [intOf]
         · rw[bl k2] at lM rR;have k2b:(kd==2)=false:=by grind
           have Y9:=ai (lM.o rfl);clear lM rR TA HEU k1 k2;go_wp2_with (go_at_call 70;refine(Gi.o _ gK.o).mono ?_;rintro e w1 ⟨rfl,hb1⟩;have K1:=ai (KA.o.trans (aH.b7 hb1) (fun _ _ x=>x));have KC:=ai (aQ BE.o hb1 (by simp));have t0:w1.cell? (Ad wr.heap.size 0)=some (I pg):=aB KC.o 0 rfl;have t1:w1.cell? (Ad wr.heap.size 1)=some (I kd):=aB KC.o 1 rfl;have hx1:wr.heap.size<w1.heap.size:=aO KC.o;clear hb1)
           have KX:=ai (K1.o.trans (aH.alloc (fun b=>b=gf∨b=gs) w1 (.cells #[I f1,I f2,I f3,.bool z] 47)) (fun _ _ x=>x));go_ret;exact⟨fp (fun b=>Ending.returned (.bool b)) Y9.o.symm,rz.o.trans KX.o (fun _ _ x=>x),fun x=>by rw[Y9.o] at x;cases x⟩
  · obtain rfl:k=es.length:=by omega
    clear hL;go_wp2;go_ret;exact⟨fp (fun b=>Ending.returned (.bool b)) HBK.o.symm,rz.o.trans Y5.o (fun _ _ x=>x),fun _=>⟨HOF.o,HOS.o⟩⟩
theorem OT (ao:Option Addr) (cap:Nat) (w:World) :
  Calls Tryz.prog 99 #[.slice ao 0 cap] w fun e w'=>e=.returned (.bool (mn []))/\Below w.heap.size w w':=by
 go_enter Tryz.func99,Tryz.ntmps99;go_wp2;refine xO 1 ?_;rw[xK];go_wp2;go_ret;exact⟨rfl,aK _ _⟩
theorem MZ (l:List bc) (b off cap:Nat) (w:World) (hl:qc w b off l) (hn:l.length<=140737488351232) :
  Calls Tryz.prog 99 #[.slice (some (Ad b off)) l.length cap] w fun e w'=>e=.returned (.bool (mn l))/\Below w.heap.size w w':=by
 go_enter Tryz.func99,Tryz.ntmps99;go_wp2;go_loopw [7] (fun i wr=>∃k:Nat,k<=l.length/\i=I k/\oc l k=false/\Below w.heap.size w wr) (fun i _=>l.length-(intOf i).toNat)
 case atStart=>exact⟨0,by omega,rfl,rfl,aK _ _⟩
 case round =>
  obtain⟨k,hk,rfl,hz,hb⟩:=hrel;have HZ:=aD hz;have sY:=aD hb;clear hz;by_cases hlt:k<l.length
  · obtain⟨c0,c1,c2,c3⟩:=(hl.below hb) k hlt;obtain⟨a,ha⟩:=ex (bB l k);rw[<- ha] at c0 c1 c2 c3;have HA:=aD ha;clear ha hb;by_cases hzr:a.zero=true
    · have HX:Hid (mn l=true):=aac l k hlt (by grind [Hid.o]);go_wp2;go_ret;exact⟨gZ (by rw[HX.o]),sY.o.alloc sY.o.size _⟩
    · have auX:a.zero=false:=by grind
      clear hzr;have HX:Hid (oc l (k+1)=false):=by
       grind [oc,Hid.o]
      go_wp2
      grind [intOf,Hid.o,Below.alloc,Below.size]
  · obtain rfl:k=l.length:=by omega
    go_wp2;go_ret;exact⟨gZ HZ.o.symm,sY.o⟩
theorem OU (l:List bc) (v:Value) (w:World) (h:eU w v l) (hf:ed l) :
  Calls Tryz.prog 99 #[v] w fun e w'=>e=.returned (.bool (mn l))/\Below w.heap.size w w':=by
 obtain⟨ao,cap,rfl,h⟩:=h;rcases h with rfl | ⟨b,off,rfl,hl⟩
 · exact OT ao cap w
 · exact MZ l b off cap w hl hf.2
theorem G7 (hs:List bM) (ao:Option Addr) (cap:Nat) (w:World) (h:iM w ao hs) (hf:qI hs) :
  Calls Tryz.prog 101 #[.slice ao hs.length cap] w fun e w'=>e=.returned (.bool (rE hs))/\Below w.heap.size w w':=by
 have HF:=aD hf;have HH:=aD h;have hn:hs.length<=140737488351232:=hf.1;clear h hf;go_enter Tryz.func101,Tryz.ntmps101;go_wp2;go_loopw [7] (fun i wr=>∃k:Nat,k<=hs.length/\i=I k/\ld hs k=true/\Below w.heap.size w wr) (fun i _=>hs.length-(intOf i).toNat)
 case atStart=>exact⟨0,by omega,rfl,rfl,aK _ _⟩
 case round =>
  obtain⟨k,hk,rfl,hz,hb⟩:=hrel;have HZ:=aD hz;have sY:=aD hb;clear hz;by_cases hlt:k<hs.length
  · obtain⟨b,off,hao,hbl,fG⟩:=(HH.o.below hb) (by omega);subst hao;obtain⟨c0,c1,c2,c3⟩:=fG k hlt;have Gm:=HF.o.2 k hlt;have HE:Hid (ld hs (k+1)=cR (bj hs k)):=by
     grind [ld,Hid.o]
    have Ic:Hid (cR (bj hs k)=false->rE hs=false):=fun e=>Q0 hs k hlt e
    obtain⟨s,hse⟩:=ex (bj hs k);rw[<- hse] at c0 c1 c2 c3 Gm HE Ic;clear hse fG hb;have gK:=aD (sY.o.alloc sY.o.size (.cells #[I s.page,.string s.data,.slice s.ao s.dn.length s.cap] 50));have HC:Hid (∀W,Below wr.heap.size wr W->Calls Tryz.prog 146 #[.agg #[I s.page,.string s.data,.slice s.ao s.dn.length s.cap]] W fun e w'=>e=.returned (.bool (cR s))/\Below W.heap.size W w'):=fun W hb=>zV s W (c3.below hb) Gm
    clear c3 Gm;cases e:cR s with
    | true =>
     rw[e] at HC HE;clear e;go_wp2_with (go_at_call 146;refine(HC.o _ ((aK _ _).alloc (aM _) _)).mono ?_;rintro e w1 ⟨rfl,hb⟩;have gK:=aD (gK.o.trans (hb.mono gK.o.size));clear hb)
     go_roundw
     case rel=>exact⟨k+1,by omega,by go_num,HE.o,gK.o⟩
     case measure=>simp[intOf];omega
    | false =>
     have HX:=aD (Ic.o e);rw[e] at HC;clear e Ic HE;go_wp2_with (go_at_call 146;refine(HC.o _ ((aK _ _).alloc (aM _) _)).mono ?_;rintro e w1 ⟨rfl,hb⟩;have gK:=aD (gK.o.trans (hb.mono gK.o.size));clear hb)
     go_ret;exact⟨gZ (by rw[HX.o]),gK.o⟩
  · obtain rfl:k=hs.length:=by omega
    go_wp2;go_ret;exact⟨gZ HZ.o.symm,sY.o⟩
end Go.Proofs.YtpgifpeohlllfaaGreat
end Go.Proofs.YtpgifpeohlllfaaGreat
