import Derived.Test.YtpgifpeohlllfaaGreatGR05
set_option maxHeartbeats 20000000
set_option linter.unusedVariables false
set_option maxRecDepth 100000
set_option linter.unusedSimpArgs false
namespace Go.Proofs.YtpgifpeohlllfaaGreat
open Go.RowKit
theorem TQ {hs:List bR} {ar:List aZ} {k n:Nat} (hk:k<ar.length) (hn:n<(bl ar k).bC.toNat) (hz:(bl ar k).zero=false) (he:eO hs ((bl ar k).page+(n:Int))=⟨#[]⟩):pj hs ar=false:=by
 cases q:pj hs ar with
 | false=>rfl
 | true =>
  unfold pj at q;rw[tZ] at q;have:=q (bl ar k) (jc hk);rw[tZ] at this;have:=this n (vk.2 hn);rw[hz,he] at this;cases this
theorem QK {hs:List bR} {ar:List aZ} (h:∀k,k<ar.length->∀n,n<(bl ar k).bC.toNat->(bl ar k).zero=true∨eO hs ((bl ar k).page+(n:Int))≠⟨#[]⟩):pj hs ar=true:=by
 unfold pj;rw[tZ];intro a ha;obtain⟨k,hk,rfl⟩:=gU rM ha;rw[tZ];intro n hn;rcases h k hk n (vk.1 hn) with g | g
 · rw[show(ar.getD k rM).zero=true from g];rfl
 · rw[zu,gP];right;intro e;refine g ?_;have:(eO hs ((bl ar k).page+(n:Int))).size=0:=e;obtain⟨x,hx⟩:=ex (eO hs ((bl ar k).page+(n:Int)));rw[<- hx] at this ⊢;obtain⟨⟨l⟩⟩:=x;have:l=[]:=iT this;rw[this]
theorem Gl (hs:List bR) (ar:List aZ) (va:Value) (mb:Nat) (w:World) (ha:fu w va ar) (hc:bB ar=0) (hmb:mb<w.heap.size) (hfl:∀n:Nat,n<256->w.cell? (Ad mb (5+n))=some (.string (eO hs n))) :
  Calls Tryz.prog 149 #[.pointer (some (Ad mb 0)),va] w fun e w'=>e=.returned (.bool (pj hs ar))/\Below w.heap.size w w':=by
 obtain⟨ao,cap,rfl,eI⟩:=ha;have hlen:=kO ar hc;have HL:=ai eI;have Vp:=ai hfl;have HOK:=ai (fun k (hk:k<ar.length)=>fG ar k (fw ar hc k hk));have n9:=ai (fun k n=>@TQ hs ar k n);have abw:=ai (@QK hs ar);obtain⟨A,hA⟩:=ex (pj hs ar);rw[<- hA] at n9 abw ⊢;clear eI hfl hA;go_enter Tryz.func149,Tryz.ntmps149;go_wp2;go_loopw [10] (fun iv wr=>∃k:Nat,k<=ar.length/\iv=I (k:Int)/\Below w.heap.size w wr/\∀i,i<k->∀n,n<(bl ar i).bC.toNat->(bl ar i).zero=true∨eO hs ((bl ar i).page+(n:Int))≠⟨#[]⟩) (fun iv _=>ar.length-(intOf iv).toNat)
 case atStart=>grind [Below.refl]
 case round =>
  obtain⟨k,hk,rfl,hb,Bn⟩:=hrel;have HB:=ai hb;have HP:=ai Bn;clear Bn;by_cases hlt:k<ar.length
  · obtain⟨b,off,hao,Sv⟩:=HL.o.resolve_left (fun e=>by grind);subst hao;obtain⟨d0,d1,d2,d3⟩:=Sv k hlt;have hbl:=Sv.lt k hlt;have c0:=(hb.cell (p:=(Ad b (off+k*4))) hbl).trans d0;have c1:=(hb.cell (p:=(Ad b (off+k*4+1))) hbl).trans d1;have c2:=(hb.cell (p:=(Ad b (off+k*4+2))) hbl).trans d2;have c3:=(hb.cell (p:=(Ad b (off+k*4+3))) hbl).trans d3;have hok:=HOK.o k hlt;have n9:=ai (fun n=>n9.o k n hlt);have HS:Hid (∀n,n<(bl ar k).bC.toNat->(bl ar k).zero=true∨eO hs ((bl ar k).page+(n:Int))≠⟨#[]⟩)->Hid (∀i,i<k+1->∀n,n<(bl ar i).bC.toNat->(bl ar i).zero=true∨eO hs ((bl ar i).page+(n:Int))≠⟨#[]⟩):=fun g i hi=>by
     by_cases e:i=k
     · rw[e];exact g.out
     · exact HP.o i (by omega)
    obtain⟨a,ha⟩:=ex (bl ar k);rw[<- ha] at c0 c1 c2 c3 hok n9 HS;obtain⟨pg,ps,pt,z⟩:=a;simp only at c0 c1 c2 c3 hok n9 HS;obtain⟨pn,rfl⟩:∃pn:Nat,pg=(pn:Int):=⟨pg.toNat,by omega⟩;obtain⟨pm,rfl⟩:∃pm:Nat,ps=(pm:Int):=⟨ps.toNat,by omega⟩;rw[jn] at HS n9;have fV:=ai (HB.o.alloc HB.o.size (.cells #[I (pn:Int),I (pm:Int),I pt,.bool z] 47));have SA:=ai (bO wr #[I (pn:Int),I (pm:Int),I pt,.bool z] 47);clear ha d0 d1 d2 d3 Sv HP abw HOK HL hb;go_wp2;obtain⟨W1,hW1⟩:=ex (wr.alloc (.cells #[I (pn:Int),I (pm:Int),I pt,.bool z] 47));rw[<- hW1] at fV SA ⊢;obtain⟨sb,Bi⟩:=ex wr.heap.size;rw[<- Bi] at SA ⊢;clear hW1 Bi c0 c1 c2 c3;have s0:W1.cell? (Ad sb 0)=some (I (pn:Int)):=aB SA.o 0 rfl;have s3:W1.cell? (Ad sb 3)=some (.bool z):=aB SA.o 3 rfl;have HWF:Hid (∀n:Nat,n<256->W1.cell? (Ad mb (5+n))=some (.string (eO hs n))):=fun n hn=>(fV.o.cell (p:=(Ad mb (5+n))) hmb).trans (Vp.o n hn)
    go_loopw [16] (fun iv wq=>∃n:Nat,n<=pm/\iv=I (n:Int)/\(wq.heap=W1.heap/\Below w.heap.size w wq)/\∀i,i<n->z=true∨eO hs ((pn:Int)+(i:Int))≠⟨#[]⟩) (fun iv _=>pm-(intOf iv).toNat)
    case atStart=>exact⟨0,by omega,rfl,⟨rfl,fV.o⟩,fun i hi=>by omega⟩
    case round =>
     obtain⟨n,hn,rfl,⟨hD,Sy⟩,Bn⟩:=hrel;obtain⟨wq,hwq⟩:=ex wr;rw[<- hwq] at hD Sy ⊢;clear hwq;have ET:=ai Sy;have HHD:=ai hD;have ES:=ai Bn;have r0:wq.cell? (Ad sb 0)=some (I (pn:Int)):=(C2 (by rw[hD])).trans s0;have r3:wq.cell? (Ad sb 3)=some (.bool z):=(C2 (by rw[hD])).trans s3;have HWQ:Hid (∀n:Nat,n<256->wq.cell? (Ad mb (5+n))=some (.string (eO hs n))):=fun n hn=>(C2 (by rw[HHD.o])).trans (HWF.o n hn)
     clear hD Sy Bn;by_cases Fg:n<pm
     · have hni:(n:Int)<(pm:Int):=by omega
       have HN:Hid (∀wz:World,wz=wq.drew->(wz.heap=W1.heap/\Below w.heap.size w wz)):=fun wz e=>by rw[e];exact⟨HHD.o,ET.o.drew⟩
       have Dl:Hid ((z=true∨eO hs ((pn:Int)+(n:Int))≠⟨#[]⟩)->∀i,i<n+1->z=true∨eO hs ((pn:Int)+(i:Int))≠⟨#[]⟩):=fun g i hi=>by
        by_cases e:i=n
        · rw[e];exact g
        · exact ES.o i (by omega)
       cases z with
       | true =>
        clear n9 HS ES;go_wp2;go_region;go_wp2;go_roundw
        case rel=>exact⟨n+1,by omega,by go_num,HN.o _ rfl,Dl.o (.inl trivial)⟩
        case measure=>simp[intOf];omega
       | false =>
        have q:=HWQ.o (pn+n) (by omega);have ew:IntKind.i64.wrap ((pn:Int)+(n:Int))=((pn+n:Nat):Int):=by rw[IntKind.wrap_i64];omega
        have ei:((pn+n:Nat):Int)=(pn:Int)+(n:Int):=by omega
        have i0:(0:Int)<=((pn+n:Nat):Int):=by omega
        have i1:((pn+n:Nat):Int)<256:=by omega
        have n9:=ai (n9.o n Fg rfl);rw[<- ei] at n9 Dl;obtain⟨X,hX⟩:=ex (pn+n);obtain⟨D,hD⟩:=ex (eO hs (X:Int));rw[<- hX] at q ew i0 i1 n9 Dl;rw[<- hD] at q n9 Dl;clear HS ES HWQ hX hD ei;by_cases hz:D=⟨#[]⟩
        · have hA:=n9.o hz;subst hA hz;go_wp2;go_region;go_wp2;go_ret;exact⟨rfl,ET.o.drew⟩
        · have hz2:D.toList.isEmpty=false:=by
           rw[zC];cases q2:D.data.toList.isEmpty with
           | false=>rfl
           | true=>exact absurd (by obtain⟨⟨l⟩⟩:=D;have e:l=[]:=List.isEmpty_iff.1 q2;rw[e]) hz
          clear n9;go_wp2;go_region;go_wp2;go_roundw
          case rel=>exact⟨n+1,by omega,by go_num,HN.o _ rfl,Dl.o (.inr hz)⟩
          case measure=>simp[intOf];omega
     · obtain rfl:n=pm:=by omega
       have lR:=ai (HS ES);have hni:¬(n:Int)<(n:Int):=by omega
       go_wp2;go_roundw
       case rel=>exact⟨k+1,by omega,by go_num,ET.o,lR.o⟩
       case measure=>simp[intOf];omega
  · obtain rfl:k=ar.length:=by omega
    have hA:=abw.o HP.o;subst hA;clear hb;go_wp2;go_ret;exact⟨rfl,HB.o⟩
open Go.RowKit
theorem Gh (hs:List bR) (s:cO) (va:Value) (ap:Option Addr) (cp mb:Nat) (w:World) (ha:fu w va s.bk) (hf:BW s) (hmb:mb<w.heap.size) (hfl:∀n:Nat,n<256->w.cell? (Ad mb (5+n))=some (.string (eO hs n))) :
  Calls Tryz.prog 111 #[.pointer (some (Ad mb 0)),.agg #[.bool s.live,va,.slice ap s.aU.length cp]] w fun e w'=>e=.returned (.bool (nR hs s))/\Below w.heap.size w w':=by
 have Ir:=ai (fun V (hV:Below w.heap.size w V)=>qE s.bk va V (ha.below hV) hf.bk);have HHS:Hid (bB s.bk=0->∀V,Below w.heap.size w V->Calls Tryz.prog 149 #[.pointer (some (Ad mb 0)),va] V fun e w'=>e=.returned (.bool (pj hs s.bk))/\Below V.heap.size V w'):=fun hc V hV=>Gl hs s.bk va mb V (ha.below hV) hc (iH hmb hV.size) (fun n hn=>(hV.cell (p:=(Ad mb (5+n))) hmb).trans (hfl n hn))
 obtain⟨A,hA⟩:=ex (nR hs s);rw[<- hA];obtain⟨aa,ca,Av,_⟩:=ha;subst Av;have hln:=hf.bk.2;have hlp:s.aU.length<=140737488351232:=hf.aU;unfold nR at hA;have HA:=ai hA;clear hf hfl hA;obtain⟨na,Ax⟩:=ex s.bk.length;obtain⟨np,Ee⟩:=ex s.aU.length;obtain⟨C,hC⟩:=ex (bB s.bk);obtain⟨E,hE⟩:=ex (pj hs s.bk);obtain⟨lv,hlv⟩:=ex s.live;rw[<- Ax] at HA Ir HHS hln ⊢;rw[<- Ee] at HA hlp ⊢;rw[<- hC] at HA Ir HHS;rw[<- hE] at HA HHS;rw[<- hlv] at HA ⊢;clear Ax Ee hC hE hlv;have HB:=ai ((aK w.heap.size w).alloc (aI _) (.cells #[.bool lv,.slice aa na ca,.slice ap np cp] 43));have X0:=ai (bO w #[.bool lv,.slice aa na ca,.slice ap np cp] 43);cases lv with
 | false =>
  have wj:Hid (A=(decide (na=0)&&decide (np=0))):=HA;clear HA Ir HHS;rcases(show(na=0/\np=0)∨(na=0/\¬np=0)∨¬na=0 by omega) with⟨g,k⟩ | ⟨g,k⟩ | g
  · have h0:((na:Int)==0)=true:=by grind
    have h1:((np:Int)==0)=true:=by grind
    have Al:Hid (A=true):=by grind
    clear wj g k;go_enter Tryz.func111,Tryz.ntmps111;go_wp2;go_ret;exact⟨dQ (fun b=>Ending.returned (.bool b)) Al.o.symm,HB.o⟩
  · have h0:((na:Int)==0)=true:=by grind
    have h1:((np:Int)==0)=false:=by grind
    have Al:Hid (A=false):=by grind
    clear wj g k;go_enter Tryz.func111,Tryz.ntmps111;go_wp2;go_ret;exact⟨dQ (fun b=>Ending.returned (.bool b)) Al.o.symm,HB.o⟩
  · have h0:((na:Int)==0)=false:=by grind
    have Al:Hid (A=false):=by grind
    clear wj g;go_enter Tryz.func111,Tryz.ntmps111;go_wp2;go_ret;exact⟨dQ (fun b=>Ending.returned (.bool b)) Al.o.symm,HB.o⟩
 | true =>
  have wj:Hid (A=(decide (C=0)&&E)):=HA;clear HA;by_cases g:C=0
  · subst g;have HHT:=ai (HHS.o rfl);have Al:Hid (A=E):=wj;clear wj HHS;go_enter Tryz.func111,Tryz.ntmps111;go_wp2_with (first | (go_at_call 98;refine(Ir.o _ HB.o).mono ?_;rintro e w1 ⟨rfl,hb1⟩;have dz:=ai (cd HB.o hb1);have X1:=ai (aQ X0.o hb1 (by simp));have x1:w1.cell? (Ad w.heap.size 1)=some (.slice aa na ca):=aB X1.o 1 rfl;clear hb1) | (go_at_call 149;refine(HHT.o _ dz.o).mono ?_;rintro e w2 ⟨rfl,hb2⟩;have gj:=ai (cd dz.o hb2);clear hb2))
    go_ret;exact⟨dQ (fun b=>Ending.returned (.bool b)) Al.o.symm,gj.o⟩
  · have Al:Hid (A=false):=by grind
    have g0:(C==0)=false:=by grind
    clear wj HHS;go_enter Tryz.func111,Tryz.ntmps111;go_wp2_with (go_at_call 98;refine(Ir.o _ HB.o).mono ?_;rintro e w1 ⟨rfl,hb1⟩;have dz:=ai (cd HB.o hb1);clear hb1)
    go_ret;exact⟨dQ (fun b=>Ending.returned (.bool b)) Al.o.symm,dz.o⟩
theorem nr (l:List aZ):0<=dU l/\dU l<=65025:=by
 unfold dU;split
 · rename_i h
   have h1:=kO l h;have h2:=yg l h l.length (aI _);omega
 · omega
theorem wN (l:List cO):∀k,0<=iO l k/\iO l k<=65025*k
 | 0=>⟨xy _,by show(0:Int)<=_;omega⟩
 | k+1=>by
  have h1:=wN l k;have h2:=nr (ak l k).bk
  grind [iO]
theorem Gk (l:List cO) (ao:Option Addr) (cap mb:Nat) (w:World) (h:qQ w ao l) (hf:∀k,k<l.length->fU (ak l k).bk) (hn:l.length<=1000000) (hmb:w.cell? (Ad mb 3)=some (.slice ao l.length cap)) :
  Calls Tryz.prog 83 #[.pointer (some (Ad mb 0))] w fun e w'=>e=.returned (I (fL l))/\Below w.heap.size w w':=by
 have HF:=ai hf;have HH:=ai h;have Ip:=ai (wN l);have JW:Hid (∀k,iO l (k+1)=iO l k+dU (ak l k).bk):=fun k=>rfl
 clear h hf;go_enter Tryz.func83,Tryz.ntmps83;go_wp2;go_loopw [3,12] (fun sv iv wr=>∃k:Nat,k<=l.length/\iv=I (k:Int)/\sv=I (iO l k)/\Below w.heap.size w wr) (fun _ iv _=>l.length-(intOf iv).toNat)
 case atStart=>exact⟨0,by omega,rfl,rfl,aK _ _⟩
 case round =>
  obtain⟨k,hk,rfl,rfl,hb⟩:=hrel;have HB:=ai hb;have Ya:=Ip.o k;by_cases hlt:k<l.length
  · obtain⟨b,off,hao,hbl,eI⟩:=(HH.o.below hb) (by omega);subst hao;obtain⟨va,ap,cp,c0,c1,c2,c3,c4,c5⟩:=eI k hlt;have Dx:=HF.o k hlt;have hst:=JW.o k;have htb:=nr (ak l k).bk;obtain⟨aa,ca,rfl,_⟩:=id c3;have HT:Hid (∀W,Below wr.heap.size wr W->Calls Tryz.prog 54 #[.slice aa (ak l k).bk.length ca] W fun e w'=>e=.returned (I (dU (ak l k).bk))/\Below W.heap.size W w'):=fun W hW=>Ao _ _ _ (c3.below hW) Dx
    obtain⟨n,hnn⟩:=ex ((ak l k).aU.length);obtain⟨na,Ax⟩:=ex ((ak l k).bk.length);obtain⟨lv,hlv⟩:=ex ((ak l k).live);obtain⟨T,hT⟩:=ex (dU (ak l k).bk);obtain⟨R,hR⟩:=ex (iO l k);rw[<- hnn] at c2 c5;rw[<- Ax] at c1 HT;rw[<- hlv] at c0;rw[<- hT] at HT hst htb;rw[<- hR] at hst Ya ⊢;have HST:=ai hst;clear hnn Ax hlv hT hR c3 c4 c5 Dx eI hb hst;have fV:=ai (HB.o.alloc HB.o.size (.cells #[.bool lv,.slice aa na ca,.slice ap n cp] 43));go_wp2_with (go_at_call 54;refine(HT.o _ ((aK _ _).alloc (aI _) _)).mono ?_;rintro e w1 ⟨rfl,hb1⟩;have dz:=ai (cd fV.o hb1);clear hb1)
    go_roundw
    case rel=>exact⟨k+1,by omega,by go_num,by rw[HST.o],dz.o⟩
    case measure=>simp[intOf];omega
  · obtain rfl:k=l.length:=by omega
    clear hb;go_wp2;go_ret;exact⟨rfl,HB.o⟩
open Go.RowKit
def rP (u:eN):List Value:=[I u.refs,I u.page,.bool u.zero]
theorem um (u:eN):(rP u).length=3:=rfl
def fY (lo:Nat) (w:World) (g n cap:Nat) (us:List eN):Prop:=us.length=n/\w.ownsRow lo 211 3 (.slice (some (Ad g 0)) n cap) n (us.flatMap rP)
theorem fY.kp {lo:Nat} {w w':World} {D:Nat->Prop} {g n cap:Nat} {us:List eN} (h:fY lo w g n cap us) (hk:aM D w w') (hd:¬D g):fY lo w' g n cap us:=⟨h.1,hk.row h.2 (fun b hb=>by injection hb with hb;grind)⟩
theorem fY.lt {lo:Nat} {w:World} {g n cap:Nat} {us:List eN} (h:fY lo w g n cap us):lo<=g/\g<w.heap.size:=h.2.lt g rfl
theorem fY.at {lo:Nat} {w:World} {g n cap:Nat} {us:List eN} (h:fY lo w g n cap us) (i:Nat) (hi:i<n):w.cell? (Ad g (i*3))=some (I (cU us i).refs)/\w.cell? (Ad g (i*3+1))=some (I (cU us i).page)/\w.cell? (Ad g (i*3+2))=some (.bool (cU us i).zero):=by
 obtain⟨h1,h2⟩:=h;subst h1;exact⟨jJ rP um dw h2 i 0 hi (by omega),jJ rP um dw h2 i 1 hi (by omega),jJ rP um dw h2 i 2 hi (by omega)⟩
theorem yw {D:Nat->Prop} {w w':World} (h:aM D w w'):aM D w w'.drew:=h.trans (aM.drew D w') (fun _ _ x=>x)
theorem fY.d {lo:Nat} {w:World} {g n cap:Nat} {us:List eN} (h:fY lo w g n cap us):fY lo w.drew g n cap us:=h.kp (aM.drew (fun _=>False) w) (fun x=>x)
theorem QH {α:Type} (f:α->List Value) (hf:∀x,(f x).length=3) (d:α) (x:α) (a b c:Value) (hx:f x=[a,b,c]) (l:List α) (i:Nat) (hi:i<l.length):(l.set i x).flatMap f=(((l.flatMap f).set (i*3) a).set (i*3+1) b).set (i*3+2) c:=by
 induction l generalizing i with
 | nil=>cases hi
 | cons y r ih =>
  cases i with
  | zero =>
   rw[bI,mS,mS,hx];obtain⟨p,q,s,e⟩:∃p q s,f y=[p,q,s]:=by
    have:=hf y
    match h:f y with
    | [p,q,s]=>grind
    | []=>grind
    | [_]=>grind
    | [_,_]=>grind
    | _::_::_::_::_=>grind
   rw[e];rfl
  | succ i =>
   grind
theorem fY.set {lo:Nat} {w:World} {g n cap:Nat} {us:List eN} (h:fY lo w g n cap us) (i:Nat) (hi:i<n) (u:eN):fY lo (((w.setCell (Ad g (i*3)) (I u.refs)).setCell (Ad g (i*3+1)) (I u.page)).setCell (Ad g (i*3+2)) (.bool u.zero)) g n cap (us.set i u):=by
 refine⟨by rw[iG];exact h.1,?_⟩;rw[QH rP um dw u _ _ _ rfl us i (by rw[h.1];exact hi)];exact o6 (o6 (o6 h.2 _ _) _ _) _ _
theorem LK (us:List eN) (e:bG) (z:Bool) (lo g n cap:Nat) (w:World) (h:fY lo w g n cap us) (hn:n<=1000) (he:eY e.page/\eY e.loc) (hr:∀i,i<n->0<=(cU us i).refs/\(cU us i).refs<=1000000) :
  Calls Tryz.prog 150 #[.slice (some (Ad g 0)) n cap,.agg #[I e.page,I e.kind,I e.loc],.bool z] w fun x w'=>x=.returned (.bool (mM us e z))/\aM (fun b=>b=g) w w'/\fY lo w' g n cap (if mM us e z then pJ us e z else us):=by
 obtain⟨A,hA⟩:=ex (mM us e z);rw[<- hA];obtain⟨R,hR⟩:=ex (if A then pJ us e z else us);rw[<- hR];have HA:=ai hA;have HR:=ai hR;clear hA hR;have asq:=h.lt.2;have HU:=ai h;have hun:us.length=n:=h.1;obtain⟨pg,kd,lc⟩:=e;simp only at he ⊢;have ZA:=ai (aM.alloc (fun b=>b=g) w (.cells #[I pg,I kd,I lc] 45));have SE:=ai (h.kp (aM.alloc (fun _=>False) w (.cells #[I pg,I kd,I lc] 45)) (fun x=>x));clear h;by_cases c:0<=lc/\lc<(n:Int)
 · obtain⟨i,rfl⟩:∃i:Nat,lc=(i:Int):=⟨lc.toNat,by omega⟩;have hi:i<n:=by omega
   obtain⟨u0,u1,u2⟩:=HU.o.at i hi;have hri:=hr i hi;have wj:Hid (A=!(decide (0<(cU us i).refs)&&(decide ((cU us i).page≠pg) || (cU us i).zero != z))):=by
    grind [mM]
   have HUS:=ai (SE.o.set i hi ⟨(cU us i).refs+1,pg,z⟩);have HUN:Hid (pJ us ⟨pg,kd,(i:Int)⟩ z=us.set i ⟨(cU us i).refs+1,pg,z⟩):=by
    rfl
   obtain⟨U,hU⟩:=ex (cU us i);rw[<- hU] at u0 u1 u2 hri wj HUS HUN;obtain⟨ur,up,uz⟩:=U;simp only at u0 u1 u2 hri wj HUS HUN;have HUI:=ai hU;clear hU hr HA;have wr1:IntKind.i64.wrap (ur+1)=ur+1:=by rw[IntKind.wrap_i64];omega
   have BE:=ai (bO w #[I pg,I kd,I (i:Int)] 45);have cV:Hid (∀V,aM (fun b=>b=g) w V->∀us',fY lo V g n cap us'->A=true->us'=us.set i ⟨ur+1,pg,z⟩->fY lo V g n cap R):=fun V _ us' ho ha e=>by
    have:R=us':=by rw[HR.o,aR ha,HUN.o,e]
    grind
   have adp:Hid (A=false->R=us):=fun ha=>by rw[HR.o,ha];rfl
   clear HR HUN;rcases(show ¬0<ur∨(0<ur/\up=pg/\uz=z)∨(0<ur/\up=pg/\¬uz=z)∨(0<ur/\¬up=pg) by
    grind) with g1 | ⟨g1,g2,g3⟩ | ⟨g1,g2,g3⟩ | ⟨g1,g2⟩
   · have d1:decide (0<ur)=false:=dJ g1;have Al:Hid (A=true):=by grind
     clear wj;go_enter Tryz.func150,Tryz.ntmps150;go_wp2;obtain⟨W,hW⟩:=ex (w.alloc (.cells #[I pg,I kd,I (i:Int)] 45));rw[<- hW] at ZA SE HUS BE ⊢;obtain⟨eb,IK⟩:=ex w.heap.size;rw[<- IK] at BE ⊢;clear hW IK;obtain⟨y0,y1,y2⟩:=SE.o.at i hi;have v0:W.cell? (Ad g (i*3))=some (I ur):=by rw[y0,<- HUI.o]
     have v1:W.cell? (Ad g (i*3+1))=some (I up):=by rw[y1,<- HUI.o]
     have v2:W.cell? (Ad g (i*3+2))=some (.bool uz):=by rw[y2,<- HUI.o]
     have f0:W.frozen? (Ad g (i*3))=false:=gp SE.o.2 _;have f1:W.frozen? (Ad g (i*3+1))=false:=gp SE.o.2 _;have f2:W.frozen? (Ad g (i*3+2))=false:=gp SE.o.2 _;have w0:W.cell? (Ad eb 0)=some (I pg):=aB BE.o 0 rfl;clear u0 u1 u2 y0 y1 y2;go_region;go_wp2;go_region;go_wp2;go_ret;have K:=ZA.o.trans (tR (D:=fun b=>b=g) W g (i*3) (i*3+1) (i*3+2) (I (ur+1)) (I pg) (.bool z) rfl) (fun _ _ x=>x);exact⟨dQ (fun b=>Ending.returned (.bool b)) Al.o.symm,yw (yw K),cV.o _ (yw (yw K)) _ HUS.o.d.d Al.o rfl⟩
   · have b1:(up != pg)=false:=by grind
     have b2:(uz==z)=true:=by grind
     have Al:Hid (A=true):=by grind
     clear wj g2 g3;go_enter Tryz.func150,Tryz.ntmps150;go_wp2;obtain⟨W,hW⟩:=ex (w.alloc (.cells #[I pg,I kd,I (i:Int)] 45));rw[<- hW] at ZA SE HUS BE ⊢;obtain⟨eb,IK⟩:=ex w.heap.size;rw[<- IK] at BE ⊢;clear hW IK;obtain⟨y0,y1,y2⟩:=SE.o.at i hi;have v0:W.cell? (Ad g (i*3))=some (I ur):=by rw[y0,<- HUI.o]
     have v1:W.cell? (Ad g (i*3+1))=some (I up):=by rw[y1,<- HUI.o]
     have v2:W.cell? (Ad g (i*3+2))=some (.bool uz):=by rw[y2,<- HUI.o]
     have f0:W.frozen? (Ad g (i*3))=false:=gp SE.o.2 _;have f1:W.frozen? (Ad g (i*3+1))=false:=gp SE.o.2 _;have f2:W.frozen? (Ad g (i*3+2))=false:=gp SE.o.2 _;have w0:W.cell? (Ad eb 0)=some (I pg):=aB BE.o 0 rfl;clear u0 u1 u2 y0 y1 y2;go_region;go_wp2;go_region;go_wp2;go_ret;have K:=ZA.o.trans (tR (D:=fun b=>b=g) W g (i*3) (i*3+1) (i*3+2) (I (ur+1)) (I pg) (.bool z) rfl) (fun _ _ x=>x);exact⟨dQ (fun b=>Ending.returned (.bool b)) Al.o.symm,yw (yw K),cV.o _ (yw (yw K)) _ HUS.o.d.d Al.o rfl⟩
   · have b1:(up != pg)=false:=by grind
     have b2:(uz==z)=false:=by grind
     have Al:Hid (A=false):=by grind
     clear wj g2 g3 cV;go_enter Tryz.func150,Tryz.ntmps150;go_wp2;obtain⟨W,hW⟩:=ex (w.alloc (.cells #[I pg,I kd,I (i:Int)] 45));rw[<- hW] at ZA SE HUS BE ⊢;obtain⟨eb,IK⟩:=ex w.heap.size;rw[<- IK] at BE ⊢;clear hW IK;obtain⟨y0,y1,y2⟩:=SE.o.at i hi;have v0:W.cell? (Ad g (i*3))=some (I ur):=by rw[y0,<- HUI.o]
     have v1:W.cell? (Ad g (i*3+1))=some (I up):=by rw[y1,<- HUI.o]
     have v2:W.cell? (Ad g (i*3+2))=some (.bool uz):=by rw[y2,<- HUI.o]
     have w0:W.cell? (Ad eb 0)=some (I pg):=aB BE.o 0 rfl;clear u0 u1 u2 y0 y1 y2 HUS;go_region;go_wp2;go_ret;rw[adp.o Al.o];exact⟨dQ (fun b=>Ending.returned (.bool b)) Al.o.symm,yw ZA.o,SE.o.d⟩
   · have b1:(up != pg)=true:=by grind
     have Al:Hid (A=false):=by grind
     clear wj g2 cV;go_enter Tryz.func150,Tryz.ntmps150;go_wp2;obtain⟨W,hW⟩:=ex (w.alloc (.cells #[I pg,I kd,I (i:Int)] 45));rw[<- hW] at ZA SE HUS BE ⊢;obtain⟨eb,IK⟩:=ex w.heap.size;rw[<- IK] at BE ⊢;clear hW IK;obtain⟨y0,y1,y2⟩:=SE.o.at i hi;have v0:W.cell? (Ad g (i*3))=some (I ur):=by rw[y0,<- HUI.o]
     have v1:W.cell? (Ad g (i*3+1))=some (I up):=by rw[y1,<- HUI.o]
     have w0:W.cell? (Ad eb 0)=some (I pg):=aB BE.o 0 rfl;clear u0 u1 u2 y0 y1 y2 HUS;go_region;go_wp2;go_ret;rw[adp.o Al.o];exact⟨dQ (fun b=>Ending.returned (.bool b)) Al.o.symm,yw ZA.o,SE.o.d⟩
 · have Al:Hid (A=false):=by
    grind [mM]
   have adp:Hid (R=us):=by grind [Hid.o]
   clear HA hr HR;rcases(show lc<0∨(0<=lc/\(n:Int)<=lc) by omega) with g1 | ⟨g1,g2⟩
   all_goals
    go_enter Tryz.func150,Tryz.ntmps150;go_wp2;go_ret;rw[adp.o];exact⟨dQ (fun b=>Ending.returned (.bool b)) Al.o.symm,ZA.o,SE.o⟩
open Go.RowKit
def kV (us:List eN) (n:Nat) (B:Int):Prop:=us.length=n/\∀i,i<n->0<=(cU us i).refs/\(cU us i).refs<=B
theorem kV.mono {us:List eN} {n:Nat} {B C:Int} (h:kV us n B) (hc:B<=C):kV us n C:=⟨h.1,fun i hi=>⟨(h.2 i hi).1,Int.le_trans (h.2 i hi).2 hc⟩⟩
theorem kV.use {us:List eN} {n:Nat} {B:Int} (h:kV us n B) (e:bG) (z:Bool) (hok:mM us e z=true):kV (pJ us e z) n (B+1):=by
 have hb:=(vN.1 hok).1;obtain⟨h1,h2⟩:=h;refine⟨by grind [pJ],fun i hi=>?_⟩
 grind [pJ,Ch]
theorem N2 {ar:List aZ} {last:Int} {uf us:List eN} {e:bG} (h:uw ar last uf us e=true):(bh ar e.page).2=true/\last<e.page/\((e.kind=1/\mM uf e (bh ar e.page).1.zero=true)∨(e.kind=2/\mM us e (bh ar e.page).1.zero=true)):=by
 grind [uw]
theorem EA (ar:List aZ) (es:List bG) (u:List eN×List eN) (nf ns:Nat) (B:Int) (h1:kV u.1 nf B) (h2:kV u.2 ns B):∀k,k<=es.length->jd ar es u k=true->kV (iL ar es u k).1 nf (B+k)/\kV (iL ar es u k).2 ns (B+k)/\(k:Int)<=(if k=0 then 0 else (aH es (k-1)).page)/\(if k=0 then 0 else (aH es (k-1)).page)<256
 | 0,_,_=>⟨h1.mono (by omega),h2.mono (by omega),xy _,by omega⟩
 | k+1,hk,hb=>by
  unfold jd at hb;rw[cR] at hb;obtain⟨a1,a2,a3,a4⟩:=EA ar es u nf ns B h1 h2 k (by omega) hb.1;obtain⟨b1,b2,b3⟩:=N2 hb.2;have hm:=nU b1
  grind [nC,qz,iL,kV.use,kV.mono]
theorem DV (ar:List aZ) (es:List bG) (u:List eN×List eN):∀(k n:Nat),k<=n->jd ar es u k=false->jd ar es u n=false
 | k,0,h,e=>by
  grind
 | k,n+1,h,e=>by
  by_cases c:k=n+1
  · grind
  · rw[jd,DV ar es u k n (by omega) e,tX]
theorem Uh (ar:List aZ) (es:List bG) (u:List eN×List eN) (k:Nat) (hk:k<es.length) (h:uw ar (nC es k) (iL ar es u k).1 (iL ar es u k).2 (aH es k)=false):jd ar es u es.length=false :=
 DV ar es u (k+1) es.length hk (by grind [jd])
theorem Pb (n:Nat):kV (List.replicate n dw) n 0:=by
 refine⟨pG,fun i hi=>?_⟩;unfold cU;rw[lU,P4,aR hi];exact⟨xy _,xy _⟩
theorem Pc (hs:List bR) (ss:List cO) (u:List eN×List eN) (nf ns:Nat) (h1:kV u.1 nf 0) (h2:kV u.2 ns 0):∀k,k<=ss.length->mh hs ss u k=true->kV (jE ss u k).1 nf (255*k)/\kV (jE ss u k).2 ns (255*k)
 | 0,_,_=>⟨h1,h2⟩
 | k+1,hk,hb=>by
  unfold mh at hb;rw[cR,cR] at hb;obtain⟨a1,a2⟩:=Pc hs ss u nf ns h1 h2 k (by omega) hb.1;obtain⟨b1,b2,_,_⟩:=EA (ak ss k).bk (ak ss k).aU (jE ss u k) nf ns (255*k) a1 a2 _ (aI _) hb.2.2
  grind [jE,kV.mono]
theorem NP {k:aN} (hr:ed k.aD=true) (hb:mh k.aD k.aj (List.replicate k.frames.length dw,List.replicate k.slots.length dw) k.aj.length=true) (i:Nat) (hi:i<k.frames.length) (hn:(cU (wQ k).1 i).refs≠0):0<=(cU (wQ k).1 i).page/\(cU (wQ k).1 i).page<256:=by
 obtain⟨a1,a2⟩:=wS hr (I8 k.frames.length k.slots.length) k.aj _ (aI _) hb;have hs:=a1.2.1 i hi;have hs:uS (ck (k.aj.take k.aj.length) 1 i) (cU (wQ k).1 i):=hs;rw[qd] at hs;have hne:ck k.aj 1 i≠[]:=fun e=>hn ((wR hs).2 e)
 obtain⟨x,hx⟩:=E7 _ hne;have e:=hs.2 x hx;obtain⟨s,hsm,en,hen,_,_,hxe⟩:=nA.1 hx;obtain⟨j,hj,rfl⟩:=gU sM hsm;have hm:=nU ((a2 j hj).Hf en hen).1
 grind
theorem Gz (hs:List bR) (ss:List cO) (u:List eN×List eN):∀(k n:Nat),k<=n->mh hs ss u k=false->mh hs ss u n=false
 | k,0,h,e=>by
  grind
 | k,n+1,h,e=>by
  by_cases c:k=n+1
  · grind
  · rw[mh,Gz hs ss u k n (by omega) e,tX]
open Go.RowKit
theorem Ds (s:cO) (va:Value) (ap:Option Addr) (cp:Nat) (uf us:List eN) (lo gf nf cf gs ns cs:Nat) (bd:Int) (w0 w:World) (ha:fu w0 va s.bk) (he:cJ bj 3 dW w0 ap s.aU) (hfit:BW s) (hw:Below w0.heap.size w0 w) (hlo:w0.heap.size<=lo) (huf:fY lo w gf nf cf uf) (hus:fY lo w gs ns cs us) (hne:¬gf=gs) (hb1:kV uf nf bd) (hb2:kV us ns bd) (hB:bd<=100000) (tq:nf<=1000) (hns:ns<=1000) :
  Calls Tryz.prog 112 #[.agg #[.bool s.live,va,.slice ap s.aU.length cp],.slice (some (Ad gf 0)) nf cf,.slice (some (Ad gs 0)) ns cs] w fun x w'=>x=.returned (.bool (jd s.bk s.aU (uf,us) s.aU.length))/\aM (fun b=>b=gf∨b=gs) w w'/\(jd s.bk s.aU (uf,us) s.aU.length=true->fY lo w' gf nf cf (iL s.bk s.aU (uf,us) s.aU.length).1/\fY lo w' gs ns cs (iL s.bk s.aU (uf,us) s.aU.length).2):=by
 obtain⟨lv,ar,es⟩:=s;simp only at ha he hfit ⊢;have HHA:=ai ha;have YE:=ai he;have xx:=ai hfit.bk;have A4:=ai hfit.Hf;have hel:es.length<=140737488351232:=hfit.aU;have HW:=ai hw;have hgf:=huf.lt;have hgs:=hus.lt;have ET:=ai (EA ar es (uf,us) nf ns bd hb1 hb2);have n9:=ai (Uh ar es (uf,us));have qH:Hid (∀k,jd ar es (uf,us) k=true->uw ar (nC es k) (iL ar es (uf,us) k).1 (iL ar es (uf,us) k).2 (aH es k)=true->jd ar es (uf,us) (k+1)=true/\iL ar es (uf,us) (k+1)=qz ar (iL ar es (uf,us) k) (aH es k)):=fun k h1 h2=>⟨by grind [jd],rfl⟩
 have Xq:Hid (∀k,nC es (k+1)=(aH es k).page):=fun k=>by rfl
 obtain⟨aa,ca,Av,_⟩:=id ha;subst Av;obtain⟨na,Ax⟩:=ex ar.length;rw[<- Ax] at HHA ⊢;have pL:=ai (aM.alloc (fun b=>b=gf∨b=gs) w (.cells #[.bool lv,.slice aa na ca,.slice ap es.length cp] 43));have BS:=ai (bO w #[.bool lv,.slice aa na ca,.slice ap es.length cp] 43);have afz:=ai (huf.kp (aM.alloc (fun _=>False) w (.cells #[.bool lv,.slice aa na ca,.slice ap es.length cp] 43)) (fun x=>x));have afy:=ai (hus.kp (aM.alloc (fun _=>False) w (.cells #[.bool lv,.slice aa na ca,.slice ap es.length cp] 43)) (fun x=>x));clear ha he hfit hw huf hus hb1 hb2 Ax;go_enter Tryz.func112,Tryz.ntmps112;go_wp2;obtain⟨W,hW⟩:=ex (w.alloc (.cells #[.bool lv,.slice aa na ca,.slice ap es.length cp] 43));rw[<- hW] at pL BS afz afy ⊢;obtain⟨sb,Bi⟩:=ex w.heap.size;have arJ:¬sb=gf:=by omega
 have arI:¬sb=gs:=by omega
 have hsW:W.heap.size=sb+1:=by simp_all
 have h0s:w0.heap.size<=sb:=by omega
 have asr:gf<sb:=by omega
 have asn:gs<sb:=by omega
 rw[<- Bi] at BS ⊢;clear hW Bi;go_loopw [7,15] (fun lv iv wr=>∃k:Nat,k<=es.length/\iv=I (k:Int)/\lv=I (nC es k)/\jd ar es (uf,us) k=true/\aM (fun b=>b=gf∨b=gs) W wr/\fY lo wr gf nf cf (iL ar es (uf,us) k).1/\fY lo wr gs ns cs (iL ar es (uf,us) k).2) (fun _ iv _=>es.length-(intOf iv).toNat)
 case atStart=>exact⟨0,by omega,rfl,rfl,rfl,aM.refl _ _,afz.o,afy.o⟩
 case round =>
  obtain⟨k,hk,rfl,rfl,hbk,KE,hof,hos⟩:=hrel;have UJ:=ai KE;have HBK:=ai hbk;have HOF:=ai hof;have HOS:=ai hos;obtain⟨L,hL⟩:=ex (nC es k);rw[<- hL];have bs:=KE.keep BS.o (fun x=>by omega);have hsz:=KE.size;have s2:wr.cell? (Ad sb 2)=some (.slice ap es.length cp):=aB bs 2 rfl;have HBS:=ai bs;by_cases hlt:k<es.length
  · have hb0:=(KE.below (pL.o.below HW.o HW.o.size (fun b hb=>by omega)) (by omega) (fun b hb=>by omega):Below w0.heap.size w0 wr);have eU:=ai hb0;obtain⟨eb,eo,hao,hbl,eI⟩:=YE.o (by omega);subst hao;have ce:∀j,j<3->wr.cell? (Ad eb (eo+k*3+j))=(bj (aH es k))[j]?:=fun j hj=>(hb0.cell (p:=(Ad eb (eo+k*3+j))) hbl).trans (eI k hlt j hj)
    have e0:=ce 0 (by omega);have e1:=ce 1 (by omega);have e2:=ce 2 (by omega);rw[fW] at e0;have EP:=A4.o k hlt;have n9:=ai (n9.o k hlt);have qH:=ai (qH.o k HBK.o);have Xq:=ai (Xq.o k);obtain⟨bd1,bd2,bd3,bd4⟩:=ET.o k (by omega) HBK.o;have P9:(k:Int)<=255:=by omega
    have HUB:Hid (kV (iL ar es (uf,us) k).1 nf 1000000/\kV (iL ar es (uf,us) k).2 ns 1000000):=⟨bd1.mono (by omega),bd2.mono (by omega)⟩;have GR:Hid (∀V,Below w0.heap.size w0 V->Calls Tryz.prog 70 #[.slice aa na ca,I (aH es k).page] V fun e w'=>e=.returned (.tuple #[.agg (jU (bh ar (aH es k).page).1),.bool (bh ar (aH es k).page).2])/\Below V.heap.size V w'):=fun V hV=>uN ar _ _ V (HHA.o.below hV) xx.o
    rw[<- hL] at n9 qH;have HEU:Hid (∀u:List eN×List eN,qz ar u (aH es k)=if (aH es k).kind=1 then (pJ u.1 (aH es k) (bh ar (aH es k).page).1.zero,u.2) else (u.1,pJ u.2 (aH es k) (bh ar (aH es k).page).1.zero)):=fun u=>rfl
    obtain⟨UU,hUU⟩:=ex (iL ar es (uf,us) k);rw[<- hUU] at n9 qH HUB HOF HOS;obtain⟨U1,U2⟩:=UU;unfold uw at n9 qH;obtain⟨E,hE⟩:=ex (aH es k);rw[<- hE] at e0 e1 e2 EP n9 qH Xq GR HEU;obtain⟨pg,kd,lc⟩:=E;simp only at n9 qH HUB HOF HOS EP Xq GR HEU;have x0:wr.cell? (Ad eb (eo+k*3))=some (I pg):=e0;have x1:wr.cell? (Ad eb (eo+k*3+1))=some (I kd):=e1;have x2:wr.cell? (Ad eb (eo+k*3+2))=some (I lc):=e2;obtain⟨⟨fa,ok⟩,hF⟩:∃F,F=bh ar pg:=⟨_,rfl⟩;rw[<- hF] at n9 qH GR HEU;obtain⟨f1,f2,f3,z⟩:=fa;unfold jU at GR;simp only at n9 qH GR HEU;have HU1:=ai (fun V (hV:fY lo V gf nf cf U1)=>LK U1 ⟨pg,kd,lc⟩ z lo gf nf cf V hV tq ⟨EP.1,EP.2.2⟩ (fun i hi=>HUB.o.1.2 i hi));have HU2:=ai (fun V (hV:fY lo V gs ns cs U2)=>LK U2 ⟨pg,kd,lc⟩ z lo gs ns cs V hV hns ⟨EP.1,EP.2.2⟩ (fun i hi=>HUB.o.2.2 i hi));obtain⟨A1,hA1⟩:=ex (mM U1 ⟨pg,kd,lc⟩ z);obtain⟨A2,SC⟩:=ex (mM U2 ⟨pg,kd,lc⟩ z);rw[<- hA1,<- SC] at n9 qH;rw[<- hA1] at HU1;rw[<- SC] at HU2;have acz:=hb0.size;have KA:=ai (UJ.o.trans (aM.alloc (fun b=>b=gf∨b=gs) wr (.cells #[I pg,I kd,I lc] 45)) (fun _ _ x=>x));have fV:=ai (eU.o.alloc eU.o.size (.cells #[I pg,I kd,I lc] 45));have OA:=ai (HOF.o.kp (aM.alloc (fun _=>False) wr (.cells #[I pg,I kd,I lc] 45)) (fun x=>x));have OB:=ai (HOS.o.kp (aM.alloc (fun _=>False) wr (.cells #[I pg,I kd,I lc] 45)) (fun x=>x));have s1A:(wr.alloc (.cells #[I pg,I kd,I lc] 45)).cell? (Ad sb 1)=some (.slice aa na ca):=aB (bM HBS.o _) 1 rfl;have BE:=ai (bO wr #[I pg,I kd,I lc] 45);clear e0 e1 e2 hL hUU hE hF hA1 SC KE hbk hof hos hb0 eI ce bd1 bd2 bd3 bd4 ET YE HHA xx A4 afz afy UJ eU HOF HOS HUB bs HBS BS P9;cases ok with
    | false =>
     have UM:=ai (n9.o rfl);clear n9 qH HU1 HU2 HEU;go_wp2_with (go_at_call 70;refine(GR.o _ fV.o).mono ?_;rintro e w1 ⟨rfl,hb1⟩;have K1:=ai (KA.o.trans (aM.cH hb1) (fun _ _ x=>x));have Hi:=ai (aQ BE.o hb1 (by simp));have hx1:wr.heap.size<w1.heap.size:=aT Hi.o;clear hb1)
     have KX:=ai (K1.o.trans (aM.alloc (fun b=>b=gf∨b=gs) w1 (.cells #[I f1,I f2,I f3,.bool z] 47)) (fun _ _ x=>x));go_ret;exact⟨dQ (fun b=>Ending.returned (.bool b)) UM.o.symm,pL.o.trans KX.o (fun _ _ x=>x),fun x=>by rw[UM.o] at x;cases x⟩
    | true =>
     by_cases hlp:pg<=L
     · have UM:=ai (n9.o (by grind));clear n9 qH HU1 HU2 HEU;go_wp2_with (go_at_call 70;refine(GR.o _ fV.o).mono ?_;rintro e w1 ⟨rfl,hb1⟩;have K1:=ai (KA.o.trans (aM.cH hb1) (fun _ _ x=>x));have Hi:=ai (aQ BE.o hb1 (by simp));have t0:w1.cell? (Ad wr.heap.size 0)=some (I pg):=aB Hi.o 0 rfl;have hx1:wr.heap.size<w1.heap.size:=aT Hi.o;clear hb1)
       have KX:=ai (K1.o.trans (aM.alloc (fun b=>b=gf∨b=gs) w1 (.cells #[I f1,I f2,I f3,.bool z] 47)) (fun _ _ x=>x));go_ret;exact⟨dQ (fun b=>Ending.returned (.bool b)) UM.o.symm,pL.o.trans KX.o (fun _ _ x=>x),fun x=>by rw[UM.o] at x;cases x⟩
     · have YS:L<pg:=by omega
       rw[dI YS] at n9 qH;by_cases k1:kd=1
       · rw[aR k1] at n9 qH;have k1b:(kd==1)=true:=by grind
         have HK:=ai k1;clear HU2 k1;cases A1 with
         | false =>
          have UM:=ai (n9.o rfl);clear n9 qH HEU;go_wp2_with (first | (go_at_call 70;refine(GR.o _ fV.o).mono ?_;rintro e w1 ⟨rfl,hb1⟩;have K1:=ai (KA.o.trans (aM.cH hb1) (fun _ _ x=>x));have O1:=ai (OA.o.kp (aM.cH (D:=fun _=>False) hb1) (fun x=>x));have O2:=ai (OB.o.kp (aM.cH (D:=fun _=>False) hb1) (fun x=>x));have Hi:=ai (aQ BE.o hb1 (by simp));have t0:w1.cell? (Ad wr.heap.size 0)=some (I pg):=aB Hi.o 0 rfl;have t1:w1.cell? (Ad wr.heap.size 1)=some (I kd):=aB Hi.o 1 rfl;have t2:w1.cell? (Ad wr.heap.size 2)=some (I lc):=aB Hi.o 2 rfl;have hx1:wr.heap.size<w1.heap.size:=aT Hi.o;clear hb1) | (go_at_call 150;refine(HU1.o _ (O1.o.kp (aM.alloc (fun _=>False) _ _) (fun x=>x))).mono ?_;rintro e w3 ⟨rfl,hk3,ho3⟩;have K3:=ai ((K1.o.trans (aM.alloc (fun b=>b=gf∨b=gs) _ _) (fun _ _ x=>x)).trans (hk3.mono (D1:=fun b=>b=gf∨b=gs) (fun b _ x=>.inl x)) (fun _ _ x=>x));clear hk3 ho3))
          have KX:=ai K3.o;go_ret;exact⟨dQ (fun b=>Ending.returned (.bool b)) UM.o.symm,pL.o.trans KX.o (fun _ _ x=>x),fun x=>by rw[UM.o] at x;cases x⟩
         | true =>
          have Pq:=ai (qH.o rfl);clear n9 qH;go_wp2_with (first | (go_at_call 70;refine(GR.o _ fV.o).mono ?_;rintro e w1 ⟨rfl,hb1⟩;have K1:=ai (KA.o.trans (aM.cH hb1) (fun _ _ x=>x));have O1:=ai (OA.o.kp (aM.cH (D:=fun _=>False) hb1) (fun x=>x));have O2:=ai (OB.o.kp (aM.cH (D:=fun _=>False) hb1) (fun x=>x));have Hi:=ai (aQ BE.o hb1 (by simp));have t0:w1.cell? (Ad wr.heap.size 0)=some (I pg):=aB Hi.o 0 rfl;have t1:w1.cell? (Ad wr.heap.size 1)=some (I kd):=aB Hi.o 1 rfl;have t2:w1.cell? (Ad wr.heap.size 2)=some (I lc):=aB Hi.o 2 rfl;have hx1:wr.heap.size<w1.heap.size:=aT Hi.o;clear hb1) | (go_at_call 150;refine(HU1.o _ (O1.o.kp (aM.alloc (fun _=>False) _ _) (fun x=>x))).mono ?_;rintro e w3 ⟨rfl,hk3,ho3⟩;have K3:=ai ((K1.o.trans (aM.alloc (fun b=>b=gf∨b=gs) _ _) (fun _ _ x=>x)).trans (hk3.mono (D1:=fun b=>b=gf∨b=gs) (fun b _ x=>.inl x)) (fun _ _ x=>x));have O3:=ai ho3;have P3:=ai ((O2.o.kp (aM.alloc (fun _=>False) _ _) (fun x=>x)).kp hk3 (fun x=>hne x.symm));clear hk3 ho3))
          go_roundw
          case rel=>grind [Hid.o]
          grind [intOf]
       · rw[bf k1] at n9 qH;clear HU1;have k1b:(kd==1)=false:=by grind
         by_cases k2:kd=2
         · rw[aR k2] at n9 qH;have k2b:(kd==2)=true:=by grind
           have HK:=ai k1;clear k1 k2;cases A2 with
           | false =>
            have UM:=ai (n9.o rfl);clear n9 qH HEU;go_wp2_with (first | (go_at_call 70;refine(GR.o _ fV.o).mono ?_;rintro e w1 ⟨rfl,hb1⟩;have K1:=ai (KA.o.trans (aM.cH hb1) (fun _ _ x=>x));have O1:=ai (OA.o.kp (aM.cH (D:=fun _=>False) hb1) (fun x=>x));have O2:=ai (OB.o.kp (aM.cH (D:=fun _=>False) hb1) (fun x=>x));have Hi:=ai (aQ BE.o hb1 (by simp));have t0:w1.cell? (Ad wr.heap.size 0)=some (I pg):=aB Hi.o 0 rfl;have t1:w1.cell? (Ad wr.heap.size 1)=some (I kd):=aB Hi.o 1 rfl;have t2:w1.cell? (Ad wr.heap.size 2)=some (I lc):=aB Hi.o 2 rfl;have hx1:wr.heap.size<w1.heap.size:=aT Hi.o;clear hb1) | (go_at_call 150;refine(HU2.o _ (O2.o.kp (aM.alloc (fun _=>False) _ _) (fun x=>x))).mono ?_;rintro e w3 ⟨rfl,hk3,ho3⟩;have K3:=ai ((K1.o.trans (aM.alloc (fun b=>b=gf∨b=gs) _ _) (fun _ _ x=>x)).trans (hk3.mono (D1:=fun b=>b=gf∨b=gs) (fun b _ x=>.inr x)) (fun _ _ x=>x));clear hk3 ho3))
            have KX:=ai K3.o;go_ret;exact⟨dQ (fun b=>Ending.returned (.bool b)) UM.o.symm,pL.o.trans KX.o (fun _ _ x=>x),fun x=>by rw[UM.o] at x;cases x⟩
           | true =>
            have Pq:=ai (qH.o rfl);clear n9 qH;go_wp2_with (first | (go_at_call 70;refine(GR.o _ fV.o).mono ?_;rintro e w1 ⟨rfl,hb1⟩;have K1:=ai (KA.o.trans (aM.cH hb1) (fun _ _ x=>x));have O1:=ai (OA.o.kp (aM.cH (D:=fun _=>False) hb1) (fun x=>x));have O2:=ai (OB.o.kp (aM.cH (D:=fun _=>False) hb1) (fun x=>x));have Hi:=ai (aQ BE.o hb1 (by simp));have t0:w1.cell? (Ad wr.heap.size 0)=some (I pg):=aB Hi.o 0 rfl;have t1:w1.cell? (Ad wr.heap.size 1)=some (I kd):=aB Hi.o 1 rfl;have t2:w1.cell? (Ad wr.heap.size 2)=some (I lc):=aB Hi.o 2 rfl;have hx1:wr.heap.size<w1.heap.size:=aT Hi.o;clear hb1) | (go_at_call 150;refine(HU2.o _ (O2.o.kp (aM.alloc (fun _=>False) _ _) (fun x=>x))).mono ?_;rintro e w3 ⟨rfl,hk3,ho3⟩;have K3:=ai ((K1.o.trans (aM.alloc (fun b=>b=gf∨b=gs) _ _) (fun _ _ x=>x)).trans (hk3.mono (D1:=fun b=>b=gf∨b=gs) (fun b _ x=>.inr x)) (fun _ _ x=>x));have O3:=ai ho3;have P3:=ai ((O1.o.kp (aM.alloc (fun _=>False) _ _) (fun x=>x)).kp hk3 hne);clear hk3 ho3))
            go_roundw
            case rel=>grind [Hid.o]
            grind [intOf]
         · rw[bf k2] at n9 qH;have k2b:(kd==2)=false:=by grind
           have UM:=ai (n9.o rfl);clear n9 qH HU2 HEU k1 k2;go_wp2_with (go_at_call 70;refine(GR.o _ fV.o).mono ?_;rintro e w1 ⟨rfl,hb1⟩;have K1:=ai (KA.o.trans (aM.cH hb1) (fun _ _ x=>x));have Hi:=ai (aQ BE.o hb1 (by simp));have t0:w1.cell? (Ad wr.heap.size 0)=some (I pg):=aB Hi.o 0 rfl;have t1:w1.cell? (Ad wr.heap.size 1)=some (I kd):=aB Hi.o 1 rfl;have hx1:wr.heap.size<w1.heap.size:=aT Hi.o;clear hb1)
           have KX:=ai (K1.o.trans (aM.alloc (fun b=>b=gf∨b=gs) w1 (.cells #[I f1,I f2,I f3,.bool z] 47)) (fun _ _ x=>x));go_ret;exact⟨dQ (fun b=>Ending.returned (.bool b)) UM.o.symm,pL.o.trans KX.o (fun _ _ x=>x),fun x=>by rw[UM.o] at x;cases x⟩
  · obtain rfl:k=es.length:=by omega
    clear hL;go_wp2;go_ret;exact⟨dQ (fun b=>Ending.returned (.bool b)) HBK.o.symm,pL.o.trans UJ.o (fun _ _ x=>x),fun _=>⟨HOF.o,HOS.o⟩⟩
open Go.RowKit
theorem Le (ao:Option Addr) (cap:Nat) (w:World) :
  Calls Tryz.prog 99 #[.slice ao 0 cap] w fun e w'=>e=.returned (.bool (kN []))/\Below w.heap.size w w':=by
 go_enter Tryz.func99,Tryz.ntmps99;go_wp2;refine vo 1 ?_;rw[vg];go_wp2;go_ret;exact⟨rfl,aK _ _⟩
theorem JH (l:List aZ) (b off cap:Nat) (w:World) (hl:oI w b off l) (hn:l.length<=140737488351232) :
  Calls Tryz.prog 99 #[.slice (some (Ad b off)) l.length cap] w fun e w'=>e=.returned (.bool (kN l))/\Below w.heap.size w w':=by
 go_enter Tryz.func99,Tryz.ntmps99;go_wp2;go_loopw [7] (fun i wr=>∃k:Nat,k<=l.length/\i=I k/\mA l k=false/\Below w.heap.size w wr) (fun i _=>l.length-(intOf i).toNat)
 case atStart=>exact⟨0,by omega,rfl,rfl,aK _ _⟩
 case round =>
  obtain⟨k,hk,rfl,hz,hb⟩:=hrel;have HZ:=aA hz;have qL:=aA hb;clear hz;by_cases hlt:k<l.length
  · obtain⟨c0,c1,c2,c3⟩:=(hl.below hb) k hlt;obtain⟨a,ha⟩:=ex (bl l k);rw[<- ha] at c0 c1 c2 c3;have HA:=aA ha;clear ha hb;by_cases hzr:a.zero=true
    · have HX:Hid (kN l=true):=VN l k hlt (by grind [Hid.o]);go_wp2;go_ret;exact⟨fT (by rw[HX.o]),qL.o.alloc qL.o.size _⟩
    · have arv:a.zero=false:=by grind
      clear hzr;have HX:Hid (mA l (k+1)=false):=by
       grind [mA,Hid.o]
      go_wp2
      grind [intOf,Hid.o,Below.alloc,Below.size]
  · obtain rfl:k=l.length:=by omega
    go_wp2;go_ret;exact⟨fT HZ.o.symm,qL.o⟩
theorem Lf (l:List aZ) (v:Value) (w:World) (h:fu w v l) (hf:fU l) :
  Calls Tryz.prog 99 #[v] w fun e w'=>e=.returned (.bool (kN l))/\Below w.heap.size w w':=by
 obtain⟨ao,cap,rfl,h⟩:=h;rcases h with rfl | ⟨b,off,rfl,hl⟩
 · exact Le ao cap w
 · exact JH l b off cap w hl hf.2
theorem Ej (hs:List bR) (ao:Option Addr) (cap:Nat) (w:World) (h:fX w ao hs) (hf:nk hs) :
  Calls Tryz.prog 101 #[.slice ao hs.length cap] w fun e w'=>e=.returned (.bool (pQ hs))/\Below w.heap.size w w':=by
 have HF:=aA hf;have HH:=aA h;have hn:hs.length<=140737488351232:=hf.1;clear h hf;go_enter Tryz.func101,Tryz.ntmps101;go_wp2;go_loopw [7] (fun i wr=>∃k:Nat,k<=hs.length/\i=I k/\jW hs k=true/\Below w.heap.size w wr) (fun i _=>hs.length-(intOf i).toNat)
 case atStart=>exact⟨0,by omega,rfl,rfl,aK _ _⟩
 case round =>
  obtain⟨k,hk,rfl,hz,hb⟩:=hrel;have HZ:=aA hz;have qL:=aA hb;clear hz;by_cases hlt:k<hs.length
  · obtain⟨b,off,hao,hbl,eI⟩:=(HH.o.below hb) (by omega);subst hao;obtain⟨c0,c1,c2,c3⟩:=eI k hlt;have Dx:=HF.o.2 k hlt;have HE:Hid (jW hs (k+1)=cu (aV hs k)):=by
     grind [jW,Hid.o]
    have M6:Hid (cu (aV hs k)=false->pQ hs=false):=fun e=>Np hs k hlt e
    obtain⟨s,XZ⟩:=ex (aV hs k);rw[<- XZ] at c0 c1 c2 c3 Dx HE M6;clear XZ eI hb;have fV:=aA (qL.o.alloc qL.o.size (.cells #[I s.page,.string s.data,.slice s.ao s.cM.length s.cap] 50));have HC:Hid (∀W,Below wr.heap.size wr W->Calls Tryz.prog 146 #[.agg #[I s.page,.string s.data,.slice s.ao s.cM.length s.cap]] W fun e w'=>e=.returned (.bool (cu s))/\Below W.heap.size W w'):=fun W hb=>xJ s W (c3.below hb) Dx
    clear c3 Dx;cases e:cu s with
    | true =>
     rw[e] at HC HE;clear e;go_wp2_with (go_at_call 146;refine(HC.o _ ((aK _ _).alloc (aI _) _)).mono ?_;rintro e w1 ⟨rfl,hb⟩;have fV:=aA (fV.o.trans (hb.mono fV.o.size));clear hb)
     go_roundw
     case rel=>exact⟨k+1,by omega,by go_num,HE.o,fV.o⟩
     case measure=>simp[intOf];omega
    | false =>
     have HX:=aA (M6.o e);rw[e] at HC;clear e M6 HE;go_wp2_with (go_at_call 146;refine(HC.o _ ((aK _ _).alloc (aI _) _)).mono ?_;rintro e w1 ⟨rfl,hb⟩;have fV:=aA (fV.o.trans (hb.mono fV.o.size));clear hb)
     go_ret;exact⟨fT (by rw[HX.o]),fV.o⟩
  · obtain rfl:k=hs.length:=by omega
    go_wp2;go_ret;exact⟨fT HZ.o.symm,qL.o⟩
end Go.Proofs.YtpgifpeohlllfaaGreat
