import Derived.Test.YtpgifpeohlllfaaGreatGV04
set_option maxHeartbeats 20000000
set_option linter.unusedVariables false
set_option maxRecDepth 100000
set_option linter.unusedSimpArgs false
namespace Go.Proofs.YtpgifpeohlllfaaGreat
namespace Go.Proofs.YtpgifpeohlllfaaGreat
open Go.RowKit
def tO (nf ns:Nat) (ar:List bc) (es:List bC) (i:Nat):Bool:=((aV ar (aI es i).page).2&&(i==0 || decide ((aI es (i-1)).page<(aI es i).page)))&&(if (aI es i).kind=1 then decide (0<=(aI es i).loc/\(aI es i).loc<=(nf:Int)-1) else if (aI es i).kind=2 then decide (0<=(aI es i).loc/\(aI es i).loc<=(ns:Int)-1) else false)
def pk (nf ns:Nat) (ar:List bc) (es:List bC):Nat->Bool
 | 0=>true
 | k+1=>pk nf ns ar es k&&tO nf ns ar es k
def sk (hs:List bM) (ar:List bc) (p:Int):Bool:=!((aV ar p).2&&(!(aV ar p).1.zero&&!(dJ hs p).isSome))
def nI (hs:List bM) (ar:List bc):Nat->Bool
 | 0=>true
 | k+1=>nI hs ar k&&sk hs ar ((k:Int)+1)
def mI (hs:List bM) (nf ns:Nat) (s:dm):Bool:=if s.live then decide (br s.aZ=0)&&(pk nf ns s.aZ s.aW s.aW.length&&nI hs s.aZ 255) else decide (s.aZ.length=0)&&decide (s.aW.length=0)
structure tv where
 n:Int
 page:Int
 fine:Bool
 D6:bc
def Vz:tv:=⟨0,0,true,tZ⟩
def pU (a:tv) (p:Int) (r:bc):tv:=⟨a.n+1,p,a.fine&&(decide (a.n=0) || (decide (p=a.page)&&r.zero==a.D6.zero)),r⟩
def EM (ar:List bc) (kd i:Int) (a:tv) (e:bC):tv:=if e.kind=kd/\e.loc=i then pU a e.page (aV ar e.page).1 else a
def pV (ar:List bc) (es:List bC) (kd i:Int) (a:tv):Nat->tv
 | 0=>a
 | k+1=>EM ar kd i (pV ar es kd i a k) (aI es k)
def yT (ss:List dm) (kd i:Int):Nat->tv
 | 0=>Vz
 | k+1=>pV (ak ss k).aZ (ak ss k).aW kd i (yT ss kd i k) (ak ss k).aW.length
def gz (ss:List dm) (kd i:Int):tv:=yT ss kd i ss.length
def pW (hs:List bM) (f:kj) (a:tv):Bool:=decide (f.refs=a.n)&&(!(decide (a.n=0)&&!mJ f)&&!(decide (0<a.n)&&(!a.fine || (decide (f.data.size≠16) || (!f.fN&&decide (f.data≠eH hs a.page a.D6.zero))))))
def sU (f:mO) (a:tv):Bool:=decide (f.refs=a.n)&&(!(decide (a.n=0)&&!nz f)&&!(decide (0<a.n)&&(!a.fine || decide (f.data.size≠16))))
def qy (k:aN):Nat->Bool
 | 0=>true
 | n+1=>qy k n&&mI k.aA k.frames.length k.slots.length (ak k.aj n)
def tN (k:aN):Nat->Bool
 | 0=>true
 | n+1=>tN k n&&pW k.aA (au k.frames n) (gz k.aj 1 n)
def tK (k:aN):Nat->Bool
 | 0=>true
 | n+1=>tK k n&&sU (bw k.slots n) (gz k.aj 2 n)
def qL (k:aN):Bool:=fJ k.aA&&(decide (0<=k.hand/\k.hand<=(k.frames.length:Int)-1)&&(qy k k.aj.length&&(decide (eW k.aj<=(k.slots.length:Int))&&(tN k k.frames.length&&tK k k.slots.length))))
theorem vJ {f:Nat->Bool} {g:Nat->Bool} (h0:g 0=true) (hs:∀k,g (k+1)=(g k&&f k)):∀n,g n=true↔∀i,i<n->f i=true
 | 0=>⟨fun _ i hi=>by omega,fun _=>h0⟩
 | n+1=>by
  rw[hs,dR,vJ h0 hs n]
  grind
theorem VE {nf ns:Nat} {ar:List bc} {es:List bC}:pk nf ns ar es es.length=true↔(∀e∈es,rO nf ns ar e)/\jw es:=by
 rw[vJ (f:=tO nf ns ar es) rfl (fun _=>rfl),<- EJ];have key:∀i,i<es.length->(tO nf ns ar es i=true↔rO nf ns ar (aI es i)/\pj es i<(aI es i).page):=fun i hi=>by
  unfold tO rO pj;rw[dR,dR,Ck,Ie,iV];constructor
  · rintro⟨⟨h1,h2⟩,h3⟩;refine⟨⟨h1,?_⟩,?_⟩
    · grind
    · by_cases c:i=0
      · rw[bf c];have:=gN h1;omega
      omega
  grind
 grind
theorem PS {hs:List bM} {ar:List bc}:nI hs ar 255=true↔∀p,(aV ar p).2=true->(aV ar p).1.zero=false->(dJ hs p).isSome=true:=by
 rw[vJ (f:=fun k=>sk hs ar ((k:Int)+1)) rfl (fun _=>rfl)];constructor
 · intro h p hp hz;have hb:=gN hp;have:=h (p-1).toNat (by omega)
   grind [sk]
 grind [sk]
theorem Hk {hs:List bM} {nf ns:Nat} {s:dm}:mI hs nf ns s=true↔rP hs nf ns s:=by
 unfold mI;by_cases c:s.live=true
 · rw[bf c,dR,dR,iV,VE,PS];exact⟨fun h=>⟨fun d=>(by grind),h.1,h.2.1.2,h.2.1.1,h.2.2⟩,fun h=>⟨h.aZ,⟨h.FC,h.lQ⟩,h.aA⟩⟩
 · rw[bl c,dR,iV,iV];constructor
   · rintro⟨h1,h2⟩;have ha:=jS h1;have he:=jS h2;refine⟨fun _=>⟨ha,he⟩,by rw[ha];rfl,by simp_all,fun e g=>(by grind),fun p hp=>?_⟩;rw[ha] at hp;cases hp
   grind [rP.dead]
structure vM (L:List (Int×Bool)) (a:tv):Prop where
 n:a.n=L.length
 fine:a.fine=true↔∀x∈L,∀y∈L,x=y
 last:L≠[]->(a.page,a.D6.zero)∈L
theorem aaV {L:List (Int×Bool)} {a:tv} (h:vM L a) (p:Int) (r:bc):vM (L++[(p,r.zero)]) (pU a p r):=by
 refine⟨by show a.n+1=_;grind [vM.n],?_,fun _=>lT.2 (.inr (by simp[pU]))⟩;show(a.fine&&(decide (a.n=0) || (decide (p=a.page)&&r.zero==a.D6.zero)))=true↔_;rw[dR,h.fine,Ck,dR,iV,iV,Ie];constructor
 · rintro⟨h1,h2⟩ x hx y hy;have key:∀z∈L,z=(p,r.zero):=fun z hz=>by
    have hne:L≠[]:=List.ne_nil_of_mem hz;have h2:=h2.resolve_left (fun e=>hne (jS (by grind [vM.n])));rw[h1 z hz _ (h.last hne),h2.1,h2.2]
   grind
 · intro g;refine⟨fun x hx y hy=>g x (lT.2 (.inl hx)) y (lT.2 (.inl hy)),?_⟩;by_cases c:L=[]
   · left;rw[h.n,c];rfl
   · right;have:=g _ (lT.2 (.inl (h.last c))) (p,r.zero) (lT.2 (.inr (by simp)))
     grind
theorem PV {L:List (Int×Bool)} {a:tv} (h:vM L a) (ar:List bc) (es:List bC) (kd i:Int):∀k,k<=es.length->vM (L++jO ar kd i (es.take k)) (pV ar es kd i a k)
 | 0,_=>by rw[List.take_zero];show vM (L++[]) a;grind
 | k+1,hk=>by
  have ih:=PV h ar es kd i k (by omega)
  grind [xY,l9,EM,pV,pT,aaV,mW]
theorem Tt (ss:List dm) (kd i:Int):∀k,k<=ss.length->vM (cO (ss.take k) kd i) (yT ss kd i k)
 | 0,_=>⟨rfl,⟨fun _ x hx=>(by cases hx),fun _=>rfl⟩,fun e=>absurd rfl e⟩
 | k+1,hk=>by
  have:=PV (Tt ss kd i k (by omega)) (ak ss k).aZ (ak ss k).aW kd i _ (aM _);rw[tF] at this;rw[AY ss k (by omega)];exact this
theorem yx (ss:List dm) (kd i:Int):vM (cO ss kd i) (gz ss kd i):=by
 have:=Tt ss kd i ss.length (aM _);rw[tF] at this;exact this
theorem PX {hs:List bM} {L:List (Int×Bool)} {a:tv} (h:vM L a) (f:kj):pW hs f a=true↔lK hs L f:=by
 unfold pW;rw[dR,dR,iV];by_cases c:L=[]
 · subst c;have hn:a.n=0:=h.n;rw[hn];simp only[decide_true,ni,Bool.not_not,Int.lt_irrefl,decide_false,vY,Ij,uv,yV];exact⟨fun e=>by grind [lK.none],fun e=>⟨by rw[e.zero rfl];rfl,e.zero rfl⟩⟩
 · have hp:0<L.length:=NW.2 c;have hn:0<a.n:=by rw[h.n];omega
   rw[dE (show ¬a.n=0 by omega),dh hn];simp only[vY,Ij,ni,true_and,NQ,NY,Bool.not_eq_false',Bool.and_eq_false_iff,T9,Decidable.not_not];constructor
   · rintro⟨h1,h2,h3,h4⟩;refine⟨h1.trans h.n,fun e=>absurd e c,h.fine.1 h2,fun _=>h3,fun d x hx=>?_⟩;rw[h.fine.1 h2 x hx _ (h.last c)]
     grind
   · intro g;refine⟨g.refs.trans h.n.symm,h.fine.2 g.one,g.size c,?_⟩;cases d:f.fN with
     | true=>grind
     | false=>exact .inr (g.fill d _ (h.last c))
theorem PQ {L:List (Int×Bool)} {a:tv} (h:vM L a) (f:mO):sU f a=true↔mY L f:=by
 unfold sU;rw[dR,dR,iV];by_cases c:L=[]
 · subst c;have hn:a.n=0:=h.n;rw[hn];simp only[decide_true,ni,Bool.not_not,Int.lt_irrefl,decide_false,vY,Ij,uv,Ak];exact⟨fun e=>by grind [mY.none],fun e=>⟨by rw[e.zero rfl];rfl,e.zero rfl⟩⟩
 · have hp:0<L.length:=NW.2 c;have hn:0<a.n:=by rw[h.n];omega
   rw[dE (show ¬a.n=0 by omega),dh hn];simp only[vY,Ij,ni,true_and,NQ,NY,Bool.not_eq_false',T9,Decidable.not_not];constructor
   · rintro⟨h1,h2,h3⟩;exact⟨h1.trans h.n,fun e=>absurd e c,h.fine.1 h2,fun _=>h3⟩
   grind [mY.refs,vM.n,vM.fine,mY.one,mY.size]
theorem VD (k:aN) (hc:mi k=true):qL k=true↔bg k:=by
 unfold qL;simp only[dR,iV];rw[vJ (g:=qy k) (f:=fun n=>mI k.aA k.frames.length k.slots.length (ak k.aj n)) rfl (fun _=>rfl),vJ (g:=tN k) (f:=fun n=>pW k.aA (au k.frames n) (gz k.aj 1 n)) rfl (fun _=>rfl),vJ (g:=tK k) (f:=fun n=>sU (bw k.slots n) (gz k.aj 2 n)) rfl (fun _=>rfl)];constructor
 · rintro⟨h1,h2,h3,h4,h5,h6⟩;refine⟨hc,h1,by omega,fun s hs=>?_,h4,fun i hi=>(PX (yx _ _ _) _).1 (h5 i hi),fun i hi=>(PQ (yx _ _ _) _).1 (h6 i hi)⟩;obtain⟨j,hj,rfl⟩:=jb uP hs;exact Hk.1 (h3 j hj)
 · intro h;have hh:=h.hand;exact⟨h.lQ,by omega,fun i hi=>Hk.2 (h.sp hi),h.room,fun i hi=>(PX (yx _ _ _) _).2 (h.zS i hi),fun i hi=>(PQ (yx _ _ _) _).2 (h.slt i hi)⟩
def qU (k:aN):Int:=if mi k=false then 2 else if qL k then 0 else 1
theorem RX (k:aN):qU k=gG k:=by
 grind [qU,gG,VD,My]
theorem aD {p:Prop} (h:p):Hid p:=h
theorem lU {a b:Bool} (h:a=b):Ending.returned (.bool a)=.returned (.bool b):=by rw[h]
theorem IM (n:Int) (w:World):Calls Tryz.prog 209 #[.int .u8 n] w fun e w'=>e=.returned (.bool (tH n))/\w=w':=by
 by_cases h1:97<=n/\n<=122
 · have e:tH n=true:=by grind [tH]
   rw[e];obtain⟨a,b⟩:=h1;go_enter Tryz.func209,Tryz.ntmps209;go_wp2;go_ret
   simp_all
 · by_cases h2:48<=n/\n<=57
   · have e:tH n=true:=by grind [tH]
     rw[e];obtain⟨a,b⟩:=h2;have c:decide (97<=n)=false:=by grind
     clear h1;go_enter Tryz.func209,Tryz.ntmps209;go_wp2;go_ret
     simp_all
   · by_cases h3:n=95
     · subst h3;go_enter Tryz.func209,Tryz.ntmps209;go_wp2;go_ret;exact⟨rfl,rfl⟩
     · have e:tH n=false:=by grind [tH]
       rw[e];have h3':(n==95)=false:=by grind
       by_cases a:97<=n
       · have b:decide (n<=122)=false:=by grind
         have c:48<=n:=by omega
         have d:decide (n<=57)=false:=by grind
         clear h1 h2;go_enter Tryz.func209,Tryz.ntmps209;go_wp2;go_ret
         simp_all
       · by_cases c:48<=n
         · have d:decide (n<=57)=false:=by grind
           clear h1 h2;go_enter Tryz.func209,Tryz.ntmps209;go_wp2;go_ret
           simp_all
         · clear h1 h2;go_enter Tryz.func209,Tryz.ntmps209;go_wp2;go_ret
           simp_all
theorem Uk (s:ByteArray) (w:World) (hs:bY s.size):Calls Tryz.prog 198 #[.string s] w fun e w'=>e=.returned (.bool (tI s))/\w=w':=by
 unfold bY at hs;by_cases h1:1<=s.size
 · by_cases h2:s.size<=12
   · have d1:¬(s.size:Int)<1:=by omega
     have d2:¬12<(s.size:Int):=by omega
     go_enter Tryz.func198,Tryz.ntmps198;go_wp2
     go_loop [14] (fun i=>∃k:Nat,k<=s.size/\i=I k/\∀j (hj:j<s.size),j<k->tH s[j].toNat=true) (fun i=>s.size-(intOf i).toNat)
     case atStart=>exact⟨0,by omega,rfl,fun j _ h=>by omega⟩
     case round =>
      obtain⟨k,hk,rfl,hall⟩:=hrel;have HA:=aD hall;clear hall;by_cases hlt:k<s.size
      · cases hc:tH s[k].toNat
        · have HR:=aD (acW s k hlt hc);go_wp2_with (go_at_call 209;refine(IM _ _).mono ?_;rintro e w' ⟨rfl,rfl⟩;rw[hc])
          go_ret;exact⟨lU HR.o.symm,rfl⟩
        · have HC:=aD hc;go_wp2_with (go_at_call 209;refine(IM _ _).mono ?_;rintro e w' ⟨rfl,rfl⟩;rw[hc])
          grind [intOf,Hid.o]
      · obtain rfl:k=s.size:=by omega
        have HR:=aD (Z2 s h1 h2 (fun k hk=>HA.o k hk hk));go_wp2;go_ret;exact⟨lU HR.o.symm,rfl⟩
   · have HR:=aD (OI s (fun h=>h2 h.2));have d1:¬(s.size:Int)<1:=by omega
     have d2:12<(s.size:Int):=by omega
     go_enter Tryz.func198,Tryz.ntmps198;go_wp2;go_ret;exact⟨lU HR.o.symm,rfl⟩
 · have HR:=aD (OI s (fun h=>h1 h.1));have d1:(s.size:Int)<1:=by omega
   go_enter Tryz.func198,Tryz.ntmps198;go_wp2;go_ret;exact⟨lU HR.o.symm,rfl⟩
theorem QZ (w:World):Below w.heap.size w w.drew:=⟨rfl,rfl,rfl,aM _,fun _ _=>rfl⟩
theorem gZ {a b:Bool} (h:a=b):Ending.returned (.bool a)=.returned (.bool b):=by rw[h]
theorem zV (s:bM) (w:World) (h:mr w s.ao s.dn) (hf:xU s) :
  Calls Tryz.prog 146 #[.agg (oY s)] w fun e w'=>e=.returned (.bool (cR s))/\Below w.heap.size w w':=by
 obtain⟨f1,f2,f3,f4⟩:=hf;obtain⟨pg,dt,fs,ao,cap⟩:=s;simp only at f1 f2 f3 f4;unfold dY at f1;unfold bY at f2 f3;simp only[oY];have F4:=aD f4;have HH:=aD h;clear f4 h;have HB:=aD ((aK w.heap.size w).alloc (aM _) (.cells #[I pg,.string dt,.slice ao fs.length cap] 50));by_cases h1:pg<1
 · have e:cR ⟨pg,dt,fs,ao,cap⟩=false:=by
    grind [cR,lh]
   rw[e];go_enter Tryz.func146,Tryz.ntmps146;go_wp2;go_ret;exact⟨rfl,HB.o⟩
 by_cases h2:255<pg
 · have e:cR ⟨pg,dt,fs,ao,cap⟩=false:=by
    grind [cR,lh]
   rw[e];go_enter Tryz.func146,Tryz.ntmps146;go_wp2;go_ret;exact⟨rfl,HB.o⟩
 by_cases h3:dt.size=16
 · have h3':(dt.size:Int)=16:=by omega
   have e:lh ⟨pg,dt,fs,ao,cap⟩=true:=by
    grind [lh]
   have E:Hid (cR ⟨pg,dt,fs,ao,cap⟩=ez fs fs.length):=by
    show _=_
    grind [cR]
   clear e h3;go_enter Tryz.func146,Tryz.ntmps146;go_wp2;go_loopw [23,3] (fun i en wr=>∃k:Nat,k<=fs.length/\i=I k/\en=I (nM fs k)/\ez fs k=true/\Below w.heap.size w wr) (fun i _ _=>fs.length-(intOf i).toNat)
   case atStart=>exact⟨0,by omega,rfl,rfl,rfl,HB.o⟩
   case round =>
    obtain⟨k,hk,rfl,rfl,hg,hb⟩:=hrel;have HG:=aD hg;have sY:=aD hb;clear hg;by_cases hlt:k<fs.length
    · obtain⟨b,off,hao,hbl,fG⟩:=(HH.o.below hb) (by omega);subst hao;obtain⟨c0,c1⟩:=fG k hlt;obtain⟨g1,g2⟩:=F4.o k hlt;have hed:=nY fs k HG.o;obtain⟨f,L4⟩:=ex (lI fs k);rw[<- L4] at c0 c1 g1 g2;unfold dY at g1;unfold bY at g2;have uu:=aD L4;clear L4 fG hb;obtain⟨en,hen⟩:=ex (nM fs k);rw[<- hen] at hed;have px:=aD hen;rw[<- hen];clear hen;have gK:=aD (sY.o.alloc sY.o.size (.cells #[I f.off,.string f.bytes] 52));by_cases q1:f.off<en
      · have HX:Hid (ez fs fs.length=false):=r7 fs k hlt (by rw[<- uu.o,<- px.o];exact vB (by omega));go_wp2;go_ret;exact⟨gZ (by rw[E.o,HX.o]),gK.o⟩
      by_cases q2:16<f.off
      · have HX:Hid (ez fs fs.length=false):=r7 fs k hlt (by rw[<- uu.o,<- px.o];exact vB (by omega));go_wp2;go_ret;exact⟨gZ (by rw[E.o,HX.o]),gK.o⟩
      by_cases q3:(f.bytes.size:Int)<1
      · have HX:Hid (ez fs fs.length=false):=r7 fs k hlt (by rw[<- uu.o,<- px.o];exact vB (by omega));go_wp2;go_ret;exact⟨gZ (by rw[E.o,HX.o]),gK.o⟩
      by_cases q4:16-f.off<(f.bytes.size:Int)
      · have HX:Hid (ez fs fs.length=false):=r7 fs k hlt (by rw[<- uu.o,<- px.o];exact vB (by omega));go_wp2;go_ret;exact⟨gZ (by rw[E.o,HX.o]),gK.o⟩
      · have HX:Hid (ez fs (k+1)=true):=by
         show _=_;simp only[ez,dR];exact⟨HG.o,by rw[<- uu.o,<- px.o];exact(ud _ _).2 (by omega)⟩
        have HY:Hid (nM fs (k+1)=f.off+(f.bytes.size:Int)):=by show _=_;simp only[nM];rw[<- uu.o]
        go_wp2;go_roundw
        case rel=>exact⟨k+1,by omega,by go_num,by rw[HY.o],HX.o,gK.o⟩
        case measure=>simp[intOf];omega
    · obtain rfl:k=fs.length:=by omega
      go_wp2;go_ret;exact⟨gZ (by rw[E.o,HG.o]),sY.o⟩
 · have e:cR ⟨pg,dt,fs,ao,cap⟩=false:=by
    grind [cR,lh]
   have h3':((dt.size:Int)==16)=false:=by grind
   rw[e];go_enter Tryz.func146,Tryz.ntmps146;go_wp2;go_ret;exact⟨rfl,HB.o⟩
theorem J6 (n:Int) (size:Nat) (w:World) (h2:size<=8) :
  Calls Tryz.prog 138 #[I n,I size] w fun e w'=>e=.returned (.string ⟨(Lib.leBytes size (xG n)).toArray⟩)/\Below w.heap.size w w':=by
 go_enter Tryz.func138,Tryz.ntmps138;go_wp2;go_loopw [0,5,6] (fun t s i wr=>∃k:Nat,k<=size/\i=I k/\t=I (xE n k)/\s=.string ⟨(Lib.leBytes k (xG n)).toArray⟩/\Below w.heap.size w wr) (fun _ _ i _=>size-(intOf i).toNat)
 case atStart=>exact⟨0,by omega,rfl,by rw[Zc],rfl,aK _ _⟩
 case round =>
  obtain⟨k,hk,rfl,rfl,rfl,hb⟩:=hrel;by_cases hlt:k<size
  · have hcv:(convert 137 9 (.slice (some (Ad wr.heap.size 0)) 1 1)).run Tryz.prog (wr.alloc (.cells #[.int .u8 (xE n k%256)] 5))=.ok (.string ⟨#[(xG n/256 ^ k%256).toUInt8]⟩) (wr.alloc (.cells #[.int .u8 (xE n k%256)] 5)):=by
     rw[<- J7 n k (by omega)];refine N0 _ 137 5 Tryz.underlying137 Tryz.underlying5 _ 0 1 1 [xE n k%256] rfl ?_ 9 Tryz.underlying9
     simp_all
    have hl:(Lib.leBytes k (xG n)).length=k:=Lib.leBytes_length _ _;have HN:Hid (Lib.leBytes (k+1) (xG n)=Lib.leBytes k (xG n)++[(xG n/256 ^ k%256).toUInt8]):=DI _ _;go_wp2;go_roundw
    case rel=>grind [Zd,Wo,Hid.o,Below.alloc,Below.size]
    grind [intOf]
  · obtain rfl:k=size:=by omega
    go_wp2;go_ret
    simp_all
theorem Zb:(Tryz.prog.info? 5).map (fun i=>(i.zero,i.size,i.bytes))=some (some (.int .u8 0),1,1):=by rfl
theorem abH (s:ByteArray) (w:World) (hlim:s.size<=281474976710656) :
  Calls Tryz.prog 152 #[.string s] w fun e w'=>e=.returned (.string s)/\Below w.heap.size w w':=by
 by_cases h0:s.size=0
 · have hs:s=⟨#[]⟩:=by
    apply ByteArray.ext
    simp_all
   subst hs;go_enter Tryz.func152,Tryz.ntmps152;go_wp2;go_ret;exact⟨rfl,aK _ _⟩
 · obtain⟨i0,hi,hz0,hz1,hz2⟩:=iq Zb;have hinfo:(Tryz.prog.info? 5).map (·.size)=some 1:=by rfl
   have hco:Tryz.prog.cellsOf 5=1:=by rfl
   obtain⟨M,hM⟩:=ex (madeCells (Value.int .u8 0).cells (((s.size:Nat):Int).toNat*i0.size));have hMs:M.size=s.size:=by grind [size_madeCells]
   have hmk:∀W:World,(Instr.makeSlice 137 (I (s.size:Int)) (I (s.size:Int))).run Tryz.prog W=.ok (.slice (some (Ad W.heap.size 0)) s.size s.size) (W.alloc (.cells M 5)):=fun W=>by
    grind [run_make,Tryz.underlying137]
   clear hM;have zw:=Lib.run_copy_row_string (P:=Tryz.prog) (w.alloc (.cells M 5)) 137 9 3 5 w.heap.size 0 s.size s.size s M 5 Tryz.underlying137 hinfo (NG w _) (aM _) (by omega);obtain⟨Y,hY⟩:=ex ((M.toList.take 0++Lib.byteCells s.data.toList++M.toList.drop (0+s.size)).toArray);rw[<- hY] at zw;have hYl:Y.toList=Lib.byteCells s.data.toList:=by
    simp_all
   have hYs:Y.size=s.size:=by grind [Lib.byteCells_length,Lib.size_eq]
   have hgY:((w.alloc (.cells M 5)).setRow w.heap.size Y).heap[w.heap.size]?=some (.cells Y 5 (0,0)):=ng _ _ M _ 5 (0,0) (NG w _);have hne:s.data.toList≠[]:=fun e=>h0 (by grind [Lib.size_eq])
   have hUS:=Lib.run_unsafeString_row (P:=Tryz.prog) ((w.alloc (.cells M 5)).setRow w.heap.size Y) 235 3 9 5 Tryz.underlying235 hco w.heap.size Y.size (by grind [World.shape?]) s.data.toList hne (by simp_all) (by grind [Lib.size_eq])
    (fun j x hx=>Lib.cells_of_row hgY Y.size j _ (by grind [Lib.byteCells]))
   rw[<- Lib.size_eq] at hUS;clear hY;go_enter Tryz.func152,Tryz.ntmps152;go_wp2;go_ret;have hb1:Below w.heap.size w (w.alloc (.cells M 5)):=(aK _ w).alloc (aM _) _;have hb2:Below w.heap.size (w.alloc (.cells M 5)) ((w.alloc (.cells M 5)).setRow w.heap.size Y):=⟨rfl,rfl,rfl,by simp,fun k hk=>setRow_other _ _ _ _ (by omega)⟩;exact⟨rfl,Lib.below_freeze (hb1.trans hb2) (p:=(Ad w.heap.size 0)) (aM _) _⟩
theorem Qs (s:ByteArray) (w:World) (hlim:s.size<=281474976710656) :
  Calls Tryz.prog 116 #[.string s] w fun e w'=>e=.returned (.string s)/\Below w.heap.size w w':=by
 go_enter Tryz.func116,Tryz.ntmps116;go_wp2_with (go_at_call 152;refine(abH _ _ hlim).mono ?_;rintro e w' ⟨rfl,hb⟩)
 go_ret
 simp_all
theorem Ba (l o n:Int) (w:World) (h1:0<=o) (h2:0<=n) (h3:o<=l) (h4:n<=l-o) (h5:l<=9223372036854775807) :
  Calls Tryz.prog 115 #[I l,I o,I n] w fun e w'=>e=.returned (.bool true)/\w=w':=by
 go_enter Tryz.func115,Tryz.ntmps115;go_wp2;go_ret
 simp_all
theorem Fa (s:ByteArray) (o n:Nat) (w:World) (hs:s.size<=140737488351232) (h:o+n<=s.size) :
  Calls Tryz.prog 63 #[.string s,I o,I n] w fun e w'=>e=.returned (.tuple #[.string (s.extract o (o+n)),I 0])/\Below w.heap.size w w':=by
 go_enter Tryz.func63,Tryz.ntmps63;go_wp2_with (first | (go_at_call 115;refine(Ba _ _ _ _ (by omega) (by omega) (by omega) (by omega) (by omega)).mono ?_;rintro e w' ⟨rfl,rfl⟩) | (go_at_call 116;refine(Qs _ _ (by simp;omega)).mono ?_;rintro e w' ⟨rfl,hb⟩))
 go_ret2
 simp_all
theorem Hv (s t:ByteArray) (o:Nat) (w:World) (hs:s.size<=140737488351232) (h:o+t.size<=s.size) :
  Calls Tryz.prog 65 #[.string s,I o,.string t] w fun e w'=>e=.returned (.tuple #[.string (fU s o t),I 0])/\Below w.heap.size w w':=by
 obtain⟨i0,hi,hz0,hz1,hz2⟩:=iq Zb;have hinfo:(Tryz.prog.info? 5).map (·.size)=some 1:=by rfl
 obtain⟨c,hc⟩:∃c,grownCap w s.size 0 5=c:=⟨_,rfl⟩;have hcs:s.size<=c:=by grind [grownCap_ge]
 have hcv:=run_bytes_of_string (P:=Tryz.prog) w 9 137 5 s Tryz.underlying9 Tryz.underlying137 Tryz.underlying5;rw[hc] at hcv;clear hc;have hRs:(bytesRow s c).size=c:=by grind [LO]
 have hov:=Su s o t c h;obtain⟨R,hR⟩:=ex (bytesRow s c);rw[<- hR] at hcv hRs hov;clear hR;rw[hRs] at hcv;have hgR:((w.alloc (.cells R 5 (c,c+1))).drew).heap[w.heap.size]?=some (.cells R 5 (c,c+1)):=NG w _;by_cases h0:t.size=0
 · have zw:=fun W d l c=>Lib.run_copy_empty_string (P:=Tryz.prog) W 137 9 3 5 d l c t Tryz.underlying137 (by rfl) h0
   rw[Zf s o t h0] at hov ⊢;have hcb:(convert 137 9 (.slice (some (Ad w.heap.size 0)) s.size c)).run Tryz.prog ((w.alloc (.cells R 5 (c,c+1))).drew)=.ok (.string s) ((w.alloc (.cells R 5 (c,c+1))).drew):=by
    have es:strOfNums (s.data.toList.map fun b=>(b.toNat:Int))=s:=(zj _).trans (Lib.mk_data s);refine Eq.trans ?_ (fp (fun x=>Result.ok (Value.string x) ((w.alloc (.cells R 5 (c,c+1))).drew)) es);refine N0 _ 137 5 Tryz.underlying137 Tryz.underlying5 _ 0 s.size c _ (by simp_all) ?_ 9 Tryz.underlying9;intro i hi;have ht:t.data.toList=[]:=jS (by simp_all);have e:=hov i hi;rw[ht,h0] at e;rw[iI,TT _ _ _ _ _ _ hgR]
    simp_all [Lib.byteCells]
   go_enter Tryz.func65,Tryz.ntmps65;go_wp2_with (first | (go_at_call 115;refine(Ba _ _ _ _ (by omega) (by omega) (by omega) (by omega) (by omega)).mono ?_;rintro e w' ⟨rfl,rfl⟩))
   all_goals go_ret2
   all_goals exact⟨rfl,((aK _ _).alloc (aM _) _).drew⟩
 · have hno:¬c=o:=by omega
   have zw:=Qt (P:=Tryz.prog) ((w.alloc (.cells R 5 (c,c+1))).drew) 137 9 3 5 w.heap.size o (s.size-o) (c-o) t R 5 c (c+1) Tryz.underlying137 hinfo hgR (by omega) (by omega) (by omega);obtain⟨Y,hY⟩:=ex ((R.toList.take o++Lib.byteCells t.data.toList++R.toList.drop (o+t.size)).toArray);rw[<- hY] at zw;have hgY:(((w.alloc (.cells R 5 (c,c+1))).drew).setRow w.heap.size Y).heap[w.heap.size]?=some (.cells Y 5 (c,c+1)):=ng _ _ R _ 5 (c,c+1) hgR;have hcb:(convert 137 9 (.slice (some (Ad w.heap.size 0)) s.size c)).run Tryz.prog (((w.alloc (.cells R 5 (c,c+1))).drew).setRow w.heap.size Y)=.ok (.string (fU s o t)) (((w.alloc (.cells R 5 (c,c+1))).drew).setRow w.heap.size Y):=by
    rw[<- Lib.mk_data (fU s o t),<- zj];refine N0 _ 137 5 Tryz.underlying137 Tryz.underlying5 _ 0 s.size c _ (by grind [J8]) ?_ 9 Tryz.underlying9;intro i hi;rw[iI,TT _ _ _ _ _ _ hgY,hY]
    grind
   clear hov hY;go_enter Tryz.func65,Tryz.ntmps65;go_wp2_with (first | (go_at_call 115;refine(Ba _ _ _ _ (by omega) (by omega) (by omega) (by omega) (by omega)).mono ?_;rintro e w' ⟨rfl,rfl⟩))
   go_ret2
   exact⟨rfl,below_setRow ((aK _ _).alloc (aM _) _).drew (aM _) _⟩
theorem MG (s t:ByteArray) (o:Nat) (w:World) (hs:s.size<=140737488351232) (h:o+t.size<=s.size) :
  Calls Tryz.prog 68 #[.string s,I o,.string t] w fun e w'=>e=.returned (.string (fU s o t))/\Below w.heap.size w w':=by
 have h1:(o:Int)<=(s.size:Int):=by omega
 go_enter Tryz.func68,Tryz.ntmps68;go_wp2
 go_quiet (fail)
 go_wp2;go_ret;simp[Ss,lR,aK]
theorem acZ {s t:ByteArray} {a b:Int} (h:s=t) (g:a=b):Ending.returned (.tuple #[.string s,I a])=.returned (.tuple #[.string t,I b]):=by rw[h,g]
theorem XE (s:bM) (w:World) (h:mr w s.ao s.dn) (hf:xU s) :
  Calls Tryz.prog 148 #[.agg (oY s)] w fun e w'=>e=.returned (.tuple #[.string (qG s).1,I (qG s).2])/\Below w.heap.size w w':=by
 have HR:Hid (∀W,Below w.heap.size w W->Calls Tryz.prog 146 #[.agg (oY s)] W fun e w'=>e=.returned (.bool (cR s))/\Below W.heap.size W w'):=fun W hb=>zV s W (h.below hb) hf
 obtain⟨f1,f2,f3,f4⟩:=hf;obtain⟨pg,dt,fs,ao,cap⟩:=s;simp only at f1 f2 f3 f4;unfold bY at f2 f3;simp only[oY] at HR;simp only[oY];have hdl:dt.size<=maxLen:=by grind [maxLen]
 have F4:=aD f4;have HH:=aD h;clear f4 h f1;have HB:=aD ((aK w.heap.size w).alloc (aM _) (.cells #[I pg,.string dt,.slice ao fs.length cap] 50));have BX:=aD (bG w #[I pg,.string dt,.slice ao fs.length cap] 50);by_cases hs:cR ⟨pg,dt,fs,ao,cap⟩=true
 · have HN:Hid (qG ⟨pg,dt,fs,ao,cap⟩=(nk dt fs fs.length,0)):=by
    show _=_;unfold qG;rw[bf hs];rfl
   obtain⟨hd,ZT⟩:lh ⟨pg,dt,fs,ao,cap⟩=true/\ez fs fs.length=true:=by
    grind [cR]
   have h16:dt.size=16:=by
    grind [lh]
   have HFX:=aD ZT;rw[hs] at HR;clear hs hd ZT;go_enter Tryz.func148,Tryz.ntmps148;go_wp2_with (first | (go_at_call 146;refine(HR.o _ HB.o).mono ?_;rintro e w1 ⟨rfl,hb⟩;have HB:=aD (HB.o.trans (hb.mono HB.o.size));have BX:=aD (aQ BX.o hb (aO BX.o));have q0:=aB BX.o 0 rfl;have q1:=aB BX.o 1 rfl;have q2:=aB BX.o 2 rfl;clear hb) | (go_at_call 116;refine(Qs _ _ (by omega)).mono ?_;rintro e w2 ⟨rfl,hb⟩;have HB:=aD (HB.o.trans (hb.mono HB.o.size));have BX:=aD (aQ BX.o hb (aO BX.o));have q0:=aB BX.o 0 rfl;have q1:=aB BX.o 1 rfl;have q2:=aB BX.o 2 rfl;clear hb))
   go_loopw [16,4] (fun i d wr=>∃k:Nat,k<=fs.length/\i=I k/\d=.string (nk dt fs k)/\Below w.heap.size w wr) (fun i _ _=>fs.length-(intOf i).toNat)
   case atStart=>exact⟨0,by omega,rfl,rfl,HB.o⟩
   case round =>
    obtain⟨k,hk,rfl,rfl,hb⟩:=hrel;have sY:=aD hb;by_cases hlt:k<fs.length
    · obtain⟨b,off,hao,hbl,fG⟩:=(HH.o.below hb) (by omega);subst hao;obtain⟨c0,c1⟩:=fG k hlt;have hok:=(ud _ _).1 (AA fs fs.length HFX.o k hlt);have hgk:ez fs k=true:=by
       cases e:ez fs k
       · rw[r8 fs k fs.length (by omega) e] at HFX;cases HFX
       · rfl
      have hed:=nY fs k hgk;have hsz:=uH dt fs h16 k hgk;have rR:Hid (nk dt fs (k+1)=fU (nk dt fs k) (lI fs k).off.toNat (lI fs k).bytes):=rfl;obtain⟨f,L4⟩:=ex (lI fs k);rw[<- L4] at c0 c1 hok rR;obtain⟨D,hD⟩:=ex (nk dt fs k);rw[<- hD] at hsz rR;rw[<- hD];obtain⟨o,ho⟩:∃o:Nat,f.off=(o:Int):=⟨f.off.toNat,by omega⟩;rw[ho] at c0 hok;rw[ho,iu] at rR;clear L4 hD hgk fG hb;have gK:=aD (sY.o.alloc sY.o.size (.cells #[I (o:Int),.string f.bytes] 52));go_wp2_with (go_at_call 65;refine(Hv D f.bytes o _ (by omega) (by omega)).mono ?_;rintro e w3 ⟨rfl,hb⟩;have gK:=aD (gK.o.trans (hb.mono gK.o.size));clear hb)
      go_roundw
      case rel=>exact⟨k+1,by omega,by go_num,by rw[rR.o],gK.o⟩
      case measure=>simp[intOf];omega
    · obtain rfl:k=fs.length:=by omega
      go_wp2
      go_ret2
      exact⟨acZ (by rw[HN.o]) (by rw[HN.o]),sY.o⟩
 · have hs':cR ⟨pg,dt,fs,ao,cap⟩=false:=by grind
   have HN:Hid (qG ⟨pg,dt,fs,ao,cap⟩=(⟨#[]⟩,1)):=by
    show _=_
    grind [qG]
   rw[hs'] at HR;clear hs hs';rw[HN.o];go_enter Tryz.func148,Tryz.ntmps148;go_wp2_with (go_at_call 146;refine(HR.o _ HB.o).mono ?_;rintro e w1 ⟨rfl,hb⟩;have HB:=aD (HB.o.trans (hb.mono HB.o.size));clear hb)
   go_ret2
   exact⟨rfl,HB.o⟩
def gq (f:kj):List Value:=[.string f.data,I f.refs,.bool f.fN,.bool f.seen]
def gp (f:mO):List Value:=[.string f.data,I f.refs]
def bk (e:bC):List Value:=[I e.page,I e.kind,I e.loc]
def acb {α:Type} (f:α->List Value) (k:Nat) (d:α) (w:World) (b off:Nat) (l:List α):Prop:=∀i,i<l.length->∀j,j<k->w.cell? (Ad b (off+i*k+j))=(f (l.getD i d))[j]?
def dz {α:Type} (f:α->List Value) (k:Nat) (d:α) (w:World) (ao:Option Addr) (l:List α):Prop:=iL (acb f k d) w ao l
theorem dz.below {α:Type} {f:α->List Value} {k:Nat} {d:α} {w w':World} {ao:Option Addr} {l:List α} (h:dz f k d w ao l) (hb:Below w.heap.size w w'):dz f k d w' ao l :=
 iL.below (lie:=acb f k d) (fun hb hlt h i hi j hj=>(gF hb hlt).trans (h i hi j hj)) h hb
def Jw (w:World) (b off:Nat) (l:List dm):Prop:=∀i,i<l.length->∃va ap cp,w.cell? (Ad b (off+i*3))=some (.bool (ak l i).live)/\w.cell? (Ad b (off+i*3+1))=some va/\w.cell? (Ad b (off+i*3+2))=some (.slice ap (ak l i).aW.length cp)/\eU w va (ak l i).aZ/\dz bk 3 eD w ap (ak l i).aW/\(ak l i).aW.length<=cp
theorem aeQ {w w':World} {b off:Nat} {l:List dm} (hb:Below w.heap.size w w') (hlt:b<w.heap.size) (h:Jw w b off l):Jw w' b off l:=fun i hi=>by
 obtain⟨va,ap,cp,c0,c1,c2,c3,c4,c5⟩:=h i hi;exact⟨va,ap,cp,(gF hb hlt).trans c0,(gF hb hlt).trans c1,(gF hb hlt).trans c2,c3.below hb,c4.below hb,c5⟩
def s8 (w:World) (ao:Option Addr) (l:List dm):Prop:=iL Jw w ao l
theorem s8.below {w w':World} {ao:Option Addr} {l:List dm} (h:s8 w ao l) (hb:Below w.heap.size w w'):s8 w' ao l:=iL.below (lie:=Jw) (fun hb hlt h=>aeQ hb hlt h) h hb
structure fP where
 aS:Option Addr
 cS:Nat
 aF:Option Addr
 cF:Nat
 aL:Option Addr
 cL:Nat
 aP:Option Addr
 cP:Nat
structure fT (w:World) (a:fP) (k:aN):Prop where
 aA:iM w a.aS k.aA
 frames:dz gq 4 gD w a.aF k.frames
 slots:dz gp 2 nU w a.aL k.slots
 aj:s8 w a.aP k.aj
theorem fT.below {w w':World} {a:fP} {k:aN} (h:fT w a k) (hb:Below w.heap.size w w'):fT w' a k:=⟨h.aA.below hb,h.frames.below hb,h.slots.below hb,h.aj.below hb⟩
def aT (a:fP) (k:aN):Array Value:=#[.slice a.aS k.aA.length a.cS,.slice a.aF k.frames.length a.cF,.slice a.aL k.slots.length a.cL,.slice a.aP k.aj.length a.cP,I k.hand]
structure Er (s:dm):Prop where
 aZ:ed s.aZ
 aW:bY s.aW.length
 FC:∀i,i<s.aW.length->dY (aI s.aW i).page/\dY (aI s.aW i).kind/\dY (aI s.aW i).loc
structure gW (k:aN):Prop where
 aA:qI k.aA
 nf:bY k.frames.length
 fr:∀i,i<k.frames.length->bY (au k.frames i).data.size/\dY (au k.frames i).refs
 ns:bY k.slots.length
 sl:∀i,i<k.slots.length->bY (bw k.slots i).data.size/\dY (bw k.slots i).refs
 np:bY k.aj.length
 sp:∀i,i<k.aj.length->Er (ak k.aj i)
 hand:dY k.hand
theorem Gw (vS vF vL vP:Option Addr) (nS cS nF cF nL cL nP cP:Nat) (hd:Value) (w:World) :
  Calls Tryz.prog 109 #[.agg #[.slice vS nS cS,.slice vF nF cF,.slice vL nL cL,.slice vP nP cP,hd]] w fun e w'=>e=.returned (.bool (decide ((3<=nF/\nF<=64)/\nL<=512/\(1<=nP/\nP<=4)/\nS<=255)))/\Below w.heap.size w w':=by
 obtain⟨A,hA⟩:=ex (decide ((3<=nF/\nF<=64)/\nL<=512/\(1<=nP/\nP<=4)/\nS<=255));rw[<- hA];have HA:=ai hA;clear hA;rcases(show ¬(3:Int)<=nF∨((3:Int)<=nF/\¬(nF:Int)<=64)∨((3:Int)<=nF/\(nF:Int)<=64/\¬(nL:Int)<=512)∨((3:Int)<=nF/\(nF:Int)<=64/\(nL:Int)<=512/\¬(1:Int)<=nP)∨((3:Int)<=nF/\(nF:Int)<=64/\(nL:Int)<=512/\(1:Int)<=nP/\¬(nP:Int)<=4)∨((3:Int)<=nF/\(nF:Int)<=64/\(nL:Int)<=512/\(1:Int)<=nP/\(nP:Int)<=4/\¬(nS:Int)<=255)∨((3:Int)<=nF/\(nF:Int)<=64/\(nL:Int)<=512/\(1:Int)<=nP/\(nP:Int)<=4/\(nS:Int)<=255) by omega) with g | ⟨g,g1⟩ | ⟨g,g1,g2⟩ | ⟨g,g1,g2,g3⟩ | ⟨g,g1,g2,g3,g4⟩ | ⟨g,g1,g2,g3,g4,g5⟩ | ⟨g,g1,g2,g3,g4,g5⟩
 all_goals
  go_enter Tryz.func109,Tryz.ntmps109;go_wp2;go_ret;exact⟨fp (fun b=>Ending.returned (.bool b)) (by grind [Hid.o]),(aK _ _).alloc (aM _) _⟩
def qx (G:Nat->ByteArray):Nat->List Value
 | 0=>[]
 | n+1=>qx G n++[.string (G n)]
def tJ (G:Nat->ByteArray) (n:Nat) (d:ByteArray):Nat->ByteArray:=fun k=>if k=n then d else G k
theorem pS (G:Nat->ByteArray):∀n,(qx G n).length=n
 | 0=>rfl
 | n+1=>by rw[qx,gh,pS G n];rfl
theorem Em (G:Nat->ByteArray) (n:Nat):∀m,n<m->(qx G m)[n]?=some (.string (G n))
 | 0,h=>by omega
 | m+1,h=>by
  rw[qx];by_cases c:n<m
  · rw[Ua (by grind [pS]),Em G n m c]
  grind [pS]
theorem Gu (F G:Nat->ByteArray):∀m,(∀k,k<m->F k=G k)->qx F m=qx G m
 | 0,_=>rfl
 | m+1,h=>by rw[qx,qx,Gu F G m (fun k hk=>h k (by omega)),h m (by omega)]
theorem Mh (G:Nat->ByteArray) (n:Nat) (d:ByteArray):∀m,n<m->(qx G m).set n (.string d)=qx (tJ G n d) m
 | 0,h=>by omega
 | m+1,h=>by
  rw[qx,qx];by_cases c:n<m
  · rw[Iu _ _ (by grind [pS]),Mh G n d m c]
    grind [tJ]
  · obtain rfl:n=m:=by omega
    rw[zO _ _ (by grind [pS]),pS,Nat.sub_self,Gu (tJ G n d) G n (fun k hk=>by grind [tJ])]
    grind [tJ]
def mz (a b c d e:Value) (G:Nat->ByteArray):Array Value:=([a,b,c,d,e]++qx G 256).toArray
theorem Po (a b c d e:Value) (G:Nat->ByteArray) (n:Nat) (h:n<256):(mz a b c d e G)[5+n]?=some (.string (G n)):=by
 grind [mz,Em]
theorem Ya (a b c d e:Value) (G:Nat->ByteArray) (n:Nat) (x:ByteArray) (h:n<256):(mz a b c d e G).setIfInBounds (5+n) (.string x)=mz a b c d e (tJ G n x):=by
 grind [mz,Mh]
def rH:Nat->ByteArray:=fun _=>⟨#[]⟩
def lY (hs:List bM):Nat->Nat->ByteArray
 | 0=>rH
 | k+1=>tJ (lY hs k) (bj hs k).page.toNat (ou (bj hs k))
theorem Eo (hs:List bM) (hr:fJ hs=true) (n:Nat):lY hs hs.length n=fM hs n:=by
 have hrise:=D9 hs hr;have hat:∀i,i<hs.length->1<=(bj hs i).page:=fun i hi=>by
  have:=(qq hs hs.length hr i hi).1
  grind [cR,lh]
 have key:∀k,k<=hs.length->(∀i,i<k->(bj hs i).page≠(n:Int))->lY hs k n=⟨#[]⟩:=fun k=>by
  induction k with
  | zero=>intro _ _;rfl
  | succ k ih =>
   intro hk h;show tJ (lY hs k) _ _ n=_
   grind [tJ]
 have aoY:∀k,k<=hs.length->∀j,j<k->(bj hs j).page=(n:Int)->lY hs k n=ou (bj hs j):=fun k=>by
  induction k with
  | zero=>omega
  | succ k ih =>
   intro hk j hj e;show tJ (lY hs k) _ _ n=_;unfold tJ;by_cases c:j=k
   · grind
   · have hlt:(bj hs j).page<(bj hs k).page:=by
      have:=(Ud.1 hrise) j k (by grind) (by grind) (by omega)
      grind [bj]
     grind
 unfold fM;cases g:dJ hs n with
 | none =>
  have h:=List.find?_eq_none.1 g
  grind [bj]
 | some s =>
  have hm:=N1 g;have hp:=List.find?_some g;obtain⟨j,hj,rfl⟩:=jb xy hm;exact aoY _ (aM _) j hj (jH hp)
theorem UZ {s:bM} (h:cR s=true):qG s=(ou s,0):=by grind [qG]
theorem Ye {s:bM} (h:cR s=false):qG s=(⟨#[]⟩,1):=by grind [qG]
theorem Ju (hs:List bM) (aS:Option Addr) (cS mb:Nat) (b c d e:Value) (w0 w:World) (h:iM w0 aS hs) (hf:qI hs) (hw:Below w0.heap.size w0 w) (hmb:w0.heap.size<=mb) (hm:w.heap[mb]?=some (.cells (mz (.slice aS hs.length cS) b c d e rH) 104 (0,0))) (hl:hs.length<=255) :
  Calls Tryz.prog 110 #[.pointer (some (Ad mb 0))] w fun x w'=>x=.returned (.bool (fJ hs))/\aH (fun b=>b=mb) w w'/\∃G,w'.heap[mb]?=some (.cells (mz (.slice aS hs.length cS) b c d e G) 104 (0,0))/\(fJ hs=true->G=lY hs hs.length):=by
 have HH:=ai h;have HF:=ai hf;have HW:=ai hw;have hlt:=aO hm;have m0:w.cell? (Ad mb 0)=some (.slice aS hs.length cS):=aB hm 0 rfl;have HM:=ai hm;have LI:Hid (∀k,k<hs.length->(cR (bj hs k)=false∨(bj hs k).page<=(if k=0 then 0 else (bj hs (k-1)).page))->fJ hs=false):=fun k hk g=>Mc hs k hk (by
  grind [mH,cR,lh])
 have HST:Hid (∀k,k<hs.length->jg hs k=true->cR (bj hs k)=true->(if k=0 then 0 else (bj hs (k-1)).page)<(bj hs k).page->jg hs (k+1)=true):=fun k hk h1 h2 h3=>by
  grind [jg,mH]
 clear h hf hw hm;go_enter Tryz.func110,Tryz.ntmps110;go_wp2;go_loopw [3,14] (fun lv iv wr=>∃k:Nat,k<=hs.length/\iv=I (k:Int)/\lv=I (if k=0 then 0 else (bj hs (k-1)).page)/\jg hs k=true/\aH (fun b=>b=mb) w wr/\wr.heap[mb]?=some (.cells (mz (.slice aS hs.length cS) b c d e (lY hs k)) 104 (0,0))) (fun _ iv _=>hs.length-(intOf iv).toNat)
 case atStart=>exact⟨0,by omega,rfl,rfl,rfl,aH.refl _ _,HM.o⟩
 case round =>
  obtain⟨k,hk,rfl,rfl,hr,yu,hmk⟩:=hrel;have Y5:=ai yu;have HMK:=ai hmk;have HR:=ai hr;clear hr;obtain⟨L,hL⟩:∃L:Int,L=if k=0 then 0 else (bj hs (k-1)).page:=⟨_,rfl⟩
  rw[<- hL];by_cases Bl:k<hs.length
  · have hbk:=yu.below HW.o (by omega) (fun b hb=>by omega);have HBK:=ai hbk;obtain⟨bb,off,hao,hbl,fG⟩:=HH.o (by omega);subst hao;obtain⟨d0,d1,d2,d3⟩:=fG k Bl;have hsz:=yu.size;have c0:=(hbk.cell (p:=(Ad bb (off+k*3))) hbl).trans d0;have c1:=(hbk.cell (p:=(Ad bb (off+k*3+1))) hbl).trans d1;have c2:=(hbk.cell (p:=(Ad bb (off+k*3+2))) hbl).trans d2;have Gm:=HF.o.2 k Bl;have HC:Hid (∀V,Below w0.heap.size w0 V->Calls Tryz.prog 148 #[.agg (oY (bj hs k))] V fun e w'=>e=.returned (.tuple #[.string (qG (bj hs k)).1,I (qG (bj hs k)).2])/\Below V.heap.size V w'):=fun V hV=>XE _ V (d3.below hV) Gm
    have LI:=ai (LI.o k Bl);have HST:=ai (HST.o k Bl HR.o);have wS:=Gm.page;have HFG:Hid (lY hs (k+1)=tJ (lY hs k) (bj hs k).page.toNat (ou (bj hs k))):=rfl;have HHB:Hid (cR (bj hs k)=true->1<=(bj hs k).page/\(bj hs k).page<=255):=fun g=>by
     unfold cR lh at g;simp only[dR,iV] at g;omega
    have Qo:=ai (@UZ (bj hs k));have HFO:=ai (@Ye (bj hs k));have WQ:Hid ((if k+1=0 then 0 else (bj hs (k+1-1)).page)=(bj hs k).page):=by
     show _=_;rw[bl (by omega),NV]
    unfold oY at HC;obtain⟨S,hS⟩:=ex (bj hs k);rw[<- hL] at LI HST;rw[<- hS] at c0 c1 c2 HC LI HST wS HFG HHB Qo HFO WQ;obtain⟨pg,dt,fx,fo,fc⟩:=S;simp only at c0 c1 c2 HC LI HST wS HFG HHB Qo HFO WQ;obtain⟨nx,hnx⟩:=ex fx.length;rw[<- hnx] at c2 HC;clear hS hL hnx d0 d1 d2 d3 fG Gm hbk yu hmk;cases DX:cR ⟨pg,dt,fx,fo,fc⟩ with
    | false =>
     have Hs:=ai (LI.o (.inl DX));have Wk:=ai (HFO.o DX);rw[Wk.o] at HC;clear Qo HFO Wk DX LI HST HFG HHB WQ;have gK:=ai (HBK.o.alloc (by omega) (.cells #[I pg,.string dt,.slice fo nx fc] 50));have KA:=ai ((Y5.o.trans (aH.alloc (fun b=>b=mb) wr (.cells #[I pg,.string dt,.slice fo nx fc] 50)) (fun _ _ g=>g)));have MA:=ai (bE HMK.o (.cells #[I pg,.string dt,.slice fo nx fc] 50));have SA:=ai (bG wr #[I pg,.string dt,.slice fo nx fc] 50);clear HM m0 HH HF;go_wp2_with (go_at_call 148;refine(HC.o _ gK.o).mono ?_;rintro e w1 ⟨rfl,hb1⟩;have cT:=ai hb1;have S1:=ai (aQ SA.o hb1 (by simp));clear hb1)
     go_ret;have hM:=aQ MA.o cT.o (by simp;omega);exact⟨fp (fun b=>Ending.returned (.bool b)) Hs.o.symm,KA.o.trans (aH.b7 cT.o) (fun _ _ g=>g),_,hM,fun g=>by rw[Hs.o] at g;cases g⟩
    | true =>
     have Wk:=ai (Qo.o DX);rw[Wk.o] at HC;have hpb:=HHB.o DX;by_cases hlp:pg<=L
     · have Hs:=ai (LI.o (.inr hlp));clear Qo HFO Wk DX LI HST HFG HHB WQ;have gK:=ai (HBK.o.alloc (by omega) (.cells #[I pg,.string dt,.slice fo nx fc] 50));have KA:=ai ((Y5.o.trans (aH.alloc (fun b=>b=mb) wr (.cells #[I pg,.string dt,.slice fo nx fc] 50)) (fun _ _ g=>g)));have MA:=ai (bE HMK.o (.cells #[I pg,.string dt,.slice fo nx fc] 50));have SA:=ai (bG wr #[I pg,.string dt,.slice fo nx fc] 50);clear HM m0 HH HF;go_wp2_with (go_at_call 148;refine(HC.o _ gK.o).mono ?_;rintro e w1 ⟨rfl,hb1⟩;have cT:=ai hb1;have S1:=ai (aQ SA.o hb1 (by simp));have s0:w1.cell? (Ad wr.heap.size 0)=some (I pg):=aB S1.o 0 rfl;clear hb1)
       go_ret;have hM:=aQ MA.o cT.o (by simp;omega);exact⟨fp (fun b=>Ending.returned (.bool b)) Hs.o.symm,KA.o.trans (aH.b7 cT.o) (fun _ _ g=>g),_,hM,fun g=>by rw[Hs.o] at g;cases g⟩
     · have y9:=ai (HST.o DX (by omega));clear Qo HFO Wk DX LI HST HHB;have apt:¬mb=wr.heap.size:=by omega
       have gK:=ai (HBK.o.alloc (by omega) (.cells #[I pg,.string dt,.slice fo nx fc] 50));have KA:=ai ((Y5.o.trans (aH.alloc (fun b=>b=mb) wr (.cells #[I pg,.string dt,.slice fo nx fc] 50)) (fun _ _ g=>g)));have MA:=ai (bE HMK.o (.cells #[I pg,.string dt,.slice fo nx fc] 50));have SA:=ai (bG wr #[I pg,.string dt,.slice fo nx fc] 50);clear HM m0 HH HF;go_wp2_with (go_at_call 148;refine(HC.o _ gK.o).mono ?_;rintro e w1 ⟨rfl,hb1⟩;have cT:=ai hb1;have S1:=ai (aQ SA.o hb1 (by simp));have s0:w1.cell? (Ad wr.heap.size 0)=some (I pg):=aB S1.o 0 rfl;clear hb1)
       obtain⟨n,rfl⟩:∃n:Nat,pg=(n:Int):=⟨pg.toNat,by omega⟩;have hM:=aQ MA.o cT.o (by simp;omega);have JY:=ai hM;have K1:=ai (KA.o.trans (aH.b7 cT.o) (fun _ _ g=>g));have q5:w1.cell? (Ad mb (5+n))=some (.string (lY hs k n)):=aB hM (5+n) (Po _ _ _ _ _ _ n (by omega));have qf:w1.frozen? (Ad mb (5+n))=false:=aJ hM (5+n);have n0:(0:Int)<=(n:Int):=by omega
       have n1:(n:Int)<256:=by omega
       rw[iu] at HFG;obtain⟨FD,hFD⟩:=ex (ou { page:=(n:Int),data:=dt,dn:=fx,ao:=fo,cap:=fc });rw[<- hFD] at HFG ⊢;clear hM hFD HC c0 c1 c2;go_region;have Wd:=ai ((dG JY.o (5+n) (.string FD)).trans (by rw[Ya _ _ _ _ _ _ n FD (by omega),<- HFG.o]));have K2:=ai (K1.o.trans ((aH.set (fun b=>b=mb) w1 (Ad mb (5+n)) (.string FD) rfl).trans (aH.drew _ _) (fun _ _ g=>g)) (fun _ _ g=>g));have s2:(w1.setCell (Ad mb (5+n)) (.string FD)).drew.cell? (Ad wr.heap.size 0)=some (I (n:Int)):=(fO w1 mb (5+n) wr.heap.size 0 (.string FD) (fun e=>apt e.symm)).trans s0;obtain⟨W2,hW2⟩:=ex ((w1.setCell (Ad mb (5+n)) (.string FD)).drew);have WO:Hid (W2.heap[mb]?=some (.cells (mz (.slice (some (Ad bb off)) hs.length cS) b c d e (lY hs (k+1))) 104 (0,0))):=by rw[hW2];exact Wd.o
       rw[<- hW2] at K2 s2 ⊢;clear hW2 Wd JY K1 q5 qf s0;go_wp2;go_roundw
       case rel=>exact⟨k+1,by omega,by go_num,by rw[bl (by omega),NV,<- WQ.o,bl (by omega),NV],y9.o,K2.o,WO.o⟩
       case measure=>simp[intOf];omega
  · obtain rfl:k=hs.length:=by omega
    clear yu hmk hL;go_wp2;go_ret;exact⟨fp (fun b=>Ending.returned (.bool b)) HR.o.symm,Y5.o,_,HMK.o,fun _=>rfl⟩
end Go.Proofs.YtpgifpeohlllfaaGreat
end Go.Proofs.YtpgifpeohlllfaaGreat
